import PyProof.Rows.All
import Wide.All
import OpenK.AllK
import Wide.FinOn
import HandS.ForMost
import HandS.ForExc
import HandS.ExcInit
import HandS.ExcField
import HandS.FStr
import HandS.CallLocal
import HandS.SortKw
import HandS.StrMore
import HandS.Flow
import HandS.CallSlots
import HandS.TupAny
import HandS.ClsMeth
import HandS.Walk
import KE.DataMinMax
import KE.GoesEnumKw
import KE.IntTextLaws
import HandS.Codes
import HandS.Strs
import HandS.IsInst
import HandS.OwnEq
import KE.KCallOwn
import HandS.Star
import HandS.Style
import KE.KRevSl
import HandS.Zip
import HandS.Evl
import HandS.More
import HandS.SortRule
import PySem.Challenge.RW_sendstead_k58_rows_of_names_and_blocks
set_option Elab.async false
set_option linter.all false
set_option maxRecDepth 100000
set_option maxHeartbeats 4000000
section
/-! the mathematics of texts, rows and words: plain lists of codes -/
set_option autoImplicit false
namespace SS
abbrev T := List Nat
def BR : T := [40, 41, 123, 125, 91, 93, 124]
def isSep (c : Nat) : Bool := decide (c = 32) || decide (c ∈ BR)
def flush (cur : T) (k : Nat) : List (T × Nat) := if cur = [] then [] else [(cur, k - cur.length)]
/-- the words of what is left of a row, cur being read ahead of column k -/
def rw_ : T → Nat → T → List (T × Nat)
  | cur, k, [] => flush cur k
  | cur, k, c :: r => if isSep c = true then flush cur k ++ (if c = 32 then [] else [([c], k)]) ++ rw_ [] (k + 1) r else rw_ (cur ++ [c]) (k + 1) r
def rowWords (l : T) : List (T × Nat) := rw_ [] 1 l

def SMALL : T := (List.range 26).map (· + 97)
def CAPS : T := (List.range 26).map (· + 65)
def FIGS : T := (List.range 10).map (· + 48)
def TEXTS : T := SMALL ++ CAPS ++ FIGS ++ [95]
def hasOnly (w s : T) : Bool := w.all fun c => decide (c ∈ s)
def isName (w first others : T) : Bool := decide (1 ≤ w.length ∧ w.length ≤ 12) && (decide ((w.getD 0 0) ∈ first) && hasOnly w others)
def isSmall (w : T) : Bool := isName w SMALL (SMALL ++ FIGS)
def isKindName (w : T) : Bool := isName w CAPS (SMALL ++ CAPS ++ FIGS)
def isText (w : T) : Bool := decide (w.length ≤ 40) && hasOnly w TEXTS

/-- one word that is none, or the row too long: the first column -/
def cols (isW : T → Bool) (p : List (T × Nat)) (n : Nat) : List Nat := (p.filter fun q => !isW q.1).map (·.2) ++ (if n > 120 then [121] else [])
def minOf : List Nat → Option Nat
  | [] => none
  | a :: r => match minOf r with
    | none => some a
    | some b => some (if b < a then b else a)
theorem minOf_none : ∀ {l : List Nat}, minOf l = none ↔ l = []
  | [] => by simp [minOf]
  | a :: r => by
    simp only [minOf]
    split <;> simp
theorem minOf_some : ∀ {l : List Nat} {m : Nat}, minOf l = some m ↔ m ∈ l ∧ ∀ y ∈ l, m ≤ y
  | [], m => by simp [minOf]
  | a :: r, m => by
    simp only [minOf]
    cases e : minOf r with
    | none =>
      have e' := minOf_none.mp e
      subst e'
      simp
      constructor
      · intro h; subst h; simp
      · intro h; exact h.1.symm
    | some b =>
      have ih := (minOf_some (l := r) (m := b)).mp e
      simp only [Option.some.injEq]
      constructor
      · intro h
        split at h
        · subst h
          refine ⟨List.mem_cons_of_mem _ ih.1, fun y hy => ?_⟩
          rcases List.mem_cons.mp hy with h | h
          · subst h; omega
          · exact ih.2 y h
        · subst h
          refine ⟨List.mem_cons_self, fun y hy => ?_⟩
          rcases List.mem_cons.mp hy with h | h
          · omega
          · have := ih.2 y h; omega
      · rintro ⟨h1, h2⟩
        have ha := h2 a List.mem_cons_self
        have hb := h2 b (List.mem_cons_of_mem _ ih.1)
        rcases List.mem_cons.mp h1 with h | h
        · subst h
          split
          · omega
          · rfl
        · have := ih.2 m h
          split <;> omega
def wrongCol (isW : T → Bool) (p : List (T × Nat)) (n : Nat) : Option Nat := minOf (cols isW p n)

abbrev W := T × Nat × Nat
def lay (r : Nat) (p : List (T × Nat)) : List W := p.map fun q => (q.1, r, q.2)
def scanGo (isW : T → Bool) : Nat → List T → List W × Option (Nat × Nat)
  | _, [] => ([], none)
  | r, l :: ls => match wrongCol isW (rowWords l) l.length with
    | some c => (lay r ((rowWords l).filter fun q => decide (q.2 < c)), some (r, c))
    | none => (lay r (rowWords l) ++ (scanGo isW (r + 1) ls).1, (scanGo isW (r + 1) ls).2)
def scan (isW : T → Bool) (rows : List T) : List W × Option (Nat × Nat) :=
  match (scanGo isW 1 (rows.take 300)).2 with
  | some p => ((scanGo isW 1 (rows.take 300)).1, some p)
  | none => ((scanGo isW 1 (rows.take 300)).1, if rows.length > 300 then some (301, 1) else none)

/-! ### rows: facts -/
theorem flush_nil (k : Nat) : flush [] k = [] := rfl
theorem rw_sep {cur : T} {k c : Nat} {r : T} (h : isSep c = true) : rw_ cur k (c :: r) = flush cur k ++ (if c = 32 then [] else [([c], k)]) ++ rw_ [] (k + 1) r := by
  rw [rw_, if_pos h]
theorem rw_on {cur : T} {k c : Nat} {r : T} (h : isSep c = false) : rw_ cur k (c :: r) = rw_ (cur ++ [c]) (k + 1) r := by
  rw [rw_, if_neg (by rw [h]; decide)]
theorem rw_blank {cur : T} {k : Nat} {r : T} : rw_ cur k (32 :: r) = flush cur k ++ rw_ [] (k + 1) r := by
  rw [rw_sep (by decide)]
  simp
theorem rw_blanks : ∀ (n k : Nat) (r : T), rw_ [] k (List.replicate n 32 ++ r) = rw_ [] (k + n) r
  | 0, k, r => rfl
  | n + 1, k, r => by
    rw [List.replicate_succ, List.cons_append, rw_blank, flush_nil, List.nil_append, rw_blanks n (k + 1) r]
    congr 1
    omega
theorem rw_tail (cur : T) (k n : Nat) : rw_ cur k (List.replicate n 32) = flush cur k := by
  cases n with
  | zero => rfl
  | succ n =>
    rw [List.replicate_succ, rw_blank]
    have := rw_blanks n (k + 1) []
    rw [List.append_nil] at this
    rw [this]
    simp [rw_, flush]
/-- a plain word, then what ends it -/
theorem rw_word : ∀ (w cur : T) (k : Nat) (r : T), (w.all fun c => !isSep c) = true → rw_ cur k (w ++ r) = rw_ (cur ++ w) (k + w.length) r
  | [], cur, k, r, _ => by simp
  | c :: w, cur, k, r, h => by
    rw [List.all_cons, Bool.and_eq_true] at h
    rw [List.cons_append, rw_on (by simpa using h.1), rw_word w _ _ _ h.2, List.append_assoc, List.singleton_append, List.length_cons]
    congr 1
    omega
theorem flush_word {w : T} {k : Nat} (h : w ≠ []) : flush w (k + w.length) = [(w, k)] := by
  unfold flush
  rw [if_neg h]
  congr 2
  omega
theorem rw_word1 {w : T} {k : Nat} {r : T} (h : w ≠ []) (hs : (w.all fun c => !isSep c) = true) : rw_ [] k (w ++ 32 :: r) = (w, k) :: rw_ [] (k + w.length + 1) r := by
  rw [rw_word w [] k _ hs, List.nil_append, rw_blank, flush_word h]
  rfl
theorem rw_wordEnd {w : T} {k n : Nat} (h : w ≠ []) (hs : (w.all fun c => !isSep c) = true) : rw_ [] k (w ++ List.replicate n 32) = [(w, k)] := by
  rw [rw_word w [] k _ hs, List.nil_append, rw_tail, flush_word h]
theorem rw_ge : ∀ (r cur : T) (k m : Nat), m + cur.length ≤ k → ∀ q ∈ rw_ cur k r, m ≤ q.2
  | [], cur, k, m, h, q, hq => by
    rw [rw_] at hq
    unfold flush at hq
    split at hq
    · simp at hq
    · simp at hq; subst hq; show m ≤ k - cur.length; omega
  | c :: r, cur, k, m, h, q, hq => by
    rw [rw_] at hq
    split at hq
    · rcases List.mem_append.mp hq with hq | hq
      · rcases List.mem_append.mp hq with hq | hq
        · unfold flush at hq
          split at hq
          · simp at hq
          · simp at hq; subst hq; show m ≤ k - cur.length; omega
        · split at hq
          · simp at hq
          · simp at hq; subst hq; show m ≤ k; omega
      · exact rw_ge r [] (k + 1) m (by simp; omega) q hq
    · exact rw_ge r (cur ++ [c]) (k + 1) m (by simp; omega) q hq
/-- the loop over a row, sign by sign -/
def sl (L : T) (a b : Nat) : T := (L.drop a).take (b - a)
theorem sl_snoc {L : T} {a b c : Nat} (h : a ≤ b) (hc : L[b]? = some c) : sl L a (b + 1) = sl L a b ++ [c] := by
  unfold sl
  have e : b + 1 - a = (b - a) + 1 := by omega
  rw [e, List.take_add_one, List.getElem?_drop]
  have e2 : a + (b - a) = b := by omega
  rw [e2, hc]
  rfl
theorem sl_len {L : T} {a b : Nat} (hb : b ≤ L.length) : (sl L a b).length = b - a := by
  unfold sl
  rw [List.length_take, List.length_drop]
  omega
theorem sl_self (L : T) (a : Nat) : sl L a a = [] := by simp [sl]
theorem sl_nil {L : T} {a b : Nat} (hb : b ≤ L.length) (h : ¬ a < b) : sl L a b = [] := by
  have := sl_len (a := a) hb
  exact List.eq_nil_of_length_eq_zero (by omega)
theorem drop_at {L : T} {b c : Nat} (hc : L[b]? = some c) : L.drop b = c :: L.drop (b + 1) := by
  obtain ⟨h, e⟩ := List.getElem?_eq_some_iff.mp hc
  rw [List.drop_eq_getElem_cons h, e]
/-- a turn at a sign that ends no word -/
theorem turn_on {L : T} {a b c : Nat} {ps : List (T × Nat)} (h : a ≤ b) (hc : L[b]? = some c) (hs : isSep c = false)
    (I : ps ++ rw_ (sl L a b) (b + 1) (L.drop b) = rowWords L) : ps ++ rw_ (sl L a (b + 1)) (b + 1 + 1) (L.drop (b + 1)) = rowWords L := by
  rw [drop_at hc, rw_on hs] at I
  rw [sl_snoc h hc]
  exact I
/-- a turn at a sign that ends one -/
theorem turn_sep {L : T} {a b c : Nat} {ps : List (T × Nat)} (h : a ≤ b) (hc : L[b]? = some c) (hs : isSep c = true)
    (I : ps ++ rw_ (sl L a b) (b + 1) (L.drop b) = rowWords L) :
    (ps ++ (if a < b then [(sl L a b, a + 1)] else [])) ++ (if c = 32 then [] else [([c], b + 1)]) ++ rw_ (sl L (b + 1) (b + 1)) (b + 1 + 1) (L.drop (b + 1)) = rowWords L := by
  rw [drop_at hc, rw_sep hs] at I
  rw [sl_self, ← I]
  have hb : b < L.length := (List.getElem?_eq_some_iff.mp hc).1
  have e : flush (sl L a b) (b + 1) = if a < b then [(sl L a b, a + 1)] else [] := by
    unfold flush
    by_cases q : a < b
    · have n : sl L a b ≠ [] := fun z => by
        have := sl_len (L := L) (a := a) (b := b) (by omega)
        rw [z] at this
        simp at this
        omega
      rw [if_neg n, if_pos q, sl_len (by omega)]
      congr 2
      omega
    · rw [if_neg q, if_pos (sl_nil (by omega) q)]
  rw [e]
  simp only [List.append_assoc]
/-- the last turn, at the blank behind the row -/
theorem turn_last {L : T} {a : Nat} {ps : List (T × Nat)} (h : a ≤ L.length)
    (I : ps ++ rw_ (sl L a L.length) (L.length + 1) (L.drop L.length) = rowWords L) :
    ps ++ (if a < L.length then [(sl L a L.length, a + 1)] else []) = rowWords L := by
  rw [List.drop_length] at I
  rw [← I, rw_]
  have e : flush (sl L a L.length) (L.length + 1) = if a < L.length then [(sl L a L.length, a + 1)] else [] := by
    unfold flush
    by_cases q : a < L.length
    · have n : sl L a L.length ≠ [] := fun z => by
        have := sl_len (L := L) (a := a) (b := L.length) (by omega)
        rw [z] at this
        simp at this
        omega
      rw [if_neg n, if_pos q, sl_len (by omega)]
      congr 2
      omega
    · rw [if_neg q, if_pos (sl_nil (by omega) q)]
  rw [e]
theorem rw_len : ∀ (r cur : T) (k : Nat), (rw_ cur k r).length ≤ (flush cur k).length + 2 * r.length
  | [], cur, k => by simp [rw_]
  | c :: r, cur, k => by
    rw [rw_]
    split
    · have h := rw_len r [] (k + 1)
      rw [flush_nil, List.length_nil] at h
      rw [List.length_append, List.length_append]
      have h2 : (if c = 32 then ([] : List (T × Nat)) else [([c], k)]).length ≤ 1 := by split <;> simp
      simp only [List.length_cons]
      omega
    · have h := rw_len r (cur ++ [c]) (k + 1)
      have h1 : (flush (cur ++ [c]) (k + 1)).length ≤ 1 := by unfold flush; split <;> simp
      simp only [List.length_cons]
      omega
theorem rowWords_len (l : T) : (rowWords l).length ≤ 2 * l.length := by
  have h := rw_len l [] 1
  rw [flush_nil, List.length_nil, Nat.zero_add] at h
  exact h

/-! ### statements, rows of the law -/
abbrev tDo : T := [100, 111]
abbrev tSay : T := [115, 97, 121]
abbrev tRet : T := [114, 101, 116, 117, 114, 110]
abbrev t1 : T := [49]
abbrev tQx : T := [39, 120]
abbrev tQabc : T := [39, 97, 98, 99]
abbrev tSelf : T := [115, 101, 108, 102]
abbrev tNone : T := [110, 111, 110, 101]
abbrev tX : T := [120]
abbrev tSet : T := [58, 61]
abbrev tRb : T := [93]
abbrev tEnd : T := [101, 110, 100]
/-- the es that stand in these statements -/
def Leaf (e : T) : Prop := e = t1 ∨ e = tQx ∨ e = tQabc ∨ e = tSelf ∨ e = tNone
def Plain (a : T) : Prop := a = tDo ∨ a = tSay ∨ a = tRet
inductive Stms : List T → Prop
  | nil : Stms []
  | plain {a e : T} {r : List T} : Plain a → Leaf e → Stms r → Stms (a :: e :: r)
  | set {e : T} {r : List T} : Leaf e → Stms r → Stms (tX :: tSet :: e :: r)
theorem Stms.append : ∀ {a b : List T}, Stms a → Stms b → Stms (a ++ b)
  | _, _, .nil, h => h
  | _, _, .plain p q r, h => .plain p q (r.append h)
  | _, _, .set q r, h => .set q (r.append h)
abbrev Out := List (T × Nat) × Option Nat
def outOf (isW : T → Bool) (l : T) : Out := match wrongCol isW (rowWords l) l.length with
  | some c => ((rowWords l).filter (fun q => decide (q.2 < c)), some c)
  | none => (rowWords l, none)
def scanO : Nat → List Out → List W × Option (Nat × Nat)
  | _, [] => ([], none)
  | r, o :: os => match o.2 with
    | some c => (lay r o.1, some (r, c))
    | none => (lay r o.1 ++ (scanO (r + 1) os).1, (scanO (r + 1) os).2)
theorem scanO_eq (isW : T → Bool) : ∀ (ls : List T) (r : Nat), scanGo isW r ls = scanO r (ls.map (outOf isW))
  | [], r => rfl
  | l :: ls, r => by
    rw [List.map_cons, scanGo, scanO, scanO_eq isW ls (r + 1)]
    unfold outOf
    cases wrongCol isW (rowWords l) l.length <;> rfl
abbrev texts (o : List (T × Nat)) : List T := o.map (·.1)
theorem lay_texts (r : Nat) (p : List (T × Nat)) : (lay r p).map (·.1) = texts p := by
  unfold lay texts
  rw [List.map_map]
  rfl
/-- what is known of the row with number ρ: A the long one's, B the odd one's -/
def InfoAt (A B aw bk : Nat) (ρ : Nat) (o : Out) : Prop :=
  if ρ = A then Stms (texts o.1) ∧ o.2 = (if aw = 1 then some 121 else none)
  else if ρ = B ∧ bk = 1 then o = ([(tDo, 1), (tRb, 4)], none)
  else if ρ = B ∧ bk = 2 then o = ([], some 1)
  else Stms (texts o.1) ∧ o.2 = none
def sgn (A B aw bk : Nat) (r n : Nat) : Option (Nat × Nat) :=
  if (aw = 1 ∧ r ≤ A ∧ A < r + n) ∧ ((bk = 2 ∧ r ≤ B ∧ B < r + n) → A < B) then some (A, 121)
  else if bk = 2 ∧ r ≤ B ∧ B < r + n then some (B, 1) else none
def wrd (A B aw bk : Nat) (r n : Nat) : Option (Nat × Nat) :=
  if bk = 1 ∧ r ≤ B ∧ B < r + n ∧ ((aw = 1 ∧ r ≤ A) → B < A) then some (B, 4) else none
/-- words that are statements, up to a do ] at a place, if there is one -/
def Body (w : List W) : Option (Nat × Nat) → Prop
  | none => Stms (w.map (·.1))
  | some p => ∃ S q rest, w = S ++ (tDo, q) :: (tRb, p) :: rest ∧ Stms (S.map (·.1))
theorem Body.ahead {a w : List W} {o : Option (Nat × Nat)} (h : Stms (a.map (·.1))) (b : Body w o) : Body (a ++ w) o := by
  cases o with
  | none =>
    show Stms _
    rw [List.map_append]
    exact h.append b
  | some p =>
    obtain ⟨S, q, rest, e, s⟩ := b
    refine ⟨a ++ S, q, rest, by rw [e, List.append_assoc], ?_⟩
    rw [List.map_append]
    exact h.append s
theorem scan_outs {A B aw bk : Nat} (hAB : A ≠ B) : ∀ (os : List Out) (r : Nat), (∀ i o, os[i]? = some o → InfoAt A B aw bk (r + i) o) →
    (scanO r os).2 = sgn A B aw bk r os.length ∧ Body (scanO r os).1 (wrd A B aw bk r os.length)
  | [], r, _ => by
    refine ⟨?_, ?_⟩
    · unfold sgn
      rw [if_neg (by simp only [List.length_nil]; omega), if_neg (by simp only [List.length_nil]; omega)]
      rfl
    · unfold wrd
      rw [if_neg (by simp only [List.length_nil]; omega)]
      exact .nil
  | o :: os, r, h => by
    have h0 := h 0 o rfl
    rw [Nat.add_zero] at h0
    have ih := scan_outs (aw := aw) (bk := bk) hAB os (r + 1) (fun i u e => by
      have := h (i + 1) u (by simpa using e)
      rw [show r + 1 + i = r + (i + 1) by omega]
      exact this)
    have stop : ∀ c, o.2 = some c → scanO r (o :: os) = (lay r o.1, some (r, c)) := fun c e => by rw [scanO, e]
    have on : o.2 = none → scanO r (o :: os) = (lay r o.1 ++ (scanO (r + 1) os).1, (scanO (r + 1) os).2) := fun e => by rw [scanO, e]
    have onS : o.2 = none → sgn A B aw bk r (os.length + 1) = sgn A B aw bk (r + 1) os.length → (scanO r (o :: os)).2 = sgn A B aw bk r (os.length + 1) := fun e z => by
      rw [on e, z]
      exact ih.1
    have onW : o.2 = none → Stms (texts o.1) → wrd A B aw bk r (os.length + 1) = wrd A B aw bk (r + 1) os.length → Body (scanO r (o :: os)).1 (wrd A B aw bk r (os.length + 1)) := fun e st z => by
      rw [on e, z]
      exact Body.ahead (by rw [lay_texts]; exact st) ih.2
    rw [List.length_cons]
    clear h
    unfold InfoAt at h0
    by_cases a : r = A
    · rw [if_pos a] at h0
      obtain ⟨h1, h2⟩ := h0
      by_cases w1 : aw = 1
      · rw [if_pos w1] at h2
        rw [stop 121 h2]
        refine ⟨?_, ?_⟩
        · unfold sgn
          rw [if_pos (by omega), a]
        · unfold wrd
          rw [if_neg (by omega)]
          show Stms _
          rw [lay_texts]
          exact h1
      · rw [if_neg w1] at h2
        refine ⟨onS h2 ?_, onW h2 h1 ?_⟩
        · unfold sgn
          repeat' split
          all_goals first | rfl | (exfalso; omega)
        · unfold wrd
          repeat' split
          all_goals first | rfl | (exfalso; omega)
    · rw [if_neg a] at h0
      by_cases b1 : r = B ∧ bk = 1
      · rw [if_pos b1] at h0
        have hn : o.2 = none := by rw [h0]
        refine ⟨onS hn ?_, ?_⟩
        · unfold sgn
          repeat' split
          all_goals first | rfl | (exfalso; omega)
        · rw [on hn]
          unfold wrd
          rw [if_pos (by omega)]
          refine ⟨[], (r, 1), (scanO (r + 1) os).1, ?_, .nil⟩
          rw [h0, ← b1.1]
          rfl
      · rw [if_neg b1] at h0
        by_cases b2 : r = B ∧ bk = 2
        · rw [if_pos b2] at h0
          rw [stop 1 (by rw [h0])]
          refine ⟨?_, ?_⟩
          · unfold sgn
            rw [if_neg (by omega), if_pos (by omega), b2.1]
          · unfold wrd
            rw [if_neg (by omega), h0]
            exact .nil
        · rw [if_neg b2] at h0
          refine ⟨onS h0.2 ?_, onW h0.2 h0.1 ?_⟩
          · unfold sgn
            repeat' split
            all_goals first | rfl | (exfalso; omega)
          · unfold wrd
            repeat' split
            all_goals first | rfl | (exfalso; omega)
end SS

end
set_option Elab.async false
set_option linter.all false
set_option maxRecDepth 100000
set_option maxHeartbeats 1000000
namespace PySem.W
open PySem PyProof.Rows
section
variable {M : Model} {prog : Program} {w : World} {A : Around} {E : Value → Shared → Prop} {s : Shared} {env : Env}
theorem callWithT_kwB {pos : Pos} {T : String} {first : List Value} {args : List (Bool × Sem Value)} {keywords : List (Option Str × Sem Value)} {Q : Value → Shared → Prop}
    (hplain : args.any (·.1) = false) (hkw : keywords.any (·.1.isNone) = false)
    (h : wpAny M A (evalArgs (.type T) true args keywords) (fun a s₁ => wpAny M A (call (.type T) (first ++ a.pos) a.kw) Q E s₁) E s) :
    wpAny M A (callWith pos (.type T) first args keywords) Q E s := by
  unfold callWith
  refine wpAny_bind (wpAny_holding (wpAny_mono h (fun a s₁ h₁ => wpAny_bind (wpAny_standAt ?_)) fun _ _ x => x))
  simp only [hplain, hkw, Bool.or_false]
  refine wpAny_bind (wpAny_pure ?_)
  exact wpAny_bind (wpAny_mono h₁ (fun r s₂ hr => wpAny_bind (wpAny_holding (wpAny_point (wpAny_pure hr)))) fun _ _ x => x)
theorem callWithT_kw {pos : Pos} {T : String} {e : Expr} {rest : List Expr} {kws : List Keyword} {Q : Value → Shared → Prop}
    (h : wpAny M A (spliced (backTo pos (starEach (e :: rest) env))) (fun vs s₁ => wpAny M A (evalAll ((backToKw pos (keywordEach kws env)).map (·.2)))
      (fun kvs s₂ => wpAny M A (call (.type T) vs (((backToKw pos (keywordEach kws env)).filterMap (·.1)).zip kvs)) Q E s₂) E s₁) E s)
    (he : backTo pos (starEach (e :: rest) env) = (false, eval e env) :: backTo pos (starEach rest env) := by rfl)
    (hplain : (backTo pos (starEach (e :: rest) env)).any (·.1) = false := by rfl)
    (hall : (backToKw pos (keywordEach kws env)).all (·.1.isSome) = true := by rfl)
    (hkw : (backToKw pos (keywordEach kws env)).any (·.1.isNone) = false := by rfl) :
    wpAny M A (callWith pos (.type T) [] (backTo pos (starEach (e :: rest) env)) (backToKw pos (keywordEach kws env))) Q E s := by
  refine callWithT_kwB hplain hkw ?_
  rw [he] at h ⊢
  exact evalArgs_kwB hall h
theorem meets_enumerate_new1 {v : Value} {o : Obj} {H : Heap → Prop} (B : Begins v o H) :
    Meets (Builtin.«enumerate.__new__» ⟨[.type "enumerate", v], []⟩) (fun _ R s => H s.heap ∧
      R (.ok (.ret (.ref (s.heap.push o).objs.size))) { s with heap := (s.heap.push o).push { cls := .type "enumerate", data := .fields #[.none, .bool false, .ref s.heap.objs.size, rawInt 0, .none, .none] } }) :=
  .of_wp fun prog w A R s h => by
    obtain ⟨hp, g, d, tk, os⟩ := s; obtain ⟨h1, h⟩ := h
    have hsub := sub_enumerate
    have q1 : ∀ {A' : Around} {E : Value → Shared → Prop} {Q : Value → Shared → Prop}, Q (.ref hp.objs.size) ⟨hp.push o, g, d, tk, os⟩ → wpAny (model prog w) A' (pyIter v) Q E ⟨hp, g, d, tk, os⟩ :=
      fun q => B.iter prog w _ _ ⟨hp, g, d, tk, os⟩ _ h1 q
    wp_walk using q1
    refine wpAny_stack_any fun st => wpAny_pure ?_
    split
    · rename_i c _ _ _ _ _
      cases (c == Value.type "enumerate")
      · wp_walk using q1
        exact ⟨_, rfl, h⟩
      · wp_walk using q1
        exact ⟨_, rfl, h⟩
    · wp_walk using q1
      exact ⟨_, rfl, h⟩
theorem call_enumX {x : Str} {t : Tok} {Q : Value → Shared → Prop}
    (h : ∀ h', IsEnum h' (s.heap.objs.size + 1) s.heap.objs.size 0 .none → h'.IsStrIter s.heap.objs.size (strIterType x) x t 0 → h'.objs.size = s.heap.objs.size + 2 →
      (∀ b o, s.heap.get? b = some o → h'.get? b = some o) → Q (.ref (s.heap.objs.size + 1)) { s with heap := h' }) :
    wpAny (model prog w) A (call (.type "enumerate") [.str x t]) Q E s := by
  have B := begins_text x t
  refine callType_new F.called_enumerate (by decide) (F.typeCall_enumerate_1 _) (F.newCall_enumerate_1 _) (fun obj => F.args_object_init_2 obj _) F.entry_enumerate_new
    (meets_enumerate_new1 B) ⟨trivial, ?_⟩
  have hz : (s.heap.push { cls := .type (strIterType x), data := .fields #[.str x t, .int 0 0] }).objs.size = s.heap.objs.size + 1 := Heap.size_push ..
  show _ ∧ _
  rw [hz]
  have he : IsEnum ((s.heap.push { cls := .type (strIterType x), data := .fields #[.str x t, .int 0 0] }).push { cls := .type "enumerate", data := .fields #[.none, .bool false, .ref s.heap.objs.size, rawInt 0, .none, .none] }) (s.heap.objs.size + 1) s.heap.objs.size 0 .none := by
    have := Heap.get?_push_size (s.heap.push { cls := .type (strIterType x), data := .fields #[.str x t, .int 0 0] }) (o := { cls := .type "enumerate", data := .fields #[.none, .bool false, .ref s.heap.objs.size, rawInt 0, .none, .none] }) rfl
    rw [hz] at this; exact this
  exact ⟨⟨_, he, rfl⟩, h _ he ⟨_, Heap.get?_push_of_some _ (Heap.get?_push_size _ B.free), rfl, rfl⟩ (by rw [Heap.size_push, hz]) fun b o x => Heap.get?_push_of_some _ (Heap.get?_push_of_some _ x)⟩
end
end PySem.W
namespace L2
open PySem PySem.Spec PyProof.Rows

/-! ### text * int -/
def repS (z : Str) (n : Int) : Str := ⟨(List.replicate n.toNat z.cps.toList).flatten.toArray⟩
theorem fold_app (a : Array Nat) : ∀ (n : Nat) (b : Array Nat), (List.replicate n a).foldl (· ++ ·) b = b ++ (List.replicate n a.toList).flatten.toArray
  | 0, b => by simp
  | n + 1, b => by
    rw [List.replicate_succ, List.foldl_cons, fold_app a n, List.replicate_succ, List.flatten_cons]
    apply Array.toList_inj.mp
    simp
theorem repS_length (z : Str) (n : Int) : (repS z n).length = n.toNat * z.length := by
  show (List.replicate n.toNat z.cps.toList).flatten.toArray.size = _
  simp [Str.length]
theorem repS_0 (z : Str) : repS z 0 = Str.empty := by
  unfold repS Str.empty
  simp
theorem repS_1 (z : Str) : repS z 1 = z := by
  unfold repS
  cases z
  simp
theorem op_mul_str {X : Cx} : OpR X (binaryOp .Mult) (fun x y H Q => ∃ (z : Str) (n : Int), x = .str z ∧ y = .int n ∧ 0 ≤ n ∧ n ≤ 1000 ∧ 0 < z.length ∧ z.length ≤ 1000 ∧ Q (.str (repS z n)) H) := by
  intro pins s σ H x y v u Q I rx ry h
  obtain ⟨z, n, rfl, rfl, h0, h1, hz0, hz, q⟩ := h
  obtain ⟨t, rfl⟩ := rx
  obtain ⟨t', rfl⟩ := ry
  have hm : z.length * n.toNat ≤ 1000 * 1000 := Nat.mul_le_mul hz (by omega)
  have e : (⟨(List.replicate n.toNat z.cps).foldl (· ++ ·) #[]⟩ : Str) = repS z n := by
    rw [fold_app]
    unfold repS
    simp
  refine P.mul_str ?_ (fun _ _ => ?_) (fun _ _ => ?_) ?_
  · have a : ¬ n < -(2 ^ 63 : Int) := by omega
    have b : ¬ n ≥ 2 ^ 63 := by omega
    rw [decide_eq_false a, decide_eq_false b]; rfl
  · rename_i hn _
    have : (2 ^ 63 - 1) / n ≥ 1000 := by
      apply Int.le_ediv_of_mul_le (by omega)
      omega
    omega
  · unfold Builtin.Str.tooLong
    exact decide_eq_false (by rw [sizeLine_eq]; omega)
  · by_cases c0 : n < 1
    · rw [if_pos c0]
      have : n = 0 := by omega
      subst this
      rw [repS_0] at q
      exact ⟨by decide, V.str Str.empty, H, I.tok _, ⟨_, rfl⟩, q⟩
    · rw [if_neg c0]
      by_cases c1 : n = 1
      · subst c1
        rw [if_pos (by rfl)]
        rw [repS_1] at q
        exact ⟨V.str z, H, I, ⟨_, rfl⟩, q⟩
      · have e1 : (n == 1 || z.length == 0) = false := by
          have a : (n == 1) = false := by simp; omega
          have b : (z.length == 0) = false := by simp; omega
          rw [a, b]; rfl
        rw [if_neg (by rw [e1]; decide), e]
        refine ⟨?_, V.str (repS z n), H, I.tok _, ⟨_, rfl⟩, q⟩
        rw [repS_length, sizeLine_eq, Nat.mul_comm]
        omega

/-! ### enumerate(text); enumerate(list, start=k) -/
/-- the signs of x, each in a new pair -/
def Iex (x : Str) : It :=
  ⟨fun i _ => i < x.cps.size, fun i H v H' => ∃ T c, v = .ref T ∧ H T = none ∧ H' = upd H T (.tup [.int (i : Nat), .str ⟨#[c]⟩]) ∧ x.cps[i]? = some c, fun i _ => x.cps.size ≤ i⟩
theorem turn_enumX {P : Program} {w : World} {K : PySem.W.Frag} {elts : List Expr} {kk : Nat} {tpos : Pos} (e it : Addr) (x : Str) (t : Tok) :
    Turn P w K (.Tuple elts kk tpos) (Iex x) [e, it] e (fun i h => (∃ old, IsEnum h e it ((i : Nat) : Int) old) ∧ h.IsStrIter it (strIterType x) x t i ∧ e ≠ it ∧ i ≤ x.cps.size) where
  mem := by simp
  obj := fun i h st b hb => by
    obtain ⟨⟨old, he⟩, ⟨o, ho, hc, hd⟩, _⟩ := st
    have e' : b = e ∨ b = it := by simpa using hb
    rcases e' with z | z
    · rw [z]; exact ⟨_, he, fun v q => nomatch q⟩
    · rw [z]; exact ⟨o, ho, fun v q => by rw [hd] at q; cases q⟩
  keep := fun i h h' st k => let ⟨⟨old, he⟩, ⟨o, ho, r⟩, hne, hz⟩ := st; ⟨⟨old, k e (by simp) _ he⟩, ⟨o, k it (by simp) o ho, r⟩, hne, hz⟩
  item := by
    intro X hP hw hK hc i pins s σ H E I hf st hg
    subst hP hw hK
    obtain ⟨⟨old, he⟩, hit, hne, hz⟩ := st
    have hel : e < s.heap.objs.size := Heap.lt_size he
    have hil : it < s.heap.objs.size := by obtain ⟨_, q, _⟩ := hit; exact Heap.lt_size q
    have D := Draws.text (prog := X.prog) (w := X.w) (A := X.A.in1) (I.ok.hd hc) it x t
    refine wpAny_pyNext_enum_itemC D he hit hg hne (by simpa using hne) fun v h' tk hv ho hit' hT hsz hk => ?_
    obtain ⟨c, u, hcx, rfl⟩ := hv
    refine ⟨_, rfl, wpAny_letOwnedTupleGo_enum (s := { s with heap := h', toks := tk + 1 }) ho fun h'' he' sb => ?_⟩
    have hT2 : h''.get? s.heap.objs.size = some { cls := .type "tuple", data := .seq #[.int i tk, .str ⟨#[c]⟩ u] } := (sb.2 _ (Nat.ne_of_gt hel)).trans hT
    have new : ObjOk X.prog X.w (upd H s.heap.objs.size (.tup [.int (i : Nat), .str ⟨#[c]⟩])) h'' s.heap.objs.size (.tup [.int (i : Nat), .str ⟨#[c]⟩]) :=
      ⟨by show 2 ≤ sizeLine; decide, [.int i tk, .str ⟨#[c]⟩ u], .cons ⟨_, rfl⟩ (.cons ⟨_, rfl⟩ .nil), ⟨_, hT2, rfl, _, rfl⟩⟩
    have I1 : Inv X pins σ (upd H s.heap.objs.size (.tup [.int (i : Nat), .str ⟨#[c]⟩])) { s with heap := h'', toks := tk + 1 } :=
      I.turnedNew (ch := [e, it]) (fun b ob hb q => (sb.2 b (fun z => hb (by simp [z]))).trans (hk b ob (fun z => hb (by simp [z])) (fun z => hb (by simp [z])) q)) hf (Nat.le_refl _) new
    refine ⟨.ref s.heap.objs.size, _, I1, rfl, ⟨_, c, rfl, I.hok.fresh (Nat.le_refl _), rfl, hcx⟩, ⟨⟨Value.str ⟨#[c]⟩ u, ?_⟩, ?_, hne, hg⟩, fun b hb => ?_⟩
    · have e1 : ((i + 1 : Nat) : Int) = (i : Int) + 1 := by omega
      rw [e1]; exact he'
    · obtain ⟨o, q, r⟩ := hit'
      exact ⟨o, (sb.2 it (Ne.symm hne)).trans q, r⟩
    · have hb' : b < s.heap.objs.size := by
        have e' : b = e ∨ b = it := by simpa using hb
        rcases e' with z | z
        · rw [z]; exact hel
        · rw [z]; exact hil
      rw [upd_ne (Nat.ne_of_lt hb')]
      exact (hf b hb).1
  done := by
    intro X hP hw hK hc i pins s σ H E I hf st hg
    subst hP hw hK
    obtain ⟨⟨old, he⟩, hit, hne, hz⟩ := st
    obtain ⟨f0, f1, f2, f3, f4, f5⟩ := hf it (by simp)
    have D := Draws.text (prog := X.prog) (w := X.w) (A := X.A.in1) (I.ok.hd hc) it x t
    have e1 : i = x.cps.size := Nat.le_antisymm hz hg
    subst e1
    exact wpAny_pyNext_enum_endD D he hit fun h' eb => ⟨rfl, I.turned (t' := s.toks) (fun b o hb q => eb b o hb q) f0 f1 f3 f4 f5⟩
  self := fun A i s Q E st h => let ⟨⟨_, he⟩, _⟩ := st; wpAny_pyIter_enum he h
def iEnumX (ta : TA) : TI := fun σ H R => ta σ H fun vs H1 => ∃ x : Str, vs = [.str x] ∧ R (Iex x) H1
theorem pi_enumX {X : Cx} {e : Expr} {ta : TA} {p pos tpos : Pos} {elts : List Expr} {kk : Nat} (hg : Gl X "enumerate") (hm : X.mg "enumerate" = none) (ha : PA X [e] ta) (hs : starEach [e] X.env = [(false, eval e X.env)] := by rfl) :
    PI X (.Tuple elts kk tpos) (.Call (.Name "enumerate" p) [e] [] pos) (iEnumX ta) := by
  refine ⟨fun pins s σ H R I h => ?_⟩
  refine Call_ (ld_blt I hg hm boot_enumerate (PyProof.Rows.callWith_type1 (thn (ha.run pos pins s σ H _ I h) fun us s1 ⟨vs, H1, I1, r1, q1⟩ => ?_) hs rfl))
  obtain ⟨x, ex, q⟩ := q1
  subst ex
  cases r1 with
  | cons r rr =>
    cases rr
    obtain ⟨t, rfl⟩ := r
    refine PySem.W.call_enumX (x := x) (t := t) fun h' he hit hsz hk => wpAny_pyIter_enum he ?_
    have I2 : Inv X pins σ H1 { s1 with heap := h' } := I1.kept (t' := s1.toks) hk
    refine ⟨s1.heap.objs.size + 1, [s1.heap.objs.size + 1, s1.heap.objs.size], _, _, H1, rfl, I2, turn_enumX (s1.heap.objs.size + 1) s1.heap.objs.size x t, ⟨⟨.none, he⟩, hit, Nat.succ_ne_self _, Nat.zero_le _⟩, fun b hb => ?_, q⟩
    have e' : b = s1.heap.objs.size + 1 ∨ b = s1.heap.objs.size := by simpa using hb
    have hle : s1.heap.objs.size ≤ b := by
      rcases e' with z | z
      · rw [z]; exact Nat.le_add_right _ _
      · rw [z]; exact Nat.le_refl _
    exact I1.fpOk hle (I1.hok.fresh hle)
theorem walk_enumX {x : Str} : Walk (Iex x) x.cps.size (fun _ => True) (fun i H v H' => ∃ T c, v = .ref T ∧ H T = none ∧ H' = upd H T (.tup [.int (i : Nat), .str ⟨#[c]⟩]) ∧ x.cps[i]? = some c) :=
  ⟨fun _ _ hi _ => hi, fun _ _ => Nat.le_refl _, fun _ _ _ _ _ _ y => y⟩
/-- the items xs of the list at a, counted from k, each in a new pair -/
def Iek (K : PySem.W.Frag) (a : Addr) (xs : List V) (k : Int) : It :=
  ⟨fun i H => i < xs.length ∧ SqL K H a xs, fun i H v H' => ∃ T x, v = .ref T ∧ H T = none ∧ H' = upd H T (.tup [.int (k + (i : Nat)), x]) ∧ xs[i]? = some x, fun i H => xs.length = i ∧ SqL K H a xs⟩
theorem turn_enumK {P : Program} {w : World} {K : PySem.W.Frag} {elts : List Expr} {kk : Nat} {tpos : Pos} (a e it : Addr) (xs : List V) (k0 : Int) :
    Turn P w K (.Tuple elts kk tpos) (Iek K a xs k0) [e, it] e (fun i h => (∃ old, IsEnum h e it (k0 + (i : Nat)) old) ∧ h.IsListIter it a i ∧ e ≠ it) where
  mem := by simp
  obj := fun i h st b hb => by
    obtain ⟨⟨old, he⟩, ⟨o, ho, hc, hd⟩, _⟩ := st
    have e' : b = e ∨ b = it := by simpa using hb
    rcases e' with z | z
    · rw [z]; exact ⟨_, he, fun v q => nomatch q⟩
    · rw [z]; exact ⟨o, ho, fun v q => by rw [hd] at q; cases q⟩
  keep := fun i h h' st k => let ⟨⟨old, he⟩, hi, hne⟩ := st; ⟨⟨old, k e (by simp) _ he⟩, hi.at fun o q => k it (by simp) o q, hne⟩
  item := by
    intro X hP hw hK hc i pins s σ H E I hf st hg
    subst hP hw hK
    obtain ⟨⟨old, he⟩, hit, hne⟩ := st
    obtain ⟨hlt, hq⟩ := hg
    have hx : xs[i]? = some xs[i] := by simp [hlt]
    generalize xs[i] = x at hx
    obtain ⟨its, rv, p, hz⟩ := I.list hq
    obtain ⟨u0, hu, ru⟩ := rv.get hx
    have hel : e < s.heap.objs.size := Heap.lt_size he
    have hil : it < s.heap.objs.size := by obtain ⟨_, q, _⟩ := hit; exact Heap.lt_size q
    have hia : a ≠ it := fun z => by
      obtain ⟨o, ho, hcl, hd⟩ := hit
      obtain ⟨o2, ho2, hcl2, _⟩ := p.isList
      rw [z, ho] at ho2
      have := Option.some.inj ho2
      subst this
      rw [hcl] at hcl2
      injection hcl2 with z9
      exact absurd z9 (by decide)
    have hea : e ≠ a := fun z => by
      obtain ⟨o2, ho2, hcl2, _⟩ := p.isList
      rw [← z, he] at ho2
      have := Option.some.inj ho2
      subst this
      injection hcl2 with z9
      exact absurd z9 (by decide)
    have D := Draws.list (prog := X.prog) (w := X.w) (A := X.A.in1) (I.ok.hd hc) it a hia its.toArray
    have hlen : i < its.toArray.size := by
      have := rv.length
      simp
      omega
    refine wpAny_pyNext_enum_itemC D he ⟨hit, p.isList⟩ hlen hne (by simp [hne, hea]) fun v h' tk hv ho hit' hT hsz hk => ?_
    have ev : v = u0 := by
      have z : its.toArray[i]? = some v := hv
      have z2 : its.toArray[i]? = some u0 := by simpa using hu
      rw [z2] at z
      exact (Option.some.inj z).symm
    subst ev
    refine ⟨_, rfl, wpAny_letOwnedTupleGo_enum (s := { s with heap := h', toks := tk + 1 }) ho fun h'' he' sb => ?_⟩
    have hT2 : h''.get? s.heap.objs.size = some { cls := .type "tuple", data := .seq #[.int (k0 + (i : Nat)) tk, v] } := (sb.2 _ (Nat.ne_of_gt hel)).trans hT
    have new : ObjOk X.prog X.w (upd H s.heap.objs.size (.tup [.int (k0 + (i : Nat)), x])) h'' s.heap.objs.size (.tup [.int (k0 + (i : Nat)), x]) :=
      ⟨by show 2 ≤ sizeLine; decide, [.int (k0 + (i : Nat)) tk, v], .cons ⟨_, rfl⟩ (.cons ru .nil), ⟨_, hT2, rfl, _, rfl⟩⟩
    have I1 : Inv X pins σ (upd H s.heap.objs.size (.tup [.int (k0 + (i : Nat)), x])) { s with heap := h'', toks := tk + 1 } :=
      I.turnedNew (ch := [e, it]) (fun b ob hb q => (sb.2 b (fun z => hb (by simp [z]))).trans (hk b ob (fun z => hb (by simp [z])) (fun z => hb (by simp [z])) q)) hf (Nat.le_refl _) new
    refine ⟨.ref s.heap.objs.size, _, I1, rfl, ⟨_, x, rfl, I.hok.fresh (Nat.le_refl _), rfl, hx⟩, ⟨⟨v, ?_⟩, hit'.1.at fun o q => (sb.2 it (Ne.symm hne)).trans q, hne⟩, fun b hb => ?_⟩
    · have e1 : k0 + ((i + 1 : Nat) : Int) = k0 + (i : Int) + 1 := by omega
      rw [e1]; exact he'
    · have hb' : b < s.heap.objs.size := by
        have e' : b = e ∨ b = it := by simpa using hb
        rcases e' with z | z
        · rw [z]; exact hel
        · rw [z]; exact hil
      rw [upd_ne (Nat.ne_of_lt hb')]
      exact (hf b hb).1
  done := by
    intro X hP hw hK hc i pins s σ H E I hf st hg
    subst hP hw hK
    obtain ⟨⟨old, he⟩, hit, hne⟩ := st
    obtain ⟨hlt, hq⟩ := hg
    obtain ⟨its, rv, p, hz⟩ := I.list hq
    obtain ⟨f0, f1, f2, f3, f4, f5⟩ := hf it (by simp)
    have hia : a ≠ it := fun z => by
      obtain ⟨o, ho, hcl, hd⟩ := hit
      obtain ⟨o2, ho2, hcl2, _⟩ := p.isList
      rw [z, ho] at ho2
      have := Option.some.inj ho2
      subst this
      rw [hcl] at hcl2
      injection hcl2 with z9
      exact absurd z9 (by decide)
    have D := Draws.list (prog := X.prog) (w := X.w) (A := X.A.in1) (I.ok.hd hc) it a hia its.toArray
    have e1 : i = its.toArray.size := by
      have := rv.length
      simp
      omega
    subst e1
    exact wpAny_pyNext_enum_endD D he ⟨hit, p.isList⟩ fun h' eb => ⟨rfl, I.turned (t' := s.toks) (fun b o hb q => eb b o hb q) f0 f1 f3 f4 f5⟩
  self := fun A i s Q E st h => let ⟨⟨_, he⟩, _⟩ := st; wpAny_pyIter_enum he h
def iEnumK (K : PySem.W.Frag) (ta tk : TA) : TI := fun σ H R => ta σ H fun vs H1 => tk σ H1 fun zs H2 => ∃ (a : Addr) (xs : List V) (k : Int), vs = [.ref a] ∧ zs = [.int k] ∧ 0 ≤ k ∧ k < 1000 ∧ SqL K H2 a xs ∧ R (Iek K a xs k) H2
theorem pi_enumK {X : Cx} {e : Expr} {kws : List Keyword} {ta tk : TA} {p pos tpos : Pos} {elts : List Expr} {kk : Nat} (hg : Gl X "enumerate") (hm : X.mg "enumerate" = none) (ha : PA X [e] ta) (hk : PK X kws tk)
    (he : backTo pos (starEach [e] X.env) = (false, eval e X.env) :: backTo pos (starEach [] X.env) := by rfl) (hpl : (backTo pos (starEach [e] X.env)).any (·.1) = false := by rfl)
    (hall : (backToKw pos (keywordEach kws X.env)).all (·.1.isSome) = true := by rfl) (hnone : (backToKw pos (keywordEach kws X.env)).any (·.1.isNone) = false := by rfl) (hks : (backToKw pos (keywordEach kws X.env)).filterMap (·.1) = [Str.ofString "start"] := by rfl) :
    PI X (.Tuple elts kk tpos) (.Call (.Name "enumerate" p) [e] kws pos) (iEnumK X.K ta tk) := by
  refine ⟨fun pins s σ H R I h => ?_⟩
  refine wpAny_Call_Name_kw (ld_blt I hg hm boot_enumerate ?_)
  refine PySem.W.callWithT_kw (thn (ha.run pos pins s σ H _ I h) fun us s1 ⟨vs, H1, I1, r1, q1⟩ => thn (hk.run pos pins s1 σ H1 _ I1 q1) fun ws s2 ⟨zs, H2, I2, r2, q2⟩ => ?_) he hpl hall hnone
  rw [hks]
  obtain ⟨a, xs, k, ex, ez, hk0, hk1, hq, q⟩ := q2
  subst ex ez
  cases r1 with
  | cons r rr =>
    cases rr
    cases r
    cases r2 with
    | cons r' rr' =>
      cases rr'
      obtain ⟨t, rfl⟩ := r'
      obtain ⟨its, rv, p', hz⟩ := I2.list hq
      refine enum_begins_start (begins_list a its.toArray) p'.isList (by omega) (by omega) fun h' he hit hsz hkp => wpAny_pyIter_enum he ?_
      have I3 : Inv X pins σ H2 { s2 with heap := h' } := I2.kept (t' := s2.toks) hkp
      have e0 : k + ((0 : Nat) : Int) = k := by omega
      refine ⟨s2.heap.objs.size + 1, [s2.heap.objs.size + 1, s2.heap.objs.size], _, _, H2, rfl, I3, turn_enumK a (s2.heap.objs.size + 1) s2.heap.objs.size xs k, ⟨⟨.none, by rw [e0]; exact he⟩, ⟨_, hit, rfl, rfl⟩, Nat.succ_ne_self _⟩, fun b hb => ?_, q⟩
      have e' : b = s2.heap.objs.size + 1 ∨ b = s2.heap.objs.size := by simpa using hb
      have hle : s2.heap.objs.size ≤ b := by
        rcases e' with z | z
        · rw [z]; exact Nat.le_add_right _ _
        · rw [z]; exact Nat.le_refl _
      exact I2.fpOk hle (I2.hok.fresh hle)
theorem walk_enumK {K : PySem.W.Frag} {a : Addr} {xs : List V} {k : Int} : Walk (Iek K a xs k) xs.length (fun H => SqL K H a xs) (fun i H v H' => ∃ T x, v = .ref T ∧ H T = none ∧ H' = upd H T (.tup [.int (k + (i : Nat)), x]) ∧ xs[i]? = some x) :=
  ⟨fun _ _ hi q => ⟨hi, q⟩, fun _ q => ⟨rfl, q⟩, fun _ _ _ _ _ _ y => y⟩

/-! ### min(xs, default=d) of data -/
theorem Vals.ref1' {a : Addr} {us : List Value} (r : Vals [V.ref a] us) : us = [Value.ref a] := by
  cases r with
  | cons r rr => cases rr; cases r; rfl
def rMinD (K : PySem.W.Frag) : List V → List V → Hp → VK → Prop := fun vs zs H Q => ∃ (a : Addr) (xs : List V) (ds : List PyData) (d : V), vs = [.ref a] ∧ zs = [d] ∧ SqL K H a xs ∧ DpAll K H xs ds ∧ PySem.W.AlikeAll ds ∧ PyData.depthAll ds ≤ 20 ∧
  (ds = [] → Q d H) ∧ ∀ (y : PyData) (ys : List PyData) (i : Nat) (v : V) (e : PyData), ds = y :: ys → xs[i]? = some v → ds[i]? = some e → e = PySem.W.minD y ys → Q v H
theorem dpAll_get {K : PySem.W.Frag} {H : Hp} : ∀ {xs : List V} {ds : List PyData}, DpAll K H xs ds → ∀ {i : Nat} {v : V}, xs[i]? = some v → ∃ e, ds[i]? = some e ∧ Dp K H v e
  | _, _, .nil, i, v, h => by simp at h
  | _, _, .cons a r, 0, v, h => by simp at h; subst h; exact ⟨_, rfl, a⟩
  | _, _, .cons a r, i + 1, v, h => by
    obtain ⟨e, h1, h2⟩ := dpAll_get r (i := i) (v := v) (by simpa using h)
    exact ⟨e, by simpa using h1, h2⟩
theorem cr_minD {X : Cx} {k : Nat} (hc : X.calm = true) (hr : Room k X.A) : CallRK X (.builtin "min") [Str.ofString "default"] (rMinD X.K) := by
  intro pins s σ H vs zs us ws Q I r rz h
  obtain ⟨a, xs, ds, d, rfl, rfl, hs, hd, ha, hdep, q0, q1⟩ := h
  obtain rfl := Vals.ref1' r
  cases rz with
  | @cons _ u0 _ _ rd rr =>
    cases rr
    obtain ⟨its, rv, p, hz⟩ := I.list hs
    obtain ⟨as, hre⟩ := Dp.readsAll I ds xs its hd rv
    show wpAny _ _ (call (.builtin "min") [.ref a] [(Str.ofString "default", u0)]) _ _ _
    have hu := hr.units
    refine PySem.W.min_list_default (I.ok.hd hc) p.isList (by simpa using hre) ha (by have := hr.units; omega) (fun e h' tk hk => ⟨d, H, I.kept (t' := tk) hk, rd, q0 e⟩) fun y ys i v h' tk bs e hv hrd hk => ?_
    have hv' : its[i]? = some v := by simpa using hv
    have hi : i < xs.length := by
      have := (List.getElem?_eq_some_iff.mp hv').1
      have := rv.length
      omega
    have hx : xs[i]? = some xs[i] := by simp [hi]
    generalize xs[i] = x at hx
    obtain ⟨u, hu1, ru⟩ := rv.get hx
    rw [hv'] at hu1
    obtain rfl := Option.some.inj hu1
    obtain ⟨ee, he1, he2⟩ := dpAll_get hd hx
    obtain ⟨as2, hr2⟩ := Dp.reads I ee x v he2 ru
    have := (PyProof.Rows.reads_det (fun b o z _ => hk b o z) hr2 hrd).1
    exact ⟨x, H, I.kept (t' := tk) hk, ru, q1 y ys i x ee e hx he1 this.symm⟩

/-! ### C.m(x, ..), m a def of the class at C, read off the class -/
def tClsF (C : Addr) (sp : Sp) (E : XK) (ta : TE) (t : TA) : TE := fun σ H Q => ta σ H fun x H1 => x = .ref C ∧ t σ H1 fun vs H2 => sp vs H2 Q E
theorem pe_clsf {X : Cx} {CX : CXT} {k : Nat} {C f : Addr} {fd : FuncData} {ps : List Str} {mc : Value} {sp : Sp} {E : XK} {o e : Expr} {es : List Expr} {m : Str} {pos apos : Pos} {ta : TE} {t : TA} {pl : Sem Bool}
    (he : PE X o ta) (r : ClX.CRead X.K C mc) (hf : PySem.W.findCls X.K (.ref C) mc m = some (.val (.ref f))) (hk : PySem.W.keepIn X.K (.ref f) = true) (F : FnOk X.prog X.w X.K X.mg X.base CX k f fd ps sp) (hr : Room k X.A) (hb : Binds X.K fd ps []) (hx : Passes CX X E) (ha : PA X (e :: es) t)
    (hst : starEach (e :: es) X.env = (false, eval e X.env) :: starEach es X.env := by rfl) (hpl : (backTo pos (starEach es X.env)).any (·.1) = false := by rfl)
    (ht : eval (.Call (.Attribute o m apos) (e :: es) [] pos) X.env = (do
      let ov ← eval o X.env
      standAt apos.atName
      let (f, first) ← holding [ov] (getMethod ov m pl)
      callWith pos f first (backTo pos (starEach (e :: es) X.env)) (backToKw pos (keywordEach [] X.env))) := by rfl) :
    PE X (.Call (.Attribute o m apos) (e :: es) [] pos) (tClsF C sp E ta t) := by
  refine ⟨fun pins s σ H Q I h => ?_⟩
  refine PySem.W.methodCall_KW (pl := pl) (thn (he.run pins s σ H _ I h) fun u s1 ⟨x, H1, I1, rx, ex, q⟩ => ?_) ht
  subst ex
  obtain rfl : u = Value.ref C := rx
  refine PySem.W.method_cls I1.kIn r.ga (PySem.W.cls_value I1.kIn r.rd hf rfl ?_)
  refine PySem.W.callWith_K (h₀ := X.base) I1.ok.mod.kin hk (thn (ha.run pos pins _ σ H1 _ (I1.tok _) q) fun us s3 ⟨vs, H2, I3, rv, q2⟩ => ⟨I3.kIn, ?_⟩) hst hpl
  have q3 : sp (vs ++ []) H2 Q E := by rw [List.append_nil]; exact q2
  exact run_fn F hr hb .nil hx I3 rv q3

/-! ### X(e, ..) of an own class where what is raised is wished for at the caller's slots -/
def tMakeS (C : Addr) (sp : Sp) (E : St → XK) (t : TA) : TE := fun σ H Q => t σ H fun vs H1 => ∀ x dx, H1 x = none → H1 dx = none → dx ≠ x → sp (.ref x :: vs) (upd (upd H1 dx (.own x)) x (.ins C dx [])) (fun v H2 => v = .non ∧ Q (.ref x) H2) (E σ)
theorem run_makeS {X : Cx} {CX : CXT} {k : Nat} {C f : Addr} {fd : FuncData} {ps : List Str} {sp : Sp} {E : St → XK} {pins : List (Addr × Obj)} {σ : St} {H : Hp} {s : Shared} {Q : VK} {us : List Value} {vs : List V} (M : Mk X.K C f) (F : FnOk X.prog X.w X.K X.mg X.base CX k f fd ps sp) (hr : Room (k + 1) X.A) (hb : Binds X.K fd ps [])
    (hx : PassesAt CX X σ (E σ)) (I : Inv X pins σ H s) (r : Vals vs us)
    (h : ∀ x dx, H x = none → H dx = none → dx ≠ x → sp (.ref x :: vs) (upd (upd H dx (.own x)) x (.ins C dx [])) (fun v H2 => v = .non ∧ Q (.ref x) H2) (E σ)) :
    wpAny (model X.prog X.w) X.A (call (.ref C) us) (EP X pins σ Q) X.xe s := by
  have hq := h (s.heap.objs.size + 1) s.heap.objs.size (I.hok.fresh (Nat.le_succ _)) (I.hok.fresh (Nat.le_refl _)) (Nat.ne_of_lt (Nat.lt_succ_self _))
  have I2 := Inv.made (C := C) I
  have r2 : Vals (V.ref (s.heap.objs.size + 1) :: vs) (Value.ref (s.heap.objs.size + 1) :: us) := .cons rfl r
  have hl : (Value.ref (s.heap.objs.size + 1) :: us).length = ps.length := by
    have e := r2.length
    rw [F.len _ _ _ _ hq] at e
    exact e.symm
  have hb2 := hb { s with heap := s.heap } (Value.ref (s.heap.objs.size + 1) :: us)
  refine wpAny_call (make_map (f := f) I.kIn M.makes M.init (beq_iff_eq.mp M.fn) (codeAny_mono (F.run _ X.stack _ _ ⟨Value.ref (s.heap.objs.size + 1) :: us, []⟩ (Value.ref (s.heap.objs.size + 1) :: us) _ _ (E σ) (hr.make C us [])
    (I2.env0.make C us []) (by have z := hb _ (Value.ref (s.heap.objs.size + 1) :: us) I2.kIn (by rw [List.append_nil]; exact hl); rw [List.append_nil] at z; exact z) r2 hq) fun r s' hq' => ?_))
  cases r with
  | error e => exact hx pins _ _ e s' I2 hq'
  | ok fl =>
    cases fl with
    | ret u =>
      obtain ⟨v, H', I3, rv, ev, q3⟩ := I2.after hq'
      subst ev
      exact ⟨rv, ⟨V.ref (s.heap.objs.size + 1), H', I3, rfl, q3⟩⟩
    | next => exact False.elim hq'
    | brk => exact False.elim hq'
    | cont => exact False.elim hq'
theorem pe_makeS {X : Cx} {CX : CXT} {k : Nat} {C f : Addr} {fd : FuncData} {ps : List Str} {sp : Sp} {E : St → XK} {x : Str} {p pos : Pos} {e : Expr} {es : List Expr} {t : TA} (M : Mk X.K C f) (F : FnOk X.prog X.w X.K X.mg X.base CX k f fd ps sp) (hr : Room (k + 1) X.A) (hg : Gl X x) (hm : X.mg x = some (.ref C)) (hb : Binds X.K fd ps []) (hx : ∀ σ, PassesAt CX X σ (E σ))
    (ha : PA X (e :: es) t) (hdb : (x == ("__debug__" : Str)) = false := by decide) (he : starEach (e :: es) X.env = (false, eval e X.env) :: starEach es X.env := by rfl) (hpl : (backTo pos (starEach es X.env)).any (·.1) = false := by rfl) :
    PE X (.Call (.Name x p) (e :: es) [] pos) (tMakeS C sp E t) := by
  refine ⟨fun pins s σ H Q I h => ?_⟩
  refine wpAny_Call_Name_kw (ld_glob I hg hm ?_ hdb)
  refine PySem.W.callWith_K (h₀ := X.base) I.ok.mod.kin M.kp (thn (ha.run pos pins s σ H _ I h) fun us s1 ⟨vs, H1, I1, r, q⟩ => ⟨I1.kIn, ?_⟩) he hpl
  exact run_makeS M F hr hb (hx σ) I1 r q
end L2
set_option Elab.async false
set_option linter.all false
set_option maxRecDepth 100000
set_option maxHeartbeats 2000000
namespace My
open PySem L2 SS
abbrev tl (z : Str) : T := z.cps.toList
abbrev mk (l : T) : Str := ⟨l.toArray⟩
theorem tl_mk (l : T) : tl (mk l) = l := rfl
theorem mk_tl (z : Str) : mk (tl z) = z := by cases z; simp
theorem len_tl (z : Str) : (tl z).length = z.length := by simp [Str.length]
theorem same_new {H : Hp} {p : Addr} (h : H p = none) (o : HO) : Same H (upd H p o) := fun b u q => by rw [upd_ne (ne_of_none q h)]; exact q
theorem same_upd {H H' : Hp} {p : Addr} (s : Same H H') (h : H p = none) (o : HO) : Same H (upd H' p o) := fun b u q => by rw [upd_ne (ne_of_none q h)]; exact s b u q
/-- a text of the module's own, a number, a tuple -/
def GS (mg : Str → Option Value) (x : Str) (z : Str) : Prop := ∃ u, mg x = some u ∧ RelV (.str z) u
def GI (mg : Str → Option Value) (x : Str) (i : Int) : Prop := ∃ u, mg x = some u ∧ RelV (.int i) u
def GT (K : PySem.W.Frag) (mg : Str → Option Value) (x : Str) (zs : List Str) : Prop := ∃ a, mg x = some (.ref a) ∧ ∀ H, SqT K H a (zs.map V.str)
def KEPTs : List Str := ["do", "else", "end", "false", "field", "if", "kind", "method", "more", "new", "none", "raise", "return", "say", "self", "taken", "then", "true", "try", "under", "up", "while"]

/-! ### defs by their names, methods by their class -/
structure Dn (K : PySem.W.Frag) (mg : Str → Option Value) (x : Str) (st : Stmt) : Prop where
  ex : ∃ f fd, Fun K x x st f fd ∧ mg x = some (.ref f)
structure Cc (P : Program) (w : World) (K : PySem.W.Frag) (mg : Str → Option Value) (base : Heap) (CX : CXT) (k : Nat) (x : Str) (sp : Sp) : Prop where
  ex : ∃ f fd ps, FnOk P w K mg base CX k f fd ps sp ∧ mg x = some (.ref f) ∧ PySem.W.keepIn K (.ref f) = true ∧ Binds K fd ps []
theorem pe_cc {X : Cx} {CX : CXT} {k j : Nat} {x : Str} {sp : Sp} {E : XK} {p pos : Pos} {e : Expr} {es : List Expr} {t : TA} (c : Cc X.prog X.w X.K X.mg X.base CX k x sp) (hr : Room j X.A) (hk : k ≤ j) (hx : Passes CX X E) (ha : PA X (e :: es) t) (hg : Gl X x := by rfl)
    (hdb : (x == ("__debug__" : Str)) = false := by decide) (he : starEach (e :: es) X.env = (false, eval e X.env) :: starEach es X.env := by rfl) (hpl : (backTo pos (starEach es X.env)).any (·.1) = false := by rfl) :
    PE X (.Call (.Name x p) (e :: es) [] pos) (tCall sp [] E t) := by
  obtain ⟨f, fd, ps, F, hm, kp, hb⟩ := c.ex
  exact pe_call F (hr.mono hk) hg hm kp hb .nil hx ha hdb he hpl
theorem pe_gs {X : Cx} {x z : Str} {pos : Pos} (h : GS X.mg x z) (hg : Gl X x := by rfl) (hd : (x == ("__debug__" : Str)) = false := by decide) : PE X (.Name x pos) (tC (.str z)) := by
  obtain ⟨u, hm, r⟩ := h
  exact pe_glob hg hm r hd
theorem pe_gi {X : Cx} {x : Str} {i : Int} {pos : Pos} (h : GI X.mg x i) (hg : Gl X x := by rfl) (hd : (x == ("__debug__" : Str)) = false := by decide) : PE X (.Name x pos) (tC (.int i)) := by
  obtain ⟨u, hm, r⟩ := h
  exact pe_glob hg hm r hd
def tGT (K : PySem.W.Frag) (zs : List Str) : TE := fun _ H Q => ∀ a, SqT K H a (zs.map V.str) → Q (.ref a) H
theorem pe_gt {X : Cx} {x : Str} {zs : List Str} {pos : Pos} (h : GT X.K X.mg x zs) (hg : Gl X x := by rfl) (hd : (x == ("__debug__" : Str)) = false := by decide) : PE X (.Name x pos) (tGT X.K zs) := by
  obtain ⟨a, hm, r⟩ := h
  exact ⟨fun pins s σ H Q I q => (pe_glob (v := .ref a) hg hm rfl hd).run pins s σ H Q I (q a (r H))⟩
/-- what the module's top has -/
structure TxS (K : PySem.W.Frag) (mg : Str → Option Value) : Prop where
  len : mg "len" = none
  all : mg "all" = none
  mn : mg "min" = none
  tup : mg "tuple" = none
  int : mg "int" = none
  str : mg "str" = none
  enum : mg "enumerate" = none
section
variable {P : Program} {w : World} {K : PySem.W.Frag} {mg : Str → Option Value} {base : Heap}
abbrev C0 (P : Program) (w : World) (K : PySem.W.Frag) (mg : Str → Option Value) (base : Heap) (k : Nat) (x : Str) (sp : Sp) : Prop := Cc P w K mg base CX0 k x sp
/-- a def that only tells: its answer, what stood stands -/
def spB (g : T → Bool) : Sp := fun vs H Q _ => ∃ z : Str, vs = [.str z] ∧ z.length ≤ 100000 ∧ ∀ H', Same H H' → Q (.bl (g (tl z))) H'
/-! is_name -/
def spName : Sp := fun vs H Q _ => ∃ z s1 s2 : Str, vs = [.str z, .str s1, .str s2] ∧ z.length ≤ 100000 ∧ ∀ H', Same H H' → Q (.bl (isName (tl z) (tl s1) (tl s2))) H'
/-! is_small, is_kind_name -/
theorem small_add (a b : T) : mk a ++ mk b = mk (a ++ b) := by
  show (⟨a.toArray ++ b.toArray⟩ : Str) = _
  simp
/-! is_text -/
/-! is_free -/
def isFree (l : T) : Bool := isSmall l && !(KEPTs.any fun k => k == mk l)
theorem inV_strs (z : Str) (zs : List Str) : inV (.str z) (zs.map V.str) = zs.any fun k => k == z := by
  unfold inV
  rw [List.any_map]
  rfl
theorem flat_strs (zs : List Str) : (zs.map V.str).all flatV = true := by
  rw [List.all_map]
  exact List.all_eq_true.mpr fun _ _ => rfl
end
end My
set_option Elab.async false
set_option linter.all false
set_option maxRecDepth 100000
set_option maxHeartbeats 2000000
namespace My
open PySem L2 SS
/-! ### numbers, words: the functions -/
def figsOf : T → T
  | 45 :: cs => cs
  | l => l
def numOf : T → Int
  | 45 :: cs => -((NumText.digitsVal cs : Nat) : Int)
  | l => ((NumText.digitsVal l : Nat) : Int)
def numStr (n : Int) : Str := Str.ofString (toString n)
def isNum (l : T) : Bool := decide (1 ≤ (figsOf l).length ∧ (figsOf l).length ≤ 13) && (hasOnly (figsOf l) FIGS && (decide (numStr (numOf l) = mk l) && (decide (-1000000000000 < numOf l) && decide (numOf l < 1000000000000))))
def BRs : List Str := [mk [40], mk [41], mk [123], mk [125], mk [91], mk [93], mk [124]]
def MARKs : List Str := [mk [43], mk [45], mk [42], mk [47], mk [60], mk [61], mk [58, 61], mk [58]]
def inS (zs : List Str) (l : T) : Bool := zs.any fun k => k == mk l
def isWord (l : T) : Bool :=
  if inS BRs l = true ∨ inS MARKs l = true then true
  else if l.head? = some 64 then isSmall (l.drop 1)
  else if l.head? = some 39 then isText (l.drop 1)
  else isSmall l || (isKindName l || isNum l)
theorem fold_lt : ∀ (cs : T) (a : Nat), NumText.AllDigits cs → cs.foldl (fun acc c => acc * 10 + (c - 48)) a < (a + 1) * 10 ^ cs.length
  | [], a, _ => by simp
  | c :: cs, a, h => by
    have hc := h c List.mem_cons_self
    have ih := fold_lt cs (a * 10 + (c - 48)) (fun d hd => h d (List.mem_cons_of_mem _ hd))
    rw [List.foldl_cons, List.length_cons]
    have e : (a * 10 + (c - 48) + 1) * 10 ^ cs.length ≤ ((a + 1) * 10) * 10 ^ cs.length := Nat.mul_le_mul_right _ (by omega)
    have e2 : (a + 1) * 10 ^ (cs.length + 1) = ((a + 1) * 10) * 10 ^ cs.length := by rw [Nat.pow_succ, Nat.mul_assoc, Nat.mul_comm 10]
    omega
theorem digits_lt {cs : T} (h : NumText.AllDigits cs) (hl : cs.length ≤ 13) : NumText.digitsVal cs < 10 ^ 13 := by
  have h1 := fold_lt cs 0 h
  have h2 : 10 ^ cs.length ≤ 10 ^ 13 := Nat.pow_le_pow_right (by decide) hl
  unfold NumText.digitsVal
  omega
theorem figs_digits {l : T} (h : hasOnly l FIGS = true) : NumText.AllDigits l := fun c hc => by
  unfold hasOnly at h
  have := of_decide_eq_true (List.all_eq_true.mp h c hc)
  simp [FIGS] at this
  omega
theorem log_small {n : Nat} (h : n < 10 ^ 13) : n.log2 < 1920 := by
  by_cases e : n = 0
  · subst e; decide
  · exact (Nat.log2_lt e).mpr (Nat.lt_of_lt_of_le h (by decide +kernel))
theorem num_facts {l : T} (h1 : 1 ≤ (figsOf l).length) (h2 : (figsOf l).length ≤ 13) (h3 : hasOnly (figsOf l) FIGS = true) : intText? (mk l) = some (numOf l) ∧ (numOf l).natAbs.log2 < 1920 ∧ (mk l).length ≤ 14 := by
  have hd := figs_digits h3
  have hne : figsOf l ≠ [] := fun z => by rw [z] at h1; simp at h1
  have hl : (mk l).length = l.length := by show l.toArray.size = _; simp
  rcases l with _ | ⟨c, cs⟩
  · simp [figsOf] at h1
  · by_cases hc : c = 45
    · subst hc
      have e : figsOf (45 :: cs) = cs := rfl
      rw [e] at h1 h2 hd hne
      refine ⟨intText_neg (cs := cs) rfl hd hne (by rw [hl, List.length_cons]; omega), ?_, by rw [hl, List.length_cons]; omega⟩
      show (-((NumText.digitsVal cs : Nat) : Int)).natAbs.log2 < 1920
      rw [Int.natAbs_neg]
      exact log_small (digits_lt hd h2)
    · have e : figsOf (c :: cs) = c :: cs := by
        unfold figsOf
        split
        · rename_i heq
          exact absurd (List.cons.inj heq).1 hc
        · rfl
      have e2 : numOf (c :: cs) = ((NumText.digitsVal (c :: cs) : Nat) : Int) := by
        unfold numOf
        split
        · rename_i heq
          exact absurd (List.cons.inj heq).1 hc
        · rfl
      rw [e] at h1 h2 hd hne
      rw [e2]
      exact ⟨intText_digits (x := mk (c :: cs)) hd hne (by rw [hl]; omega), log_small (digits_lt hd h2), by rw [hl]; omega⟩
theorem mk_len (l : T) : (mk l).length = l.length := by show l.toArray.size = _; simp
theorem removed (z : Str) : Txt.removeprefix z "-" = mk (figsOf (tl z)) := by
  obtain ⟨⟨l⟩⟩ := z
  have e0 : (Str.ofString "-") = ⟨#[45]⟩ := by decide +kernel
  show Txt.removeprefix ⟨⟨l⟩⟩ (Str.ofString "-") = mk (figsOf l)
  rw [e0]
  unfold Txt.removeprefix
  rcases l with _ | ⟨c, cs⟩
  · rfl
  · have hs : Builtin.Str.subAt ⟨⟨c :: cs⟩⟩ ⟨#[45]⟩ 0 = decide (c = 45) := by
      unfold Builtin.Str.subAt
      have : (⟨c :: cs⟩ : Array Nat).extract 0 (0 + (⟨#[45]⟩ : Str).length) = #[c] := by
        apply Array.toList_inj.mp
        simp [Str.length, Array.toList_extract, List.extract]
      show ((⟨c :: cs⟩ : Array Nat).extract 0 (0 + (⟨#[45]⟩ : Str).length) == #[45]) = _
      rw [this]
      by_cases h : c = 45
      · subst h; rfl
      · rw [decide_eq_false h]
        simp [h]
    rw [hs]
    by_cases h : c = 45
    · subst h
      rw [if_pos (by simp)]
      unfold Txt.affix
      show (if (cs.length + 1) - 1 == cs.length + 1 then _ else _) = _
      rw [if_neg (by simp)]
      unfold Builtin.Str.strSub
      show (⟨(⟨45 :: cs⟩ : Array Nat).extract 1 (cs.length + 1)⟩ : Str) = mk cs
      congr 1
      apply Array.toList_inj.mp
      simp [Array.toList_extract, List.extract]
    · rw [if_neg (by simp [h])]
      have e : figsOf (c :: cs) = c :: cs := by
        unfold figsOf
        split
        · rename_i heq
          exact absurd (List.cons.inj heq).1 h
        · rfl
      rw [e]
      rfl
theorem starts1 (z : Str) (c : Nat) : Txt.startswith z (mk [c]) = decide ((tl z).head? = some c) := by
  obtain ⟨⟨l⟩⟩ := z
  unfold Txt.startswith
  rcases l with _ | ⟨d, ds⟩
  · rfl
  · have hs : Builtin.Str.subAt ⟨⟨d :: ds⟩⟩ (mk [c]) 0 = decide (d = c) := by
      unfold Builtin.Str.subAt
      have : (⟨d :: ds⟩ : Array Nat).extract 0 (0 + (mk [c]).length) = #[d] := by
        apply Array.toList_inj.mp
        simp [Str.length, Array.toList_extract, List.extract]
      show ((⟨d :: ds⟩ : Array Nat).extract 0 (0 + (mk [c]).length) == #[c]) = _
      rw [this]
      by_cases h : d = c
      · subst h; simp
      · rw [decide_eq_false h]
        simp [h]
    rw [hs]
    show (decide (0 + 1 ≤ ds.length + 1) && decide (d = c)) = decide ((d :: ds).head? = some c)
    rw [decide_eq_true (by omega), Bool.true_and]
    simp
theorem cut1 (z : Str) : cutS z (some 1) none = mk ((tl z).drop 1) := by
  unfold cutS
  rw [HT.sIx_none]
  have h : HT.sIx z.length 0 (some 1) = min 1 z.length := HT.sIx_nat z.length 0 1
  rw [h]
  have hl := len_tl z
  have e : (List.take (z.length - min 1 z.length) (List.drop (min 1 z.length) z.cps.toList)) = (tl z).drop 1 := by
    rw [List.take_of_length_le (by rw [List.length_drop, hl]; omega)]
    by_cases h0 : z.length = 0
    · have : tl z = [] := List.eq_nil_of_length_eq_zero (by omega)
      show List.drop _ (tl z) = _
      rw [this]
      simp
    · rw [show min 1 z.length = 1 by omega]
  rw [e]
theorem cut_sl (z : Str) {a b : Nat} (h : b ≤ z.length) : cutS z (some (a : Nat)) (some (b : Nat)) = mk (sl (tl z) a b) := by
  unfold cutS
  rw [HT.sIx_nat, HT.sIx_nat]
  have hl := len_tl z
  unfold sl
  by_cases ha : a ≤ z.length
  · rw [show min a z.length = a by omega, show min b z.length = b by omega]
  · have e1 : (tl z).drop a = [] := List.drop_eq_nil_of_le (by omega)
    rw [e1, List.drop_eq_nil_of_le (by rw [hl]; omega)]
    simp
theorem dec_str (a b : Str) : decide (V.str a = V.str b) = decide (a = b) := by
  by_cases h : a = b
  · subst h; simp
  · rw [decide_eq_false h, decide_eq_false (fun z => h (V.str.inj z))]
section
variable {P : Program} {w : World} {K : PySem.W.Frag} {mg : Str → Option Value} {base : Heap}
theorem big_len : (Str.ofString (toString (1000000000000 : Int))).length = 13 := by decide +kernel
end
end My
set_option Elab.async false
set_option linter.all false
set_option maxRecDepth 100000
set_option maxHeartbeats 2000000
namespace My
open PySem L2 SS
/-! ### things that stand in tuples -/
def AtT {α : Type} (f : α → List V) (H : Hp) (v : V) (q : α) : Prop := ∃ p, v = .ref p ∧ H p = some (.tup (f q))
inductive AllT {α : Type} (f : α → List V) (H : Hp) : List V → List α → Prop
  | nil : AllT f H [] []
  | cons {v : V} {q : α} {vs : List V} {qs : List α} : AtT f H v q → AllT f H vs qs → AllT f H (v :: vs) (q :: qs)
/-- tuples stand -/
structure Tups (H H' : Hp) : Prop where
  tup : ∀ p xs, H p = some (.tup xs) → H' p = some (.tup xs)
  frz : ∀ p o u, H p = some (.frz o u) → H' p = some (.frz o u)
instance {H H' : Hp} : CoeFun (Tups H H') (fun _ => ∀ p xs, H p = some (.tup xs) → H' p = some (.tup xs)) := ⟨Tups.tup⟩
theorem same_tups {H H' : Hp} (s : Same H H') : Tups H H' := ⟨fun p xs h => s p _ h, fun p o u h => s p _ h⟩
theorem Tups.trans {H H1 H2 : Hp} (a : Tups H H1) (b : Tups H1 H2) : Tups H H2 := ⟨fun p xs h => b p xs (a p xs h), fun p o u h => b.frz _ _ _ (a.frz _ _ _ h)⟩
theorem tups_new {H : Hp} {p : Addr} (h : H p = none) (o : HO) : Tups H (upd H p o) := same_tups (same_new h o)
theorem tups_lst {H : Hp} {p : Addr} {xs ys : List V} (h : H p = some (.lst xs)) : Tups H (upd H p (.lst ys)) := ⟨fun b u q => by
  rw [upd_ne (ne_of q h (by intro z; cases z))]; exact q, fun b o_ u_ q => by
  rw [upd_ne (ne_of q h (by intro z; cases z))]; exact q⟩
section
variable {α : Type} {f : α → List V} {H H' : Hp}
theorem AllT.on : ∀ {vs : List V} {qs : List α}, AllT f H vs qs → Tups H H' → AllT f H' vs qs
  | _, _, .nil, _ => .nil
  | _, _, .cons ⟨p, e, h⟩ r, t => .cons ⟨p, e, t _ _ h⟩ (r.on t)
theorem AllT.append : ∀ {vs ws : List V} {qs rs : List α}, AllT f H vs qs → AllT f H ws rs → AllT f H (vs ++ ws) (qs ++ rs)
  | _, _, _, _, .nil, h => h
  | _, _, _, _, .cons a r, h => .cons a (r.append h)
theorem AllT.length : ∀ {vs : List V} {qs : List α}, AllT f H vs qs → vs.length = qs.length
  | _, _, .nil => rfl
  | _, _, .cons _ r => by rw [List.length_cons, List.length_cons, r.length]
theorem AllT.get : ∀ {vs : List V} {qs : List α} {i : Nat} {v : V}, AllT f H vs qs → vs[i]? = some v → ∃ q, qs[i]? = some q ∧ AtT f H v q
  | _, _, i, v, .nil, h => by simp at h
  | _, _, 0, v, .cons a r, h => by simp at h; subst h; exact ⟨_, rfl, a⟩
  | _, _, i + 1, v, .cons a r, h => by
    obtain ⟨q, h1, h2⟩ := r.get (i := i) (v := v) (by simpa using h)
    exact ⟨q, by simpa using h1, h2⟩
/-- a list that is being made, its items in tuples -/
def LS (f : α → List V) (H H1 : Hp) (l : Addr) (ps : List α) : Prop := Same H H1 ∧ H l = none ∧ ∃ vs, H1 l = some (.lst vs) ∧ AllT f H1 vs ps
theorem LS.new {H1 : Hp} {l p : Addr} {ps : List α} (h : LS f H H1 l ps) (n : H1 p = none) (o : HO) : LS f H (upd H1 p o) l ps := by
  obtain ⟨s, hl, vs, h1, h2⟩ := h
  exact ⟨s.trans (same_new n o), hl, vs, by rw [upd_ne (ne_of_none h1 n)]; exact h1, h2.on (tups_new n o)⟩
theorem LS.push {H1 : Hp} {l p : Addr} {ps : List α} {q : α} (h : LS f H H1 l ps) (hp : H1 p = some (.tup (f q))) : ∃ vs, H1 l = some (.lst vs) ∧ vs.length = ps.length ∧ LS f H (upd H1 l (.lst (vs ++ [.ref p]))) l (ps ++ [q]) := by
  obtain ⟨s, hl, vs, h1, h2⟩ := h
  refine ⟨vs, h1, h2.length, fun b u e => ?_, hl, _, upd_same, ?_⟩
  · rw [upd_ne (ne_of_none e hl)]
    exact s b u e
  · have t : Tups H1 (upd H1 l (.lst (vs ++ [.ref p]))) := tups_lst h1
    exact (h2.on t).append (.cons ⟨p, rfl, t _ _ hp⟩ .nil)
end
def fP (q : List Nat × Nat) : List V := [.str (mk q.1), .int (q.2 : Nat)]
def fW (q : W) : List V := [.str (mk q.1), .int (q.2.1 : Nat), .int (q.2.2 : Nat)]
section
variable {P : Program} {w : World} {K : PySem.W.Frag} {mg : Str → Option Value} {base : Heap}
/-! ### is_word -/
theorem s_at : (Str.ofString "@") = mk [64] := by decide +kernel
theorem s_quote : (Str.ofString "'") = mk [39] := by decide +kernel
/-! ### words_of_row -/
def spRow : Sp := fun vs H Q _ => ∃ z : Str, vs = [.str z] ∧ z.length ≤ 100000 ∧ ∀ (H' : Hp) (l : Addr) (us : List V), Same H H' → H l = none → H' l = some (.lst us) → AllT fP H' us (rowWords (tl z)) → Q (.ref l) H'
def RowInv (L : List Nat) (i a : Nat) (ps : List (List Nat × Nat)) : Prop := (i ≤ L.length ∧ a ≤ i ∧ ps ++ rw_ (sl L a i) (i + 1) (L.drop i) = rowWords L) ∨ (i = L.length + 1 ∧ ps = rowWords L)
theorem RowInv.len {L : List Nat} {i a : Nat} {ps : List (List Nat × Nat)} (h : RowInv L i a ps) : ps.length ≤ 2 * L.length := by
  have := rowWords_len L
  rcases h with ⟨_, _, h⟩ | ⟨_, h⟩
  · rw [← h, List.length_append] at this
    omega
  · rw [h]; exact this
theorem s_blank : (Str.ofString " ") = mk [32] := by decide +kernel
theorem sep_in (c : Nat) : inS BRs [c] = decide (c ∈ BR) := by
  have e : ∀ d : Nat, ((mk [d]) == mk [c]) = decide (c = d) := fun d => by
    by_cases h : c = d
    · subst h; simp
    · rw [decide_eq_false h]
      apply beq_eq_false_iff_ne.mpr
      intro z
      have z2 := congrArg (fun s => s.cps.toList) z
      simp at z2
      exact h z2.symm
  unfold inS BRs BR
  simp only [List.any_cons, List.any_nil, e, List.mem_cons, List.not_mem_nil, Bool.decide_or, Bool.or_false, or_false]
end
end My
set_option Elab.async false
set_option linter.all false
set_option maxRecDepth 100000
set_option maxHeartbeats 2000000
namespace My
open PySem L2 SS
def oN : Option Nat → V
  | none => .non
  | some c => .int (c : Nat)
theorem foldMin : ∀ (ns : List Int) (n : Int), (ns.foldl min n) ∈ n :: ns ∧ ∀ y ∈ n :: ns, ns.foldl min n ≤ y
  | [], n => by simp
  | k :: r, n => by
    have ih := foldMin r (min n k)
    rw [List.foldl_cons]
    constructor
    · rcases List.mem_cons.mp ih.1 with h | h
      · rw [h]
        by_cases c : n ≤ k
        · rw [Int.min_eq_left c]; simp
        · rw [Int.min_eq_right (by omega)]; simp
      · exact List.mem_cons_of_mem _ (List.mem_cons_of_mem _ h)
    · intro y hy
      have h0 := ih.2 (min n k) List.mem_cons_self
      rcases List.mem_cons.mp hy with h | h
      · subst h; omega
      · rcases List.mem_cons.mp h with h | h
        · subst h; omega
        · exact ih.2 y (List.mem_cons_of_mem _ h)
theorem minOf_ints {c : Nat} {r : List Nat} {m : Int} (h : m = (r.map fun (k : Nat) => (k : Int)).foldl min ((c : Nat) : Int)) : ∃ k, minOf (c :: r) = some k ∧ m = (k : Nat) := by
  have f := foldMin (r.map fun (k : Nat) => (k : Int)) ((c : Nat) : Int)
  rw [← h] at f
  have e : ((c : Nat) : Int) :: (r.map fun (k : Nat) => (k : Int)) = (c :: r).map fun (k : Nat) => (k : Int) := rfl
  rw [e] at f
  obtain ⟨k, hk, ek⟩ := List.mem_map.mp f.1
  refine ⟨k, minOf_some.mpr ⟨hk, fun y hy => ?_⟩, ek.symm⟩
  have := f.2 ((y : Nat) : Int) (List.mem_map.mpr ⟨y, hy, rfl⟩)
  omega
section
variable {P : Program} {w : World} {K : PySem.W.Frag} {mg : Str → Option Value} {base : Heap}
def spWrong : Sp := fun vs H Q _ => ∃ (a : Addr) (n : Nat) (us : List V) (ps : List (List Nat × Nat)), vs = [.ref a, .int (n : Nat)] ∧ H a = some (.lst us) ∧ AllT fP H us ps ∧ (∀ q ∈ ps, q.1.length ≤ 100000) ∧ ps.length ≤ 300000 ∧ ∀ H', Same H H' → Q (oN (wrongCol isWord ps n)) H'
theorem alike_ints (ns : List Int) : PySem.W.AlikeAll (ns.map PyData.int) := by
  refine ⟨fun x hx y hy => ?_, fun x hx => ?_⟩
  · obtain ⟨a, _, rfl⟩ := List.mem_map.mp hx
    obtain ⟨b, _, rfl⟩ := List.mem_map.mp hy
    rfl
  · obtain ⟨a, _, rfl⟩ := List.mem_map.mp hx
    intro z
    cases z
theorem depth_ints : ∀ ns : List Int, PyData.depthAll (ns.map PyData.int) ≤ 20
  | [] => by decide
  | n :: r => by
    have := depth_ints r
    show max (PyData.depth (.int n)) (PyData.depthAll (r.map PyData.int)) ≤ 20
    exact Nat.max_le.mpr ⟨by show 0 ≤ 20; decide, this⟩
theorem dp_ints {H : Hp} : ∀ ns : List Int, DpAll K H (ns.map V.int) (ns.map PyData.int)
  | [] => .nil
  | n :: r => .cons (.int n) (dp_ints r)
end
end My
set_option Elab.async false
set_option linter.all false
set_option maxRecDepth 100000
set_option maxHeartbeats 2000000
namespace My
open PySem L2 SS
theorem LS.pushAll {α : Type} {f : α → List V} {H H1 : Hp} {l : Addr} {ps qs : List α} {us : List V} (h : LS f H H1 l ps) (hq : AllT f H1 us qs) : ∃ vs, H1 l = some (.lst vs) ∧ vs.length = ps.length ∧ LS f H (upd H1 l (.lst (vs ++ us))) l (ps ++ qs) := by
  obtain ⟨s, hl, vs, h1, h2⟩ := h
  refine ⟨vs, h1, h2.length, fun b u e => ?_, hl, _, upd_same, ?_⟩
  · rw [upd_ne (ne_of_none e hl)]
    exact s b u e
  · have t : Tups H1 (upd H1 l (.lst (vs ++ us))) := tups_lst h1
    exact (h2.on t).append (hq.on t)
theorem lay_len (r : Nat) (p : List (List Nat × Nat)) : (lay r p).length = p.length := by unfold lay; rw [List.length_map]
theorem scanGo_len {isW : List Nat → Bool} : ∀ (ls : List (List Nat)) (r : Nat), (∀ l ∈ ls, l.length ≤ 1000) → (scanGo isW r ls).1.length ≤ 2000 * ls.length
  | [], r, _ => by simp [scanGo]
  | l :: ls, r, h => by
    have hl := h l List.mem_cons_self
    have ih := scanGo_len ls (r + 1) (fun x hx => h x (List.mem_cons_of_mem _ hx)) (isW := isW)
    have hr := rowWords_len l
    rw [scanGo, List.length_cons]
    split
    · rename_i c _
      have := List.length_filter_le (fun q : List Nat × Nat => decide (q.2 < c)) (rowWords l)
      show (lay r ((rowWords l).filter fun q => decide (q.2 < c))).length ≤ _
      rw [lay_len]
      refine Nat.le_trans this ?_
      omega
    · show (lay _ _ ++ _).length ≤ _
      rw [List.length_append, lay_len]
      omega
def StopAt (H : Hp) (v : V) : Option (Nat × Nat) → Prop
  | none => v = .non
  | some p => ∃ q, v = .ref q ∧ H q = some (.tup [.int (p.1 : Nat), .int (p.2 : Nat)])
def nl : Str := Str.ofString "\n"
/-- a text whose rows are neither many nor long -/
def Fits (z : Str) (rs : List Str) : Prop := Txt.split z nl = rs ∧ z.length ≤ 100000 ∧ rs.length ≤ 1000 ∧ ∀ r ∈ rs, r.length ≤ 1000
def spScan : Sp := fun vs H Q _ => ∃ (z : Str) (rs : List Str), vs = [.str z] ∧ Fits z rs ∧
  ∀ (H' : Hp) (p wl : Addr) (st : V) (us : List V), Same H H' → H' p = some (.tup [.ref wl, st]) → H' wl = some (.tup us) → AllT fW H' us (scan isWord (rs.map tl)).1 → us.length ≤ 600000 → StopAt H' st (scan isWord (rs.map tl)).2 → Q (.ref p) H'
theorem LS.same {α : Type} {f : α → List V} {H H1 H2 : Hp} {l : Addr} {ps : List α} (h : LS f H H1 l ps) (s : Same H1 H2) : LS f H H2 l ps := by
  obtain ⟨s0, hl, vs, h1, h2⟩ := h
  exact ⟨s0.trans s, hl, vs, s _ _ h1, h2.on (same_tups s)⟩
theorem rw_wlen : ∀ (r cur : List Nat) (k : Nat), ∀ q ∈ rw_ cur k r, q.1.length ≤ cur.length + r.length + 1
  | [], cur, k, q, h => by
    rw [rw_] at h
    unfold flush at h
    split at h
    · simp at h
    · simp at h; subst h; show cur.length ≤ _; omega
  | c :: r, cur, k, q, h => by
    rw [rw_] at h
    rw [List.length_cons]
    split at h
    · rcases List.mem_append.mp h with h | h
      · rcases List.mem_append.mp h with h | h
        · unfold flush at h
          split at h
          · simp at h
          · simp at h; subst h; show cur.length ≤ _; omega
        · split at h
          · simp at h
          · simp at h; subst h; show 1 ≤ _; omega
      · have := rw_wlen r [] (k + 1) q h
        rw [List.length_nil] at this
        omega
    · have := rw_wlen r (cur ++ [c]) (k + 1) q h
      rw [List.length_append] at this
      simp only [List.length_cons, List.length_nil] at this
      omega
def condW : Option Nat → (List Nat × Nat) → Bool
  | none, _ => true
  | some c, q => decide (q.2 < c)
section
variable {P : Program} {w : World} {K : PySem.W.Frag} {mg : Str → Option Value} {base : Heap}
theorem cut300 (xs : List V) : cutV xs none (some (300 : Int)) = xs.take 300 := by
  unfold cutV
  rw [HT.sIx_none, show (300 : Int) = ((300 : Nat) : Int) from rfl, HT.sIx_nat, List.drop_zero, Nat.sub_zero]
  rcases Nat.lt_or_ge 300 xs.length with h | h
  · rw [Nat.min_eq_left (by omega)]
  · rw [Nat.min_eq_right h, List.take_length, List.take_of_length_le h]
end
end My
set_option Elab.async false
set_option linter.all false
set_option maxRecDepth 100000
set_option maxHeartbeats 4000000
namespace L2
open PySem PySem.Spec PyProof.Rows
/-! ### tuples whose object is known to have no dict: their methods may be called -/
section
variable {X : Cx}
theorem call_tuple_ofF : CallR X (.type "tuple") (fun xs H Q => ∃ p ys, xs = [.ref p] ∧ SqL X.K H p ys ∧ ∀ l ob, H l = none → ob.dict = none → Q (.ref l) (upd H l (.frz ob (.tup ys)))) := by
  intro pins s σ H xs us Q I r h
  obtain ⟨p, ys, rfl, hq, q⟩ := h
  obtain ⟨u, rfl, rx⟩ := vals1 r
  cases rx
  obtain ⟨its, r', pl, hz⟩ := I.list hq
  have hlen := r'.length
  refine call_tuple_list pl.isList (fun h' kp => ?_) (by simp only [List.size_toArray] <;> omega)
  have I1 : Inv X pins σ H { s with heap := h' } := I.kept (t' := s.toks) kp
  have I2 : Inv X pins σ (upd H h'.objs.size (.frz { cls := .type "tuple", data := .seq its.toArray } (.tup ys))) { s with heap := h'.push { cls := .type "tuple", data := .seq its.toArray } } :=
    I1.laid (t' := s.toks) (fun b o e => Heap.get?_push_of_some _ e) (Nat.le_refl _) (show ObjOk X.prog X.w _ _ _ (.frz _ (.tup ys)) from ⟨Heap.get?_push_size _ rfl, hz, its, r', IsTup.new _ _⟩)
  exact ⟨.ref h'.objs.size, _, I2, rfl, q _ _ (I1.hok.fresh (Nat.le_refl _)) rfl⟩
/-- a tuple at p whose object has no dict -/
def FrzT (H : Hp) (p : Addr) (xs : List V) : Prop := ∃ ob, H p = some (.frz ob (.tup xs)) ∧ ob.dict = none
theorem FrzT.sq {K : PySem.W.Frag} {H : Hp} {p : Addr} {xs : List V} (h : FrzT H p xs) : SqT K H p xs := by
  obtain ⟨ob, h, _⟩ := h
  exact .inl (.inr ⟨ob, h⟩)
def tBMF (r : V → List V → Hp → VK → Prop) (to : TE) (t : TA) : TE := fun σ H Q => to σ H fun x H1 => (∃ p xs, x = .ref p ∧ FrzT H1 p xs) ∧ t σ H1 fun ys H2 => r x ys H2 Q
theorem pe_bmF {o e : Expr} {es : List Expr} {name : Str} {id : String} {apos cpos : Pos} {to : TE} {t : TA} {r : V → List V → Hp → VK → Prop} (pa : PlainAttrs "tuple") (slot : Slot "tuple" name id) (hty : typeOf (.builtin id) = pure (.type "method_descriptor")) (hm : MtR X id r) (ho : PE X o to) (ha : PA X (e :: es) t)
    (hbase : attributeBase o name X.env (eval o X.env) = eval o X.env := by rfl)
    (hfew : ((backTo cpos (starEach (e :: es) X.env)).all (fun x => !x.1) && (backToKw cpos (keywordEach [] X.env)).all (fun x => x.1.isSome)
      && decide ((e :: es).length + ([] : List Keyword).length + (if ([] : List Keyword).isEmpty then 0 else 1) < 30)) = true := by rfl)
    (hline : (apos.endLine == cpos.line) = true := by rfl) (hs : starEach (e :: es) X.env = (false, eval e X.env) :: starEach es X.env := by rfl) (hplain : (backTo cpos (starEach es X.env)).any (·.1) = false := by rfl) :
    PE X (.Call (.Attribute o name apos) (e :: es) [] cpos) (tBMF r to t) := by
  refine ⟨fun pins s σ H Q I h => ?_⟩
  refine wpAny_Call_method_late hbase hfew hline rfl (thn (ho.run pins s σ H _ I h) fun v s1 ⟨x, H1, I1, r1, ⟨p, xs, ex, ob, hp, hd⟩, q1⟩ => ?_)
  subst ex
  cases r1
  obtain ⟨g1, _, its, _, o2, g2, g3, _⟩ := (show ObjOk X.prog X.w H1 s1.heap p (.frz ob (.tup xs)) from I1.hok p _ hp)
  have e : o2 = ob := by rw [g1] at g2; exact (Option.some.inj g2).symm
  subst e
  refine ⟨"tuple", id, pa, slot, hty, ⟨_, g1, g3⟩, fun a ea => by cases ea; exact ⟨_, g1, hd⟩, ?_⟩
  have hA := ha.run cpos pins s1 σ H1 _ I1 q1
  rw [hs] at hA ⊢
  refine Calls.callWith_builtin (by show (false || (backTo cpos (starEach es X.env)).any (·.1)) = false; rw [hplain] <;> rfl) (Calls.evalArgs_plain ?_)
  exact thn hA fun us s2 ⟨vs, H2, I2, r2, q2⟩ => hm pins s2 σ H2 (.ref p) vs (.ref p) us Q I2 rfl r2 q2
end
end L2
set_option Elab.async false
set_option linter.all false
set_option maxRecDepth 100000
set_option maxHeartbeats 4000000
namespace My
open PySem L2 SS
theorem atI_0 {α : Type} {y : α} {ys : List α} : atI (y :: ys) 0 = some y := atI_nat (j := 0) rfl
theorem pick {α : Type} {xs : List V} {n : Nat} (hn : xs.length = n) {f : α → V} {Pz : α → Prop} (h : ∀ v ∈ xs, ∃ z, v = f z ∧ Pz z) {d : Int} (h0 : 0 ≤ d) (h1 : d < ((n : Nat) : Int)) : ∃ z, atI xs d = some (f z) ∧ Pz z := by
  obtain ⟨k, rfl⟩ := Int.eq_ofNat_of_zero_le h0
  have hk : k < xs.length := by omega
  obtain ⟨z, e, hz⟩ := h xs[k] (List.getElem_mem hk)
  exact ⟨z, atI_nat (by rw [← e]; simp), hz⟩
theorem Cc.mono {P : Program} {w : World} {K : PySem.W.Frag} {mg : Str → Option Value} {base : Heap} {CX : CXT} {j k : Nat} {x : Str} {sp : Sp} (c : Cc P w K mg base CX j x sp) (h : j ≤ k) : Cc P w K mg base CX k x sp := by
  obtain ⟨f, fd, ps, F, m, kp, b⟩ := c.ex
  exact ⟨f, fd, ps, F.mono h, m, kp, b⟩
end My
set_option Elab.async false
set_option linter.all false
set_option maxRecDepth 100000
set_option maxHeartbeats 2000000
namespace L2
open PySem PySem.Spec PyProof.Rows
/-! ### == and str of an instance whose class has an __eq__, a __str__ of its own -/
/-- what may stand behind == : an instance of the same class, or a text -/
def EqTo (K : PySem.W.Frag) (C : Addr) (H : Hp) (y : V) : Prop := (∃ b dy gs, y = .ref b ∧ H b = some (.ins C dy gs)) ∨ (∃ z, y = .str z ∧ PySem.W.notFirst K C (.type "str") = true)
def rEqOwn (K : PySem.W.Frag) (C : Addr) (sp : Sp) (E : XK) : R2 := fun x y H Q => ∃ a dx fs, x = .ref a ∧ H a = some (.ins C dx fs) ∧ EqTo K C H y ∧ sp [x, y] H (fun v H' => ∃ b, v = .bl b ∧ Q (.bl b) H') E
theorem op_eqOwn {X : Cx} {CX : CXT} {n : Nat} {C f : Addr} {fd : FuncData} {ps : List Str} {sp : Sp} {E : XK} (F : FnOk X.prog X.w X.K X.mg X.base CX n f fd ps sp) (hs : PySem.W.findIn X.K (.ref C) "__eq__" = some (some (.ref f))) (hf : PySem.W.isFn X.K (.ref f) = true) (hb : Binds X.K fd ps []) (hx : Passes CX X E) (hr : Room n X.A) :
    OpR X (compareOp .Eq) (rEqOwn X.K C sp E) := by
  intro pins s σ H x y v u Q I rx ry hq
  obtain ⟨a, dx, fs, rfl, ha, hy, hsp⟩ := hq
  show wpAny (model X.prog X.w) X.A (richCompare .Eq v u) (EP X pins σ Q) X.xe s
  cases rx
  obtain ⟨mA, J, _⟩ := ins_get I.hok ha
  obtain ⟨od, J, _⟩ := J.look
  obtain ⟨m, hF⟩ := I.fr
  have hty : ∃ tb, PySem.W.Looks (model X.prog X.w) s.heap (typeOf u) tb ∧ PySem.W.notFirst X.K C tb = true := by
    rcases hy with ⟨b, dy, gs, rfl, hb'⟩ | ⟨z, rfl, hn⟩
    · cases ry
      obtain ⟨mB, J', _⟩ := ins_get I.hok hb'
      obtain ⟨od', J', _⟩ := J'.look
      exact ⟨.ref C, J'.type, by simp [PySem.W.notFirst]⟩
    · obtain ⟨t, rfl⟩ := ry
      exact ⟨.type "str", .of_pure rfl, hn⟩
  obtain ⟨tb, hl, hn⟩ := hty
  refine PySem.W.cmp_K (op := .Eq) (tb := tb) hr.units0 hF I.ok.mod.kin J hl hn hs hf ?_
  refine wpAny_mono (run_fn (vs := [V.ref a, y]) (dvs := []) F hr hb .nil hx I (.cons rfl (.cons ry .nil)) (by rw [List.append_nil]; exact hsp)) (fun w s' hw => ?_) fun _ _ e => e
  obtain ⟨z, H', I', rz, b, rfl, q⟩ := hw
  cases rz
  exact ⟨.bl b, H', I', rfl, q⟩
def rStrOwn (C : Addr) (sp : Sp) (E : XK) : List V → Hp → VK → Prop := fun xs H Q => ∃ a dx fs, xs = [.ref a] ∧ H a = some (.ins C dx fs) ∧ sp [.ref a] H (fun v H' => ∃ z, v = .str z ∧ Q (.str z) H') E
theorem call_strOwn {X : Cx} {CX : CXT} {n : Nat} {C f : Addr} {fd : FuncData} {ps : List Str} {sp : Sp} {E : XK} (F : FnOk X.prog X.w X.K X.mg X.base CX n f fd ps sp) (hs : PySem.W.findIn X.K (.ref C) "__str__" = some (some (.ref f))) (hf : PySem.W.isFn X.K (.ref f) = true) (hb : Binds X.K fd ps []) (hx : Passes CX X E) (hr : Room (n + 2) X.A) :
    CallR X (.type "str") (rStrOwn C sp E) := by
  intro pins s σ H xs us Q I r h
  obtain ⟨a, dx, fs, rfl, ha, hsp⟩ := h
  obtain rfl := Vals.ref1' r
  obtain ⟨mA, J, _⟩ := ins_get I.hok ha
  obtain ⟨od, J, _⟩ := J.look
  have r2 : Room n X.A.in1.in1 := (Room.in1 (Room.in1 hr))
  refine PySem.W.kso_call r2.units0 I.kIn J hs hf ?_
  have hl := F.len _ _ _ _ hsp
  refine wpAny_call (codeAny_mono (F.run X.A.in1.in1 X.stack s H ⟨[.ref a], []⟩ [.ref a] [.ref a] _ E r2 I.env0.in1.in1 (by
    have := hb s [.ref a] I.kIn (by simpa using hl)
    simpa using this) (.cons rfl .nil) hsp) fun r s' hq => ?_)
  cases r with
  | error e => exact hx pins σ H s e s' I hq
  | ok fl =>
    cases fl with
    | ret w =>
      obtain ⟨z, H', I', rz, y, rfl, q⟩ := I.after hq
      obtain ⟨t, rfl⟩ := rz
      exact ⟨.str y, H', I', ⟨_, rfl⟩, q⟩
    | next => exact False.elim hq
    | brk => exact False.elim hq
    | cont => exact False.elim hq
end L2
set_option Elab.async false
set_option linter.all false
set_option maxRecDepth 100000
set_option maxHeartbeats 4000000
namespace My
open PySem PySem.Spec PyProof.Rows L2 SS
/-! methods by their class -/
structure Dm (K : PySem.W.Frag) (C : Addr) (x qual : Str) (st : Stmt) : Prop where
  ex : ∃ f fd, Fun K x qual st f fd ∧ Meth K C x f
structure Mm (P : Program) (w : World) (K : PySem.W.Frag) (mg : Str → Option Value) (base : Heap) (CX : CXT) (k : Nat) (C : Addr) (m : Str) (sp : Sp) : Prop where
  ex : ∃ f fd ps, FnOk P w K mg base CX k f fd ps sp ∧ Meth K C m f ∧ Binds K fd ps []
theorem Mm.mono {P : Program} {w : World} {K : PySem.W.Frag} {mg : Str → Option Value} {base : Heap} {CX : CXT} {j k : Nat} {C : Addr} {m : Str} {sp : Sp} (c : Mm P w K mg base CX j C m sp) (h : j ≤ k) : Mm P w K mg base CX k C m sp := by
  obtain ⟨f, fd, ps, F, a, b⟩ := c.ex
  exact ⟨f, fd, ps, F.mono h, a, b⟩
theorem pe_mm {X : Cx} {CX : CXT} {k j : Nat} {C : Addr} {m : Str} {sp : Sp} {E : XK} {apos pos : Pos} {o e : Expr} {es : List Expr} {ta : TE} {t : TA} {pl : Sem Bool} (c : Cls X.K C) (M : Mm X.prog X.w X.K X.mg X.base CX k C m sp) (hr : Room j X.A) (hk : k ≤ j) (hx : Passes CX X E) (he : PE X o ta) (ha : PA X (e :: es) t)
    (hst : starEach (e :: es) X.env = (false, eval e X.env) :: starEach es X.env := by rfl) (hpl : (backTo pos (starEach es X.env)).any (·.1) = false := by rfl)
    (ht : eval (.Call (.Attribute o m apos) (e :: es) [] pos) X.env = (do
      let ov ← eval o X.env
      standAt apos.atName
      let (f, first) ← holding [ov] (getMethod ov m pl)
      callWith pos f first (backTo pos (starEach (e :: es) X.env)) (backToKw pos (keywordEach [] X.env))) := by rfl) :
    PE X (.Call (.Attribute o m apos) (e :: es) [] pos) (tMeth C m sp [] E ta t) := by
  obtain ⟨f, fd, ps, F, hm, hb⟩ := M.ex
  exact pe_meth he c hm F (hr.mono hk) hb .nil hx ha hst hpl ht
theorem pe_mm0 {X : Cx} {CX : CXT} {k j : Nat} {C : Addr} {m : Str} {sp : Sp} {E : XK} {apos pos : Pos} {o : Expr} {ta : TE} {pl : Sem Bool} (c : Cls X.K C) (M : Mm X.prog X.w X.K X.mg X.base CX k C m sp) (hr : Room j X.A) (hk : k ≤ j) (hx : Passes CX X E) (he : PE X o ta)
    (ht : eval (.Call (.Attribute o m apos) [] [] pos) X.env = (do
      let ov ← eval o X.env
      standAt apos.atName
      let (f, first) ← holding [ov] (getMethod ov m pl)
      callWith pos f first (backTo pos (starEach [] X.env)) (backToKw pos (keywordEach [] X.env))) := by rfl) :
    PE X (.Call (.Attribute o m apos) [] [] pos) (tMeth C m sp [] E ta tNil) := by
  obtain ⟨f, fd, ps, F, hm, hb⟩ := M.ex
  exact pe_meth0 he c hm F (hr.mono hk) hb .nil hx ht
/-- a method with a star parameter -/
structure Mr (P : Program) (w : World) (K : PySem.W.Frag) (mg : Str → Option Value) (base : Heap) (CX : CXT) (k : Nat) (C : Addr) (m : Str) (sp : Sp) : Prop where
  ex : ∃ f, FnR P w K mg base CX k f sp ∧ Meth K C m f
theorem pe_mr {X : Cx} {CX : CXT} {k j : Nat} {C : Addr} {m : Str} {sp : Sp} {E : XK} {apos pos : Pos} {o e : Expr} {es : List Expr} {ta : TE} {t : TA} {pl : Sem Bool} (c : Cls X.K C) (M : Mr X.prog X.w X.K X.mg X.base CX k C m sp) (hr : Room j X.A) (hk : k ≤ j) (hx : Passes CX X E) (he : PE X o ta) (ha : PA X (e :: es) t)
    (hst : starEach (e :: es) X.env = (false, eval e X.env) :: starEach es X.env := by rfl) (hpl : (backTo pos (starEach es X.env)).any (·.1) = false := by rfl)
    (ht : eval (.Call (.Attribute o m apos) (e :: es) [] pos) X.env = (do
      let ov ← eval o X.env
      standAt apos.atName
      let (f, first) ← holding [ov] (getMethod ov m pl)
      callWith pos f first (backTo pos (starEach (e :: es) X.env)) (backToKw pos (keywordEach [] X.env))) := by rfl) :
    PE X (.Call (.Attribute o m apos) (e :: es) [] pos) (tMeth C m sp [] E ta t) := by
  obtain ⟨f, F, hm⟩ := M.ex
  refine ⟨fun pins s σ H Q I h => ?_⟩
  refine PySem.W.methodCall_KW (pl := pl) (thn (he.run pins s σ H _ I h) fun u s1 ⟨x, H1, I1, rx, a, dx, fs, ex, ea, l, q⟩ => ?_) ht
  subst ex
  obtain rfl : u = Value.ref a := rx
  refine getmeth_ok I1 ea c hm l ?_
  refine PySem.W.callWith_K (first := [.ref a]) (h₀ := X.base) I.ok.mod.kin hm.kp (thn (ha.run pos pins s1 σ H1 _ I1 q) fun us s2 ⟨vs, H2, I2, r, q2⟩ => ⟨I2.kIn, ?_⟩) hst hpl
  have q3 : sp (V.ref a :: vs) H2 Q E := by
    have z : sp (V.ref a :: (vs ++ [])) H2 Q E := q2
    rw [List.append_nil] at z
    exact z
  exact wpAny_call (run_fnR (us := .ref a :: us) (vs := .ref a :: vs) F (hr.mono hk) hx I2 (.cons rfl r) q3)
/-- def f(self, *v), off its statement -/
theorem fun_star {P : Program} {w : World} {K : PySem.W.Frag} {mg : Str → Option Value} {base : Heap} {x qual : Str} {st : Stmt} {f : Addr} {fd : FuncData} {N ps : List Str} {pv : Str} {k : Nat} {sp : Sp} (F : Fun K x qual st f fd) (S : FnScope N (ps ++ [pv]) (defScope st))
    (hb : ∀ (kV doc pm : Value) (an : Option Addr) (cdv ct : Value) (us rest : List Value), us.length = ps.length → bindArgs (PySem.W.fnOf x qual (defArgs st) (defBody st) (defScope st) .none kV doc pm an cdv ct) ⟨us ++ rest, []⟩ = (newTuple rest >>= fun t => pure (ps.zip us ++ [(pv, t)])))
    (hbody : ∀ (cdv : Value) (A : Around) (outer : List Env) (s : Shared) (H : Hp) (vs : List V) (Q : VK) (E : XK), Room k (A.deeper (envOfC qual (defScope st) s.heap.objs.size f cdv)) → sp vs H Q E →
      ∃ t, PSs (cxOf CX0 P w K mg base N qual (defScope st) f cdv A outer s H E).nox (defBody st) t ∧ t { nx := fun _ H' => Q .non H', rt := Q } (start N vs) H) :
    FnR P w K mg base CX0 (k + 1) f (fun vs H Q E => ∃ ws rest, vs = ws ++ rest ∧ ws.length = ps.length ∧ rest.length ≤ sizeLine ∧ ∀ p, H p = Option.none → sp (ws ++ [V.ref p]) (upd H p (.tup rest)) Q E) := by
  obtain ⟨oc, od, kV, doc, pm, an, cdv, ct, osl, rfl, lk, hcd⟩ := F.ex
  refine StX.fn_star lk hcd S StX.cxUp_none (hb kV doc pm an cdv ct) fun A outer s H vs Q E hr hsp => ?_
  obtain ⟨t, h, q⟩ := hbody cdv A outer s H vs Q E hr hsp
  exact ⟨t, h.nox, q⟩
end My
set_option Elab.async false
set_option linter.all false
set_option maxRecDepth 100000
set_option maxHeartbeats 4000000
namespace My
open PySem L2 SS
def top (i : Nat) : Stmt := PySem.Challenge.pw_sendstead_k58_rows_of_names_and_blocks.main.body.getD i (.Pass ⟨0, 0, 0, 0⟩)
abbrev s_nodes_of : Stmt := top 2
abbrev s_codes_of : Stmt := top 3
abbrev s_names_of : Stmt := top 4
abbrev s_names_among : Stmt := top 5
abbrev s_parameters_of : Stmt := top 6
abbrev s_body_of : Stmt := top 7
abbrev s_code_within : Stmt := top 8
abbrev s_scopes_of : Stmt := top 9
abbrev s_found_name : Stmt := top 10
abbrev s_code_tree : Stmt := top 11
abbrev s_nodes_with_codes : Stmt := top 12
abbrev s_many_nodes : Stmt := top 13
abbrev s_parts_of : Stmt := top 14
abbrev s_set_word : Stmt := top 15
abbrev s_is_parameter : Stmt := top 16
abbrev s_rows_of : Stmt := top 18
abbrev s__law_deck : Stmt := top 21
abbrev s__law_draw : Stmt := top 22
abbrev s__law_word : Stmt := top 23
abbrev s__law_words : Stmt := top 24
abbrev s__law_seen : Stmt := top 25
abbrev s__law_e : Stmt := top 26
abbrev s__law_inner : Stmt := top 27
abbrev s__law_statements : Stmt := top 28
abbrev s__law_find : Stmt := top 29
abbrev s__law_walk : Stmt := top 30
abbrev s__law_order : Stmt := top 31
abbrev s__law_due : Stmt := top 32
abbrev s__law_told : Stmt := top 33
abbrev s_law : Stmt := top 34
abbrev s_RowMaker___init__ : Stmt := inClass (top 19) 0
abbrev s_RowMaker_put : Stmt := inClass (top 19) 1
abbrev s_RowMaker_put_of_name : Stmt := inClass (top 19) 2
abbrev s_RowMaker_leave_open : Stmt := inClass (top 19) 3
abbrev s_RowMaker_fill_in : Stmt := inClass (top 19) 4
abbrev s_RowMaker_next_number : Stmt := inClass (top 19) 5
abbrev s_RowMaker_all_statement_rows : Stmt := inClass (top 19) 6
abbrev s_RowMaker_statement_rows : Stmt := inClass (top 19) 7
abbrev s_RowMaker_if_rows : Stmt := inClass (top 19) 8
abbrev s_RowMaker_while_rows : Stmt := inClass (top 19) 9
abbrev s_RowMaker_try_rows : Stmt := inClass (top 19) 10
abbrev s_RowMaker_all_expression_rows : Stmt := inClass (top 19) 11
abbrev s_RowMaker_expression_rows : Stmt := inClass (top 19) 12
abbrev s_RowMaker_send_rows : Stmt := inClass (top 19) 13
/-- all that the top has -/
structure Fz (K : PySem.W.Frag) (mg : Str → Option Value) where
  D_nodes_of : Dn K mg "nodes_of" s_nodes_of
  D_codes_of : Dn K mg "codes_of" s_codes_of
  D_names_of : Dn K mg "names_of" s_names_of
  D_names_among : Dn K mg "names_among" s_names_among
  D_parameters_of : Dn K mg "parameters_of" s_parameters_of
  D_body_of : Dn K mg "body_of" s_body_of
  D_code_within : Dn K mg "code_within" s_code_within
  D_scopes_of : Dn K mg "scopes_of" s_scopes_of
  D_found_name : Dn K mg "found_name" s_found_name
  D_code_tree : Dn K mg "code_tree" s_code_tree
  D_nodes_with_codes : Dn K mg "nodes_with_codes" s_nodes_with_codes
  D_many_nodes : Dn K mg "many_nodes" s_many_nodes
  D_parts_of : Dn K mg "parts_of" s_parts_of
  D_set_word : Dn K mg "set_word" s_set_word
  D_is_parameter : Dn K mg "is_parameter" s_is_parameter
  D_rows_of : Dn K mg "rows_of" s_rows_of
  D__law_deck : Dn K mg "_law_deck" s__law_deck
  D__law_draw : Dn K mg "_law_draw" s__law_draw
  D__law_word : Dn K mg "_law_word" s__law_word
  D__law_words : Dn K mg "_law_words" s__law_words
  D__law_seen : Dn K mg "_law_seen" s__law_seen
  D__law_e : Dn K mg "_law_e" s__law_e
  D__law_inner : Dn K mg "_law_inner" s__law_inner
  D__law_statements : Dn K mg "_law_statements" s__law_statements
  D__law_find : Dn K mg "_law_find" s__law_find
  D__law_walk : Dn K mg "_law_walk" s__law_walk
  D__law_order : Dn K mg "_law_order" s__law_order
  D__law_due : Dn K mg "_law_due" s__law_due
  D__law_told : Dn K mg "_law_told" s__law_told
  R_RowMaker : Addr
  m_RowMaker : mg "RowMaker" = some (.ref R_RowMaker)
  cl_RowMaker : Cls K R_RowMaker
  na_RowMaker_rows : NoAttr K R_RowMaker "rows"
  na_RowMaker_visible : NoAttr K R_RowMaker "visible"
  na_RowMaker_number : NoAttr K R_RowMaker "number"
  I_RowMaker : ∃ f fd, Mk K R_RowMaker f ∧ Fun K "__init__" "RowMaker.__init__" s_RowMaker___init__ f fd
  M_RowMaker_put : Dm K R_RowMaker "put" "RowMaker.put" s_RowMaker_put
  M_RowMaker_put_of_name : Dm K R_RowMaker "put_of_name" "RowMaker.put_of_name" s_RowMaker_put_of_name
  M_RowMaker_leave_open : Dm K R_RowMaker "leave_open" "RowMaker.leave_open" s_RowMaker_leave_open
  M_RowMaker_fill_in : Dm K R_RowMaker "fill_in" "RowMaker.fill_in" s_RowMaker_fill_in
  M_RowMaker_next_number : Dm K R_RowMaker "next_number" "RowMaker.next_number" s_RowMaker_next_number
  M_RowMaker_all_statement_rows : Dm K R_RowMaker "all_statement_rows" "RowMaker.all_statement_rows" s_RowMaker_all_statement_rows
  M_RowMaker_statement_rows : Dm K R_RowMaker "statement_rows" "RowMaker.statement_rows" s_RowMaker_statement_rows
  M_RowMaker_if_rows : Dm K R_RowMaker "if_rows" "RowMaker.if_rows" s_RowMaker_if_rows
  M_RowMaker_while_rows : Dm K R_RowMaker "while_rows" "RowMaker.while_rows" s_RowMaker_while_rows
  M_RowMaker_try_rows : Dm K R_RowMaker "try_rows" "RowMaker.try_rows" s_RowMaker_try_rows
  M_RowMaker_all_expression_rows : Dm K R_RowMaker "all_expression_rows" "RowMaker.all_expression_rows" s_RowMaker_all_expression_rows
  M_RowMaker_expression_rows : Dm K R_RowMaker "expression_rows" "RowMaker.expression_rows" s_RowMaker_expression_rows
  M_RowMaker_send_rows : Dm K R_RowMaker "send_rows" "RowMaker.send_rows" s_RowMaker_send_rows
  g_METHOD_CODE : GI mg "METHOD_CODE" (-1)
  b_abs : mg "abs" = none
  b_all : mg "all" = none
  b_any : mg "any" = none
  b_bool : mg "bool" = none
  b_dict : mg "dict" = none
  b_divmod : mg "divmod" = none
  b_enumerate : mg "enumerate" = none
  b_int : mg "int" = none
  b_isinstance : mg "isinstance" = none
  b_len : mg "len" = none
  b_list : mg "list" = none
  b_max : mg "max" = none
  b_min : mg "min" = none
  b_range : mg "range" = none
  b_reversed : mg "reversed" = none
  b_set : mg "set" = none
  b_sorted : mg "sorted" = none
  b_str : mg "str" = none
  b_sum : mg "sum" = none
  b_tuple : mg "tuple" = none
  b_zip : mg "zip" = none
end My
set_option Elab.async false
set_option linter.all false
set_option maxRecDepth 100000
set_option maxHeartbeats 8000000
namespace My
open PySem L2 SS
abbrev sEDk : Stmt := s__law_deck
abbrev sEDr : Stmt := s__law_draw
section
variable {P : Program} {w : World} {K : PySem.W.Frag} {mg : Str → Option Value} {base : Heap}
/-- the deck at p: its numbers at l, and how many draws were made -/
def DkAt (H : Hp) (p l : Addr) (a : Nat) (xs : List Int) : Prop := H p = some (.lst [.ref l, .int (a : Nat)]) ∧ H l = some (.lst (xs.map V.int)) ∧ p ≠ l ∧ (∀ v ∈ xs, 0 ≤ v) ∧ xs.length ≤ 63
/-- all but the deck stands still -/
def SD (p l : Addr) (H H' : Hp) : Prop := ∀ b u, b ≠ p → b ≠ l → H b = some u → H' b = some u
theorem SD.refl {p l : Addr} {H : Hp} : SD p l H H := fun _ _ _ _ h => h
theorem SD.trans {p l : Addr} {H H1 H2 : Hp} (a : SD p l H H1) (b : SD p l H1 H2) : SD p l H H2 := fun q u n m h => b q u n m (a q u n m h)
theorem SD.same {p l : Addr} {H H' : Hp} (s : Same H H') : SD p l H H' := fun q u _ _ h => s q u h
theorem DkAt.same {H H' : Hp} {p l : Addr} {a : Nat} {xs : List Int} (d : DkAt H p l a xs) (s : Same H H') : DkAt H' p l a xs := ⟨s _ _ d.1, s _ _ d.2.1, d.2.2.1, d.2.2.2.1, d.2.2.2.2⟩
theorem SD.tups {p l : Addr} {H H' : Hp} {a : Nat} {xs : List Int} (s : SD p l H H') (d : DkAt H p l a xs) : Tups H H' := ⟨fun q ys e => s q _ (fun z => by rw [z, d.1] at e; cases e) (fun z => by rw [z, d.2.1] at e; cases e) e, fun q o_ u_ e => s q _ (fun z => by rw [z, d.1] at e; cases e) (fun z => by rw [z, d.2.1] at e; cases e) e⟩
/-- what is new is no deck -/
theorem DkAt.ne {H : Hp} {p l q : Addr} {a : Nat} {xs : List Int} (d : DkAt H p l a xs) (h : H q = none) : q ≠ p ∧ q ≠ l := ⟨fun e => (by rw [e, d.1] at h; cases h), fun e => (by rw [e, d.2.1] at h; cases h)⟩
theorem DkAt.upd {H : Hp} {p l q : Addr} {a : Nat} {xs : List Int} (d : DkAt H p l a xs) (h : q ≠ p ∧ q ≠ l) (o : HO) : DkAt (upd H q o) p l a xs := ⟨by rw [upd_ne h.1.symm]; exact d.1, by rw [upd_ne h.2.symm]; exact d.2.1, d.2.2⟩
theorem SD.upd {H H' : Hp} {p l q : Addr} (s : SD p l H H') (h : H q = none) (o : HO) : SD p l H (upd H' q o) := fun b u n m e => by rw [upd_ne (ne_of_none e h)]; exact s b u n m e
def spDk (K : PySem.W.Frag) : Sp := fun vs H Q _ => ∃ (a : Addr) (ns : List Int), vs = [.ref a] ∧ SqL K H a (ns.map V.int) ∧ ns.length ≤ 63 ∧ ∀ (H' : Hp) (p l : Addr) (xs : List Int), Same H H' → H p = none → H l = none → DkAt H' p l 0 xs → Q (.ref p) H'
theorem scEDk : FnScope ["_law_script", "_law_cell"] ["_law_script"] (defScope sEDk) := ⟨rfl, rfl, rfl, by decide +kernel, rfl, by decide +kernel, by decide +kernel⟩
theorem c_dk (gA : mg "abs" = none) (D : Dn K mg "_law_deck" sEDk) : C0 P w K mg base 1 "_law_deck" (spDk K) := by
  obtain ⟨f, fd, F, m⟩ := D.ex
  refine ⟨f, fd, ["_law_script"], F.ok scEDk (fun vs H Q E h => ?_) (fun cdv A outer s H vs Q E hr h => ?_), m, F.kp, F.binds (ps := ["_law_script"]) fun _ _ _ _ _ _ us hl => match us, hl with | [_], _ => rfl⟩
  · obtain ⟨a, ns, rfl, _⟩ := h
    rfl
  obtain ⟨a, ns, rfl, hS, h63, k⟩ := h
  refine ⟨_, pss_one (ps_ret (pe_lst (pa_cons (pe_lc (own := [("_law_cell", 1)]) (g := gName 1) (tt := tYes) rfl scEDk.nd (pi_list (pe_slice sl_list (pv 0) po_none (po_some pe_int)))
      (blkOk_by (own := [("_law_cell", 1)]) (N := ["_law_script", "_law_cell"]) (sc := defScope sEDk) (by decide +kernel)) (fun _ _ _ _ _ => pg_name (i := 1) scEDk.nd rfl (Or.inl rfl)) (fun _ _ _ _ _ => pts_nil)
      (fun _ _ _ _ _ => pe_callB call_abs (by rfl) gA (by decide +kernel) (pa_cons (pv 1) pa_nil))) (pa_cons pe_int pa_nil)))), ?_⟩
  have hcut : cutV (ns.map V.int) none (some 63) = ns.map V.int := by
    unfold cutV
    have e : HT.sIx (ns.map V.int).length (ns.map V.int).length (some 63) = (ns.map V.int).length := by
      have := HT.sIx_nat (ns.map V.int).length (ns.map V.int).length 63
      rw [show ((63 : Nat) : Int) = 63 from rfl] at this
      rw [this, List.length_map]
      omega
    rw [e, HT.sIx_none, List.drop_zero, Nat.sub_zero, List.take_length]
  refine ⟨_, rfl, 63, rfl, a, _, rfl, hS, fun sp hsp => ?_⟩
  rw [hcut]
  have s1 := same_new hsp (.lst (ns.map V.int))
  refine ⟨sp, rfl, ⟨_, SqL.of upd_same⟩, fun D0 hD0 => ?_⟩
  have s2 := s1.trans (same_new hD0 (.lst []))
  have hD0' : H D0 = none := s1.free hD0
  have f1 := same_new hD0 (.lst []) _ _ (upd_same (H := H) (a := sp) (o := .lst (ns.map V.int)))
  refine lc_list (K := K) (a := sp) (xs := ns.map V.int) (fun i H7 => ∃ xs : List Int, Same H H7 ∧ H7 sp = some (.lst (ns.map V.int)) ∧ H7 D0 = some (.lst (xs.map V.int)) ∧ (∀ v ∈ xs, 0 ≤ v) ∧ xs.length = i) ⟨[], s2, f1, upd_same, fun v hv => (by cases hv), rfl⟩ (fun i H7 _ h => by obtain ⟨_, _, h2, _⟩ := h; exact SqL.of h2) ?_ ?_
  · rintro i u H7 hu ⟨xs, s7, f7, d7, hp, hl⟩
    have hi : i < (ns.map V.int).length := (List.getElem?_eq_some_iff.mp hu).1
    rw [List.length_map] at hi
    obtain ⟨n, rfl⟩ : ∃ n, u = .int n := by
      rw [List.getElem?_map, List.getElem?_eq_getElem hi] at hu
      exact ⟨_, (Option.some.inj hu).symm⟩
    refine ⟨rfl, ?_⟩
    unfold tYes
    refine iteT ?_
    refine ⟨_, rfl, n, rfl, _, d7, by rw [List.length_map, sizeLine_eq]; omega, xs ++ [if n < 0 then -n else n], fun b o hb => by rw [upd_ne (ne_of_none hb hD0')]; exact s7 _ _ hb, ?_, ?_, fun v hv => ?_, by rw [List.length_append, hl]; rfl⟩
    · rw [upd_ne]
      · exact f7
      · intro e
        rw [e] at f1
        rw [← e, upd_same] at hD0
        cases hD0
    · rw [upd_same, List.map_append]
      rfl
    · rcases List.mem_append.mp hv with hv | hv
      · exact hp v hv
      · have e : v = if n < 0 then -n else n := by simpa using hv
        rw [e]
        split <;> omega
  rintro H7 ⟨xs, s7, f7, d7, hp, hl⟩
  rw [List.length_map] at hl
  refine ⟨by show 2 ≤ sizeLine; decide, fun q hq => k _ q D0 xs (s7.trans (same_new hq _)) (s7.free hq) hD0' ⟨upd_same, same_new hq _ _ _ d7, fun e => (by rw [e, d7] at hq; cases hq), hp, by omega⟩⟩
def spDr : Sp := fun vs H Q _ => ∃ (p l : Addr) (a : Nat) (xs : List Int) (m : Int), vs = [.ref p, .int m] ∧ 1 ≤ m ∧ m < 1000000000 ∧ DkAt H p l a xs ∧ a ≤ 1000000 ∧ ∀ (n : Int) (H' : Hp) (xs' : List Int), SD p l H H' → (∀ b, H b = none → H' b = none) → DkAt H' p l (a + 1) xs' → 0 ≤ n → n < m → Q (.int n) H'
theorem scEDr : FnScope ["_law_deck_here", "_law_many", "_law_cell", "_law_place"] ["_law_deck_here", "_law_many"] (defScope sEDr) := ⟨rfl, rfl, rfl, by decide +kernel, rfl, by decide +kernel, by decide +kernel⟩
theorem free_upd {H : Hp} {q : Addr} {o o' : HO} (h : H q = some o) : ∀ b, H b = none → upd H q o' b = none := fun b hb => by rw [upd_ne]; exact hb; exact fun e => by rw [e, h] at hb; cases hb
theorem c_dr (gL : mg "len" = none) (D : Dn K mg "_law_draw" sEDr) : C0 P w K mg base 1 "_law_draw" spDr := by
  obtain ⟨f, fd, F, m⟩ := D.ex
  refine ⟨f, fd, ["_law_deck_here", "_law_many"], F.ok scEDr (fun vs H Q E h => ?_) (fun cdv A outer s H vs Q E hr h => ?_), m, F.kp, F.binds (ps := ["_law_deck_here", "_law_many"]) fun _ _ _ _ _ _ us hl => match us, hl with | [_, _], _ => rfl⟩
  · obtain ⟨p, l, a, xs, m, rfl, _⟩ := h
    rfl
  obtain ⟨p, l, a, xs, mm, rfl, hm1, hm2, dk, ha, kq⟩ := h
  refine ⟨_, pss_cons (ps_asg (pe_op op_add (pe_ix (r := rIxL K) ix_list (pv 0) pe_int (fun _ _ => rfl)) pe_int) (pg_sub (pv 0) pe_int set_list)) <|
    pss_cons (ps_set (i := 2) scEDr.nd rfl (Or.inl rfl) pe_int) <|
    C8.pss_cut (ps_if (pt_cmpR op_gt (pe_callB call_len_seq (by rfl) gL PySem.boot_len (pa_cons (pe_ix (r := rIxL K) ix_list (pv 0) pe_int (fun _ _ => rfl)) pa_nil)) pe_int (nomark _))
      (pss_cons (ps_set (i := 3) scEDr.nd rfl (Or.inl rfl) (pe_op op_mod (pe_ix (r := rIxL K) ix_list (pv 0) pe_int (fun _ _ => rfl)) (pe_callB call_len_seq (by rfl) gL PySem.boot_len (pa_cons (pe_ix (r := rIxL K) ix_list (pv 0) pe_int (fun _ _ => rfl)) pa_nil)))) <|
        pss_cons (ps_set (i := 2) scEDr.nd rfl (Or.inl rfl) (pe_ix (r := rIxL K) ix_list (pe_ix (r := rIxL K) ix_list (pv 0) pe_int (fun _ _ => rfl)) (pv 3) (fun _ _ => rfl))) <|
        pss_one (ps_if (pt_cmpR op_ge (pv 2) (pe_op op_pow pe_int pe_int) (nomark _))
          (pss_cons (ps_asg (pe_op op_fdiv (pv 2) (pv 1)) (pg_sub (pe_ix (r := rIxL K) ix_list (pv 0) pe_int (fun _ _ => rfl)) (pv 3) set_list)) <|
            pss_one (ps_ret (pe_op op_mod (pv 2) (pv 1)))) pss_nil)) pss_nil) <|
    pss_one (ps_ret (pe_op op_mod (pe_op op_mod (pe_op op_pow (pe_op op_add (pe_op op_add (pe_op op_mod (pv 2) pe_int) (pe_op op_mul pe_int (pe_ix (r := rIxL K) ix_list (pv 0) pe_int (fun _ _ => rfl)))) pe_int) pe_int) pe_int) (pv 1))), ?_⟩
  have hp := dk.1
  have hl := dk.2.1
  have hpl := dk.2.2.1
  have hpos := dk.2.2.2.1
  have h63 := dk.2.2.2.2
  refine ⟨_, rfl, p, _, _, _, rfl, rfl, SqL.of hp, atI_nat (j := 1) rfl, _, _, rfl, rfl, _, rfl, p, _, 1, 1, rfl, rfl, hp, rfl, ?_⟩
  have e1 : ((a : Nat) : Int) + 1 = ((a + 1 : Nat) : Int) := by omega
  have hset : [V.ref l, V.int ((a : Nat) : Int)].set 1 (V.int (((a : Nat) : Int) + 1)) = [.ref l, .int ((a + 1 : Nat) : Int)] := by rw [e1]; rfl
  rw [hset]
  have sd1 : SD p l H (upd H p (.lst [.ref l, .int ((a + 1 : Nat) : Int)])) := fun b u n m h => by rw [upd_ne n]; exact h
  have fr1 := free_upd (o' := .lst [.ref l, .int ((a + 1 : Nat) : Int)]) hp
  have dk1 : DkAt (upd H p (.lst [.ref l, .int ((a + 1 : Nat) : Int)])) p l (a + 1) xs := ⟨upd_same, by rw [upd_ne hpl.symm]; exact hl, hpl, hpos, h63⟩
  generalize upd H p (.lst [.ref l, .int ((a + 1 : Nat) : Int)]) = H1 at sd1 fr1 dk1 ⊢
  have hp1 := dk1.1
  have hl1 := dk1.2.1
  refine ⟨fun σ H2 => ∃ (c : Int) (v3 : Option V), σ = [some (.ref p), some (.int mm), some (.int c), v3] ∧ H2 = H1, ?_, ?_⟩
  · refine ⟨_, rfl, p, _, _, _, rfl, rfl, SqL.of hp1, atI_nat (j := 0) rfl, l, _, rfl, .inl (SqL.of hl1), _, _, rfl, rfl, _, rfl, ?_⟩
    rw [List.length_map]
    refine ite2 (fun cc => ?_) (fun _ => ⟨_, _, rfl, rfl⟩)
    have hx : 0 < xs.length := by
      have := of_decide_eq_true cc
      omega
    refine ⟨_, rfl, p, _, _, _, rfl, rfl, SqL.of hp1, atI_nat (j := 1) rfl, _, rfl, p, _, _, _, rfl, rfl, SqL.of hp1, atI_nat (j := 0) rfl, l, _, rfl, .inl (SqL.of hl1), _, _, rfl, rfl, (by rw [List.length_map]; show (0 : Int) < _; omega), ?_⟩
    rw [List.length_map]
    obtain ⟨j, ej, hj⟩ : ∃ j : Nat, ((a + 1 : Nat) : Int) % ((xs.length : Nat) : Int) = ((j : Nat) : Int) ∧ j < xs.length := ⟨(a + 1) % xs.length, rfl, Nat.mod_lt _ hx⟩
    have ej' : V.int (((a + 1 : Nat) : Int) % ((xs.length : Nat) : Int)) = V.int ((j : Nat) : Int) := by rw [ej]
    show gName 3 (V.int (((a + 1 : Nat) : Int) % ((xs.length : Nat) : Int))) _ _ _
    rw [ej']
    have hcell : (xs.map V.int)[j]? = some (.int xs[j]) := by rw [List.getElem?_map, List.getElem?_eq_getElem hj]; rfl
    have hcp := hpos xs[j] (List.getElem_mem hj)
    generalize hcj : xs[j] = cell at hcell hcp
    refine ⟨_, rfl, p, _, _, _, rfl, rfl, SqL.of hp1, atI_nat (j := 0) rfl, _, rfl, l, _, _, _, rfl, rfl, SqL.of hl1, atI_nat hcell, ?_⟩
    refine ⟨_, rfl, _, _, rfl, rfl, (by unfold CPow; decide), _, _, rfl, rfl, _, rfl, ?_⟩
    refine ite2 (fun _ => ?_) (fun _ => ⟨_, _, rfl, rfl⟩)
    have hix : ixN (xs.map V.int).length ((j : Nat) : Int) = some j := by
      unfold ixN
      rw [List.length_map, if_pos (by omega), if_pos (by omega)]
      rfl
    refine ⟨_, rfl, _, rfl, _, _, rfl, rfl, ⟨by show 0 < mm; omega, by show mm < _; omega⟩, _, rfl, p, _, _, _, rfl, rfl, SqL.of hp1, atI_nat (j := 0) rfl, _, rfl, l, _, _, j, rfl, rfl, hl1, hix, ?_⟩
    have hset2 : (xs.map V.int).set j (.int (cell / mm)) = (xs.set j (cell / mm)).map V.int := by rw [List.map_set]
    rw [hset2]
    refine ⟨_, rfl, _, rfl, _, _, rfl, rfl, (show (0 : Int) < mm by omega), ?_⟩
    refine kq _ _ (xs.set j (cell / mm)) (sd1.trans fun b u n m h => by rw [upd_ne m]; exact h) (fun b hb => free_upd hl1 b (fr1 b hb)) ⟨by rw [upd_ne hpl]; exact hp1, upd_same, hpl, fun v hv => ?_, by rw [List.length_set]; exact h63⟩ (Int.emod_nonneg _ (by omega)) (Int.emod_lt_of_pos _ (by omega))
    rcases List.mem_or_eq_of_mem_set hv with hv | hv
    · exact hpos v hv
    · rw [hv]; exact Int.ediv_nonneg hcp (by omega)
  rintro σ H2 ⟨c, v3, rfl, rfl⟩
  have hcm0 := Int.emod_nonneg c (show (2147483587 : Int) ≠ 0 by decide)
  have hcm1 := Int.emod_lt_of_pos c (show (0 : Int) < 2147483587 by decide)
  refine ⟨_, rfl, _, _, rfl, rfl, (by show (0 : Int) < 2147483587; decide), _, rfl, p, _, _, _, rfl, rfl, SqL.of hp1, atI_nat (j := 1) rfl, ?_⟩
  refine ⟨_, _, rfl, rfl, .inl ⟨by decide, by decide⟩, _, _, rfl, rfl, _, _, rfl, rfl, _, _, rfl, rfl, ⟨by decide, by decide, ?_⟩, ?_⟩
  · omega
  refine ⟨_, _, rfl, rfl, (by show (0 : Int) < 2147483647; decide), _, rfl, _, _, rfl, rfl, (show (0 : Int) < mm by omega), ?_⟩
  exact kq _ _ xs sd1 fr1 dk1 (Int.emod_nonneg _ (by omega)) (Int.emod_lt_of_pos _ (by omega))
end
end My
set_option Elab.async false
set_option linter.all false
set_option maxRecDepth 100000
set_option maxHeartbeats 8000000
namespace My
open PySem L2 SS
abbrev sEWo : Stmt := s__law_word
abbrev sEWs : Stmt := s__law_words
section
variable {P : Program} {w : World} {K : PySem.W.Frag} {mg : Str → Option Value} {base : Heap}
/-- signs, one a text -/
def SgS (H : Hp) (a : Addr) (ys : List Str) (i : Nat) : Prop := H a = some (.lst (ys.map V.str)) ∧ ys.length = i ∧ ∀ y ∈ ys, y.length = 1 ∧ ∀ c ∈ tl y, c < 128
theorem ones_sum : ∀ ys : List Str, (∀ y ∈ ys, y.length = 1) → (ys.map (·.length)).sum = ys.length
  | [], _ => rfl
  | y :: ys, h => by
    rw [List.map_cons, List.sum_cons, ones_sum ys fun z hz => h z (List.mem_cons_of_mem _ hz), h y List.mem_cons_self, List.length_cons]
    omega
theorem joinL_nil_len : ∀ rows : List T, (TL.joinL [] rows).length = (rows.map List.length).sum
  | [] => rfl
  | [x] => by simp [TL.joinL]
  | x :: z :: r => by
    have ih := joinL_nil_len (z :: r)
    show (x ++ ([] ++ TL.joinL [] (z :: r))).length = _
    rw [List.length_append, List.nil_append, ih]
    simp only [List.map_cons, List.sum_cons]
theorem join_ones (ys : List Str) (h : ∀ y ∈ ys, y.length = 1) : (tl (Txt.join (Str.ofString "") ys)).length = ys.length := by
  have e : Txt.join (Str.ofString "") ys = Str.join (Str.ofString "") ys := TL.join_eq _ _
  have e2 : tl (Str.join (Str.ofString "") ys) = TL.joinL [] (ys.map tl) := TL.tl_join (Str.ofString "") ys
  rw [e, e2, joinL_nil_len, List.map_map]
  have : ys.map (List.length ∘ tl) = ys.map (·.length) := List.map_congr_left fun z _ => len_tl z
  rw [this, ones_sum ys h]
theorem joinL_nil_mem {P : Nat → Prop} : ∀ rows : List T, (∀ r ∈ rows, ∀ c ∈ r, P c) → ∀ c ∈ TL.joinL [] rows, P c
  | [], _, c, h => by cases h
  | [x], g, c, h => g x List.mem_cons_self c h
  | x :: z :: r, g, c, h => by
    have h' : c ∈ x ++ ([] ++ TL.joinL [] (z :: r)) := h
    rcases List.mem_append.mp h' with h' | h'
    · exact g x List.mem_cons_self c h'
    · exact joinL_nil_mem (z :: r) (fun q hq => g q (List.mem_cons_of_mem _ hq)) c h'
theorem join_low (ys : List Str) (h : ∀ y ∈ ys, ∀ c ∈ tl y, c < 128) : ∀ c ∈ tl (Txt.join (Str.ofString "") ys), c < 128 := by
  have e : Txt.join (Str.ofString "") ys = Str.join (Str.ofString "") ys := TL.join_eq _ _
  have e2 : tl (Str.join (Str.ofString "") ys) = TL.joinL [] (ys.map tl) := TL.tl_join (Str.ofString "") ys
  rw [e, e2]
  refine joinL_nil_mem _ fun r hr => ?_
  obtain ⟨y, hy, rfl⟩ := List.mem_map.mp hr
  exact h y hy
theorem str_at {z : Str} {n : Nat} (hz : (tl z).all (fun c => decide (c < 128)) = true) (hn : (tl z).length = n) {d : Int} (h0 : 0 ≤ d) (h1 : d < ((n : Nat) : Int)) : ∃ c, atI z.cps.toList d = some c ∧ c < 128 := by
  obtain ⟨k, rfl⟩ := Int.eq_ofNat_of_zero_le h0
  have hk : k < (tl z).length := by omega
  exact ⟨_, atI_nat (List.getElem?_eq_getElem hk), of_decide_eq_true (List.all_eq_true.mp hz _ (List.getElem_mem hk))⟩
theorem sh_new {p l : Addr} {H : Hp} {q : Addr} (h : H q = none) (o : HO) : SD p l H (upd H q o) := SD.same (same_new h o)
def spWo : Sp := fun vs H Q _ => ∃ (p l : Addr) (a : Nat) (xs : List Int) (f : Str) (m : Nat), vs = [.ref p, .str f, .int (m : Nat)] ∧ 1 ≤ m ∧ m ≤ 60 ∧ f.length ≤ 20 ∧ DkAt H p l a xs ∧ a ≤ 900000 ∧
  ∀ (r : List Nat) (H' : Hp) (a' : Nat) (xs' : List Int), SD p l H H' → DkAt H' p l a' xs' → a ≤ a' → a' ≤ a + m → r.length < m → (∀ c ∈ r, c < 128) → Q (.str (mk (tl f ++ r))) H'
theorem scEWo : FnScope ["_law_deck_here", "_law_first", "_law_most", "_law_letters", "_law_k"] ["_law_deck_here", "_law_first", "_law_most"] (defScope sEWo) := ⟨rfl, rfl, rfl, by decide +kernel, rfl, by decide +kernel, by decide +kernel⟩
theorem c_wo (gR : mg "range" = none) (DR : C0 P w K mg base 1 "_law_draw" spDr) (D : Dn K mg "_law_word" sEWo) : C0 P w K mg base 2 "_law_word" spWo := by
  obtain ⟨f, fd, F, m⟩ := D.ex
  refine ⟨f, fd, ["_law_deck_here", "_law_first", "_law_most"], F.ok scEWo (fun vs H Q E h => ?_) (fun cdv A outer s H vs Q E hr h => ?_), m, F.kp, F.binds (ps := ["_law_deck_here", "_law_first", "_law_most"]) fun _ _ _ _ _ _ us hl => match us, hl with | [_, _, _], _ => rfl⟩
  · obtain ⟨p, l, a, xs, f, m, rfl, _⟩ := h
    rfl
  obtain ⟨p, l, a, xs, ft, mm, rfl, hm1, hm60, hf, dk, ha, kq⟩ := h
  refine ⟨_, pss_cons (ps_set (i := 3) scEWo.nd rfl (Or.inr rfl) pe_str) <|
    pss_one (ps_ret (pe_op op_add_str (pv 1) (pe_join pe_str (pe_lc (own := [("_law_k", 4)]) (g := gName 4) (tt := tYes) rfl scEWo.nd (pi_range1 rfl gR (pa_cons (pe_cc DR hr (by omega) pass0 (pa_cons (pv 0) (pa_cons (pv 2) pa_nil))) pa_nil))
      (blkOk_by (own := [("_law_k", 4)]) (N := ["_law_deck_here", "_law_first", "_law_most", "_law_letters", "_law_k"]) (sc := defScope sEWo) (by decide +kernel)) (fun _ _ _ _ _ => pg_name (i := 4) scEWo.nd rfl (Or.inl rfl)) (fun _ _ _ _ _ => pts_nil)
      (fun _ _ _ _ _ => pe_ix (r := rIxS) ix_str (pv 3) (pe_cc DR hr (by omega) pass0 (pa_cons (pv 0) (pa_cons pe_int pa_nil))) (fun _ _ => rfl)))))), ?_⟩
  refine ⟨_, rfl, ⟨_, rfl⟩, _, rfl, _, rfl, p, l, a, xs, _, rfl, by omega, by omega, dk, by omega, fun n H1 xs1 s1 f1 d1 hn0 hn1 => ?_⟩
  obtain ⟨k, rfl⟩ := Int.eq_ofNat_of_zero_le hn0
  have hk : k < mm := by omega
  refine ⟨((k : Nat) : Int), by rfl, by omega, by omega, fun D0 hD0 => ?_⟩
  have nD0 := d1.ne hD0
  refine lc_range (lo := 0) (n := ((k : Nat) : Int).toNat) (fun i H2 => ∃ (ys : List Str) (xs2 : List Int) (a2 : Nat), SD p l H1 H2 ∧ DkAt H2 p l (a + 1 + i) xs2 ∧ SgS H2 D0 ys i) ⟨[], xs1, a, sh_new hD0 _, d1.upd nD0 _, upd_same, rfl, fun y hy => by cases hy⟩ ?_ ?_
  · rintro i H2 hi ⟨ys, xs2, _, s2, d2, g2, gl, g1⟩
    have hi' : i < k := by omega
    refine ⟨rfl, ?_⟩
    unfold tYes
    refine iteT ?_
    refine ⟨_, rfl, _, rfl, p, l, _, xs2, _, rfl, by decide, by decide, d2, by omega, fun n H3 xs3 s3 f3 d3 hn0 hn1 => ?_⟩
    obtain ⟨c, hc, hc1⟩ := str_at (z := Str.ofString "abcdefghijklmnopqrstuvwxyz0123456789") (n := 36) (by decide +kernel) (by decide +kernel) hn0 hn1
    refine ⟨_, _, c, rfl, rfl, by decide +kernel, hc, ?_⟩
    refine ⟨ys.map V.str, s3 _ _ nD0.1 nD0.2 g2, by rw [List.length_map, sizeLine_eq]; omega, ys ++ [⟨#[c]⟩], xs3, a, ?_, d3.upd nD0 _, ?_, by rw [List.length_append, gl]; rfl, fun y hy => ?_⟩
    · exact SD.upd (s2.trans s3) hD0 _
    · rw [upd_same, List.map_append]
      rfl
    · rcases List.mem_append.mp hy with hy | hy
      · exact g1 y hy
      · have : y = ⟨#[c]⟩ := by simpa using hy
        rw [this]
        exact ⟨rfl, fun x hx => by
          have : x = c := by simpa using hx
          rw [this]
          exact hc1⟩
  rintro H2 ⟨ys, xs2, _, s2, d2, g2, gl, g1⟩
  have gl' : ys.length = k := by omega
  have jl := join_ones ys fun y hy => (g1 y hy).1
  have jw := join_low ys fun y hy => (g1 y hy).2
  refine ⟨_, D0, ys, rfl, rfl, .inl (SqL.of g2), ?_, ?_⟩
  · rw [ones_sum ys fun y hy => (g1 y hy).1]
    show ys.length + ys.length * 0 ≤ _
    omega
  refine ⟨_, _, rfl, rfl, ?_, ?_⟩
  · rw [← len_tl (Txt.join _ ys), jl, sizeLine_eq]
    omega
  have e : ft ++ Txt.join (Str.ofString "") ys = mk (tl ft ++ tl (Txt.join (Str.ofString "") ys)) := by
    rw [← TL.tl_append, mk_tl]
  rw [e]
  exact kq _ H2 _ xs2 (s1.trans s2) d2 (by omega) (by omega) (by rw [jl]; omega) jw
end
end My
set_option Elab.async false
set_option linter.all false
set_option maxRecDepth 100000
set_option maxHeartbeats 2000000
namespace My
open PySem L2 SS
/-! ### trees of es and statements -/
mutual
inductive Ex : Type
  | num (n : Int) : Ex
  | txt (s : List Nat) : Ex
  | tru (b : Bool) : Ex
  | non : Ex
  | slf : Ex
  | nam (w : List Nat) : Ex
  | fld (w : List Nat) : Ex
  | new (w : List Nat) : Ex
  | send (r : Ex) (m : List Nat) (es : Exs) : Ex
  | up (m : List Nat) (es : Exs) : Ex
  | lst (es : Exs) : Ex
  | blk (ps : List (List Nat)) (ss : Sts) : Ex
inductive Exs : Type
  | nil : Exs
  | cons (e : Ex) (r : Exs) : Exs
inductive St_ : Type
  | set (w : List Nat) (e : Ex) : St_
  | sfl (w : List Nat) (e : Ex) : St_
  | pl (k : List Nat) (e : Ex) : St_
  | iff (e : Ex) (a b : Sts) : St_
  | whl (e : Ex) (a : Sts) : St_
  | tri (a : Sts) (w : List Nat) (b : Sts) : St_
inductive Sts : Type
  | nil : Sts
  | cons (s : St_) (r : Sts) : Sts
end
def wsV (ws : List T) : List V := ws.map fun w => V.str (mk w)
/-- a tuple of texts -/
def AtW (H : Hp) (ws : List T) (v : V) : Prop := ∃ p, v = .ref p ∧ H p = some (.tup (wsV ws))
/-- a tuple of texts, whose methods may be called -/
def AtWb (H : Hp) (ws : List T) (v : V) : Prop := ∃ p, v = .ref p ∧ FrzT H p (wsV ws)
abbrev S_ (s : String) : V := V.str (Str.ofString s)
mutual
def AtE (H : Hp) : Ex → V → Prop
  | .num n, v => ∃ p, v = .ref p ∧ H p = some (.tup [S_ "number", .int n])
  | .txt s, v => ∃ p, v = .ref p ∧ H p = some (.tup [S_ "text", .str (mk s)])
  | .tru b, v => ∃ p, v = .ref p ∧ H p = some (.tup [S_ "truth", .bl b])
  | .non, v => ∃ p, v = .ref p ∧ H p = some (.tup [S_ "none"])
  | .slf, v => ∃ p, v = .ref p ∧ H p = some (.tup [S_ "self"])
  | .nam w, v => ∃ p, v = .ref p ∧ H p = some (.tup [S_ "name", .str (mk w)])
  | .fld w, v => ∃ p, v = .ref p ∧ H p = some (.tup [S_ "field", .str (mk w)])
  | .new w, v => ∃ p, v = .ref p ∧ H p = some (.tup [S_ "new", .str (mk w)])
  | .send r m es, v => ∃ p vr q xs, v = .ref p ∧ H p = some (.tup [S_ "send", vr, .str (mk m), .ref q]) ∧ H q = some (.tup xs) ∧ AtE H r vr ∧ AtEs H es xs
  | .up m es, v => ∃ p q xs, v = .ref p ∧ H p = some (.tup [S_ "up", .str (mk m), .ref q]) ∧ H q = some (.tup xs) ∧ AtEs H es xs
  | .lst es, v => ∃ p q xs, v = .ref p ∧ H p = some (.tup [S_ "list", .ref q]) ∧ H q = some (.tup xs) ∧ AtEs H es xs
  | .blk ps ss, v => ∃ p vw q xs, v = .ref p ∧ H p = some (.tup [S_ "block", vw, .ref q]) ∧ H q = some (.tup xs) ∧ AtWb H ps vw ∧ AtSs H ss xs
def AtEs (H : Hp) : Exs → List V → Prop
  | .nil, xs => xs = []
  | .cons e r, xs => ∃ v vs, xs = v :: vs ∧ AtE H e v ∧ AtEs H r vs
def AtS (H : Hp) : St_ → V → Prop
  | .set w e, v => ∃ p ve, v = .ref p ∧ H p = some (.tup [S_ "set", .str (mk w), ve]) ∧ AtE H e ve
  | .sfl w e, v => ∃ p ve, v = .ref p ∧ H p = some (.tup [S_ "setfield", .str (mk w), ve]) ∧ AtE H e ve
  | .pl k e, v => ∃ p ve, v = .ref p ∧ H p = some (.tup [.str (mk k), ve]) ∧ AtE H e ve
  | .iff e a b, v => ∃ p ve q xs r ys, v = .ref p ∧ H p = some (.tup [S_ "if", ve, .ref q, .ref r]) ∧ H q = some (.tup xs) ∧ H r = some (.tup ys) ∧ AtE H e ve ∧ AtSs H a xs ∧ AtSs H b ys
  | .whl e a, v => ∃ p ve q xs, v = .ref p ∧ H p = some (.tup [S_ "while", ve, .ref q]) ∧ H q = some (.tup xs) ∧ AtE H e ve ∧ AtSs H a xs
  | .tri a w b, v => ∃ p q xs r ys, v = .ref p ∧ H p = some (.tup [S_ "try", .ref q, .str (mk w), .ref r]) ∧ H q = some (.tup xs) ∧ H r = some (.tup ys) ∧ AtSs H a xs ∧ AtSs H b ys
def AtSs (H : Hp) : Sts → List V → Prop
  | .nil, xs => xs = []
  | .cons s r, xs => ∃ v vs, xs = v :: vs ∧ AtS H s v ∧ AtSs H r vs
end
theorem AtW.on {H H' : Hp} {ws : List T} {v : V} (t : Tups H H') (h : AtW H ws v) : AtW H' ws v := by
  obtain ⟨p, e, h⟩ := h
  exact ⟨p, e, t _ _ h⟩
/-- either way -/
def AtWs (H : Hp) (ws : List T) (v : V) : Prop := ∃ p, v = .ref p ∧ Rd H p (.tup (wsV ws))
theorem AtW.s {H : Hp} {ws : List T} {v : V} (h : AtW H ws v) : AtWs H ws v := by
  obtain ⟨p, e, h⟩ := h
  exact ⟨p, e, .inl h⟩
theorem AtWb.s {H : Hp} {ws : List T} {v : V} (h : AtWb H ws v) : AtWs H ws v := by
  obtain ⟨p, e, ob, h, _⟩ := h
  exact ⟨p, e, .inr ⟨ob, h⟩⟩
theorem AtWb.on {H H' : Hp} {ws : List T} {v : V} (t : Tups H H') (h : AtWb H ws v) : AtWb H' ws v := by
  obtain ⟨p, e, ob, h, d⟩ := h
  exact ⟨p, e, ob, t.frz _ _ _ h, d⟩
mutual
theorem AtE.on {H H' : Hp} (t : Tups H H') : ∀ (e : Ex) (v : V), AtE H e v → AtE H' e v
  | .num n, v, ⟨p, e, h⟩ => ⟨p, e, t _ _ h⟩
  | .txt s, v, ⟨p, e, h⟩ => ⟨p, e, t _ _ h⟩
  | .tru b, v, ⟨p, e, h⟩ => ⟨p, e, t _ _ h⟩
  | .non, v, ⟨p, e, h⟩ => ⟨p, e, t _ _ h⟩
  | .slf, v, ⟨p, e, h⟩ => ⟨p, e, t _ _ h⟩
  | .nam w, v, ⟨p, e, h⟩ => ⟨p, e, t _ _ h⟩
  | .fld w, v, ⟨p, e, h⟩ => ⟨p, e, t _ _ h⟩
  | .new w, v, ⟨p, e, h⟩ => ⟨p, e, t _ _ h⟩
  | .send r m es, v, ⟨p, vr, q, xs, e, h1, h2, h3, h4⟩ => ⟨p, vr, q, xs, e, t _ _ h1, t _ _ h2, AtE.on t r vr h3, AtEs.on t es xs h4⟩
  | .up m es, v, ⟨p, q, xs, e, h1, h2, h4⟩ => ⟨p, q, xs, e, t _ _ h1, t _ _ h2, AtEs.on t es xs h4⟩
  | .lst es, v, ⟨p, q, xs, e, h1, h2, h4⟩ => ⟨p, q, xs, e, t _ _ h1, t _ _ h2, AtEs.on t es xs h4⟩
  | .blk ps ss, v, ⟨p, vw, q, xs, e, h1, h2, h3, h4⟩ => ⟨p, vw, q, xs, e, t _ _ h1, t _ _ h2, h3.on t, AtSs.on t ss xs h4⟩
theorem AtEs.on {H H' : Hp} (t : Tups H H') : ∀ (e : Exs) (v : List V), AtEs H e v → AtEs H' e v
  | .nil, xs, h => h
  | .cons e r, xs, ⟨v, vs, h1, h2, h3⟩ => ⟨v, vs, h1, AtE.on t e v h2, AtEs.on t r vs h3⟩
theorem AtS.on {H H' : Hp} (t : Tups H H') : ∀ (s : St_) (v : V), AtS H s v → AtS H' s v
  | .set w e, v, ⟨p, ve, h1, h2, h3⟩ => ⟨p, ve, h1, t _ _ h2, AtE.on t e ve h3⟩
  | .sfl w e, v, ⟨p, ve, h1, h2, h3⟩ => ⟨p, ve, h1, t _ _ h2, AtE.on t e ve h3⟩
  | .pl w e, v, ⟨p, ve, h1, h2, h3⟩ => ⟨p, ve, h1, t _ _ h2, AtE.on t e ve h3⟩
  | .iff e a b, v, ⟨p, ve, q, xs, r, ys, h1, h2, h3, h4, h5, h6, h7⟩ => ⟨p, ve, q, xs, r, ys, h1, t _ _ h2, t _ _ h3, t _ _ h4, AtE.on t e ve h5, AtSs.on t a xs h6, AtSs.on t b ys h7⟩
  | .whl e a, v, ⟨p, ve, q, xs, h1, h2, h3, h5, h6⟩ => ⟨p, ve, q, xs, h1, t _ _ h2, t _ _ h3, AtE.on t e ve h5, AtSs.on t a xs h6⟩
  | .tri a w b, v, ⟨p, q, xs, r, ys, h1, h2, h3, h4, h6, h7⟩ => ⟨p, q, xs, r, ys, h1, t _ _ h2, t _ _ h3, t _ _ h4, AtSs.on t a xs h6, AtSs.on t b ys h7⟩
theorem AtSs.on {H H' : Hp} (t : Tups H H') : ∀ (e : Sts) (v : List V), AtSs H e v → AtSs H' e v
  | .nil, xs, h => h
  | .cons e r, xs, ⟨v, vs, h1, h2, h3⟩ => ⟨v, vs, h1, AtS.on t e v h2, AtSs.on t r vs h3⟩
end
end My
set_option Elab.async false
set_option linter.all false
set_option maxRecDepth 100000
set_option maxHeartbeats 2000000
namespace My
open PySem L2 SS
/-! ### words, measures, what a tree can be -/
abbrev kSay : T := tl "say"
abbrev tk (s : String) : T := tl (Str.ofString s)
def numT (n : Int) : T := tl (numStr n)
abbrev WB := List Nat × Bool
def plainW (ws : List T) : List WB := ws.map fun w => (w, false)
mutual
def wE : Ex → List WB
  | .num n => [(numT n, true)]
  | .txt s => [(39 :: s, true)]
  | .tru true => [(tk "true", true)]
  | .tru false => [(tk "false", true)]
  | .non => [(tk "none", true)]
  | .slf => [(tk "self", true)]
  | .nam w => [(w, true)]
  | .fld w => [(64 :: w, true)]
  | .new w => [(tk "new", true), (w, false)]
  | .send r m es => (tk "(", true) :: (wE r ++ (m, false) :: (wEs es ++ [(tk ")", false)]))
  | .up m es => (tk "(", true) :: (tk "up", false) :: (m, false) :: (wEs es ++ [(tk ")", false)])
  | .lst es => (tk "[", true) :: (wEs es ++ [(tk "]", false)])
  | .blk ps ss => (tk "{", true) :: (plainW ps ++ (tk "|", false) :: (wSs ss ++ [(tk "}", false)]))
def wEs : Exs → List WB
  | .nil => []
  | .cons e r => wE e ++ wEs r
def wS : St_ → List WB
  | .set w e => (w, true) :: (tk ":=", false) :: wE e
  | .sfl w e => (64 :: w, true) :: (tk ":=", false) :: wE e
  | .pl k e => (k, true) :: wE e
  | .iff e a b => (tk "if", true) :: (wE e ++ (tk "then", false) :: (wSs a ++ (tk "else", false) :: (wSs b ++ [(tk "end", false)])))
  | .whl e a => (tk "while", true) :: (wE e ++ (tk "then", false) :: (wSs a ++ [(tk "end", false)]))
  | .tri a w b => (tk "try", true) :: (wSs a ++ (tk "taken", false) :: (w, false) :: (wSs b ++ [(tk "end", false)]))
def wSs : Sts → List WB
  | .nil => []
  | .cons s r => wS s ++ wSs r
end
mutual
/-- how many are open within one another -/
def oE : Ex → Nat
  | .send r _ es => 1 + max (oE r) (oEs es)
  | .up _ es => 1 + oEs es
  | .lst es => 1 + oEs es
  | .blk _ ss => 1 + oSs ss
  | _ => 0
def oEs : Exs → Nat
  | .nil => 0
  | .cons e r => max (oE e) (oEs r)
def oS : St_ → Nat
  | .set _ e => oE e
  | .sfl _ e => oE e
  | .pl _ e => oE e
  | .iff e a b => 1 + max (oE e) (max (oSs a) (oSs b))
  | .whl e a => 1 + max (oE e) (oSs a)
  | .tri a _ b => 1 + max (oSs a) (oSs b)
def oSs : Sts → Nat
  | .nil => 0
  | .cons s r => max (oS s) (oSs r)
end
mutual
/-- how many nodes -/
def nE : Ex → Nat
  | .send r _ es => 1 + nE r + nEs es
  | .up _ es => 1 + nEs es
  | .lst es => 1 + nEs es
  | .blk _ ss => 1 + nSs ss
  | _ => 1
def nEs : Exs → Nat
  | .nil => 0
  | .cons e r => nE e + nEs r
def nS : St_ → Nat
  | .set _ e => 1 + nE e
  | .sfl _ e => 1 + nE e
  | .pl _ e => 1 + nE e
  | .iff e a b => 1 + nE e + nSs a + nSs b
  | .whl e a => 1 + nE e + nSs a
  | .tri a _ b => 1 + nSs a + nSs b
def nSs : Sts → Nat
  | .nil => 0
  | .cons s r => nS s + nSs r
end
def cE : Exs → Nat
  | .nil => 0
  | .cons _ r => 1 + cE r
def cS : Sts → Nat
  | .nil => 0
  | .cons _ r => 1 + cS r
def isMsg (w : T) : Bool := isFree w || inS [mk [43], mk [45], mk [42], mk [47], mk [60], mk [61]] w
def isPl (w : T) : Bool := inS ["do", "say", "return", "raise"] w
mutual
def okE : Ex → Prop
  | .num n => -1000000000000 < n ∧ n < 1000000000000
  | .txt s => isText s = true
  | .nam w => isFree w = true
  | .fld w => isFree w = true
  | .new w => isKindName w = true
  | .send r m es => isMsg m = true ∧ okE r ∧ okEs es
  | .up m es => isFree m = true ∧ okEs es
  | .lst es => okEs es
  | .blk ps ss => ps.length ≤ 2 ∧ (∀ w ∈ ps, isFree w = true) ∧ okSs ss
  | _ => True
def okEs : Exs → Prop
  | .nil => True
  | .cons e r => okE e ∧ okEs r
def okS : St_ → Prop
  | .set w e => isFree w = true ∧ okE e
  | .sfl w e => isFree w = true ∧ okE e
  | .pl k e => isPl k = true ∧ okE e
  | .iff e a b => okE e ∧ okSs a ∧ okSs b
  | .whl e a => okE e ∧ okSs a
  | .tri a w b => isFree w = true ∧ okSs a ∧ okSs b
def okSs : Sts → Prop
  | .nil => True
  | .cons s r => okS s ∧ okSs r
end
/-- what words weigh in a layout -/
def wt (ws : List WB) : Nat := (ws.map fun q => q.1.length + 3).sum
theorem wt_app (a b : List WB) : wt (a ++ b) = wt a + wt b := by unfold wt; rw [List.map_append, List.sum_append]
theorem wt_cons (q : WB) (b : List WB) : wt (q :: b) = q.1.length + 3 + wt b := by unfold wt; rw [List.map_cons, List.sum_cons]
theorem wt_nil : wt [] = 0 := rfl
theorem free_len {w : T} (h : isFree w = true) : w.length ≤ 12 := by
  unfold isFree isSmall isName at h
  simp only [Bool.and_eq_true, decide_eq_true_eq] at h
  exact h.1.1.2
theorem kind_len {w : T} (h : isKindName w = true) : w.length ≤ 12 := by
  unfold isKindName isName at h
  simp only [Bool.and_eq_true, decide_eq_true_eq] at h
  exact h.1.2
theorem text_len {w : T} (h : isText w = true) : w.length ≤ 40 := by
  unfold isText at h
  simp only [Bool.and_eq_true, decide_eq_true_eq] at h
  exact h.1
theorem inS_len {zs : List Str} {w : T} {n : Nat} (hz : ∀ z ∈ zs, z.length ≤ n) (h : inS zs w = true) : w.length ≤ n := by
  unfold inS at h
  obtain ⟨z, hz1, hz2⟩ := List.any_eq_true.mp h
  have e := eq_of_beq hz2
  have := hz z hz1
  rw [e, mk_len] at this
  exact this
theorem msg_len {w : T} (h : isMsg w = true) : w.length ≤ 12 := by
  unfold isMsg at h
  rcases Bool.or_eq_true_iff.mp h with h | h
  · exact free_len h
  · have := inS_len (n := 1) (by decide +kernel) h
    omega
theorem pl_len {w : T} (h : isPl w = true) : w.length ≤ 6 := inS_len (by decide +kernel) h
end My
set_option Elab.async false
set_option linter.all false
set_option maxRecDepth 100000
set_option maxHeartbeats 2000000
namespace My
open PySem L2 SS
theorem ofS_app (a b : String) : tl (Str.ofString (a ++ b)) = tl (Str.ofString a) ++ tl (Str.ofString b) := by
  rw [Str.ofString_eq_toList, Str.ofString_eq_toList, Str.ofString_eq_toList]
  show (((a ++ b).toList.map Char.toNat).toArray).toList = (a.toList.map Char.toNat).toArray.toList ++ (b.toList.map Char.toNat).toArray.toList
  simp
theorem numT_neg (m : Nat) : numT (Int.negSucc m) = 45 :: TL.numL (m + 1) := by
  have e2 : toString (Int.negSucc m) = "-" ++ toString (((m + 1 : Nat) : Nat) : Int) := rfl
  show tl (Str.ofString (toString (Int.negSucc m))) = _
  rw [e2, ofS_app]
  have e3 : tl (Str.ofString (toString ((m + 1 : Nat) : Int))) = TL.numL (m + 1) := TL.tl_num (m + 1)
  rw [e3]
  have e4 : tl (Str.ofString "-") = [45] := by decide +kernel
  rw [e4]
  rfl
theorem numT_pos (m : Nat) : numT ((m : Nat) : Int) = TL.numL m := TL.tl_num m
theorem numL_head {m : Nat} : ∃ c r, TL.numL m = c :: r ∧ 48 ≤ c ∧ c ≤ 57 := by
  cases e : TL.numL m with
  | nil => exact absurd e (TL.numL_ne m)
  | cons c r =>
    have := TL.numL_digits m c (by rw [e]; exact List.mem_cons_self)
    exact ⟨c, r, rfl, this.1, this.2⟩
/-- figures of a number are read back -/
theorem numT_back (n : Int) : numOf (numT n) = n ∧ NumText.AllDigits (figsOf (numT n)) ∧ figsOf (numT n) ≠ [] := by
  cases n with
  | ofNat m =>
    have e : numT (Int.ofNat m) = TL.numL m := TL.tl_num m
    obtain ⟨c, r, hc, h1, h2⟩ := numL_head (m := m)
    have hv := TL.numL_val m
    have hd := TL.numL_digits m
    rw [e]
    rw [hc] at hv hd ⊢
    have n45 : c ≠ 45 := by omega
    have ef : figsOf (c :: r) = c :: r := by
      unfold figsOf
      split
      · rename_i h; injection h with h; exact absurd h n45
      · rfl
    have eo : numOf (c :: r) = ((NumText.digitsVal (c :: r) : Nat) : Int) := by
      unfold numOf
      split
      · rename_i h; injection h with h; exact absurd h n45
      · rfl
    rw [ef, eo, hv]
    exact ⟨rfl, hd, by simp⟩
  | negSucc m =>
    rw [numT_neg]
    show -((NumText.digitsVal (TL.numL (m + 1)) : Nat) : Int) = _ ∧ NumText.AllDigits (TL.numL (m + 1)) ∧ TL.numL (m + 1) ≠ []
    rw [TL.numL_val]
    exact ⟨rfl, TL.numL_digits _, TL.numL_ne _⟩
theorem numT_len {n : Int} (h1 : -1000000000000 < n) (h2 : n < 1000000000000) : (numT n).length ≤ 13 := by
  cases n with
  | ofNat m =>
    have e : numT (Int.ofNat m) = TL.numL m := TL.tl_num m
    rw [e]
    have := TL.numL_len (n := m) (k := 12) (by decide) (by have : (Int.ofNat m) = (m : Int) := rfl; omega)
    omega
  | negSucc m =>
    have e := numT_neg m
    rw [e]
    have := TL.numL_len (n := m + 1) (k := 12) (by decide) (by omega)
    rw [List.length_cons]
    omega
theorem plainW_len (ps : List T) : (plainW ps).length = ps.length := List.length_map _
theorem plainW_wt : ∀ (ps : List T), (∀ w ∈ ps, isFree w = true) → wt (plainW ps) ≤ 15 * ps.length
  | [], _ => by simp [plainW, wt]
  | w :: ps, h => by
    have h1 := free_len (h w List.mem_cons_self)
    have h2 := plainW_wt ps fun x hx => h x (List.mem_cons_of_mem _ hx)
    show wt ((w, false) :: plainW ps) ≤ _
    rw [wt_cons, List.length_cons]
    show w.length + 3 + wt (plainW ps) ≤ _
    omega
theorem tkl : (tk "true").length = 4 ∧ (tk "false").length = 5 ∧ (tk "none").length = 4 ∧ (tk "self").length = 4 ∧ (tk "new").length = 3 ∧ (tk "(").length = 1 ∧ (tk ")").length = 1 ∧ (tk "up").length = 2 ∧ (tk "[").length = 1 ∧ (tk "]").length = 1 ∧ (tk "{").length = 1 ∧ (tk "}").length = 1 ∧ (tk "|").length = 1 ∧ (tk ":=").length = 2 ∧ (tk "if").length = 2 ∧ (tk "then").length = 4 ∧ (tk "else").length = 4 ∧ (tk "end").length = 3 ∧ (tk "while").length = 5 ∧ (tk "try").length = 3 ∧ (tk "taken").length = 5 := by decide +kernel
mutual
theorem wE_b : ∀ e : Ex, okE e → (wE e).length ≤ 5 * nE e ∧ wt (wE e) ≤ 44 * nE e
  | .num n, h => by
    have := numT_len h.1 h.2
    simp only [wE, nE, wt_cons, wt_nil, List.length_cons, List.length_nil]
    omega
  | .txt s, h => by
    have := text_len h
    simp only [wE, nE, wt_cons, wt_nil, List.length_cons, List.length_nil]
    omega
  | .tru true, h => by
    have := tkl
    simp only [wE, nE, wt_cons, wt_nil, List.length_cons, List.length_nil]
    omega
  | .tru false, h => by
    have := tkl
    simp only [wE, nE, wt_cons, wt_nil, List.length_cons, List.length_nil]
    omega
  | .non, h => by
    have := tkl
    simp only [wE, nE, wt_cons, wt_nil, List.length_cons, List.length_nil]
    omega
  | .slf, h => by
    have := tkl
    simp only [wE, nE, wt_cons, wt_nil, List.length_cons, List.length_nil]
    omega
  | .nam w, h => by
    have := free_len h
    simp only [wE, nE, wt_cons, wt_nil, List.length_cons, List.length_nil]
    omega
  | .fld w, h => by
    have := free_len h
    simp only [wE, nE, wt_cons, wt_nil, List.length_cons, List.length_nil]
    omega
  | .new w, h => by
    have := kind_len h
    have := tkl
    simp only [wE, nE, wt_cons, wt_nil, List.length_cons, List.length_nil]
    omega
  | .send r m es, h => by
    have h0 := msg_len h.1
    have h1 := wE_b r h.2.1
    have h2 := wEs_b es h.2.2
    have := tkl
    simp only [wE, nE, wt_cons, wt_app, wt_nil, List.length_cons, List.length_append, List.length_nil]
    omega
  | .up m es, h => by
    have h0 := free_len h.1
    have h2 := wEs_b es h.2
    have := tkl
    simp only [wE, nE, wt_cons, wt_app, wt_nil, List.length_cons, List.length_append, List.length_nil]
    omega
  | .lst es, h => by
    have h2 := wEs_b es h
    have := tkl
    simp only [wE, nE, wt_cons, wt_app, wt_nil, List.length_cons, List.length_append, List.length_nil]
    omega
  | .blk ps ss, h => by
    have h0 := h.1
    have h1 := plainW_wt ps h.2.1
    have h2 := wSs_b ss h.2.2
    have := tkl
    have := plainW_len ps
    simp only [wE, nE, wt_cons, wt_app, wt_nil, List.length_cons, List.length_append, List.length_nil]
    omega
theorem wEs_b : ∀ e : Exs, okEs e → (wEs e).length ≤ 5 * nEs e ∧ wt (wEs e) ≤ 44 * nEs e
  | .nil, _ => by simp [wEs, nEs, wt]
  | .cons e r, h => by
    have h1 := wE_b e h.1
    have h2 := wEs_b r h.2
    simp only [wEs, nEs, wt_app, List.length_append]
    omega
theorem wS_b : ∀ s : St_, okS s → (wS s).length ≤ 5 * nS s ∧ wt (wS s) ≤ 44 * nS s
  | .set w e, h => by
    have h0 := free_len h.1
    have h1 := wE_b e h.2
    have := tkl
    simp only [wS, nS, wt_cons, wt_app, wt_nil, List.length_cons, List.length_append, List.length_nil]
    omega
  | .sfl w e, h => by
    have h0 := free_len h.1
    have h1 := wE_b e h.2
    have := tkl
    simp only [wS, nS, wt_cons, wt_app, wt_nil, List.length_cons, List.length_append, List.length_nil]
    omega
  | .pl w e, h => by
    have h0 := pl_len h.1
    have h1 := wE_b e h.2
    have := tkl
    simp only [wS, nS, wt_cons, wt_app, wt_nil, List.length_cons, List.length_append, List.length_nil]
    omega
  | .iff e a b, h => by
    have h1 := wE_b e h.1
    have h2 := wSs_b a h.2.1
    have h3 := wSs_b b h.2.2
    have := tkl
    simp only [wS, nS, wt_cons, wt_app, wt_nil, List.length_cons, List.length_append, List.length_nil]
    omega
  | .whl e a, h => by
    have h1 := wE_b e h.1
    have h2 := wSs_b a h.2
    have := tkl
    simp only [wS, nS, wt_cons, wt_app, wt_nil, List.length_cons, List.length_append, List.length_nil]
    omega
  | .tri a w b, h => by
    have h1 := free_len h.1
    have h2 := wSs_b a h.2.1
    have h3 := wSs_b b h.2.2
    have := tkl
    simp only [wS, nS, wt_cons, wt_app, wt_nil, List.length_cons, List.length_append, List.length_nil]
    omega
theorem wSs_b : ∀ e : Sts, okSs e → (wSs e).length ≤ 5 * nSs e ∧ wt (wSs e) ≤ 44 * nSs e
  | .nil, _ => by simp [wSs, nSs, wt]
  | .cons e r, h => by
    have h1 := wS_b e h.1
    have h2 := wSs_b r h.2
    simp only [wSs, nSs, wt_app, List.length_append]
    omega
end
end My
set_option Elab.async false
set_option linter.all false
set_option maxRecDepth 100000
set_option maxHeartbeats 2000000
namespace My
open PySem L2 SS
def Exs.snoc : Exs → Ex → Exs
  | .nil, e => .cons e .nil
  | .cons x r, e => .cons x (r.snoc e)
def Sts.snoc : Sts → St_ → Sts
  | .nil, e => .cons e .nil
  | .cons x r, e => .cons x (r.snoc e)
theorem Exs.at_snoc {H : Hp} : ∀ {es : Exs} {vs : List V} {e : Ex} {v : V}, AtEs H es vs → AtE H e v → AtEs H (es.snoc e) (vs ++ [v])
  | .nil, vs, e, v, h, he => by
    have h' : vs = [] := h
    subst h'
    exact ⟨v, [], rfl, he, rfl⟩
  | .cons x r, vs, e, v, ⟨u, us, h1, h2, h3⟩, he => by
    subst h1
    exact ⟨u, us ++ [v], rfl, h2, Exs.at_snoc h3 he⟩
theorem Sts.at_snoc {H : Hp} : ∀ {es : Sts} {vs : List V} {e : St_} {v : V}, AtSs H es vs → AtS H e v → AtSs H (es.snoc e) (vs ++ [v])
  | .nil, vs, e, v, h, he => by
    have h' : vs = [] := h
    subst h'
    exact ⟨v, [], rfl, he, rfl⟩
  | .cons x r, vs, e, v, ⟨u, us, h1, h2, h3⟩, he => by
    subst h1
    exact ⟨u, us ++ [v], rfl, h2, Sts.at_snoc h3 he⟩
theorem Exs.snoc_n : ∀ (es : Exs) (e : Ex), nEs (es.snoc e) = nEs es + nE e ∧ oEs (es.snoc e) = max (oEs es) (oE e) ∧ (okEs (es.snoc e) ↔ okEs es ∧ okE e) ∧ cE (es.snoc e) = cE es + 1 ∧ wEs (es.snoc e) = wEs es ++ wE e
  | .nil, e => by simp [Exs.snoc, nEs, oEs, okEs, cE, wEs]
  | .cons x r, e => by
    obtain ⟨h1, h2, h3, h4, h5⟩ := Exs.snoc_n r e
    simp only [Exs.snoc, nEs, oEs, okEs, cE, wEs, h1, h2, h3, h4, h5]
    refine ⟨by omega, by omega, by rw [and_assoc], by omega, by rw [List.append_assoc]⟩
theorem Sts.snoc_n : ∀ (es : Sts) (e : St_), nSs (es.snoc e) = nSs es + nS e ∧ oSs (es.snoc e) = max (oSs es) (oS e) ∧ (okSs (es.snoc e) ↔ okSs es ∧ okS e) ∧ cS (es.snoc e) = cS es + 1 ∧ wSs (es.snoc e) = wSs es ++ wS e
  | .nil, e => by simp [Sts.snoc, nSs, oSs, okSs, cS, wSs]
  | .cons x r, e => by
    obtain ⟨h1, h2, h3, h4, h5⟩ := Sts.snoc_n r e
    simp only [Sts.snoc, nSs, oSs, okSs, cS, wSs, h1, h2, h3, h4, h5]
    refine ⟨by omega, by omega, by rw [and_assoc], by omega, by rw [List.append_assoc]⟩
theorem AtEs.len {H : Hp} : ∀ {es : Exs} {vs : List V}, AtEs H es vs → vs.length = cE es
  | .nil, vs, h => by
    have h' : vs = [] := h
    subst h'
    rfl
  | .cons x r, vs, ⟨u, us, h1, h2, h3⟩ => by
    subst h1
    rw [List.length_cons, AtEs.len h3, cE]
    omega
theorem AtSs.len {H : Hp} : ∀ {es : Sts} {vs : List V}, AtSs H es vs → vs.length = cS es
  | .nil, vs, h => by
    have h' : vs = [] := h
    subst h'
    rfl
  | .cons x r, vs, ⟨u, us, h1, h2, h3⟩ => by
    subst h1
    rw [List.length_cons, AtSs.len h3, cS]
    omega
theorem AtE.on_ {H H' : Hp} {e : Ex} {v : V} (h : AtE H e v) (t : Tups H H') : AtE H' e v := AtE.on t e v h
theorem AtEs.on_ {H H' : Hp} {e : Exs} {v : List V} (h : AtEs H e v) (t : Tups H H') : AtEs H' e v := AtEs.on t e v h
theorem AtS.on_ {H H' : Hp} {e : St_} {v : V} (h : AtS H e v) (t : Tups H H') : AtS H' e v := AtS.on t e v h
theorem AtSs.on_ {H H' : Hp} {e : Sts} {v : List V} (h : AtSs H e v) (t : Tups H H') : AtSs H' e v := AtSs.on t e v h
/-- all stands but what is at p -/
def SB (p : Addr) (H H' : Hp) : Prop := ∀ b u, b ≠ p → H b = some u → H' b = some u
theorem SB.refl {p : Addr} {H : Hp} : SB p H H := fun _ _ _ h => h
theorem SB.trans {p : Addr} {H H1 H2 : Hp} (a : SB p H H1) (b : SB p H1 H2) : SB p H H2 := fun q u n h => b q u n (a q u n h)
theorem SB.same {p : Addr} {H H' : Hp} (s : Same H H') : SB p H H' := fun q u _ h => s q u h
theorem SB.upd {p : Addr} {H : Hp} (o : HO) : SB p H (upd H p o) := fun q u n h => by rw [upd_ne n]; exact h
theorem SB.tups {p : Addr} {H H' : Hp} {xs : List V} (s : SB p H H') (h : H p = some (.lst xs)) : Tups H H' := ⟨fun q ys e => s q _ (fun z => by rw [z, h] at e; cases e) e, fun q o_ u_ e => s q _ (fun z => by rw [z, h] at e; cases e) e⟩
end My
set_option Elab.async false
set_option linter.all false
set_option maxRecDepth 100000
set_option maxHeartbeats 8000000
namespace My
open PySem L2 SS
section
variable {P : Program} {w : World} {K : PySem.W.Frag} {mg : Str → Option Value} {base : Heap}
abbrev sgs36 : Str := Str.ofString "abcdefghijklmnopqrstuvwxyz0123456789"
theorem sgs_inj : ∀ i j : Fin 36, (tl sgs36)[i.val]? = (tl sgs36)[j.val]? → i = j := by decide +kernel
/-- words unlike each other: a front, a sign of its own, the rest -/
def WdI (fr : T) (ft : Nat) (ws : List T) (i : Nat) : Prop := ws.length = i ∧ ∀ j, j < i → ∃ c r, ws[j]? = some (fr ++ (c :: r)) ∧ (tl sgs36)[(ft + 5 * j) % 36]? = some c ∧ (∀ c ∈ r, c < 128) ∧ r.length < 8
theorem WdI.nil {fr : T} {ft : Nat} : WdI fr ft [] 0 := ⟨rfl, fun j h => by omega⟩
theorem WdI.snoc {fr : T} {ft : Nat} {ws : List T} {i : Nat} {c : Nat} {r : T} (h : WdI fr ft ws i) (hc : (tl sgs36)[(ft + 5 * i) % 36]? = some c) (hr : ∀ c ∈ r, c < 128) (hl : r.length < 8) : WdI fr ft (ws ++ [fr ++ (c :: r)]) (i + 1) := by
  refine ⟨by rw [List.length_append, h.1]; rfl, fun j hj => ?_⟩
  by_cases e : j < i
  · obtain ⟨c', r', h1, h2⟩ := h.2 j e
    exact ⟨c', r', by rw [List.getElem?_append_left (by rw [h.1]; exact e)]; exact h1, h2⟩
  · have ej : j = i := by omega
    subst ej
    exact ⟨c, r, by rw [List.getElem?_append_right (by rw [h.1]; omega), h.1, Nat.sub_self]; rfl, hc, hr, hl⟩
theorem sgs_low : (tl sgs36).all (fun c => decide (c < 128)) = true := by decide +kernel
theorem WdI.low {fr : T} {ft : Nat} {ws : List T} {i : Nat} (h : WdI fr ft ws i) (hf : ∀ c ∈ fr, c < 128) : ∀ w ∈ ws, ∀ c ∈ w, c < 128 := by
  intro w hw
  obtain ⟨j, hj, rfl⟩ := List.getElem_of_mem hw
  obtain ⟨c, r, h1, h2, h3, _⟩ := h.2 j (h.1 ▸ hj)
  rw [List.getElem?_eq_getElem hj] at h1
  rw [Option.some.inj h1]
  intro x hx
  rcases List.mem_append.mp hx with hx | hx
  · exact hf x hx
  · rcases List.mem_cons.mp hx with rfl | hx
    · exact of_decide_eq_true (List.all_eq_true.mp sgs_low _ (List.mem_of_getElem? h2))
    · exact h3 x hx
theorem WdI.short {fr : T} {ft : Nat} {ws : List T} {i : Nat} (h : WdI fr ft ws i) (hf : fr.length ≤ 3) : ∀ w ∈ ws, w.length ≤ 12 := by
  intro w hw
  obtain ⟨j, hj, rfl⟩ := List.getElem_of_mem hw
  obtain ⟨c, r, h1, h2, h3, h4⟩ := h.2 j (h.1 ▸ hj)
  rw [List.getElem?_eq_getElem hj] at h1
  rw [Option.some.inj h1, List.length_append, List.length_cons]
  omega
theorem WdI.nodup {fr : T} {ft : Nat} {ws : List T} {i : Nat} (h : WdI fr ft ws i) (hi : i ≤ 12) : ws.Nodup := by
  refine List.pairwise_iff_getElem.mpr fun a b ha hb hab e => ?_
  have hb' : b < i := h.1 ▸ hb
  obtain ⟨c1, r1, h1, g1, _⟩ := h.2 a (by omega)
  obtain ⟨c2, r2, h2, g2, _⟩ := h.2 b hb'
  rw [List.getElem?_eq_getElem ha] at h1
  rw [List.getElem?_eq_getElem hb] at h2
  rw [Option.some.inj h1, Option.some.inj h2] at e
  have e2 := List.append_cancel_left e
  have e3 : c1 = c2 := (List.cons.inj e2).1
  rw [e3, ← g2] at g1
  have := sgs_inj ⟨(ft + 5 * a) % 36, by omega⟩ ⟨(ft + 5 * b) % 36, by omega⟩ g1
  have := congrArg Fin.val this
  simp only at this
  omega
def spWs : Sp := fun vs H Q _ => ∃ (p l : Addr) (a : Nat) (xs : List Int) (m : Nat), vs = [.ref p, .int (m : Nat)] ∧ m ≤ 12 ∧ DkAt H p l a xs ∧ a ≤ 800000 ∧
  ∀ (ws : List T) (r : Addr) (H' : Hp) (a' : Nat) (xs' : List Int), SD p l H H' → DkAt H' p l a' xs' → a ≤ a' → a' ≤ a + 200 → H r = none → H' r = some (.lst (wsV ws)) → ws.length = m → ws.Nodup → (∀ w ∈ ws, ∀ c ∈ w, c < 128) → (∀ w ∈ ws, w.length ≤ 12) → Q (.ref r) H'
theorem scEWs : FnScope ["_law_deck_here", "_law_many", "_law_front", "_law_signs", "_law_first", "_law_k"] ["_law_deck_here", "_law_many"] (defScope sEWs) := ⟨rfl, rfl, rfl, by decide +kernel, rfl, by decide +kernel, by decide +kernel⟩
theorem c_ws (gR : mg "range" = none) (DR : C0 P w K mg base 1 "_law_draw" spDr) (WO : C0 P w K mg base 2 "_law_word" spWo) (D : Dn K mg "_law_words" sEWs) : C0 P w K mg base 3 "_law_words" spWs := by
  obtain ⟨f, fd, F, m⟩ := D.ex
  refine ⟨f, fd, ["_law_deck_here", "_law_many"], F.ok scEWs (fun vs H Q E h => ?_) (fun cdv A outer s H vs Q E hr h => ?_), m, F.kp, F.binds (ps := ["_law_deck_here", "_law_many"]) fun _ _ _ _ _ _ us hl => match us, hl with | [_, _], _ => rfl⟩
  · obtain ⟨p, l, a, xs, m, rfl, _⟩ := h
    rfl
  obtain ⟨p, l, a, xs, mm, rfl, hm12, dk, ha, kq⟩ := h
  refine ⟨_, pss_cons (ps_set (i := 2) scEWs.nd rfl (Or.inr rfl) (pe_ix (r := rIxL K) ix_list (pe_lst (pa_cons pe_str (pa_cons pe_str (pa_cons pe_str (pa_cons pe_str pa_nil))))) (pe_cc DR hr (by omega) pass0 (pa_cons (pv 0) (pa_cons pe_int pa_nil))) (fun _ _ => rfl))) <|
    pss_cons (ps_set (i := 3) scEWs.nd rfl (Or.inr rfl) pe_str) <|
    pss_cons (ps_set (i := 4) scEWs.nd rfl (Or.inr rfl) (pe_cc DR hr (by omega) pass0 (pa_cons (pv 0) (pa_cons pe_int pa_nil)))) <|
    pss_one (ps_ret (pe_lc (own := [("_law_k", 5)]) (g := gName 5) (tt := tYes) rfl scEWs.nd (pi_range1 rfl gR (pa_cons (pv 1) pa_nil))
      (blkOk_by (own := [("_law_k", 5)]) (N := ["_law_deck_here", "_law_many", "_law_front", "_law_signs", "_law_first", "_law_k"]) (sc := defScope sEWs) (by decide +kernel)) (fun _ _ _ _ _ => pg_name (i := 5) scEWs.nd rfl (Or.inl rfl)) (fun _ _ _ _ _ => pts_nil)
      (fun _ _ _ _ _ => pe_op op_add_str (pe_op op_add_str (pv 2) (pe_ix (r := rIxS) ix_str (pv 3) (pe_op op_mod (pe_op op_add (pv 4) (pe_op op_mul pe_int (pv 5))) pe_int) (fun _ _ => rfl))) (pe_cc WO hr (by omega) pass0 (pa_cons (pv 0) (pa_cons pe_str (pa_cons pe_int pa_nil))))))), ?_⟩
  refine ⟨by show 4 ≤ sizeLine; decide, fun q0 hq0 => ?_⟩
  have n0 := dk.ne hq0
  have d0 := dk.upd n0 (.lst [V.str (Str.ofString "x"), V.str (Str.ofString "zq"), V.str (Str.ofString "v0"), V.str (Str.ofString "qqq")])
  have s0 : SD p l H (upd H q0 (.lst [V.str (Str.ofString "x"), V.str (Str.ofString "zq"), V.str (Str.ofString "v0"), V.str (Str.ofString "qqq")])) := sh_new hq0 _
  refine ⟨_, rfl, p, l, a, xs, _, rfl, by decide, by decide, d0, by omega, fun n H1 xs1 s1 f1 d1 hn0 hn1 => ?_⟩
  obtain ⟨fr, hfr, hfl, hfw⟩ := pick (n := 4) (xs := [V.str (Str.ofString "x"), V.str (Str.ofString "zq"), V.str (Str.ofString "v0"), V.str (Str.ofString "qqq")]) rfl (f := V.str) (Pz := fun z => z.length ≤ 3 ∧ (tl z).all (fun c => decide (c < 128)) = true) (by
    intro v hv
    simp only [List.mem_cons, List.not_mem_nil, or_false] at hv
    rcases hv with rfl | rfl | rfl | rfl
    · exact ⟨_, rfl, by decide, by decide +kernel⟩
    · exact ⟨_, rfl, by decide, by decide +kernel⟩
    · exact ⟨_, rfl, by decide, by decide +kernel⟩
    · exact ⟨_, rfl, by decide, by decide +kernel⟩) hn0 hn1
  refine ⟨q0, _, _, _, rfl, rfl, SqL.of (s1 _ _ n0.1 n0.2 upd_same), hfr, ?_⟩
  refine ⟨_, rfl, p, l, _, xs1, _, rfl, by decide, by decide, d1, by omega, fun n2 H2 xs2 s2 f2 d2 hm0 hm1 => ?_⟩
  obtain ⟨ft, rfl⟩ := Int.eq_ofNat_of_zero_le hm0
  refine ⟨_, rfl, _, rfl, by omega, by omega, fun D0 hD0 => ?_⟩
  have nD0 := d2.ne hD0
  have hHD0 : H D0 = none := by
    cases e : H D0 with
    | none => rfl
    | some u =>
      have := s2 _ _ nD0.1 nD0.2 (s1 _ _ nD0.1 nD0.2 (s0 _ _ nD0.1 nD0.2 e))
      rw [this] at hD0
      cases hD0
  refine lc_range (lo := 0) (n := ((mm : Nat) : Int).toNat) (fun i H3 => ∃ (ws : List T) (xs3 : List Int) (a3 : Nat), SD p l H2 H3 ∧ DkAt H3 p l a3 xs3 ∧ a ≤ a3 ∧ a3 ≤ a + 2 + 8 * i ∧ H3 D0 = some (.lst (wsV ws)) ∧ WdI (tl fr) ft ws i) ⟨[], xs2, a + 1 + 1, sh_new hD0 _, d2.upd nD0 _, by omega, by omega, upd_same, .nil⟩ ?_ ?_
  · rintro i H3 hi ⟨ws, xs3, a3, s3, d3, ha3, hb3, g3, i3⟩
    have hi' : i < mm := by omega
    refine ⟨rfl, ?_⟩
    unfold tYes
    refine iteT ?_
    obtain ⟨c, hc⟩ : ∃ c, (tl sgs36)[(ft + 5 * i) % 36]? = some c := ⟨_, List.getElem?_eq_getElem (show (ft + 5 * i) % 36 < (tl sgs36).length from Nat.lt_of_lt_of_le (Nat.mod_lt _ (by decide)) (by decide +kernel))⟩
    have em : (((ft : Nat) : Int) + 5 * (0 + ((i : Nat) : Int))) % 36 = (((ft + 5 * i) % 36 : Nat) : Int) := by omega
    refine ⟨_, rfl, _, rfl, _, rfl, _, rfl, _, _, rfl, rfl, .inl ⟨by decide, by omega⟩, _, _, rfl, rfl, _, _, rfl, rfl, (by show (0 : Int) < 36; decide), sgs36, _, c, rfl, rfl, by decide +kernel, by rw [em]; exact atI_nat hc, ?_⟩
    refine ⟨fr, _, rfl, rfl, ?_, ?_⟩
    · rw [sizeLine_eq]
      show fr.length + 1 ≤ _
      omega
    refine ⟨_, rfl, p, l, a3, xs3, _, 8, rfl, by decide, by decide, by decide, d3, by omega, fun r H4 a4 xs4 s4 d4 h41 h42 hr hrw => ?_⟩
    refine ⟨_, _, rfl, rfl, ?_, ?_⟩
    · have e1 : (fr ++ (⟨#[c]⟩ : Str)).length = fr.length + 1 := by
        rw [← len_tl, show tl (fr ++ (⟨#[c]⟩ : Str)) = tl fr ++ [c] from TL.tl_append _ _, List.length_append, len_tl]
        rfl
      have e2 : (mk (tl (Str.ofString "") ++ r)).length = r.length := by
        rw [mk_len]
        rfl
      rw [e1, e2, sizeLine_eq]
      omega
    have ez : fr ++ (⟨#[c]⟩ : Str) ++ mk (tl (Str.ofString "") ++ r) = mk (tl fr ++ (c :: r)) := by
      rw [← mk_tl (fr ++ (⟨#[c]⟩ : Str) ++ mk (tl (Str.ofString "") ++ r))]
      have : tl (fr ++ (⟨#[c]⟩ : Str) ++ mk (tl (Str.ofString "") ++ r)) = tl fr ++ (c :: r) := by
        have e1 : tl (fr ++ (⟨#[c]⟩ : Str) ++ mk (tl (Str.ofString "") ++ r)) = tl (fr ++ (⟨#[c]⟩ : Str)) ++ tl (mk (tl (Str.ofString "") ++ r)) := TL.tl_append _ _
        have e2 : tl (fr ++ (⟨#[c]⟩ : Str)) = tl fr ++ [c] := TL.tl_append _ _
        rw [e1, e2]
        show tl fr ++ [c] ++ ([] ++ r) = _
        simp
      rw [this]
    rw [ez]
    refine ⟨wsV ws, s4 _ _ nD0.1 nD0.2 g3, by unfold wsV; rw [List.length_map, i3.1, sizeLine_eq]; omega, ws ++ [tl fr ++ (c :: r)], xs4, a4, SD.upd (s3.trans s4) hD0 _, d4.upd nD0 _, by omega, by omega, ?_, i3.snoc hc hrw hr⟩
    rw [upd_same]
    unfold wsV
    rw [List.map_append]
    rfl
  rintro H3 ⟨ws, xs3, a3, s3, d3, ha3, hb3, g3, i3⟩
  have hmm : ((mm : Nat) : Int).toNat = mm := by omega
  rw [hmm] at i3 hb3
  exact kq ws D0 H3 a3 xs3 (((s0.trans s1).trans s2).trans s3) d3 ha3 (by omega) hHD0 g3 i3.1 (i3.nodup hm12) (i3.low fun c hc => of_decide_eq_true (List.all_eq_true.mp hfw c hc)) (i3.short (by rw [len_tl]; exact hfl))
end
end My
set_option Elab.async false
set_option linter.all false
set_option maxRecDepth 100000
set_option maxHeartbeats 8000000
namespace My
open PySem L2 SS
/-! methods; rows of values -/
structure Me where
  m : List Nat
  ps : List (List Nat)
  ss : Sts
def AtM (H : Hp) (m : Me) (v : V) : Prop := ∃ p vw q xs, v = .ref p ∧ H p = some (.tup [S_ "method", .str (mk m.m), vw, .ref q]) ∧ AtW H m.ps vw ∧ H q = some (.tup xs) ∧ AtSs H m.ss xs
theorem AtM.on {H H' : Hp} (t : Tups H H') {m : Me} {v : V} (h : AtM H m v) : AtM H' m v := by
  obtain ⟨p, vw, q, xs, e, h1, h2, h3, h4⟩ := h
  exact ⟨p, vw, q, xs, e, t _ _ h1, h2.on t, t _ _ h3, h4.on_ t⟩
/-- a row of things in a row of values -/
def AtL {α : Type} (R : Hp → α → V → Prop) (H : Hp) : List α → List V → Prop
  | [], vs => vs = []
  | x :: r, vs => ∃ v us, vs = v :: us ∧ R H x v ∧ AtL R H r us
theorem AtL.snoc {α : Type} {R : Hp → α → V → Prop} {H : Hp} : ∀ {xs : List α} {vs : List V} {x : α} {v : V}, AtL R H xs vs → R H x v → AtL R H (xs ++ [x]) (vs ++ [v])
  | [], vs, x, v, h, hx => by
    have h' : vs = [] := h
    subst h'
    exact ⟨v, [], rfl, hx, rfl⟩
  | y :: r, vs, x, v, ⟨u, us, h1, h2, h3⟩, hx => by
    subst h1
    exact ⟨u, us ++ [v], rfl, h2, AtL.snoc h3 hx⟩
theorem AtL.onR {α : Type} {R : Hp → α → V → Prop} {H H' : Hp} (hR : ∀ x v, R H x v → R H' x v) : ∀ {xs : List α} {vs : List V}, AtL R H xs vs → AtL R H' xs vs
  | [], vs, h => h
  | y :: r, vs, ⟨u, us, h1, h2, h3⟩ => ⟨u, us, h1, hR y u h2, AtL.onR hR h3⟩
theorem AtL.on {α : Type} {R : Hp → α → V → Prop} {H H' : Hp} (_ : Tups H H') (hR : ∀ x v, R H x v → R H' x v) {xs : List α} {vs : List V} (h : AtL R H xs vs) : AtL R H' xs vs := AtL.onR hR h
theorem AtL.len {α : Type} {R : Hp → α → V → Prop} {H : Hp} : ∀ {xs : List α} {vs : List V}, AtL R H xs vs → vs.length = xs.length
  | [], vs, h => by
    have h' : vs = [] := h
    subst h'
    rfl
  | y :: r, vs, ⟨u, us, h1, h2, h3⟩ => by
    subst h1
    rw [List.length_cons, List.length_cons, AtL.len h3]
/-! the machine's rows -/
abbrev Rw := List V
abbrev iV (n : Nat) : V := V.int (n : Nat)
/-- how many surroundings outward a name stands, and its number there -/
def findN (w : T) : List (List T) → Nat × Nat
  | [] => (0, 0)
  | ps :: r => if w ∈ ps then (0, ps.idxOf w) else ((findN w r).1 + 1, (findN w r).2)
mutual
def rwE (sur : List (List T)) : Ex → Nat → List Rw
  | .num n, a => [[iV a, S_ "push", .int n]]
  | .txt s, a => [[iV a, S_ "push", .str (mk s)]]
  | .tru b, a => [[iV a, S_ "push", .bl b]]
  | .non, a => [[iV a, S_ "push", .non]]
  | .slf, a => [[iV a, S_ "self"]]
  | .nam w, a => [[iV a, S_ "name", iV (findN w sur).1, iV (findN w sur).2]]
  | .fld w, a => [[iV a, S_ "field", .str (mk w)]]
  | .new w, a => [[iV a, S_ "new", .str (mk w)]]
  | .send r m es, a => rwE sur r (a + 1) ++ rwEs sur es (a + 1 + nE r) ++ [[iV a, S_ "send", .str (mk m), iV (cE es)]]
  | .up m es, a => rwEs sur es (a + 1) ++ [[iV a, S_ "up", .str (mk m), iV (cE es)]]
  | .lst es, a => rwEs sur es (a + 1) ++ [[iV a, S_ "list", iV (cE es)]]
  | .blk _ _, a => [[iV a, S_ "block", iV a]]
def rwEs (sur : List (List T)) : Exs → Nat → List Rw
  | .nil, _ => []
  | .cons e r, a => rwE sur e a ++ rwEs sur r (a + nE e)
end
def plW (k : T) : T := if k = tk "do" then tk "drop" else k
mutual
/-- the rows of a statement with number a, from row o on -/
def rwS (sur : List (List T)) : St_ → Nat → Nat → List Rw
  | .set w e, a, _ => [[iV a, S_ "beat"]] ++ rwE sur e (a + 1) ++ [[iV a, S_ "setname", iV (findN w sur).1, iV (findN w sur).2]]
  | .sfl w e, a, _ => [[iV a, S_ "beat"]] ++ rwE sur e (a + 1) ++ [[iV a, S_ "setfield", .str (mk w)]]
  | .pl k e, a, _ => [[iV a, S_ "beat"]] ++ rwE sur e (a + 1) ++ [[iV a, .str (mk (plW k))]]
  | .iff e x y, a, o =>
    let E := rwE sur e (a + 1)
    let X := rwSs sur x (a + 1 + nE e) (o + 2 + E.length)
    let Y := rwSs sur y (a + 1 + nE e + nSs x) (o + 3 + E.length + X.length)
    [[iV a, S_ "beat"]] ++ E ++ [[iV a, S_ "unless", iV (o + 3 + E.length + X.length)]] ++ X ++ [[iV a, S_ "jump", iV (o + 3 + E.length + X.length + Y.length)]] ++ Y
  | .whl e x, a, o =>
    let E := rwE sur e (a + 1)
    let X := rwSs sur x (a + 1 + nE e) (o + 2 + E.length)
    [[iV a, S_ "beat"]] ++ E ++ [[iV a, S_ "unless", iV (o + 3 + E.length + X.length)]] ++ X ++ [[iV a, S_ "jump", iV o]]
  | .tri x w y, a, o =>
    let X := rwSs sur x (a + 1) (o + 2)
    let Y := rwSs sur y (a + 1 + nSs x) (o + 5 + X.length)
    [[iV a, S_ "beat"], [iV a, S_ "try", iV (o + 4 + X.length)]] ++ X ++ [[iV a, S_ "untry"], [iV a, S_ "jump", iV (o + 5 + X.length + Y.length)], [iV a, S_ "setname", iV (findN w sur).1, iV (findN w sur).2]] ++ Y
def rwSs (sur : List (List T)) : Sts → Nat → Nat → List Rw
  | .nil, _, _ => []
  | .cons s r, a, o => rwS sur s a o ++ rwSs sur r (a + nS s) (o + (rwS sur s a o).length)
end
/-- a row as a tuple -/
def AtRw (H : Hp) (r : Rw) (v : V) : Prop := ∃ p, v = .ref p ∧ H p = some (.tup r)
theorem AtRw.on {H H' : Hp} {r : Rw} {v : V} (t : Tups H H') (h : AtRw H r v) : AtRw H' r v := by
  obtain ⟨p, e, h⟩ := h
  exact ⟨p, e, t _ _ h⟩
/-! names of a method: parameters, then what is set or taken, in the order of nodes, but for what a block around has -/
mutual
def stE (hid : List T) : Ex → List T
  | .send r _ es => stE hid r ++ stEs hid es
  | .up _ es => stEs hid es
  | .lst es => stEs hid es
  | .blk ps ss => stSs (ps ++ hid) ss
  | _ => []
def stEs (hid : List T) : Exs → List T
  | .nil => []
  | .cons e r => stE hid e ++ stEs hid r
def stS (hid : List T) : St_ → List T
  | .set w e => (if w ∈ hid then [] else [w]) ++ stE hid e
  | .sfl _ e => stE hid e
  | .pl _ e => stE hid e
  | .iff e a b => stE hid e ++ stSs hid a ++ stSs hid b
  | .whl e a => stE hid e ++ stSs hid a
  | .tri a w b => (if w ∈ hid then [] else [w]) ++ stSs hid a ++ stSs hid b
def stSs (hid : List T) : Sts → List T
  | .nil => []
  | .cons s r => stS hid s ++ stSs hid r
end
def addW (acc : List T) (ws : List T) : List T := ws.foldl (fun acc w => if w ∈ acc then acc else acc ++ [w]) acc
def namesM (m : Me) : List T := addW m.ps (stSs [] m.ss)
/-- the machine's rows of a method -/
def rowsM (m : Me) : List Rw := rwSs [namesM m] m.ss 0 0 ++ [[V.int (-1), S_ "push", .non], [V.int (-1), S_ "return"]]
/-! names stand -/
def inSur (w : T) (sur : List (List T)) : Prop := ∃ ns ∈ sur, w ∈ ns
mutual
def sdE (sur : List (List T)) : Ex → Prop
  | .num n => -1000000000000 < n ∧ n < 1000000000000
  | .txt s => s.length ≤ 40
  | .nam w => inSur w sur
  | .send r _ es => sdE sur r ∧ sdEs sur es
  | .up _ es => sdEs sur es
  | .lst es => sdEs sur es
  | .blk ps ss => ps.Nodup ∧ ps.length ≤ 4 ∧ sdSs (ps :: sur) ss
  | _ => True
def sdEs (sur : List (List T)) : Exs → Prop
  | .nil => True
  | .cons e r => sdE sur e ∧ sdEs sur r
def sdS (sur : List (List T)) : St_ → Prop
  | .set w e => inSur w sur ∧ sdE sur e
  | .sfl _ e => sdE sur e
  | .pl k e => isPl k = true ∧ sdE sur e
  | .iff e a b => sdE sur e ∧ sdSs sur a ∧ sdSs sur b
  | .whl e a => sdE sur e ∧ sdSs sur a
  | .tri a w b => inSur w sur ∧ sdSs sur a ∧ sdSs sur b
def sdSs (sur : List (List T)) : Sts → Prop
  | .nil => True
  | .cons s r => sdS sur s ∧ sdSs sur r
end
/-- a method whose rows can be told -/
structure okR (m : Me) : Prop where
  pd : m.ps.Nodup
  pl : m.ps.length ≤ 4
  ss : sdSs [namesM m] m.ss
  n : nSs m.ss ≤ 1000
  o : oSs m.ss ≤ 13
/-- rows_of, of the method itself -/
def spRo : Sp := fun vs H Q _ => ∃ (m : Me) (v : V), vs = [v, .int (-1)] ∧ AtM H m v ∧ okR m ∧ ∀ (H' : Hp) (p : Addr) (us : List V), Same H H' → H' p = some (.tup us) → AtL AtRw H' (rowsM m) us → Q (.ref p) H'
end My
set_option Elab.async false
set_option linter.all false
set_option maxRecDepth 100000
set_option maxHeartbeats 8000000
namespace My
open PySem L2 SS
/-! es without blocks, by names that are there -/
mutual
def gE (ns : List T) : Ex → Prop
  | .num n => -1000000000000 < n ∧ n < 1000000000000
  | .txt s => s.length ≤ 40
  | .nam w => w ∈ ns
  | .send r _ es => gE ns r ∧ gEs ns es
  | .up _ es => gEs ns es
  | .lst es => gEs ns es
  | .blk _ _ => False
  | _ => True
def gEs (ns : List T) : Exs → Prop
  | .nil => True
  | .cons e r => gE ns e ∧ gEs ns r
end
theorem gEs.snoc {ns : List T} : ∀ {es : Exs} {e : Ex}, gEs ns es → gE ns e → gEs ns (es.snoc e)
  | .nil, e, _, h => ⟨h, trivial⟩
  | .cons x r, e, ⟨h1, h2⟩, h => ⟨h1, gEs.snoc h2 h⟩
theorem wsV_at {ws : List T} {d : Int} (h0 : 0 ≤ d) (h1 : d < ((ws.length : Nat) : Int)) : ∃ w, w ∈ ws ∧ atI (wsV ws) d = some (.str (mk w)) := by
  obtain ⟨k, rfl⟩ := Int.eq_ofNat_of_zero_le h0
  have hk : k < ws.length := by omega
  exact ⟨ws[k], List.getElem_mem hk, atI_nat (by unfold wsV; rw [List.getElem?_map, List.getElem?_eq_getElem hk]; rfl)⟩
mutual
theorem rwE_len {ns : List T} {sur : List (List T)} : ∀ (e : Ex) (a : Nat), gE ns e → (rwE sur e a).length = nE e
  | .num _, _, _ => rfl
  | .txt _, _, _ => rfl
  | .tru _, _, _ => rfl
  | .non, _, _ => rfl
  | .slf, _, _ => rfl
  | .nam _, _, _ => rfl
  | .fld _, _, _ => rfl
  | .new _, _, _ => rfl
  | .send r m es, a, h => by
    show (rwE sur r (a + 1) ++ rwEs sur es (a + 1 + nE r) ++ [_]).length = 1 + nE r + nEs es
    rw [List.length_append, List.length_append, rwE_len r _ h.1, rwEs_len es _ h.2]
    show nE r + nEs es + 1 = _
    omega
  | .up m es, a, h => by
    show (rwEs sur es (a + 1) ++ [_]).length = 1 + nEs es
    rw [List.length_append, rwEs_len es _ h]
    show nEs es + 1 = _
    omega
  | .lst es, a, h => by
    show (rwEs sur es (a + 1) ++ [_]).length = 1 + nEs es
    rw [List.length_append, rwEs_len es _ h]
    show nEs es + 1 = _
    omega
  | .blk _ _, _, h => h.elim
theorem rwEs_len {ns : List T} {sur : List (List T)} : ∀ (es : Exs) (a : Nat), gEs ns es → (rwEs sur es a).length = nEs es
  | .nil, _, _ => rfl
  | .cons e r, a, h => by
    show (rwE sur e a ++ rwEs sur r (a + nE e)).length = nE e + nEs r
    rw [List.length_append, rwE_len e _ h.1, rwEs_len r _ h.2]
end
theorem rwEs_snoc {sur : List (List T)} : ∀ (es : Exs) (e : Ex) (a : Nat), rwEs sur (es.snoc e) a = rwEs sur es a ++ rwE sur e (a + nEs es)
  | .nil, e, a => by
    show rwE sur e a ++ [] = [] ++ rwE sur e (a + 0)
    rw [List.append_nil, List.nil_append, Nat.add_zero]
  | .cons x r, e, a => by
    show rwE sur x a ++ rwEs sur (r.snoc e) (a + nE x) = rwE sur x a ++ rwEs sur r (a + nE x) ++ rwE sur e (a + (nE x + nEs r))
    rw [rwEs_snoc r e (a + nE x), List.append_assoc, Nat.add_assoc]
/-- the first of es -/
def Exs.take : Nat → Exs → Exs
  | 0, _ => .nil
  | _ + 1, .nil => .nil
  | n + 1, .cons e r => .cons e (r.take n)
theorem Exs.take_snoc : ∀ (es : Exs) (i : Nat) {vs : List V} {v : V} {H : Hp}, AtEs H es vs → vs[i]? = some v → ∃ e, AtE H e v ∧ es.take (i + 1) = (es.take i).snoc e ∧ nEs (es.take i) + nE e ≤ nEs es ∧ oE e ≤ oEs es ∧ ∀ ns, gEs ns es → gE ns e
  | .nil, i, vs, v, H, h, hv => by
    have h' : vs = [] := h
    subst h'
    cases i <;> cases hv
  | .cons e r, 0, vs, v, H, ⟨u, us, e1, h1, h2⟩, hv => by
    subst e1
    cases hv
    exact ⟨e, h1, by cases r <;> rfl, by show 0 + nE e ≤ nE e + nEs r; omega, by show oE e ≤ max (oE e) (oEs r); omega, fun ns g => g.1⟩
  | .cons e r, i + 1, vs, v, H, ⟨u, us, e1, h1, h2⟩, hv => by
    subst e1
    obtain ⟨x, g1, g2, g3, g4, g5⟩ := Exs.take_snoc r i h2 hv
    exact ⟨x, g1, by show Exs.cons e (r.take (i + 1)) = Exs.cons e ((r.take i).snoc x); rw [g2], by show nE e + nEs (r.take i) + nE x ≤ nE e + nEs r; omega, by show oE x ≤ max (oE e) (oEs r); omega, fun ns g => g5 ns g.2⟩
theorem Exs.take_all : ∀ (es : Exs) {vs : List V} {H : Hp}, AtEs H es vs → es.take vs.length = es
  | .nil, vs, H, h => by
    have h' : vs = [] := h
    subst h'
    rfl
  | .cons e r, vs, H, ⟨u, us, e1, h1, h2⟩ => by
    subst e1
    show Exs.cons e (r.take us.length) = _
    rw [Exs.take_all r h2]
theorem put_row {H H1 : Hp} {fl q : Addr} {us : List V} {rows : List Rw} {r : Rw} (s1 : SB fl H H1) (f1 : H1 fl = some (.lst us)) (at1 : AtL AtRw H1 rows us) (hq : H1 q = none) :
    (upd H1 q (.tup r)) fl = some (.lst us) ∧ SB fl H (upd (upd H1 q (.tup r)) fl (.lst (us ++ [.ref q]))) ∧ AtL AtRw (upd (upd H1 q (.tup r)) fl (.lst (us ++ [.ref q]))) (rows ++ [r]) (us ++ [.ref q]) := by
  have nq : q ≠ fl := fun z => by rw [z, f1] at hq; cases hq
  have st := same_new hq (.tup r)
  have f2 := st _ _ f1
  have tt : Tups H1 (upd (upd H1 q (.tup r)) fl (.lst (us ++ [.ref q]))) := (same_tups st).trans (tups_lst f2)
  exact ⟨f2, s1.trans ((SB.same st).trans (SB.upd _)), (AtL.onR (fun _ _ z => AtRw.on tt z) at1).snoc ⟨q, rfl, by rw [upd_ne nq]; exact upd_same⟩⟩
theorem cut4 (ws : List T) : cutV (wsV ws) (some 4) none = wsV (ws.drop 4) := by
  unfold cutV
  have e : HT.sIx (wsV ws).length 0 (some 4) = min 4 ws.length := by
    have := HT.sIx_nat (wsV ws).length 0 4
    rw [show ((4 : Nat) : Int) = 4 from rfl] at this
    rw [this]
    unfold wsV
    rw [List.length_map]
  rw [e, HT.sIx_none]
  unfold wsV
  rw [List.length_map, ← List.map_drop, ← List.map_take]
  congr 1
  by_cases h : 4 ≤ ws.length
  · rw [Nat.min_eq_left h]
    exact List.take_of_length_le (by rw [List.length_drop]; omega)
  · rw [Nat.min_eq_right (by omega), Nat.sub_self, List.take_zero, List.drop_eq_nil_of_le (by omega)]
theorem wsV_idx {ns : List T} {z : T} (hz : z ∈ ns) : (wsV ns)[ns.idxOf z]? = some (.str (mk z)) ∧ ∀ (m : Nat) (z' : V), m < ns.idxOf z → (wsV ns)[m]? = some z' → eqV z' (.str (mk z)) = false := by
  have hlt : ns.idxOf z < ns.length := List.idxOf_lt_length_of_mem hz
  refine ⟨?_, fun m z' hm h => ?_⟩
  · unfold wsV
    rw [List.getElem?_map, List.getElem?_eq_getElem hlt, List.getElem_idxOf]
    rfl
  · unfold wsV at h
    have hm' : m < ns.length := by omega
    rw [List.getElem?_map, List.getElem?_eq_getElem hm'] at h
    cases Option.some.inj h
    show (mk ns[m] == mk z) = false
    have hne : ns[m] ≠ z := fun e => by
      have := List.not_of_lt_findIdx (show m < ns.findIdx (· == z) from hm)
      simp [e] at this
    exact beq_false_of_ne fun e => hne (by have := congrArg tl e; simpa using this)
theorem wsV_flat (ns : List T) : (wsV ns).all flatV = true := by
  unfold wsV
  rw [List.all_map, List.all_eq_true]
  intro x _
  rfl
theorem gEs.take {ns : List T} : ∀ {es : Exs} (i : Nat), gEs ns es → gEs ns (es.take i)
  | .nil, 0, h => trivial
  | .nil, i + 1, h => trivial
  | .cons e r, 0, h => trivial
  | .cons e r, i + 1, h => ⟨h.1, gEs.take i h.2⟩
/-- a plain worth -/
inductive Pln : V → Prop
  | int (i : Int) : Pln (.int i)
  | str (s : Str) : Pln (.str s)
  | bl (b : Bool) : Pln (.bl b)
  | non : Pln .non
/-- tuples alike, so deep, of plain worths -/
def EqD (H : Hp) : Nat → V → V → Prop
  | 0, x, y => x = y ∧ Pln x
  | d + 1, x, y => ∃ p q xs ys, x = .ref p ∧ y = .ref q ∧ H p = some (.tup xs) ∧ H q = some (.tup ys) ∧ xs.length = ys.length ∧ ys.length ≤ 5000 ∧ ∀ (i : Nat) (u v : V), xs[i]? = some u → ys[i]? = some v → EqD H d u v
theorem EqD.on {H H' : Hp} (t : Tups H H') : ∀ (d : Nat) (x y : V), EqD H d x y → EqD H' d x y
  | 0, _, _, h => h
  | d + 1, _, _, ⟨p, q, xs, ys, e1, e2, h1, h2, h3, h4, h5⟩ => ⟨p, q, xs, ys, e1, e2, t _ _ h1, t _ _ h2, h3, h4, fun i u v a b => EqD.on t d u v (h5 i u v a b)⟩
mutual
theorem gE_st {ns hid : List T} : ∀ (e : Ex), gE ns e → stE hid e = []
  | .num _, _ => rfl
  | .txt _, _ => rfl
  | .tru _, _ => rfl
  | .non, _ => rfl
  | .slf, _ => rfl
  | .nam _, _ => rfl
  | .fld _, _ => rfl
  | .new _, _ => rfl
  | .send r m es, h => by
    show stE hid r ++ stEs hid es = []
    rw [gE_st r h.1, gEs_st es h.2]
    rfl
  | .up m es, h => gEs_st es h
  | .lst es, h => gEs_st es h
  | .blk _ _, h => h.elim
theorem gEs_st {ns hid : List T} : ∀ (es : Exs), gEs ns es → stEs hid es = []
  | .nil, _ => rfl
  | .cons e r, h => by
    show stE hid e ++ stEs hid r = []
    rw [gE_st e h.1, gEs_st r h.2]
    rfl
end
mutual
theorem gE_sd {ns : List T} : ∀ (e : Ex), gE ns e → sdE [ns] e
  | .num _, h => h
  | .txt _, h => h
  | .tru _, _ => trivial
  | .non, _ => trivial
  | .slf, _ => trivial
  | .nam _, h => ⟨ns, List.mem_cons_self, h⟩
  | .fld _, _ => trivial
  | .new _, _ => trivial
  | .send r m es, h => ⟨gE_sd r h.1, gEs_sd es h.2⟩
  | .up m es, h => gEs_sd es h
  | .lst es, h => gEs_sd es h
  | .blk _ _, h => h.elim
theorem gEs_sd {ns : List T} : ∀ (es : Exs), gEs ns es → sdEs [ns] es
  | .nil, _ => trivial
  | .cons e r, h => ⟨gE_sd e h.1, gEs_sd r h.2⟩
end
/-- rows of plain worths -/
def PlR (rows : List Rw) : Prop := ∀ r ∈ rows, r.length ≤ 5 ∧ ∀ x ∈ r, Pln x
theorem PlR.app {a b : List Rw} (h : PlR a) (k : PlR b) : PlR (a ++ b) := fun r hr => (List.mem_append.mp hr).elim (h r) (k r)
theorem PlR.one {r : Rw} (h : r.length ≤ 5) (k : ∀ x ∈ r, Pln x) : PlR [r] := fun q hq => by
  have : q = r := by simpa using hq
  subst this
  exact ⟨h, k⟩
theorem PlR.nil : PlR [] := fun r h => by cases h
theorem pl_nil : ∀ x ∈ ([] : List V), Pln x := fun x h => by cases h
theorem pl_cons {y : V} {r : List V} (h : Pln y) (k : ∀ x ∈ r, Pln x) : ∀ x ∈ y :: r, Pln x := fun x hx => by
  rcases List.mem_cons.mp hx with rfl | hx
  · exact h
  · exact k x hx
mutual
theorem rwE_pln {sur : List (List T)} : ∀ (e : Ex) (a : Nat), PlR (rwE sur e a)
  | .num _, _ => .one (show (3 : Nat) ≤ 5 by decide) (pl_cons (.int _) (pl_cons (.str _) (pl_cons (.int _) pl_nil)))
  | .txt _, _ => .one (show (3 : Nat) ≤ 5 by decide) (pl_cons (.int _) (pl_cons (.str _) (pl_cons (.str _) pl_nil)))
  | .tru _, _ => .one (show (3 : Nat) ≤ 5 by decide) (pl_cons (.int _) (pl_cons (.str _) (pl_cons (.bl _) pl_nil)))
  | .non, _ => .one (show (3 : Nat) ≤ 5 by decide) (pl_cons (.int _) (pl_cons (.str _) (pl_cons .non pl_nil)))
  | .slf, _ => .one (show (2 : Nat) ≤ 5 by decide) (pl_cons (.int _) (pl_cons (.str _) pl_nil))
  | .nam _, _ => .one (show (4 : Nat) ≤ 5 by decide) (pl_cons (.int _) (pl_cons (.str _) (pl_cons (.int _) (pl_cons (.int _) pl_nil))))
  | .fld _, _ => .one (show (3 : Nat) ≤ 5 by decide) (pl_cons (.int _) (pl_cons (.str _) (pl_cons (.str _) pl_nil)))
  | .new _, _ => .one (show (3 : Nat) ≤ 5 by decide) (pl_cons (.int _) (pl_cons (.str _) (pl_cons (.str _) pl_nil)))
  | .send r m es, a => ((rwE_pln r _).app (rwEs_pln es _)).app (.one (show (4 : Nat) ≤ 5 by decide) (pl_cons (.int _) (pl_cons (.str _) (pl_cons (.str _) (pl_cons (.int _) pl_nil)))))
  | .up m es, a => (rwEs_pln es _).app (.one (show (4 : Nat) ≤ 5 by decide) (pl_cons (.int _) (pl_cons (.str _) (pl_cons (.str _) (pl_cons (.int _) pl_nil)))))
  | .lst es, a => (rwEs_pln es _).app (.one (show (3 : Nat) ≤ 5 by decide) (pl_cons (.int _) (pl_cons (.str _) (pl_cons (.int _) pl_nil))))
  | .blk _ _, _ => .one (show (3 : Nat) ≤ 5 by decide) (pl_cons (.int _) (pl_cons (.str _) (pl_cons (.int _) pl_nil)))
theorem rwEs_pln {sur : List (List T)} : ∀ (es : Exs) (a : Nat), PlR (rwEs sur es a)
  | .nil, _ => .nil
  | .cons e r, a => (rwE_pln e a).app (rwEs_pln r _)
end
theorem AtL.at {α : Type} {R : Hp → α → V → Prop} {H : Hp} : ∀ {xs : List α} {vs : List V} {i : Nat} {v : V}, AtL R H xs vs → vs[i]? = some v → ∃ x, xs[i]? = some x ∧ R H x v
  | [], vs, i, v, h, hv => by
    have h' : vs = [] := h
    subst h'
    cases hv
  | y :: r, vs, 0, v, ⟨u, us, h1, h2, h3⟩, hv => by
    subst h1
    cases hv
    exact ⟨y, rfl, h2⟩
  | y :: r, vs, i + 1, v, ⟨u, us, h1, h2, h3⟩, hv => by
    subst h1
    exact AtL.at (i := i) h3 hv
theorem eq_rows {H : Hp} {p q : Addr} {us vs : List V} {rows : List Rw} (hp : H p = some (.tup us)) (hq : H q = some (.tup vs)) (h1 : AtL AtRw H rows us) (h2 : AtL AtRw H rows vs) (hl : rows.length ≤ 5000) (hr : PlR rows) : EqD H 2 (.ref p) (.ref q) := by
  refine ⟨p, q, us, vs, rfl, rfl, hp, hq, by rw [h1.len, h2.len], by rw [h2.len]; exact hl, fun i u v hu hv => ?_⟩
  obtain ⟨r, r1, p1, rfl, hp1⟩ := h1.at hu
  obtain ⟨r', r1', p2, rfl, hp2⟩ := h2.at hv
  rw [r1] at r1'
  cases r1'
  obtain ⟨g1, g2⟩ := hr r (List.mem_of_getElem? r1)
  refine ⟨p1, p2, r, r, rfl, rfl, hp1, hp2, rfl, by omega, fun j x y hx hy => ?_⟩
  rw [hx] at hy
  cases hy
  exact ⟨rfl, g2 x (List.mem_of_getElem? hx)⟩
theorem plW_at (z : T) : atI [S_ "drop", V.str (mk z)] (if (!decide (V.str (mk z) = V.str (Str.ofString "do"))) = true then 1 else 0) = some (V.str (mk (plW z))) := by
  by_cases h : z = tk "do"
  · subst h
    rfl
  · have hv : ¬ V.str (mk z) = V.str (Str.ofString "do") := fun e => h (by
      have e1 := V.str.inj e
      have e2 := congrArg tl e1
      rw [tl_mk] at e2
      exact e2)
    rw [show decide (V.str (mk z) = V.str (Str.ofString "do")) = false from decide_eq_false hv]
    unfold plW
    rw [if_neg h]
    rfl
end My
set_option Elab.async false
set_option linter.all false
set_option maxRecDepth 100000
set_option maxHeartbeats 4000000
namespace My
open PySem L2 SS
/-! ### nodes: es and statements alike -/
inductive Nd : Type
  | e (x : Ex) : Nd
  | s (x : St_) : Nd
def exl : Exs → List Nd
  | .nil => []
  | .cons e r => .e e :: exl r
def stl : Sts → List Nd
  | .nil => []
  | .cons s r => .s s :: stl r
def parts : Nd → List Nd
  | .e (.send r _ es) => .e r :: exl es
  | .e (.up _ es) => exl es
  | .e (.lst es) => exl es
  | .e (.blk _ ss) => stl ss
  | .e _ => []
  | .s (.set _ e) => [.e e]
  | .s (.sfl _ e) => [.e e]
  | .s (.pl _ e) => [.e e]
  | .s (.iff e a b) => .e e :: (stl a ++ stl b)
  | .s (.whl e a) => .e e :: stl a
  | .s (.tri a _ b) => stl a ++ stl b
def isBlk : Nd → Bool
  | .e (.blk _ _) => true
  | _ => false
def hN : Nd → Nat
  | .e x => 2 * oE x + 1
  | .s x => 2 * oS x + 2
def nN : Nd → Nat
  | .e x => nE x
  | .s x => nS x
def okN : Nd → Prop
  | .e x => okE x
  | .s x => okS x
def AtN (H : Hp) : Nd → V → Prop
  | .e x, v => AtE H x v
  | .s x, v => AtS H x v
theorem AtN.on {H H' : Hp} (t : Tups H H') {n : Nd} {v : V} (h : AtN H n v) : AtN H' n v := by
  cases n with
  | e x => exact AtE.on t x v h
  | s x => exact AtS.on t x v h
theorem atl_exl {H : Hp} : ∀ {es : Exs} {xs : List V}, AtEs H es xs → AtL AtN H (exl es) xs
  | .nil, xs, h => h
  | .cons e r, xs, ⟨v, vs, h1, h2, h3⟩ => ⟨v, vs, h1, h2, atl_exl h3⟩
theorem atl_stl {H : Hp} : ∀ {ss : Sts} {xs : List V}, AtSs H ss xs → AtL AtN H (stl ss) xs
  | .nil, xs, h => h
  | .cons e r, xs, ⟨v, vs, h1, h2, h3⟩ => ⟨v, vs, h1, h2, atl_stl h3⟩
theorem AtL.get {α : Type} {R : Hp → α → V → Prop} {H : Hp} : ∀ {xs : List α} {vs : List V} {i : Nat} {v : V}, AtL R H xs vs → vs[i]? = some v → ∃ x, xs[i]? = some x ∧ R H x v
  | [], vs, i, v, h, hv => by
    have h' : vs = [] := h
    subst h'
    simp at hv
  | y :: r, vs, 0, v, ⟨u, us, h1, h2, h3⟩, hv => by
    subst h1
    simp at hv
    subst hv
    exact ⟨y, rfl, h2⟩
  | y :: r, vs, i + 1, v, ⟨u, us, h1, h2, h3⟩, hv => by
    subst h1
    obtain ⟨x, g1, g2⟩ := AtL.get (i := i) h3 (by simpa using hv)
    exact ⟨x, by simpa using g1, g2⟩
theorem AtL.get' {α : Type} {R : Hp → α → V → Prop} {H : Hp} : ∀ {xs : List α} {vs : List V} {i : Nat} {x : α}, AtL R H xs vs → xs[i]? = some x → ∃ v, vs[i]? = some v ∧ R H x v
  | [], vs, i, x, h, hx => by simp at hx
  | y :: r, vs, 0, x, ⟨u, us, h1, h2, h3⟩, hx => by
    subst h1
    simp at hx
    subst hx
    exact ⟨u, rfl, h2⟩
  | y :: r, vs, i + 1, x, ⟨u, us, h1, h2, h3⟩, hx => by
    subst h1
    obtain ⟨v, g1, g2⟩ := AtL.get' (i := i) h3 (by simpa using hx)
    exact ⟨v, by simpa using g1, g2⟩
theorem atl_app {α : Type} {R : Hp → α → V → Prop} {H : Hp} : ∀ {a b : List α} {xs ys : List V}, AtL R H a xs → AtL R H b ys → AtL R H (a ++ b) (xs ++ ys)
  | [], b, xs, ys, h, g => by
    have h' : xs = [] := h
    subst h'
    exact g
  | q :: r, b, xs, ys, ⟨v, ws, h1, h2, h3⟩, g => by
    subst h1
    exact ⟨v, ws ++ ys, rfl, h2, atl_app h3 g⟩
theorem exl_h : ∀ (es : Exs) (q : Nd), q ∈ exl es → ∃ x, q = .e x ∧ oE x ≤ oEs es ∧ (okEs es → okE x)
  | .nil, q, h => by simp [exl] at h
  | .cons e r, q, h => by
    have ho : oEs (.cons e r) = max (oE e) (oEs r) := rfl
    rcases List.mem_cons.mp h with rfl | h
    · exact ⟨e, rfl, by omega, fun k => k.1⟩
    · obtain ⟨x, h1, h2, h3⟩ := exl_h r q h
      exact ⟨x, h1, by omega, fun k => h3 k.2⟩
theorem stl_h : ∀ (ss : Sts) (q : Nd), q ∈ stl ss → ∃ x, q = .s x ∧ oS x ≤ oSs ss ∧ (okSs ss → okS x)
  | .nil, q, h => by simp [stl] at h
  | .cons e r, q, h => by
    have ho : oSs (.cons e r) = max (oS e) (oSs r) := rfl
    rcases List.mem_cons.mp h with rfl | h
    · exact ⟨e, rfl, by omega, fun k => k.1⟩
    · obtain ⟨x, h1, h2, h3⟩ := stl_h r q h
      exact ⟨x, h1, by omega, fun k => h3 k.2⟩
/-- a part is lower than its whole, and right where it is -/
theorem parts_h (n q : Nd) (h : q ∈ parts n) : hN q < hN n ∧ (okN n → okN q) := by
  cases n with
  | e x =>
    cases x with
    | send r m es =>
      have ho : oE (.send r m es) = 1 + max (oE r) (oEs es) := rfl
      rcases List.mem_cons.mp h with rfl | h
      · exact ⟨by show 2 * oE r + 1 < 2 * oE (.send r m es) + 1; omega, fun k => k.2.1⟩
      · obtain ⟨y, rfl, h2, h3⟩ := exl_h es q h
        exact ⟨by show 2 * oE y + 1 < 2 * oE (.send r m es) + 1; omega, fun k => h3 k.2.2⟩
    | up m es =>
      have ho : oE (.up m es) = 1 + oEs es := rfl
      obtain ⟨y, rfl, h2, h3⟩ := exl_h es q h
      exact ⟨by show 2 * oE y + 1 < 2 * oE (.up m es) + 1; omega, fun k => h3 k.2⟩
    | lst es =>
      have ho : oE (.lst es) = 1 + oEs es := rfl
      obtain ⟨y, rfl, h2, h3⟩ := exl_h es q h
      exact ⟨by show 2 * oE y + 1 < 2 * oE (.lst es) + 1; omega, fun k => h3 k⟩
    | blk ps ss =>
      have ho : oE (.blk ps ss) = 1 + oSs ss := rfl
      obtain ⟨y, rfl, h2, h3⟩ := stl_h ss q h
      exact ⟨by show 2 * oS y + 2 < 2 * oE (.blk ps ss) + 1; omega, fun k => h3 k.2.2⟩
    | _ => simp [parts] at h
  | s x =>
    cases x with
    | set w e =>
      obtain rfl : q = .e e := by simpa [parts] using h
      exact ⟨by show 2 * oE e + 1 < 2 * oE e + 2; omega, fun k => k.2⟩
    | sfl w e =>
      obtain rfl : q = .e e := by simpa [parts] using h
      exact ⟨by show 2 * oE e + 1 < 2 * oE e + 2; omega, fun k => k.2⟩
    | pl w e =>
      obtain rfl : q = .e e := by simpa [parts] using h
      exact ⟨by show 2 * oE e + 1 < 2 * oE e + 2; omega, fun k => k.2⟩
    | iff e a b =>
      have ho : oS (.iff e a b) = 1 + max (oE e) (max (oSs a) (oSs b)) := rfl
      rcases List.mem_cons.mp h with rfl | h
      · exact ⟨by show 2 * oE e + 1 < 2 * oS (.iff e a b) + 2; omega, fun k => k.1⟩
      · rcases List.mem_append.mp h with h | h
        · obtain ⟨y, rfl, h2, h3⟩ := stl_h a q h
          exact ⟨by show 2 * oS y + 2 < 2 * oS (.iff e a b) + 2; omega, fun k => h3 k.2.1⟩
        · obtain ⟨y, rfl, h2, h3⟩ := stl_h b q h
          exact ⟨by show 2 * oS y + 2 < 2 * oS (.iff e a b) + 2; omega, fun k => h3 k.2.2⟩
    | whl e a =>
      have ho : oS (.whl e a) = 1 + max (oE e) (oSs a) := rfl
      rcases List.mem_cons.mp h with rfl | h
      · exact ⟨by show 2 * oE e + 1 < 2 * oS (.whl e a) + 2; omega, fun k => k.1⟩
      · obtain ⟨y, rfl, h2, h3⟩ := stl_h a q h
        exact ⟨by show 2 * oS y + 2 < 2 * oS (.whl e a) + 2; omega, fun k => h3 k.2⟩
    | tri a w b =>
      have ho : oS (.tri a w b) = 1 + max (oSs a) (oSs b) := rfl
      rcases List.mem_append.mp h with h | h
      · obtain ⟨y, rfl, h2, h3⟩ := stl_h a q h
        exact ⟨by show 2 * oS y + 2 < 2 * oS (.tri a w b) + 2; omega, fun k => h3 k.2.1⟩
      · obtain ⟨y, rfl, h2, h3⟩ := stl_h b q h
        exact ⟨by show 2 * oS y + 2 < 2 * oS (.tri a w b) + 2; omega, fun k => h3 k.2.2⟩
/-! in the order of the text, each with the code in which it stands -/
def goneH : Nat → Nd → Int → Nat → List (Nd × Int)
  | 0, _, _, _ => []
  | h + 1, n, c, a => (n, c) :: (parts n).foldl (fun acc q => acc ++ goneH h q (if isBlk n = true then ((a : Nat) : Int) else c) (a + 1 + acc.length)) []
def goneL (h : Nat) (qs : List Nd) (c : Int) (a : Nat) : List (Nd × Int) := qs.foldl (fun acc q => acc ++ goneH h q c (a + acc.length)) []
theorem goneH_succ (h : Nat) (n : Nd) (c : Int) (a : Nat) : goneH (h + 1) n c a = (n, c) :: goneL h (parts n) (if isBlk n = true then ((a : Nat) : Int) else c) (a + 1) := rfl
theorem goneL_snoc (h : Nat) (qs : List Nd) (q : Nd) (c : Int) (a : Nat) : goneL h (qs ++ [q]) c a = goneL h qs c a ++ goneH h q c (a + (goneL h qs c a).length) := by
  unfold goneL
  rw [List.foldl_append]
  rfl
theorem hN_pos (n : Nd) : 1 ≤ hN n := by
  cases n with
  | e x => show 1 ≤ 2 * oE x + 1; omega
  | s x => show 1 ≤ 2 * oS x + 2; omega
/-- with enough room it is always the same -/
theorem goneH_eq : ∀ (h k : Nat) (n : Nd) (c : Int) (a : Nat), hN n ≤ h → hN n ≤ k → goneH h n c a = goneH k n c a
  | 0, k, n, c, a, h1, _ => by have := hN_pos n; omega
  | h + 1, 0, n, c, a, _, h2 => by have := hN_pos n; omega
  | h + 1, k + 1, n, c, a, h1, h2 => by
    rw [goneH_succ, goneH_succ]
    have key : ∀ (qs : List Nd) (c : Int) (a : Nat), (∀ q ∈ qs, hN q < hN n) → goneL h qs c a = goneL k qs c a := fun qs c a hq => by
      unfold goneL
      have gen : ∀ (qs : List Nd) (acc : List (Nd × Int)), (∀ q ∈ qs, hN q < hN n) → qs.foldl (fun acc q => acc ++ goneH h q c (a + acc.length)) acc = qs.foldl (fun acc q => acc ++ goneH k q c (a + acc.length)) acc := fun qs => by
        induction qs with
        | nil => intro acc _; rfl
        | cons q r ih =>
          intro acc hr
          have hq := hr q List.mem_cons_self
          rw [List.foldl_cons, List.foldl_cons, goneH_eq h k q c _ (by omega) (by omega)]
          exact ih _ fun x hx => hr x (List.mem_cons_of_mem _ hx)
      exact gen qs [] hq
    rw [key _ _ _ fun q hq => (parts_h n q hq).1]
end My
set_option Elab.async false
set_option linter.all false
set_option maxRecDepth 100000
set_option maxHeartbeats 4000000
namespace My
open PySem L2 SS
/-! ### names: what is set or taken where no block around hides it -/
mutual
def gdE : Ex → Prop
  | .send r _ es => gdE r ∧ gdEs es
  | .up _ es => gdEs es
  | .lst es => gdEs es
  | .blk ps ss => ps.length ≤ 10 ∧ gdSs ss
  | _ => True
def gdEs : Exs → Prop
  | .nil => True
  | .cons e r => gdE e ∧ gdEs r
def gdS : St_ → Prop
  | .set _ e => gdE e
  | .sfl _ e => gdE e
  | .pl k e => isPl k = true ∧ gdE e
  | .iff e a b => gdE e ∧ gdSs a ∧ gdSs b
  | .whl e a => gdE e ∧ gdSs a
  | .tri a _ b => gdSs a ∧ gdSs b
def gdSs : Sts → Prop
  | .nil => True
  | .cons s r => gdS s ∧ gdSs r
end
mutual
theorem ok_gdE : ∀ e : Ex, okE e → gdE e
  | .send r m es, h => ⟨ok_gdE r h.2.1, ok_gdEs es h.2.2⟩
  | .up m es, h => ok_gdEs es h.2
  | .lst es, h => ok_gdEs es h
  | .blk ps ss, h => ⟨by have := h.1; omega, ok_gdSs ss h.2.2⟩
  | .num _, _ => trivial
  | .txt _, _ => trivial
  | .tru _, _ => trivial
  | .non, _ => trivial
  | .slf, _ => trivial
  | .nam _, _ => trivial
  | .fld _, _ => trivial
  | .new _, _ => trivial
theorem ok_gdEs : ∀ e : Exs, okEs e → gdEs e
  | .nil, _ => trivial
  | .cons e r, h => ⟨ok_gdE e h.1, ok_gdEs r h.2⟩
theorem ok_gdS : ∀ s : St_, okS s → gdS s
  | .set _ e, h => ok_gdE e h.2
  | .sfl _ e, h => ok_gdE e h.2
  | .pl k e, h => ⟨h.1, ok_gdE e h.2⟩
  | .iff e a b, h => ⟨ok_gdE e h.1, ok_gdSs a h.2.1, ok_gdSs b h.2.2⟩
  | .whl e a, h => ⟨ok_gdE e h.1, ok_gdSs a h.2⟩
  | .tri a _ b, h => ⟨ok_gdSs a h.2.1, ok_gdSs b h.2.2⟩
theorem ok_gdSs : ∀ e : Sts, okSs e → gdSs e
  | .nil, _ => trivial
  | .cons e r, h => ⟨ok_gdS e h.1, ok_gdSs r h.2⟩
end
def gdN : Nd → Prop
  | .e x => gdE x
  | .s x => gdS x
theorem exl_gd : ∀ (es : Exs), gdEs es → ∀ q ∈ exl es, gdN q
  | .nil, _, q, h => by simp [exl] at h
  | .cons e r, g, q, h => by
    rcases List.mem_cons.mp h with rfl | h
    · exact g.1
    · exact exl_gd r g.2 q h
theorem stl_gd : ∀ (es : Sts), gdSs es → ∀ q ∈ stl es, gdN q
  | .nil, _, q, h => by simp [stl] at h
  | .cons e r, g, q, h => by
    rcases List.mem_cons.mp h with rfl | h
    · exact g.1
    · exact stl_gd r g.2 q h
theorem parts_gd (n : Nd) (g : gdN n) : ∀ q ∈ parts n, gdN q := fun q h => by
  cases n with
  | e x =>
    cases x with
    | send r m es =>
      rcases List.mem_cons.mp h with rfl | h
      · exact g.1
      · exact exl_gd es g.2 q h
    | up m es => exact exl_gd es g q h
    | lst es => exact exl_gd es g q h
    | blk ps ss => exact stl_gd ss g.2 q h
    | _ => simp [parts] at h
  | s x =>
    cases x with
    | set w e => obtain rfl : q = .e e := by simpa [parts] using h
                 exact g
    | sfl w e => obtain rfl : q = .e e := by simpa [parts] using h
                 exact g
    | pl w e => obtain rfl : q = .e e := by simpa [parts] using h
                exact g.2
    | iff e a b =>
      rcases List.mem_cons.mp h with rfl | h
      · exact g.1
      · rcases List.mem_append.mp h with h | h
        · exact stl_gd a g.2.1 q h
        · exact stl_gd b g.2.2 q h
    | whl e a =>
      rcases List.mem_cons.mp h with rfl | h
      · exact g.1
      · exact stl_gd a g.2 q h
    | tri a w b =>
      rcases List.mem_append.mp h with h | h
      · exact stl_gd a g.1 q h
      · exact stl_gd b g.2 q h
def nameN : Nd → Option T
  | .s (.set w _) => some w
  | .s (.tri _ w _) => some w
  | _ => none
def blkP : Nd → List T
  | .e (.blk ps _) => ps
  | _ => []
def addN (n : Nd) (hid f : List T) : List T := match nameN n with
  | some w => if w ∈ hid ∨ w ∈ f then f else f ++ [w]
  | none => f
def wiH : Nat → List Nd → List T → List T → List T
  | 0, _, _, f => f
  | h + 1, qs, hid, f => qs.foldl (fun f n => wiH h (parts n) (hid ++ blkP n) (addN n hid f)) f
theorem wiH_nil (h : Nat) (hid f : List T) : wiH h [] hid f = f := by cases h <;> rfl
theorem addN_len (n : Nd) (hid f : List T) : (addN n hid f).length ≤ f.length + 1 := by
  unfold addN
  split
  · split
    · omega
    · rw [List.length_append]; exact Nat.le_refl _
  · omega
theorem exl_n : ∀ es : Exs, ((exl es).map nN).sum = nEs es
  | .nil => rfl
  | .cons e r => by
    have := exl_n r
    show nE e + ((exl r).map nN).sum = nE e + nEs r
    omega
theorem stl_n : ∀ es : Sts, ((stl es).map nN).sum = nSs es
  | .nil => rfl
  | .cons e r => by
    have := stl_n r
    show nS e + ((stl r).map nN).sum = nS e + nSs r
    omega
theorem parts_n (n : Nd) : ((parts n).map nN).sum + 1 = nN n := by
  cases n with
  | e x =>
    cases x with
    | send r m es => have := exl_n es; show (nE r + ((exl es).map nN).sum) + 1 = 1 + nE r + nEs es; omega
    | up m es => have := exl_n es; show ((exl es).map nN).sum + 1 = 1 + nEs es; omega
    | lst es => have := exl_n es; show ((exl es).map nN).sum + 1 = 1 + nEs es; omega
    | blk ps ss => have := stl_n ss; show ((stl ss).map nN).sum + 1 = 1 + nSs ss; omega
    | _ => rfl
  | s x =>
    cases x with
    | set w e => show (nE e + 0) + 1 = 1 + nE e; omega
    | sfl w e => show (nE e + 0) + 1 = 1 + nE e; omega
    | pl w e => show (nE e + 0) + 1 = 1 + nE e; omega
    | iff e a b =>
      have h1 := stl_n a
      have h2 := stl_n b
      show ((Nd.e e :: (stl a ++ stl b)).map nN).sum + 1 = 1 + nE e + nSs a + nSs b
      rw [List.map_cons, List.sum_cons, List.map_append, List.sum_append]
      show nE e + (_ + _) + 1 = _
      omega
    | whl e a => have h1 := stl_n a; show (nE e + ((stl a).map nN).sum) + 1 = 1 + nE e + nSs a; omega
    | tri a w b =>
      have h1 := stl_n a
      have h2 := stl_n b
      show ((stl a ++ stl b).map nN).sum + 1 = 1 + nSs a + nSs b
      rw [List.map_append, List.sum_append]
      omega
theorem wi_len : ∀ (h : Nat) (qs : List Nd) (hid f : List T), (wiH h qs hid f).length ≤ f.length + (qs.map nN).sum
  | 0, qs, hid, f => by show f.length ≤ _; omega
  | h + 1, qs, hid, f => by
    show (qs.foldl (fun f n => wiH h (parts n) (hid ++ blkP n) (addN n hid f)) f).length ≤ _
    induction qs generalizing f with
    | nil => simp
    | cons q r ih =>
      rw [List.foldl_cons, List.map_cons, List.sum_cons]
      have h1 := ih (wiH h (parts q) (hid ++ blkP q) (addN q hid f))
      have h2 := wi_len h (parts q) (hid ++ blkP q) (addN q hid f)
      have h3 := addN_len q hid f
      have h4 := parts_n q
      omega
theorem sum_take_le : ∀ (qs : List Nd) {i : Nat} {q : Nd}, qs[i]? = some q → ((qs.take i).map nN).sum + nN q ≤ (qs.map nN).sum
  | [], i, q, h => by simp at h
  | x :: r, 0, q, h => by
    have e : x = q := by simpa using h
    rw [e]
    show 0 + nN q ≤ nN q + (r.map nN).sum
    omega
  | x :: r, i + 1, q, h => by
    have := sum_take_le r (i := i) (q := q) (by simpa using h)
    show nN x + ((r.take i).map nN).sum + nN q ≤ nN x + (r.map nN).sum
    omega
theorem exl_len : ∀ es : Exs, (exl es).length ≤ nEs es
  | .nil => Nat.le_refl _
  | .cons e r => by
    have h1 := exl_len r
    have h2 : 1 ≤ nE e := by cases e <;> simp only [nE] <;> omega
    show (exl r).length + 1 ≤ nE e + nEs r
    omega
theorem stl_len : ∀ ss : Sts, (stl ss).length ≤ nSs ss
  | .nil => Nat.le_refl _
  | .cons e r => by
    have h1 := stl_len r
    have h2 : 1 ≤ nS e := by cases e <;> simp only [nS] <;> omega
    show (stl r).length + 1 ≤ nS e + nSs r
    omega
theorem wsV_app (a b : List T) : wsV a ++ wsV b = wsV (a ++ b) := (List.map_append ..).symm
theorem wsV_len (a : List T) : (wsV a).length = a.length := List.length_map _
theorem in_ws (w : T) (ws : List T) : inV (.str (mk w)) (wsV ws) = decide (w ∈ ws) := by
  unfold inV wsV
  rw [List.any_map]
  induction ws with
  | nil => rfl
  | cons z r ih =>
    rw [List.any_cons, ih]
    have e : ((fun y => eqV y (V.str (mk w))) ∘ fun w => V.str (mk w)) z = decide (w = z) := by
      show (mk z == mk w) = decide (w = z)
      by_cases c : w = z
      · rw [c]; simp
      · rw [decide_eq_false c]
        exact beq_eq_false_iff_ne.mpr fun h => c (congrArg tl h).symm
    rw [e]
    by_cases c : w = z
    · simp [c]
    · simp [c]
theorem flat_ws (ws : List T) : (wsV ws).all flatV = true := by
  unfold wsV
  rw [List.all_map]
  exact List.all_eq_true.mpr fun _ _ => rfl
theorem pl_cases {k : T} (h : isPl k = true) : k = tk "do" ∨ k = tk "say" ∨ k = tk "return" ∨ k = tk "raise" := by
  unfold isPl inS at h
  have e : ∀ z : Str, (z == mk k) = true → k = tl z := fun z hz => by rw [eq_of_beq hz]
  simp only [List.any_cons, List.any_nil, Bool.or_false, Bool.or_eq_true] at h
  rcases h with h | h | h | h
  · exact .inl (e _ h)
  · exact .inr (.inl (e _ h))
  · exact .inr (.inr (.inl (e _ h)))
  · exact .inr (.inr (.inr (e _ h)))
theorem in_test {K : PySem.W.Frag} {σ : L2.St} {H : Hp} {Qb : Bool → Hp → Prop} {z : Str} {zs : List V} {t : TA} (hσ : σ[1]? = some (some (V.str z))) (ht : ∀ H Q, Q zs H → t σ H Q) (hl : zs.length ≤ sizeLine) (hf : zs.all flatV = true) {b : Bool} (hb : inV (.str z) zs = b) (k : ∀ H', Same H H' → Qb b H') : tTest (tOp (rIn K false) (tVar 1) (tLst t)) σ H Qb := by
  refine ⟨_, hσ, ht _ _ ⟨hl, fun L hL => ⟨L, _, rfl, .inl (SqL.of upd_same), rfl, hf, _, rfl, ?_⟩⟩⟩
  show Qb (inV (.str z) zs) _
  rw [hb]
  exact k _ (same_new hL _)
/-- the word of a node, and its name where it has one -/
def wordN : Nd → Str
  | .e (.num _) => Str.ofString "number"
  | .e (.txt _) => Str.ofString "text"
  | .e (.tru _) => Str.ofString "truth"
  | .e .non => Str.ofString "none"
  | .e .slf => Str.ofString "self"
  | .e (.nam _) => Str.ofString "name"
  | .e (.fld _) => Str.ofString "field"
  | .e (.new _) => Str.ofString "new"
  | .e (.send _ _ _) => Str.ofString "send"
  | .e (.up _ _) => Str.ofString "up"
  | .e (.lst _) => Str.ofString "list"
  | .e (.blk _ _) => Str.ofString "block"
  | .s (.set _ _) => Str.ofString "set"
  | .s (.sfl _ _) => Str.ofString "setfield"
  | .s (.pl k _) => mk k
  | .s (.iff _ _ _) => Str.ofString "if"
  | .s (.whl _ _) => Str.ofString "while"
  | .s (.tri _ _ _) => Str.ofString "try"
def nameV (n : Nd) : V := match nameN n with
  | some w => .str (mk w)
  | none => .non
theorem name_word {H : Hp} {n : Nd} {v : V} (h : AtN H n v) (hok : gdN n) : ∃ p rest, v = .ref p ∧ H p = some (.tup (.str (wordN n) :: rest)) ∧
    ((decide (V.str (wordN n) = V.str (Str.ofString "set")) = true ∧ rest[0]? = some (nameV n)) ∨ (decide (V.str (wordN n) = V.str (Str.ofString "set")) = false ∧ decide (V.str (wordN n) = V.str (Str.ofString "try")) = true ∧ rest[1]? = some (nameV n)) ∨
     (decide (V.str (wordN n) = V.str (Str.ofString "set")) = false ∧ decide (V.str (wordN n) = V.str (Str.ofString "try")) = false ∧ nameV n = .non)) := by
  cases n with
  | e x =>
    cases x with
    | send r m es => obtain ⟨p, vr, q, xs, rfl, hp, _⟩ := h; exact ⟨p, _, rfl, hp, .inr (.inr ⟨by show decide (V.str (Str.ofString "send") = V.str (Str.ofString "set")) = false; decide +kernel, by show decide (V.str (Str.ofString "send") = V.str (Str.ofString "try")) = false; decide +kernel, rfl⟩)⟩
    | up m es => obtain ⟨p, q, xs, rfl, hp, _⟩ := h; exact ⟨p, _, rfl, hp, .inr (.inr ⟨by show decide (V.str (Str.ofString "up") = V.str (Str.ofString "set")) = false; decide +kernel, by show decide (V.str (Str.ofString "up") = V.str (Str.ofString "try")) = false; decide +kernel, rfl⟩)⟩
    | lst es => obtain ⟨p, q, xs, rfl, hp, _⟩ := h; exact ⟨p, _, rfl, hp, .inr (.inr ⟨by show decide (V.str (Str.ofString "list") = V.str (Str.ofString "set")) = false; decide +kernel, by show decide (V.str (Str.ofString "list") = V.str (Str.ofString "try")) = false; decide +kernel, rfl⟩)⟩
    | blk ps ss => obtain ⟨p, vw, q, xs, rfl, hp, _⟩ := h; exact ⟨p, _, rfl, hp, .inr (.inr ⟨by show decide (V.str (Str.ofString "block") = V.str (Str.ofString "set")) = false; decide +kernel, by show decide (V.str (Str.ofString "block") = V.str (Str.ofString "try")) = false; decide +kernel, rfl⟩)⟩
    | num n => obtain ⟨p, rfl, hp⟩ := h; exact ⟨p, _, rfl, hp, .inr (.inr ⟨by show decide (V.str (Str.ofString "number") = V.str (Str.ofString "set")) = false; decide +kernel, by show decide (V.str (Str.ofString "number") = V.str (Str.ofString "try")) = false; decide +kernel, rfl⟩)⟩
    | txt z => obtain ⟨p, rfl, hp⟩ := h; exact ⟨p, _, rfl, hp, .inr (.inr ⟨by show decide (V.str (Str.ofString "text") = V.str (Str.ofString "set")) = false; decide +kernel, by show decide (V.str (Str.ofString "text") = V.str (Str.ofString "try")) = false; decide +kernel, rfl⟩)⟩
    | tru b => obtain ⟨p, rfl, hp⟩ := h; exact ⟨p, _, rfl, hp, .inr (.inr ⟨by show decide (V.str (Str.ofString "truth") = V.str (Str.ofString "set")) = false; decide +kernel, by show decide (V.str (Str.ofString "truth") = V.str (Str.ofString "try")) = false; decide +kernel, rfl⟩)⟩
    | non => obtain ⟨p, rfl, hp⟩ := h; exact ⟨p, _, rfl, hp, .inr (.inr ⟨by show decide (V.str (Str.ofString "none") = V.str (Str.ofString "set")) = false; decide +kernel, by show decide (V.str (Str.ofString "none") = V.str (Str.ofString "try")) = false; decide +kernel, rfl⟩)⟩
    | slf => obtain ⟨p, rfl, hp⟩ := h; exact ⟨p, _, rfl, hp, .inr (.inr ⟨by show decide (V.str (Str.ofString "self") = V.str (Str.ofString "set")) = false; decide +kernel, by show decide (V.str (Str.ofString "self") = V.str (Str.ofString "try")) = false; decide +kernel, rfl⟩)⟩
    | nam z => obtain ⟨p, rfl, hp⟩ := h; exact ⟨p, _, rfl, hp, .inr (.inr ⟨by show decide (V.str (Str.ofString "name") = V.str (Str.ofString "set")) = false; decide +kernel, by show decide (V.str (Str.ofString "name") = V.str (Str.ofString "try")) = false; decide +kernel, rfl⟩)⟩
    | fld z => obtain ⟨p, rfl, hp⟩ := h; exact ⟨p, _, rfl, hp, .inr (.inr ⟨by show decide (V.str (Str.ofString "field") = V.str (Str.ofString "set")) = false; decide +kernel, by show decide (V.str (Str.ofString "field") = V.str (Str.ofString "try")) = false; decide +kernel, rfl⟩)⟩
    | new z => obtain ⟨p, rfl, hp⟩ := h; exact ⟨p, _, rfl, hp, .inr (.inr ⟨by show decide (V.str (Str.ofString "new") = V.str (Str.ofString "set")) = false; decide +kernel, by show decide (V.str (Str.ofString "new") = V.str (Str.ofString "try")) = false; decide +kernel, rfl⟩)⟩
  | s x =>
    cases x with
    | set z e => obtain ⟨p, ve, rfl, hp, _⟩ := h; exact ⟨p, _, rfl, hp, .inl ⟨by show decide (V.str (Str.ofString "set") = V.str (Str.ofString "set")) = true; decide +kernel, rfl⟩⟩
    | sfl z e => obtain ⟨p, ve, rfl, hp, _⟩ := h; exact ⟨p, _, rfl, hp, .inr (.inr ⟨by show decide (V.str (Str.ofString "setfield") = V.str (Str.ofString "set")) = false; decide +kernel, by show decide (V.str (Str.ofString "setfield") = V.str (Str.ofString "try")) = false; decide +kernel, rfl⟩)⟩
    | pl z e =>
      obtain ⟨p, ve, rfl, hp, _⟩ := h
      have hz : isPl z = true := hok.1
      refine ⟨p, _, rfl, hp, .inr (.inr ⟨?_, ?_, rfl⟩)⟩
      · show decide (V.str (mk z) = _) = false
        rcases pl_cases hz with h | h | h | h <;> (rw [h, mk_tl]; decide +kernel)
      · show decide (V.str (mk z) = _) = false
        rcases pl_cases hz with h | h | h | h <;> (rw [h, mk_tl]; decide +kernel)
    | iff e a b => obtain ⟨p, ve, q, xs, r, ys, rfl, hp, _⟩ := h; exact ⟨p, _, rfl, hp, .inr (.inr ⟨by show decide (V.str (Str.ofString "if") = V.str (Str.ofString "set")) = false; decide +kernel, by show decide (V.str (Str.ofString "if") = V.str (Str.ofString "try")) = false; decide +kernel, rfl⟩)⟩
    | whl e a => obtain ⟨p, ve, q, xs, rfl, hp, _⟩ := h; exact ⟨p, _, rfl, hp, .inr (.inr ⟨by show decide (V.str (Str.ofString "while") = V.str (Str.ofString "set")) = false; decide +kernel, by show decide (V.str (Str.ofString "while") = V.str (Str.ofString "try")) = false; decide +kernel, rfl⟩)⟩
    | tri a z b => obtain ⟨p, q, xs, r, ys, rfl, hp, _⟩ := h; exact ⟨p, _, rfl, hp, .inr (.inl ⟨by show decide (V.str (Str.ofString "try") = V.str (Str.ofString "set")) = false; decide +kernel, by show decide (V.str (Str.ofString "try") = V.str (Str.ofString "try")) = true; decide +kernel, rfl⟩)⟩
/-- one node of the walk -/
def wiS (h : Nat) (hid f : List T) (n : Nd) : List T := wiH h (parts n) (hid ++ blkP n) (addN n hid f)
def wiL (h : Nat) (qs : List Nd) (hid f : List T) : List T := qs.foldl (wiS h hid) f
theorem wiH_succ (h : Nat) (qs : List Nd) (hid f : List T) : wiH (h + 1) qs hid f = wiL h qs hid f := rfl
theorem wiL_snoc (h : Nat) (qs : List Nd) (q : Nd) (hid f : List T) : wiL h (qs ++ [q]) hid f = wiS h hid (wiL h qs hid f) q := by
  unfold wiL
  rw [List.foldl_append]
  rfl
theorem wiL_len (h : Nat) (qs : List Nd) (hid f : List T) : (wiL h qs hid f).length ≤ f.length + (qs.map nN).sum := by
  rw [← wiH_succ]
  exact wi_len _ _ _ _
end My
set_option Elab.async false
set_option linter.all false
set_option maxRecDepth 100000
set_option maxHeartbeats 4000000
namespace L2
open PySem PySem.Spec PyProof.Rows HT
/-! ### t[::-1] of a tuple -/
section
variable {prog : Program} {w : World} {A : Around} {E : Value → Shared → Prop} {s : Shared}
theorem adjust_rev (n : Nat) : Builtin.Slice.sliceAdjust none none (-1) (n : Int) = ((n : Int) - 1, -1) := rfl
theorem places_rev (n : Nat) : Builtin.Slice.slicePlaces ((n : Int) - 1) (-1) (-1) = n := by
  unfold Builtin.Slice.slicePlaces
  have h1 : ¬ ((-1 : Int) > 0) := by decide
  by_cases h : (n : Int) - 1 > -1
  · simp only [h1, if_false, h, if_true]
    rw [show (-(-1) : Int) = 1 by decide, Int.ediv_one]
    omega
  · simp only [h1, if_false, h]
    omega
theorem pick_rev (xs : Array Value) : ((List.range xs.size).filterMap fun (m : Nat) => xs[(((xs.size : Int) - 1) + (m : Int) * (-1)).toNat]?).toArray = xs.toList.reverse.toArray := by
  have e : (List.range xs.size).filterMap (fun (m : Nat) => xs[(((xs.size : Int) - 1) + (m : Int) * (-1)).toNat]?) = ((List.range xs.size).map fun k => xs.size - 1 - k).filterMap (xs[·]?) := by
    rw [List.filterMap_map]
    have gen : ∀ (l : List Nat), (∀ m ∈ l, m < xs.size) → l.filterMap (fun (m : Nat) => xs[(((xs.size : Int) - 1) + (m : Int) * (-1)).toNat]?) = l.filterMap ((xs[·]?) ∘ fun k => xs.size - 1 - k) := fun l => by
      induction l with
      | nil => intro _; rfl
      | cons m r ih =>
        intro hl
        have hm := hl m List.mem_cons_self
        have e : (((xs.size : Int) - 1) + (m : Int) * (-1)).toNat = xs.size - 1 - m := by omega
        have e2 : (xs[(((xs.size : Int) - 1) + (m : Int) * (-1)).toNat]?) = ((xs[·]?) ∘ fun k => xs.size - 1 - k) m := by rw [e]; rfl
        rw [List.filterMap_cons, List.filterMap_cons, ih fun x hx => hl x (List.mem_cons_of_mem _ hx), e2]
    exact gen _ fun m hm => List.mem_range.mp hm
  rw [e, PySem.W.krv_range, List.filterMap_reverse, PySem.W.krv_all]
theorem sliceApplied_rev {sl : Addr} {vl vu vs : Value} {n : Nat} {Q : Int × Int × Nat → Shared → Prop} (hs : s.heap.IsSliceOf sl vl vu vs) (pl : IsPart vl none) (pu : IsPart vu none) (ps : IsPart vs (some (-1)))
    (h : Q ((n : Int) - 1, -1, n) s) : wpAny (model prog w) A (Builtin.Slice.sliceApplied (.ref sl) (pure (n : Int))) Q E s := by
  obtain ⟨os, hos, hcs, hds⟩ := id hs
  unfold Builtin.Slice.sliceApplied Builtin.Slice.sliceFields
  refine wpAny_bind (wpAny_bind (wpAny_field hos hds (x := vl) rfl (wpAny_bind (wpAny_field hos hds (x := vu) rfl (wpAny_bind (wpAny_field hos hds (x := vs) rfl (wpAny_pure ?_)))))))
  refine wpAny_bind (slicePart_ ps ?_)
  show wpAny _ _ (if ((-1 : Int) == 0) = true then _ else _) _ _ s
  rw [if_neg (by decide)]
  refine wpAny_bind (slicePart_ pl (wpAny_bind (slicePart_ pu (wpAny_bind (wpAny_pure ?_)))))
  show wpAny _ _ (match Builtin.Slice.sliceAdjust none none (-1) (n : Int) with | (lo, hi) => pure (lo, (-1 : Int), Builtin.Slice.slicePlaces lo hi (-1))) _ _ s
  rw [adjust_rev n]
  show wpAny _ _ (pure ((n : Int) - 1, (-1 : Int), Builtin.Slice.slicePlaces ((n : Int) - 1) (-1) (-1))) _ _ s
  rw [places_rev]
  exact wpAny_pure h
theorem getItem_tuple_rev {t sl : Addr} {items : Array Value} {vl vu vs : Value} {Q : Value → Shared → Prop} (ht : IsTup s.heap t items) (hs : s.heap.IsSliceOf sl vl vu vs) (pl : IsPart vl none) (pu : IsPart vu none) (ps : IsPart vs (some (-1)))
    (h : Q (.ref s.heap.objs.size) { s with heap := s.heap.push { cls := .type "tuple", data := .seq items.toList.reverse.toArray } })
    (hsz : items.size ≤ sizeLine) : wpAny (model prog w) A (getItem (.ref t) (.ref sl)) Q E s := by
  have htake : sizeOk (.seq items.toList.reverse.toArray) := by
    show items.toList.reverse.toArray.size ≤ sizeLine
    rw [List.size_toArray, List.length_reverse, Array.length_toList]
    exact hsz
  obtain ⟨os, hos, hcs, hds⟩ := id hs
  have hTs : s.TypeIs (.ref sl) "slice" := ⟨os, hos, hcs⟩
  unfold getItem
  try with_reducible refine wpAny_holding ?_
  first | refine wpAny_bind (wpAny_pure ?_) | skip
  refine wpAny_bind (wpAny_sequenceKey ht.typeIs (by decide) ?_)
  refine wpAny_bind (wpAny_callSpecial?_slot (name := Str.ofString "__getitem__") ht.typeIs PyProof.Rows.slot_tuple_getitem
    (wpAny_call_entry PyProof.Rows.slot_tuple_getitem ht.typeIs entry_tuple_getitem ?_ (args_tuple_getitem _ _)))
  show wpAny _ _ (Builtin.Tuple.tupleItemsOf (.ref t) >>= _) _ _ s
  refine wpAny_bind (tupleItemsOf_ ht ?_)
  refine wpAny_bind (wpAny_typeOf hTs ?_)
  rw [if_pos (by decide)]
  refine wpAny_bind (sliceApplied_rev hs pl pu ps ?_)
  have hno : ¬ ((((items.size : Int) - 1) == 0 && (-1 : Int) == 1 && items.size == items.size) = true) := by
    intro q
    rw [Bool.and_eq_true, Bool.and_eq_true] at q
    exact absurd q.1.2 (by decide)
  show wpAny _ _ (if (((items.size : Int) - 1) == 0 && (-1 : Int) == 1 && items.size == items.size) = true then _ else _) _ _ s
  rw [if_neg hno, pick_rev]
  first
    | exact wpAny_bind (m := Builtin.Tuple.tupleExact _) (wpAny_newObj_type (wpAny_pure ⟨_, rfl, wpAny_pure h⟩) htake)
    | exact wpAny_bind (m := Builtin.Tuple.tupleExact _) (wpAny_newObj_type (wpAny_bind (wpAny_pure (wpAny_pure ⟨_, rfl, wpAny_pure h⟩))) htake)
    | exact wpAny_bind (wpAny_bind (m := Builtin.Tuple.tupleExact _) (wpAny_newObj_type (wpAny_pure (wpAny_pure ⟨_, rfl, wpAny_pure h⟩)) htake))
    | exact wpAny_bind (wpAny_bind (m := Builtin.Tuple.tupleExact _) (wpAny_newObj_type (wpAny_pure ⟨_, rfl, wpAny_pure h⟩) htake))
end
def tRevT (K : PySem.W.Frag) (te : TE) : TE := fun σ H Q => te σ H fun x H1 => ∃ a xs, x = .ref a ∧ SqT K H1 a xs ∧ ∀ p, H1 p = none → Q (.ref p) (upd H1 p (.tup xs.reverse))
theorem pe_revT {X : Cx} {te : TE} {e : Expr} {k : Nat} {p1 p2 p3 pos : Pos} (he : PE X e te) : PE X (.Subscript e (.Slice none none (some (.UnaryOp .USub (.Constant (.int 1) k p1) p2)) p3) pos) (tRevT X.K te) := by
  refine ⟨fun pins s σ H Q I h => ?_⟩
  refine Subscript_ (thn (he.run pins s σ H _ I h) fun v s1 ⟨x, H1, I1, r1, q1⟩ => ?_)
  obtain ⟨a, xs, ex, hx, q⟩ := q1
  subst ex
  cases r1
  have hst : PO X (some (.UnaryOp .USub (.Constant (.int 1) k p1) p2)) (tPart (tUn (rU fun i => .int (-i)) (tC (.int 1)))) := po_some (pe_un un_neg pe_int)
  refine wpAny_Slice (thn (po_none.run pins s1 σ H1 (fun o H2 => o = none ∧ H2 = H1) I1 ⟨rfl, rfl⟩) fun vl s2 ⟨l, H2, I2, pl, el, e2⟩ => ?_)
  subst el e2
  refine thn (po_none.run pins s2 σ H2 (fun o H3 => o = none ∧ H3 = H2) I2 ⟨rfl, rfl⟩) fun vu s3 ⟨u, H3, I3, pu, eu, e3⟩ => ?_
  subst eu e3
  refine thn (hst.run pins s3 σ H3 (fun o H4 => o = some (-1) ∧ H4 = H3) I3 ⟨1, rfl, -1, rfl, rfl, rfl⟩) fun vs s4 ⟨o, H4, I4, ps, eo, e4⟩ => ?_
  subst eo e4
  have I5 : Inv X pins σ H4 { s4 with heap := s4.heap.push { cls := .type "slice", data := .fields #[vl, vu, vs] } } := I4.kept (t' := s4.toks) fun b ob q => Heap.get?_push_of_some _ q
  obtain ⟨its, r, ht, hz⟩ := I5.tuple hx
  have hlen := r.length
  show wpAny (model X.prog X.w) X.A (subscriptTail e (.Slice none none (some (.UnaryOp .USub (.Constant (.int 1) k p1) p2)) p3) (.ref a) (.ref s4.heap.objs.size)) (EP X pins σ Q) X.xe { s4 with heap := s4.heap.push { cls := .type "slice", data := .fields #[vl, vu, vs] } }
  refine tail_any (ops := [.ref a, .ref s4.heap.objs.size]) ht.typeIs (PyProof.Rows.slot_tuple_getitem.lookup) ?_ (by with_unfolding_all rfl)
  refine getItem_tuple_rev ht (Heap.IsSliceOf.new _ vl vu vs) pl pu ps ?_ (by rw [List.size_toArray]; omega)
  refine ⟨.ref _, _, I5.laid (t' := s4.toks) (o := .tup xs.reverse) (fun b ob q => Heap.get?_push_of_some _ q) (Nat.le_refl _) ?_, rfl, q _ (I5.hok.fresh (Nat.le_refl _))⟩
  exact ⟨by rw [List.length_reverse]; exact hz, its.reverse, r.reverse, IsTup.new _ _⟩
/-! ### enumerate(tuple) -/
/-- the items xs of the tuple at a, each in a new pair -/
def IeT (K : PySem.W.Frag) (a : Addr) (xs : List V) : It :=
  ⟨fun i H => i < xs.length ∧ SqT K H a xs, fun i H v H' => ∃ T x, v = .ref T ∧ H T = none ∧ H' = upd H T (.tup [.int (i : Nat), x]) ∧ xs[i]? = some x, fun i H => xs.length = i ∧ SqT K H a xs⟩
theorem tup_ne_it {h : Heap} {a it : Addr} {i : Nat} {its : Array Value} (p : IsTup h a its) (hit : h.IsTupleIter it a i) : a ≠ it := fun z => by
  obtain ⟨o, ho, hcl, hd⟩ := hit
  obtain ⟨o2, ho2, hcl2, _⟩ := p
  rw [z, ho] at ho2
  have := Option.some.inj ho2
  subst this
  rw [hcl] at hcl2
  injection hcl2 with z9
  exact absurd z9 (by decide)
theorem turn_enumT {P : Program} {w : World} {K : PySem.W.Frag} {elts : List Expr} {kk : Nat} {tpos : Pos} (a e it : Addr) (xs : List V) :
    Turn P w K (.Tuple elts kk tpos) (IeT K a xs) [e, it] e (fun i h => (∃ old, IsEnum h e it ((i : Nat) : Int) old) ∧ h.IsTupleIter it a i ∧ e ≠ it) where
  mem := by simp
  obj := fun i h st b hb => by
    obtain ⟨⟨old, he⟩, ⟨o, ho, hc, hd⟩, _⟩ := st
    have e' : b = e ∨ b = it := by simpa using hb
    rcases e' with z | z
    · rw [z]; exact ⟨_, he, fun v q => nomatch q⟩
    · rw [z]; exact ⟨o, ho, fun v q => by rw [hd] at q; cases q⟩
  keep := fun i h h' st k => let ⟨⟨old, he⟩, hi, hne⟩ := st; ⟨⟨old, k e (by simp) _ he⟩, hi.at fun o q => k it (by simp) o q, hne⟩
  item := by
    intro X hP hw hK hc i pins s σ H E I hf st hg
    subst hP hw hK
    obtain ⟨⟨old, he⟩, hit, hne⟩ := st
    obtain ⟨hlt, hq⟩ := hg
    have hx : xs[i]? = some xs[i] := by simp [hlt]
    generalize xs[i] = x at hx
    obtain ⟨its, rv, p, hz⟩ := I.tuple hq
    obtain ⟨u0, hu, ru⟩ := rv.get hx
    have hel : e < s.heap.objs.size := Heap.lt_size he
    have hil : it < s.heap.objs.size := by obtain ⟨_, q, _⟩ := hit; exact Heap.lt_size q
    have hia : a ≠ it := tup_ne_it p hit
    have hea : e ≠ a := fun z => by
      obtain ⟨o2, ho2, hcl2, _⟩ := p
      rw [← z, he] at ho2
      have := Option.some.inj ho2
      subst this
      injection hcl2 with z9
      exact absurd z9 (by decide)
    have D := Draws.tuple (prog := X.prog) (w := X.w) (A := X.A.in1) (I.ok.hd hc) it a hia its.toArray
    have hlen : i < its.toArray.size := by
      have := rv.length
      simp
      omega
    refine wpAny_pyNext_enum_itemC D he ⟨hit, p⟩ hlen hne (by simp [hne, hea]) fun v h' tk hv ho hit' hT hsz hk => ?_
    have ev : v = u0 := by
      have z : its.toArray[i]? = some v := hv
      have z2 : its.toArray[i]? = some u0 := by simpa using hu
      rw [z2] at z
      exact (Option.some.inj z).symm
    subst ev
    refine ⟨_, rfl, wpAny_letOwnedTupleGo_enum (s := { s with heap := h', toks := tk + 1 }) ho fun h'' he' sb => ?_⟩
    have hT2 : h''.get? s.heap.objs.size = some { cls := .type "tuple", data := .seq #[.int ((i : Nat) : Int) tk, v] } := (sb.2 _ (Nat.ne_of_gt hel)).trans hT
    have new : ObjOk X.prog X.w (upd H s.heap.objs.size (.tup [.int ((i : Nat) : Int), x])) h'' s.heap.objs.size (.tup [.int ((i : Nat) : Int), x]) :=
      ⟨by show 2 ≤ sizeLine; decide, [.int ((i : Nat) : Int) tk, v], .cons ⟨_, rfl⟩ (.cons ru .nil), ⟨_, hT2, rfl, _, rfl⟩⟩
    have I1 : Inv X pins σ (upd H s.heap.objs.size (.tup [.int ((i : Nat) : Int), x])) { s with heap := h'', toks := tk + 1 } :=
      I.turnedNew (ch := [e, it]) (fun b ob hb q => (sb.2 b (fun z => hb (by simp [z]))).trans (hk b ob (fun z => hb (by simp [z])) (fun z => hb (by simp [z])) q)) hf (Nat.le_refl _) new
    refine ⟨.ref s.heap.objs.size, _, I1, rfl, ⟨_, x, rfl, I.hok.fresh (Nat.le_refl _), rfl, hx⟩, ⟨⟨v, ?_⟩, hit'.1.at fun o q => (sb.2 it (Ne.symm hne)).trans q, hne⟩, fun b hb => ?_⟩
    · have e1 : ((i + 1 : Nat) : Int) = (i : Int) + 1 := by omega
      rw [e1]; exact he'
    · have hb' : b < s.heap.objs.size := by
        have e' : b = e ∨ b = it := by simpa using hb
        rcases e' with z | z
        · rw [z]; exact hel
        · rw [z]; exact hil
      rw [upd_ne (Nat.ne_of_lt hb')]
      exact (hf b hb).1
  done := by
    intro X hP hw hK hc i pins s σ H E I hf st hg
    subst hP hw hK
    obtain ⟨⟨old, he⟩, hit, hne⟩ := st
    obtain ⟨hlt, hq⟩ := hg
    obtain ⟨its, rv, p, hz⟩ := I.tuple hq
    obtain ⟨f0, f1, f2, f3, f4, f5⟩ := hf it (by simp)
    have hia : a ≠ it := tup_ne_it p hit
    have D := Draws.tuple (prog := X.prog) (w := X.w) (A := X.A.in1) (I.ok.hd hc) it a hia its.toArray
    have e1 : i = its.toArray.size := by
      have := rv.length
      simp
      omega
    subst e1
    exact wpAny_pyNext_enum_endD D he ⟨hit, p⟩ fun h' eb => ⟨rfl, I.turned (t' := s.toks) (fun b o hb q => eb b o hb q) f0 f1 f3 f4 f5⟩
  self := fun A i s Q E st h => let ⟨⟨_, he⟩, _⟩ := st; wpAny_pyIter_enum he h
theorem call_enumT {prog : Program} {w : World} {A : Around} {E : Value → Shared → Prop} {s : Shared} {t : Addr} {items : Array Value} {Q : Value → Shared → Prop} (ht : IsTup s.heap t items)
    (h : ∀ h', IsEnum h' (s.heap.objs.size + 1) s.heap.objs.size 0 .none → h'.IsTupleIter s.heap.objs.size t 0 → h'.objs.size = s.heap.objs.size + 2 →
      (∀ b o, s.heap.get? b = some o → h'.get? b = some o) → Q (.ref (s.heap.objs.size + 1)) { s with heap := h' }) :
    wpAny (model prog w) A (call (.type "enumerate") [.ref t]) Q E s := by
  have B := begins_tuple t items
  refine callType_new F.called_enumerate (by decide) (F.typeCall_enumerate_1 _) (F.newCall_enumerate_1 _) (fun obj => F.args_object_init_2 obj _) F.entry_enumerate_new
    (PySem.W.meets_enumerate_new1 B) ⟨ht, ?_⟩
  have hz : (s.heap.push { cls := .type "tuple_iterator", data := .fields #[.ref t, .int 0 0] }).objs.size = s.heap.objs.size + 1 := Heap.size_push ..
  show _ ∧ _
  rw [hz]
  have he : IsEnum ((s.heap.push { cls := .type "tuple_iterator", data := .fields #[.ref t, .int 0 0] }).push { cls := .type "enumerate", data := .fields #[.none, .bool false, .ref s.heap.objs.size, rawInt 0, .none, .none] }) (s.heap.objs.size + 1) s.heap.objs.size 0 .none := by
    have := Heap.get?_push_size (s.heap.push { cls := .type "tuple_iterator", data := .fields #[.ref t, .int 0 0] }) (o := { cls := .type "enumerate", data := .fields #[.none, .bool false, .ref s.heap.objs.size, rawInt 0, .none, .none] }) rfl
    rw [hz] at this; exact this
  exact ⟨⟨_, he, rfl⟩, h _ he ⟨_, Heap.get?_push_of_some _ (Heap.get?_push_size _ B.free), rfl, rfl⟩ (by rw [Heap.size_push, hz]) fun b o x => Heap.get?_push_of_some _ (Heap.get?_push_of_some _ x)⟩
def iEnumT (K : PySem.W.Frag) (ta : TA) : TI := fun σ H R => ta σ H fun vs H1 => ∃ (a : Addr) (xs : List V), vs = [.ref a] ∧ SqT K H1 a xs ∧ R (IeT K a xs) H1
theorem pi_enumT {X : Cx} {e : Expr} {ta : TA} {p pos tpos : Pos} {elts : List Expr} {kk : Nat} (hg : Gl X "enumerate") (hm : X.mg "enumerate" = none) (ha : PA X [e] ta) (hs : starEach [e] X.env = [(false, eval e X.env)] := by rfl) :
    PI X (.Tuple elts kk tpos) (.Call (.Name "enumerate" p) [e] [] pos) (iEnumT X.K ta) := by
  refine ⟨fun pins s σ H R I h => ?_⟩
  refine Call_ (ld_blt I hg hm boot_enumerate (PyProof.Rows.callWith_type1 (thn (ha.run pos pins s σ H _ I h) fun us s1 ⟨vs, H1, I1, r1, q1⟩ => ?_) hs rfl))
  obtain ⟨a, xs, ex, hq, q⟩ := q1
  subst ex
  cases r1 with
  | cons r rr =>
    cases rr
    cases r
    obtain ⟨its, rv, p', hz⟩ := I1.tuple hq
    refine call_enumT p' fun h' he hit hsz hk => wpAny_pyIter_enum he ?_
    have I2 : Inv X pins σ H1 { s1 with heap := h' } := I1.kept (t' := s1.toks) hk
    refine ⟨s1.heap.objs.size + 1, [s1.heap.objs.size + 1, s1.heap.objs.size], _, _, H1, rfl, I2, turn_enumT a (s1.heap.objs.size + 1) s1.heap.objs.size xs, ⟨⟨.none, he⟩, hit, Nat.succ_ne_self _⟩, fun b hb => ?_, q⟩
    have e' : b = s1.heap.objs.size + 1 ∨ b = s1.heap.objs.size := by simpa using hb
    have hle : s1.heap.objs.size ≤ b := by
      rcases e' with z | z
      · rw [z]; exact Nat.le_add_right _ _
      · rw [z]; exact Nat.le_refl _
    exact I1.fpOk hle (I1.hok.fresh hle)
end L2
set_option Elab.async false
set_option linter.all false
set_option maxRecDepth 100000
set_option maxHeartbeats 8000000
namespace My
open PySem L2 SS
def AtR (H : Hp) (q : Nd × Int) (v : V) : Prop := ∃ p vn, v = .ref p ∧ H p = some (.tup [vn, .int q.2]) ∧ AtN H q.1 vn
theorem AtR.on {H H' : Hp} (t : Tups H H') {q : Nd × Int} {v : V} (h : AtR H q v) : AtR H' q v := by
  obtain ⟨p, vn, e, h1, h2⟩ := h
  exact ⟨p, vn, e, t _ _ h1, h2.on t⟩
theorem gone_len : ∀ (h : Nat) (n : Nd) (c : Int) (a : Nat), hN n ≤ h → (goneH h n c a).length = nN n
  | 0, n, c, a, hh => by have := hN_pos n; omega
  | h + 1, n, c, a, hh => by
    rw [goneH_succ, List.length_cons, ← parts_n n]
    congr 1
    have key : ∀ (qs : List Nd) (c : Int) (a : Nat), (∀ q ∈ qs, hN q < hN n) → (goneL h qs c a).length = (qs.map nN).sum := fun qs c a hq => by
      have gen : ∀ (qs : List Nd) (acc : List (Nd × Int)), (∀ q ∈ qs, hN q < hN n) → (qs.foldl (fun acc q => acc ++ goneH h q c (a + acc.length)) acc).length = acc.length + (qs.map nN).sum := fun qs => by
        induction qs with
        | nil => intro acc _; simp
        | cons q r ih =>
          intro acc hr
          have hq := hr q List.mem_cons_self
          rw [List.foldl_cons, ih _ fun x hx => hr x (List.mem_cons_of_mem _ hx), List.length_append, gone_len h q c _ (by omega), List.map_cons, List.sum_cons]
          omega
      have := gen qs [] hq
      unfold goneL
      rw [this]
      simp
    exact key _ _ _ fun q hq => (parts_h n q hq).1
theorem blk_word {H : Hp} {n : Nd} {v : V} (h : AtN H n v) (hok : gdN n) : ∃ p z rest, v = .ref p ∧ H p = some (.tup (.str z :: rest)) ∧ decide (V.str z = V.str (Str.ofString "block")) = isBlk n := by
  cases n with
  | e x =>
    cases x with
    | send r m es => obtain ⟨p, vr, q, xs, rfl, hp, _⟩ := h; exact ⟨p, _, _, rfl, hp, (by show decide _ = false; decide +kernel)⟩
    | up m es => obtain ⟨p, q, xs, rfl, hp, _⟩ := h; exact ⟨p, _, _, rfl, hp, (by show decide _ = false; decide +kernel)⟩
    | lst es => obtain ⟨p, q, xs, rfl, hp, _⟩ := h; exact ⟨p, _, _, rfl, hp, (by show decide _ = false; decide +kernel)⟩
    | blk ps ss => obtain ⟨p, vw, q, xs, rfl, hp, _⟩ := h; exact ⟨p, _, _, rfl, hp, (by show decide _ = true; decide +kernel)⟩
    | num n => obtain ⟨p, rfl, hp⟩ := h; exact ⟨p, _, _, rfl, hp, (by show decide _ = false; decide +kernel)⟩
    | txt n => obtain ⟨p, rfl, hp⟩ := h; exact ⟨p, _, _, rfl, hp, (by show decide _ = false; decide +kernel)⟩
    | tru n => obtain ⟨p, rfl, hp⟩ := h; exact ⟨p, _, _, rfl, hp, (by show decide _ = false; decide +kernel)⟩
    | non => obtain ⟨p, rfl, hp⟩ := h; exact ⟨p, _, _, rfl, hp, (by show decide _ = false; decide +kernel)⟩
    | slf => obtain ⟨p, rfl, hp⟩ := h; exact ⟨p, _, _, rfl, hp, (by show decide _ = false; decide +kernel)⟩
    | nam n => obtain ⟨p, rfl, hp⟩ := h; exact ⟨p, _, _, rfl, hp, (by show decide _ = false; decide +kernel)⟩
    | fld n => obtain ⟨p, rfl, hp⟩ := h; exact ⟨p, _, _, rfl, hp, (by show decide _ = false; decide +kernel)⟩
    | new n => obtain ⟨p, rfl, hp⟩ := h; exact ⟨p, _, _, rfl, hp, (by show decide _ = false; decide +kernel)⟩
  | s x =>
    cases x with
    | set z e => obtain ⟨p, ve, rfl, hp, _⟩ := h; exact ⟨p, _, _, rfl, hp, (by show decide _ = false; decide +kernel)⟩
    | sfl z e => obtain ⟨p, ve, rfl, hp, _⟩ := h; exact ⟨p, _, _, rfl, hp, (by show decide _ = false; decide +kernel)⟩
    | pl z e =>
      obtain ⟨p, ve, rfl, hp, _⟩ := h
      refine ⟨p, _, _, rfl, hp, ?_⟩
      have hz : isPl z = true := hok.1
      show decide _ = false
      rcases pl_cases hz with h | h | h | h <;> (rw [h, mk_tl]; decide +kernel)
    | iff e a b => obtain ⟨p, ve, q, xs, r, ys, rfl, hp, _⟩ := h; exact ⟨p, _, _, rfl, hp, (by show decide _ = false; decide +kernel)⟩
    | whl e a => obtain ⟨p, ve, q, xs, rfl, hp, _⟩ := h; exact ⟨p, _, _, rfl, hp, (by show decide _ = false; decide +kernel)⟩
    | tri a z b => obtain ⟨p, q, xs, r, ys, rfl, hp, _⟩ := h; exact ⟨p, _, _, rfl, hp, (by show decide _ = false; decide +kernel)⟩
end My
set_option Elab.async false
set_option linter.all false
set_option maxRecDepth 100000
set_option maxHeartbeats 8000000
namespace My
open PySem L2 SS
abbrev sPt : Stmt := s_parts_of
theorem in_testT {K : PySem.W.Frag} {σ : L2.St} {H : Hp} {Qb : Bool → Hp → Prop} {z : Str} {zs : List V} {t : TA} (hσ : σ[1]? = some (some (V.str z))) (ht : ∀ H Q, Q zs H → t σ H Q) (hl : zs.length ≤ sizeLine) (hf : zs.all flatV = true) {b : Bool} (hb : inV (.str z) zs = b) (k : ∀ H', Same H H' → Qb b H') : tTest (tOp (rIn K false) (tVar 1) (tTup t)) σ H Qb := by
  refine ⟨_, hσ, ht _ _ ⟨hl, fun L hL => ⟨L, _, rfl, .inr (SqT.of upd_same), rfl, hf, _, rfl, ?_⟩⟩⟩
  show Qb (inV (.str z) zs) _
  rw [hb]
  exact k _ (same_new hL _)
section
variable {P : Program} {w : World} {K : PySem.W.Frag} {mg : Str → Option Value} {base : Heap}
def spPt : Sp := fun vs H Q _ => ∃ (n : Nd) (v : V), vs = [v] ∧ AtN H n v ∧ gdN n ∧ nN n ≤ 1100 ∧ ∀ H' a us, Same H H' → H' a = some (.tup us) → AtL AtN H' (parts n) us → Q (.ref a) H'
theorem scPt : FnScope ["node", "sort", "_", "test", "first", "second", "statements", "receiver", "worths"] ["node"] (defScope sPt) := ⟨rfl, rfl, rfl, by decide +kernel, rfl, by decide +kernel, by decide +kernel⟩
theorem c_pt (D : Dn K mg "parts_of" sPt) : C0 P w K mg base 1 "parts_of" spPt := by
  obtain ⟨f, fd, F, m⟩ := D.ex
  refine ⟨f, fd, ["node"], F.ok scPt (fun vs H Q E h => ?_) (fun cdv A outer s H vs Q E hr h => ?_), m, F.kp, F.binds (ps := ["node"]) fun _ _ _ _ _ _ us hl => match us, hl with | [_], _ => rfl⟩
  · obtain ⟨n, v, rfl, _⟩ := h
    rfl
  obtain ⟨n, v, rfl, hat, hok, hn, kq⟩ := h
  refine ⟨_, pss_cons (ps_set (i := 1) scPt.nd rfl (Or.inl rfl) (pe_ix ix_tup (pv 0) pe_int (fun _ _ => rfl))) <|
    pss_cons (ps_if (pt_cmpR op_in_seq (pv 1) (pe_tup (pa_cons pe_str (pa_cons pe_str (pa_cons pe_str (pa_cons pe_str pa_nil))))) (by rfl)) (pss_one (ps_ret (pe_slice sl_tup (pv 0) (po_some pe_int) po_none))) pss_nil) <|
    pss_cons (ps_if (pt_cmpR op_in_seq (pv 1) (pe_tup (pa_cons pe_str (pa_cons pe_str pa_nil))) (by rfl)) (pss_one (ps_ret (pe_slice sl_tup (pv 0) (po_some pe_int) po_none))) pss_nil) <|
    pss_cons (ps_if (pt_cmpR op_eq (pv 1) pe_str (nomark _)) (pss_cons (ps_asg (pv 0) (pg_tup (by rfl) (pgs_cons (pg_name (i := 2) scPt.nd rfl (Or.inl rfl)) (pgs_cons (pg_name (i := 3) scPt.nd rfl (Or.inl rfl)) (pgs_cons (pg_name (i := 4) scPt.nd rfl (Or.inl rfl)) (pgs_cons (pg_name (i := 5) scPt.nd rfl (Or.inl rfl)) pgs_nil)))))) (pss_one (ps_ret (pe_tup (pa_cons (pv 3) (StX.pa_star (pv 4) (StX.pa_star (pv 5) pa_nil))))))) pss_nil) <|
    pss_cons (ps_if (pt_cmpR op_eq (pv 1) pe_str (nomark _)) (pss_cons (ps_asg (pv 0) (pg_tup (by rfl) (pgs_cons (pg_name (i := 2) scPt.nd rfl (Or.inl rfl)) (pgs_cons (pg_name (i := 3) scPt.nd rfl (Or.inl rfl)) (pgs_cons (pg_name (i := 6) scPt.nd rfl (Or.inl rfl)) pgs_nil))))) (pss_one (ps_ret (pe_tup (pa_cons (pv 3) (StX.pa_star (pv 6) pa_nil)))))) pss_nil) <|
    pss_cons (ps_if (pt_cmpR op_eq (pv 1) pe_str (nomark _)) (pss_cons (ps_asg (pv 0) (pg_tup (by rfl) (pgs_cons (pg_name (i := 2) scPt.nd rfl (Or.inl rfl)) (pgs_cons (pg_name (i := 4) scPt.nd rfl (Or.inl rfl)) (pgs_cons (pg_name (i := 2) scPt.nd rfl (Or.inl rfl)) (pgs_cons (pg_name (i := 5) scPt.nd rfl (Or.inl rfl)) pgs_nil)))))) (pss_one (ps_ret (pe_op op_catA (pv 4) (pv 5))))) pss_nil) <|
    pss_cons (ps_if (pt_cmpR op_eq (pv 1) pe_str (nomark _)) (pss_cons (ps_asg (pv 0) (pg_tup (by rfl) (pgs_cons (pg_name (i := 2) scPt.nd rfl (Or.inl rfl)) (pgs_cons (pg_name (i := 7) scPt.nd rfl (Or.inl rfl)) (pgs_cons (pg_name (i := 2) scPt.nd rfl (Or.inl rfl)) (pgs_cons (pg_name (i := 8) scPt.nd rfl (Or.inl rfl)) pgs_nil)))))) (pss_one (ps_ret (pe_tup (pa_cons (pv 7) (StX.pa_star (pv 8) pa_nil)))))) pss_nil) <|
    pss_cons (ps_if (pt_cmpR op_in_seq (pv 1) (pe_tup (pa_cons pe_str (pa_cons pe_str (pa_cons pe_str pa_nil)))) (by rfl)) (pss_one (ps_ret (pe_ix ix_tup (pv 0) (pe_un un_neg pe_int) (fun _ _ => rfl)))) pss_nil) <|
    pss_one (ps_ret (pe_tup pa_nil)), ?_⟩
  cases n with
  | e x =>
    cases x with
    | num n =>
      obtain ⟨p, rfl, hp⟩ := hat
      refine ⟨_, rfl, p, _, _, _, rfl, rfl, SqT.of hp, atI_0, ?_⟩
      refine in_testT (zs := [V.str (Str.ofString "do"), V.str (Str.ofString "say"), V.str (Str.ofString "return"), V.str (Str.ofString "raise")]) rfl (fun _ _ q => q) (by show 4 ≤ sizeLine; decide) rfl (b := false) (by decide +kernel) fun H1 s1 => ?_
      refine iteF ?_
      refine in_testT (zs := [V.str (Str.ofString "set"), V.str (Str.ofString "setfield")]) rfl (fun _ _ q => q) (by show 2 ≤ sizeLine; decide) rfl (b := false) (by decide +kernel) fun H2 s2 => ?_
      refine iteF ?_
      refine ⟨_, rfl, rfl, _, rfl, ?_⟩
      refine ite2 (fun c => absurd c (by decide +kernel)) (fun _ => ?_)
      refine ⟨_, rfl, rfl, _, rfl, ?_⟩
      refine ite2 (fun c => absurd c (by decide +kernel)) (fun _ => ?_)
      refine ⟨_, rfl, rfl, _, rfl, ?_⟩
      refine ite2 (fun c => absurd c (by decide +kernel)) (fun _ => ?_)
      refine ⟨_, rfl, rfl, _, rfl, ?_⟩
      refine ite2 (fun c => absurd c (by decide +kernel)) (fun _ => ?_)
      refine in_testT (zs := [V.str (Str.ofString "up"), V.str (Str.ofString "list"), V.str (Str.ofString "block")]) rfl (fun _ _ q => q) (by show 3 ≤ sizeLine; decide) rfl (b := false) (by decide +kernel) fun H7 s7 => ?_
      refine iteF ?_
      have sA := ((((Same.refl H).trans s1).trans s2).trans s7)
      exact ⟨Nat.zero_le _, fun L hL => kq _ L [] (sA.trans (same_new hL _)) upd_same rfl⟩
    | txt z =>
      obtain ⟨p, rfl, hp⟩ := hat
      refine ⟨_, rfl, p, _, _, _, rfl, rfl, SqT.of hp, atI_0, ?_⟩
      refine in_testT (zs := [V.str (Str.ofString "do"), V.str (Str.ofString "say"), V.str (Str.ofString "return"), V.str (Str.ofString "raise")]) rfl (fun _ _ q => q) (by show 4 ≤ sizeLine; decide) rfl (b := false) (by decide +kernel) fun H1 s1 => ?_
      refine iteF ?_
      refine in_testT (zs := [V.str (Str.ofString "set"), V.str (Str.ofString "setfield")]) rfl (fun _ _ q => q) (by show 2 ≤ sizeLine; decide) rfl (b := false) (by decide +kernel) fun H2 s2 => ?_
      refine iteF ?_
      refine ⟨_, rfl, rfl, _, rfl, ?_⟩
      refine ite2 (fun c => absurd c (by decide +kernel)) (fun _ => ?_)
      refine ⟨_, rfl, rfl, _, rfl, ?_⟩
      refine ite2 (fun c => absurd c (by decide +kernel)) (fun _ => ?_)
      refine ⟨_, rfl, rfl, _, rfl, ?_⟩
      refine ite2 (fun c => absurd c (by decide +kernel)) (fun _ => ?_)
      refine ⟨_, rfl, rfl, _, rfl, ?_⟩
      refine ite2 (fun c => absurd c (by decide +kernel)) (fun _ => ?_)
      refine in_testT (zs := [V.str (Str.ofString "up"), V.str (Str.ofString "list"), V.str (Str.ofString "block")]) rfl (fun _ _ q => q) (by show 3 ≤ sizeLine; decide) rfl (b := false) (by decide +kernel) fun H7 s7 => ?_
      refine iteF ?_
      have sA := ((((Same.refl H).trans s1).trans s2).trans s7)
      exact ⟨Nat.zero_le _, fun L hL => kq _ L [] (sA.trans (same_new hL _)) upd_same rfl⟩
    | tru b =>
      obtain ⟨p, rfl, hp⟩ := hat
      refine ⟨_, rfl, p, _, _, _, rfl, rfl, SqT.of hp, atI_0, ?_⟩
      refine in_testT (zs := [V.str (Str.ofString "do"), V.str (Str.ofString "say"), V.str (Str.ofString "return"), V.str (Str.ofString "raise")]) rfl (fun _ _ q => q) (by show 4 ≤ sizeLine; decide) rfl (b := false) (by decide +kernel) fun H1 s1 => ?_
      refine iteF ?_
      refine in_testT (zs := [V.str (Str.ofString "set"), V.str (Str.ofString "setfield")]) rfl (fun _ _ q => q) (by show 2 ≤ sizeLine; decide) rfl (b := false) (by decide +kernel) fun H2 s2 => ?_
      refine iteF ?_
      refine ⟨_, rfl, rfl, _, rfl, ?_⟩
      refine ite2 (fun c => absurd c (by decide +kernel)) (fun _ => ?_)
      refine ⟨_, rfl, rfl, _, rfl, ?_⟩
      refine ite2 (fun c => absurd c (by decide +kernel)) (fun _ => ?_)
      refine ⟨_, rfl, rfl, _, rfl, ?_⟩
      refine ite2 (fun c => absurd c (by decide +kernel)) (fun _ => ?_)
      refine ⟨_, rfl, rfl, _, rfl, ?_⟩
      refine ite2 (fun c => absurd c (by decide +kernel)) (fun _ => ?_)
      refine in_testT (zs := [V.str (Str.ofString "up"), V.str (Str.ofString "list"), V.str (Str.ofString "block")]) rfl (fun _ _ q => q) (by show 3 ≤ sizeLine; decide) rfl (b := false) (by decide +kernel) fun H7 s7 => ?_
      refine iteF ?_
      have sA := ((((Same.refl H).trans s1).trans s2).trans s7)
      exact ⟨Nat.zero_le _, fun L hL => kq _ L [] (sA.trans (same_new hL _)) upd_same rfl⟩
    | non =>
      obtain ⟨p, rfl, hp⟩ := hat
      refine ⟨_, rfl, p, _, _, _, rfl, rfl, SqT.of hp, atI_0, ?_⟩
      refine in_testT (zs := [V.str (Str.ofString "do"), V.str (Str.ofString "say"), V.str (Str.ofString "return"), V.str (Str.ofString "raise")]) rfl (fun _ _ q => q) (by show 4 ≤ sizeLine; decide) rfl (b := false) (by decide +kernel) fun H1 s1 => ?_
      refine iteF ?_
      refine in_testT (zs := [V.str (Str.ofString "set"), V.str (Str.ofString "setfield")]) rfl (fun _ _ q => q) (by show 2 ≤ sizeLine; decide) rfl (b := false) (by decide +kernel) fun H2 s2 => ?_
      refine iteF ?_
      refine ⟨_, rfl, rfl, _, rfl, ?_⟩
      refine ite2 (fun c => absurd c (by decide +kernel)) (fun _ => ?_)
      refine ⟨_, rfl, rfl, _, rfl, ?_⟩
      refine ite2 (fun c => absurd c (by decide +kernel)) (fun _ => ?_)
      refine ⟨_, rfl, rfl, _, rfl, ?_⟩
      refine ite2 (fun c => absurd c (by decide +kernel)) (fun _ => ?_)
      refine ⟨_, rfl, rfl, _, rfl, ?_⟩
      refine ite2 (fun c => absurd c (by decide +kernel)) (fun _ => ?_)
      refine in_testT (zs := [V.str (Str.ofString "up"), V.str (Str.ofString "list"), V.str (Str.ofString "block")]) rfl (fun _ _ q => q) (by show 3 ≤ sizeLine; decide) rfl (b := false) (by decide +kernel) fun H7 s7 => ?_
      refine iteF ?_
      have sA := ((((Same.refl H).trans s1).trans s2).trans s7)
      exact ⟨Nat.zero_le _, fun L hL => kq _ L [] (sA.trans (same_new hL _)) upd_same rfl⟩
    | slf =>
      obtain ⟨p, rfl, hp⟩ := hat
      refine ⟨_, rfl, p, _, _, _, rfl, rfl, SqT.of hp, atI_0, ?_⟩
      refine in_testT (zs := [V.str (Str.ofString "do"), V.str (Str.ofString "say"), V.str (Str.ofString "return"), V.str (Str.ofString "raise")]) rfl (fun _ _ q => q) (by show 4 ≤ sizeLine; decide) rfl (b := false) (by decide +kernel) fun H1 s1 => ?_
      refine iteF ?_
      refine in_testT (zs := [V.str (Str.ofString "set"), V.str (Str.ofString "setfield")]) rfl (fun _ _ q => q) (by show 2 ≤ sizeLine; decide) rfl (b := false) (by decide +kernel) fun H2 s2 => ?_
      refine iteF ?_
      refine ⟨_, rfl, rfl, _, rfl, ?_⟩
      refine ite2 (fun c => absurd c (by decide +kernel)) (fun _ => ?_)
      refine ⟨_, rfl, rfl, _, rfl, ?_⟩
      refine ite2 (fun c => absurd c (by decide +kernel)) (fun _ => ?_)
      refine ⟨_, rfl, rfl, _, rfl, ?_⟩
      refine ite2 (fun c => absurd c (by decide +kernel)) (fun _ => ?_)
      refine ⟨_, rfl, rfl, _, rfl, ?_⟩
      refine ite2 (fun c => absurd c (by decide +kernel)) (fun _ => ?_)
      refine in_testT (zs := [V.str (Str.ofString "up"), V.str (Str.ofString "list"), V.str (Str.ofString "block")]) rfl (fun _ _ q => q) (by show 3 ≤ sizeLine; decide) rfl (b := false) (by decide +kernel) fun H7 s7 => ?_
      refine iteF ?_
      have sA := ((((Same.refl H).trans s1).trans s2).trans s7)
      exact ⟨Nat.zero_le _, fun L hL => kq _ L [] (sA.trans (same_new hL _)) upd_same rfl⟩
    | nam z =>
      obtain ⟨p, rfl, hp⟩ := hat
      refine ⟨_, rfl, p, _, _, _, rfl, rfl, SqT.of hp, atI_0, ?_⟩
      refine in_testT (zs := [V.str (Str.ofString "do"), V.str (Str.ofString "say"), V.str (Str.ofString "return"), V.str (Str.ofString "raise")]) rfl (fun _ _ q => q) (by show 4 ≤ sizeLine; decide) rfl (b := false) (by decide +kernel) fun H1 s1 => ?_
      refine iteF ?_
      refine in_testT (zs := [V.str (Str.ofString "set"), V.str (Str.ofString "setfield")]) rfl (fun _ _ q => q) (by show 2 ≤ sizeLine; decide) rfl (b := false) (by decide +kernel) fun H2 s2 => ?_
      refine iteF ?_
      refine ⟨_, rfl, rfl, _, rfl, ?_⟩
      refine ite2 (fun c => absurd c (by decide +kernel)) (fun _ => ?_)
      refine ⟨_, rfl, rfl, _, rfl, ?_⟩
      refine ite2 (fun c => absurd c (by decide +kernel)) (fun _ => ?_)
      refine ⟨_, rfl, rfl, _, rfl, ?_⟩
      refine ite2 (fun c => absurd c (by decide +kernel)) (fun _ => ?_)
      refine ⟨_, rfl, rfl, _, rfl, ?_⟩
      refine ite2 (fun c => absurd c (by decide +kernel)) (fun _ => ?_)
      refine in_testT (zs := [V.str (Str.ofString "up"), V.str (Str.ofString "list"), V.str (Str.ofString "block")]) rfl (fun _ _ q => q) (by show 3 ≤ sizeLine; decide) rfl (b := false) (by decide +kernel) fun H7 s7 => ?_
      refine iteF ?_
      have sA := ((((Same.refl H).trans s1).trans s2).trans s7)
      exact ⟨Nat.zero_le _, fun L hL => kq _ L [] (sA.trans (same_new hL _)) upd_same rfl⟩
    | fld z =>
      obtain ⟨p, rfl, hp⟩ := hat
      refine ⟨_, rfl, p, _, _, _, rfl, rfl, SqT.of hp, atI_0, ?_⟩
      refine in_testT (zs := [V.str (Str.ofString "do"), V.str (Str.ofString "say"), V.str (Str.ofString "return"), V.str (Str.ofString "raise")]) rfl (fun _ _ q => q) (by show 4 ≤ sizeLine; decide) rfl (b := false) (by decide +kernel) fun H1 s1 => ?_
      refine iteF ?_
      refine in_testT (zs := [V.str (Str.ofString "set"), V.str (Str.ofString "setfield")]) rfl (fun _ _ q => q) (by show 2 ≤ sizeLine; decide) rfl (b := false) (by decide +kernel) fun H2 s2 => ?_
      refine iteF ?_
      refine ⟨_, rfl, rfl, _, rfl, ?_⟩
      refine ite2 (fun c => absurd c (by decide +kernel)) (fun _ => ?_)
      refine ⟨_, rfl, rfl, _, rfl, ?_⟩
      refine ite2 (fun c => absurd c (by decide +kernel)) (fun _ => ?_)
      refine ⟨_, rfl, rfl, _, rfl, ?_⟩
      refine ite2 (fun c => absurd c (by decide +kernel)) (fun _ => ?_)
      refine ⟨_, rfl, rfl, _, rfl, ?_⟩
      refine ite2 (fun c => absurd c (by decide +kernel)) (fun _ => ?_)
      refine in_testT (zs := [V.str (Str.ofString "up"), V.str (Str.ofString "list"), V.str (Str.ofString "block")]) rfl (fun _ _ q => q) (by show 3 ≤ sizeLine; decide) rfl (b := false) (by decide +kernel) fun H7 s7 => ?_
      refine iteF ?_
      have sA := ((((Same.refl H).trans s1).trans s2).trans s7)
      exact ⟨Nat.zero_le _, fun L hL => kq _ L [] (sA.trans (same_new hL _)) upd_same rfl⟩
    | new z =>
      obtain ⟨p, rfl, hp⟩ := hat
      refine ⟨_, rfl, p, _, _, _, rfl, rfl, SqT.of hp, atI_0, ?_⟩
      refine in_testT (zs := [V.str (Str.ofString "do"), V.str (Str.ofString "say"), V.str (Str.ofString "return"), V.str (Str.ofString "raise")]) rfl (fun _ _ q => q) (by show 4 ≤ sizeLine; decide) rfl (b := false) (by decide +kernel) fun H1 s1 => ?_
      refine iteF ?_
      refine in_testT (zs := [V.str (Str.ofString "set"), V.str (Str.ofString "setfield")]) rfl (fun _ _ q => q) (by show 2 ≤ sizeLine; decide) rfl (b := false) (by decide +kernel) fun H2 s2 => ?_
      refine iteF ?_
      refine ⟨_, rfl, rfl, _, rfl, ?_⟩
      refine ite2 (fun c => absurd c (by decide +kernel)) (fun _ => ?_)
      refine ⟨_, rfl, rfl, _, rfl, ?_⟩
      refine ite2 (fun c => absurd c (by decide +kernel)) (fun _ => ?_)
      refine ⟨_, rfl, rfl, _, rfl, ?_⟩
      refine ite2 (fun c => absurd c (by decide +kernel)) (fun _ => ?_)
      refine ⟨_, rfl, rfl, _, rfl, ?_⟩
      refine ite2 (fun c => absurd c (by decide +kernel)) (fun _ => ?_)
      refine in_testT (zs := [V.str (Str.ofString "up"), V.str (Str.ofString "list"), V.str (Str.ofString "block")]) rfl (fun _ _ q => q) (by show 3 ≤ sizeLine; decide) rfl (b := false) (by decide +kernel) fun H7 s7 => ?_
      refine iteF ?_
      have sA := ((((Same.refl H).trans s1).trans s2).trans s7)
      exact ⟨Nat.zero_le _, fun L hL => kq _ L [] (sA.trans (same_new hL _)) upd_same rfl⟩
    | send r m es =>
      obtain ⟨p, vr, q, xs, rfl, hp, hq, h3, h4⟩ := hat
      refine ⟨_, rfl, p, _, _, _, rfl, rfl, SqT.of hp, atI_0, ?_⟩
      refine in_testT (zs := [V.str (Str.ofString "do"), V.str (Str.ofString "say"), V.str (Str.ofString "return"), V.str (Str.ofString "raise")]) rfl (fun _ _ q => q) (by show 4 ≤ sizeLine; decide) rfl (b := false) (by decide +kernel) fun H1 s1 => ?_
      refine iteF ?_
      refine in_testT (zs := [V.str (Str.ofString "set"), V.str (Str.ofString "setfield")]) rfl (fun _ _ q => q) (by show 2 ≤ sizeLine; decide) rfl (b := false) (by decide +kernel) fun H2 s2 => ?_
      refine iteF ?_
      refine ⟨_, rfl, rfl, _, rfl, ?_⟩
      refine ite2 (fun c => absurd c (by decide +kernel)) (fun _ => ?_)
      refine ⟨_, rfl, rfl, _, rfl, ?_⟩
      refine ite2 (fun c => absurd c (by decide +kernel)) (fun _ => ?_)
      refine ⟨_, rfl, rfl, _, rfl, ?_⟩
      refine ite2 (fun c => absurd c (by decide +kernel)) (fun _ => ?_)
      refine ⟨_, rfl, rfl, _, rfl, ?_⟩
      refine ite2 (fun _ => ?_) (fun c => absurd (by decide +kernel) c)
      have sA := (((Same.refl H).trans s1).trans s2)
      have hl := exl_len es
      have hx := atl_exl h4
      have hxl := hx.len
      have hn' : 1 + nE r + nEs es ≤ 1100 := hn
      refine ⟨_, rfl, p, _, rfl, SqT.of (sA _ _ hp), rfl, _, _, rfl, _, _, rfl, _, _, rfl, _, _, rfl, rfl, ?_⟩
      refine ⟨_, rfl, _, rfl, q, xs, rfl, .inl (SqT.of (sA _ _ hq)), by rw [List.append_nil, List.length_cons, sizeLine_eq]; omega, fun L hL => ?_⟩
      rw [List.append_nil]
      have u := sA.trans (same_new hL (.tup (vr :: xs)))
      exact kq _ L _ u upd_same ⟨vr, xs, rfl, AtE.on (same_tups u) _ _ h3, AtL.on (same_tups u) (fun _ _ h => AtN.on (same_tups u) h) hx⟩
    | up m es =>
      obtain ⟨p, q, xs, rfl, hp, hq, h4⟩ := hat
      refine ⟨_, rfl, p, _, _, _, rfl, rfl, SqT.of hp, atI_0, ?_⟩
      refine in_testT (zs := [V.str (Str.ofString "do"), V.str (Str.ofString "say"), V.str (Str.ofString "return"), V.str (Str.ofString "raise")]) rfl (fun _ _ q => q) (by show 4 ≤ sizeLine; decide) rfl (b := false) (by decide +kernel) fun H1 s1 => ?_
      refine iteF ?_
      refine in_testT (zs := [V.str (Str.ofString "set"), V.str (Str.ofString "setfield")]) rfl (fun _ _ q => q) (by show 2 ≤ sizeLine; decide) rfl (b := false) (by decide +kernel) fun H2 s2 => ?_
      refine iteF ?_
      refine ⟨_, rfl, rfl, _, rfl, ?_⟩
      refine ite2 (fun c => absurd c (by decide +kernel)) (fun _ => ?_)
      refine ⟨_, rfl, rfl, _, rfl, ?_⟩
      refine ite2 (fun c => absurd c (by decide +kernel)) (fun _ => ?_)
      refine ⟨_, rfl, rfl, _, rfl, ?_⟩
      refine ite2 (fun c => absurd c (by decide +kernel)) (fun _ => ?_)
      refine ⟨_, rfl, rfl, _, rfl, ?_⟩
      refine ite2 (fun c => absurd c (by decide +kernel)) (fun _ => ?_)
      refine in_testT (zs := [V.str (Str.ofString "up"), V.str (Str.ofString "list"), V.str (Str.ofString "block")]) rfl (fun _ _ q => q) (by show 3 ≤ sizeLine; decide) rfl (b := true) (by decide +kernel) fun H7 s7 => ?_
      refine iteT ?_
      have sA := ((((Same.refl H).trans s1).trans s2).trans s7)
      exact ⟨_, rfl, 1, rfl, p, _, -1, _, rfl, rfl, SqT.of (sA _ _ hp), rfl, kq _ q _ sA (sA _ _ hq) (AtL.on (same_tups sA) (fun _ _ h => AtN.on (same_tups sA) h) (atl_exl h4))⟩
    | lst es =>
      obtain ⟨p, q, xs, rfl, hp, hq, h4⟩ := hat
      refine ⟨_, rfl, p, _, _, _, rfl, rfl, SqT.of hp, atI_0, ?_⟩
      refine in_testT (zs := [V.str (Str.ofString "do"), V.str (Str.ofString "say"), V.str (Str.ofString "return"), V.str (Str.ofString "raise")]) rfl (fun _ _ q => q) (by show 4 ≤ sizeLine; decide) rfl (b := false) (by decide +kernel) fun H1 s1 => ?_
      refine iteF ?_
      refine in_testT (zs := [V.str (Str.ofString "set"), V.str (Str.ofString "setfield")]) rfl (fun _ _ q => q) (by show 2 ≤ sizeLine; decide) rfl (b := false) (by decide +kernel) fun H2 s2 => ?_
      refine iteF ?_
      refine ⟨_, rfl, rfl, _, rfl, ?_⟩
      refine ite2 (fun c => absurd c (by decide +kernel)) (fun _ => ?_)
      refine ⟨_, rfl, rfl, _, rfl, ?_⟩
      refine ite2 (fun c => absurd c (by decide +kernel)) (fun _ => ?_)
      refine ⟨_, rfl, rfl, _, rfl, ?_⟩
      refine ite2 (fun c => absurd c (by decide +kernel)) (fun _ => ?_)
      refine ⟨_, rfl, rfl, _, rfl, ?_⟩
      refine ite2 (fun c => absurd c (by decide +kernel)) (fun _ => ?_)
      refine in_testT (zs := [V.str (Str.ofString "up"), V.str (Str.ofString "list"), V.str (Str.ofString "block")]) rfl (fun _ _ q => q) (by show 3 ≤ sizeLine; decide) rfl (b := true) (by decide +kernel) fun H7 s7 => ?_
      refine iteT ?_
      have sA := ((((Same.refl H).trans s1).trans s2).trans s7)
      exact ⟨_, rfl, 1, rfl, p, _, -1, _, rfl, rfl, SqT.of (sA _ _ hp), rfl, kq _ q _ sA (sA _ _ hq) (AtL.on (same_tups sA) (fun _ _ h => AtN.on (same_tups sA) h) (atl_exl h4))⟩
    | blk ps ss =>
      obtain ⟨p, vw, q, xs, rfl, hp, hq, hw, h4⟩ := hat
      refine ⟨_, rfl, p, _, _, _, rfl, rfl, SqT.of hp, atI_0, ?_⟩
      refine in_testT (zs := [V.str (Str.ofString "do"), V.str (Str.ofString "say"), V.str (Str.ofString "return"), V.str (Str.ofString "raise")]) rfl (fun _ _ q => q) (by show 4 ≤ sizeLine; decide) rfl (b := false) (by decide +kernel) fun H1 s1 => ?_
      refine iteF ?_
      refine in_testT (zs := [V.str (Str.ofString "set"), V.str (Str.ofString "setfield")]) rfl (fun _ _ q => q) (by show 2 ≤ sizeLine; decide) rfl (b := false) (by decide +kernel) fun H2 s2 => ?_
      refine iteF ?_
      refine ⟨_, rfl, rfl, _, rfl, ?_⟩
      refine ite2 (fun c => absurd c (by decide +kernel)) (fun _ => ?_)
      refine ⟨_, rfl, rfl, _, rfl, ?_⟩
      refine ite2 (fun c => absurd c (by decide +kernel)) (fun _ => ?_)
      refine ⟨_, rfl, rfl, _, rfl, ?_⟩
      refine ite2 (fun c => absurd c (by decide +kernel)) (fun _ => ?_)
      refine ⟨_, rfl, rfl, _, rfl, ?_⟩
      refine ite2 (fun c => absurd c (by decide +kernel)) (fun _ => ?_)
      refine in_testT (zs := [V.str (Str.ofString "up"), V.str (Str.ofString "list"), V.str (Str.ofString "block")]) rfl (fun _ _ q => q) (by show 3 ≤ sizeLine; decide) rfl (b := true) (by decide +kernel) fun H7 s7 => ?_
      refine iteT ?_
      have sA := ((((Same.refl H).trans s1).trans s2).trans s7)
      exact ⟨_, rfl, 1, rfl, p, _, -1, _, rfl, rfl, SqT.of (sA _ _ hp), rfl, kq _ q _ sA (sA _ _ hq) (AtL.on (same_tups sA) (fun _ _ h => AtN.on (same_tups sA) h) (atl_stl h4))⟩
  | s x =>
    cases x with
    | set z e =>
      obtain ⟨p, ve, rfl, hp, he⟩ := hat
      refine ⟨_, rfl, p, _, _, _, rfl, rfl, SqT.of hp, atI_0, ?_⟩
      refine in_testT (zs := [V.str (Str.ofString "do"), V.str (Str.ofString "say"), V.str (Str.ofString "return"), V.str (Str.ofString "raise")]) rfl (fun _ _ q => q) (by show 4 ≤ sizeLine; decide) rfl (b := false) (by decide +kernel) fun H1 s1 => ?_
      refine iteF ?_
      refine in_testT (zs := [V.str (Str.ofString "set"), V.str (Str.ofString "setfield")]) rfl (fun _ _ q => q) (by show 2 ≤ sizeLine; decide) rfl (b := true) (by decide +kernel) fun H2 s2 => ?_
      refine iteT ?_
      have sA := (((Same.refl H).trans s1).trans s2)
      refine ⟨_, rfl, 2, rfl, p, _, rfl, SqT.of (sA _ _ hp), fun c => absurd c.1 (show ¬ HT.sIx 3 0 (some 2) = 0 by decide), fun L hL => ?_⟩
      exact kq _ L _ (sA.trans (same_new hL _)) upd_same ⟨ve, [], rfl, AtE.on (same_tups (sA.trans (same_new hL _))) _ _ he, rfl⟩
    | sfl z e =>
      obtain ⟨p, ve, rfl, hp, he⟩ := hat
      refine ⟨_, rfl, p, _, _, _, rfl, rfl, SqT.of hp, atI_0, ?_⟩
      refine in_testT (zs := [V.str (Str.ofString "do"), V.str (Str.ofString "say"), V.str (Str.ofString "return"), V.str (Str.ofString "raise")]) rfl (fun _ _ q => q) (by show 4 ≤ sizeLine; decide) rfl (b := false) (by decide +kernel) fun H1 s1 => ?_
      refine iteF ?_
      refine in_testT (zs := [V.str (Str.ofString "set"), V.str (Str.ofString "setfield")]) rfl (fun _ _ q => q) (by show 2 ≤ sizeLine; decide) rfl (b := true) (by decide +kernel) fun H2 s2 => ?_
      refine iteT ?_
      have sA := (((Same.refl H).trans s1).trans s2)
      refine ⟨_, rfl, 2, rfl, p, _, rfl, SqT.of (sA _ _ hp), fun c => absurd c.1 (show ¬ HT.sIx 3 0 (some 2) = 0 by decide), fun L hL => ?_⟩
      exact kq _ L _ (sA.trans (same_new hL _)) upd_same ⟨ve, [], rfl, AtE.on (same_tups (sA.trans (same_new hL _))) _ _ he, rfl⟩
    | pl z e =>
      obtain ⟨p, ve, rfl, hp, he⟩ := hat
      have hpl : inV (.str (mk z)) [V.str (Str.ofString "do"), V.str (Str.ofString "say"), V.str (Str.ofString "return"), V.str (Str.ofString "raise")] = true := by
        have hz : isPl z = true := hok.1
        rcases pl_cases hz with h | h | h | h <;> (rw [h, mk_tl]; decide +kernel)
      refine ⟨_, rfl, p, _, _, _, rfl, rfl, SqT.of hp, atI_0, ?_⟩
      refine in_testT (zs := [V.str (Str.ofString "do"), V.str (Str.ofString "say"), V.str (Str.ofString "return"), V.str (Str.ofString "raise")]) rfl (fun _ _ q => q) (by show 4 ≤ sizeLine; decide) rfl (b := true) hpl fun H1 s1 => ?_
      refine iteT ?_
      have sA := ((Same.refl H).trans s1)
      refine ⟨_, rfl, 1, rfl, p, _, rfl, SqT.of (sA _ _ hp), fun c => absurd c.1 (show ¬ HT.sIx 2 0 (some 1) = 0 by decide), fun L hL => ?_⟩
      exact kq _ L _ (sA.trans (same_new hL _)) upd_same ⟨ve, [], rfl, AtE.on (same_tups (sA.trans (same_new hL _))) _ _ he, rfl⟩
    | iff e a b =>
      obtain ⟨p, ve, q, xs, r, ys, rfl, hp, hq, hr_, h5, h6, h7⟩ := hat
      refine ⟨_, rfl, p, _, _, _, rfl, rfl, SqT.of hp, atI_0, ?_⟩
      refine in_testT (zs := [V.str (Str.ofString "do"), V.str (Str.ofString "say"), V.str (Str.ofString "return"), V.str (Str.ofString "raise")]) rfl (fun _ _ q => q) (by show 4 ≤ sizeLine; decide) rfl (b := false) (by decide +kernel) fun H1 s1 => ?_
      refine iteF ?_
      refine in_testT (zs := [V.str (Str.ofString "set"), V.str (Str.ofString "setfield")]) rfl (fun _ _ q => q) (by show 2 ≤ sizeLine; decide) rfl (b := false) (by decide +kernel) fun H2 s2 => ?_
      refine iteF ?_
      refine ⟨_, rfl, rfl, _, rfl, ?_⟩
      refine ite2 (fun _ => ?_) (fun c => absurd (by decide +kernel) c)
      have sA := (((Same.refl H).trans s1).trans s2)
      have ha := atl_stl h6
      have hb := atl_stl h7
      have hal := ha.len
      have hbl := hb.len
      have la := stl_len a
      have lb := stl_len b
      have hn' : 1 + nE e + nSs a + nSs b ≤ 1100 := hn
      refine ⟨_, rfl, p, _, rfl, SqT.of (sA _ _ hp), rfl, _, _, rfl, _, _, rfl, _, _, rfl, _, _, rfl, rfl, ?_⟩
      refine ⟨_, rfl, _, rfl, q, xs, rfl, .inl (SqT.of (sA _ _ hq)), _, rfl, r, ys, rfl, .inl (SqT.of (sA _ _ hr_)), by rw [List.append_nil, List.length_cons, List.length_append, sizeLine_eq]; omega, fun L hL => ?_⟩
      rw [List.append_nil]
      have u := sA.trans (same_new hL (.tup (ve :: (xs ++ ys))))
      exact kq _ L _ u upd_same ⟨ve, xs ++ ys, rfl, AtE.on (same_tups u) _ _ h5, AtL.on (same_tups u) (fun _ _ h => AtN.on (same_tups u) h) (atl_app ha hb)⟩
    | whl e a =>
      obtain ⟨p, ve, q, xs, rfl, hp, hq, h5, h6⟩ := hat
      refine ⟨_, rfl, p, _, _, _, rfl, rfl, SqT.of hp, atI_0, ?_⟩
      refine in_testT (zs := [V.str (Str.ofString "do"), V.str (Str.ofString "say"), V.str (Str.ofString "return"), V.str (Str.ofString "raise")]) rfl (fun _ _ q => q) (by show 4 ≤ sizeLine; decide) rfl (b := false) (by decide +kernel) fun H1 s1 => ?_
      refine iteF ?_
      refine in_testT (zs := [V.str (Str.ofString "set"), V.str (Str.ofString "setfield")]) rfl (fun _ _ q => q) (by show 2 ≤ sizeLine; decide) rfl (b := false) (by decide +kernel) fun H2 s2 => ?_
      refine iteF ?_
      refine ⟨_, rfl, rfl, _, rfl, ?_⟩
      refine ite2 (fun c => absurd c (by decide +kernel)) (fun _ => ?_)
      refine ⟨_, rfl, rfl, _, rfl, ?_⟩
      refine ite2 (fun _ => ?_) (fun c => absurd (by decide +kernel) c)
      have sA := (((Same.refl H).trans s1).trans s2)
      have ha := atl_stl h6
      have hal := ha.len
      have la := stl_len a
      have hn' : 1 + nE e + nSs a ≤ 1100 := hn
      refine ⟨_, rfl, p, _, rfl, SqT.of (sA _ _ hp), rfl, _, _, rfl, _, _, rfl, _, _, rfl, rfl, ?_⟩
      refine ⟨_, rfl, _, rfl, q, xs, rfl, .inl (SqT.of (sA _ _ hq)), by rw [List.append_nil, List.length_cons, sizeLine_eq]; omega, fun L hL => ?_⟩
      rw [List.append_nil]
      have u := sA.trans (same_new hL (.tup (ve :: xs)))
      exact kq _ L _ u upd_same ⟨ve, xs, rfl, AtE.on (same_tups u) _ _ h5, AtL.on (same_tups u) (fun _ _ h => AtN.on (same_tups u) h) ha⟩
    | tri a z b =>
      obtain ⟨p, q, xs, r, ys, rfl, hp, hq, hr_, h6, h7⟩ := hat
      refine ⟨_, rfl, p, _, _, _, rfl, rfl, SqT.of hp, atI_0, ?_⟩
      refine in_testT (zs := [V.str (Str.ofString "do"), V.str (Str.ofString "say"), V.str (Str.ofString "return"), V.str (Str.ofString "raise")]) rfl (fun _ _ q => q) (by show 4 ≤ sizeLine; decide) rfl (b := false) (by decide +kernel) fun H1 s1 => ?_
      refine iteF ?_
      refine in_testT (zs := [V.str (Str.ofString "set"), V.str (Str.ofString "setfield")]) rfl (fun _ _ q => q) (by show 2 ≤ sizeLine; decide) rfl (b := false) (by decide +kernel) fun H2 s2 => ?_
      refine iteF ?_
      refine ⟨_, rfl, rfl, _, rfl, ?_⟩
      refine ite2 (fun c => absurd c (by decide +kernel)) (fun _ => ?_)
      refine ⟨_, rfl, rfl, _, rfl, ?_⟩
      refine ite2 (fun c => absurd c (by decide +kernel)) (fun _ => ?_)
      refine ⟨_, rfl, rfl, _, rfl, ?_⟩
      refine ite2 (fun _ => ?_) (fun c => absurd (by decide +kernel) c)
      have sA := (((Same.refl H).trans s1).trans s2)
      have ha := atl_stl h6
      have hb := atl_stl h7
      have hal := ha.len
      have hbl := hb.len
      have la := stl_len a
      have lb := stl_len b
      have hn' : 1 + nSs a + nSs b ≤ 1100 := hn
      refine ⟨_, rfl, p, _, rfl, SqT.of (sA _ _ hp), rfl, _, _, rfl, _, _, rfl, _, _, rfl, _, _, rfl, rfl, ?_⟩
      have hab := AtL.on (same_tups sA) (fun _ _ h => AtN.on (same_tups sA) h) (atl_app ha hb)
      refine ⟨_, rfl, _, rfl, q, r, xs, ys, rfl, rfl, SqT.of (sA _ _ hq), SqT.of (sA _ _ hr_), by rw [sizeLine_eq]; omega, fun h => ?_, fun h1 h2 => ?_, fun h1 h2 L hL => ?_⟩
      · subst h
        exact kq _ r _ sA (sA _ _ hr_) hab
      · subst h2
        rw [List.append_nil] at hab
        exact kq _ q _ sA (sA _ _ hq) hab
      · have u := same_new hL (.tup (xs ++ ys))
        exact kq _ L _ (sA.trans u) upd_same (AtL.on (same_tups u) (fun _ _ h => AtN.on (same_tups u) h) hab)
end
end My
set_option Elab.async false
set_option linter.all false
set_option maxRecDepth 100000
set_option maxHeartbeats 8000000
namespace My
open PySem L2 SS
abbrev sNc : Stmt := s_nodes_with_codes
/-! ### what is still to come, as a stack -/
def pend : List (Nd × Int) → Nat → List (Nd × Int)
  | [], _ => []
  | q :: r, a => goneH 40 q.1 q.2 a ++ pend r (a + nN q.1)
def stN (st : List (Nd × Int)) : Nat := (st.map fun q => nN q.1).sum
theorem stN_app (x y : List (Nd × Int)) : stN (x ++ y) = stN x + stN y := by unfold stN; rw [List.map_append, List.sum_append]
theorem stN_map (qs : List Nd) (c : Int) : stN (qs.map fun q => (q, c)) = (qs.map nN).sum := by unfold stN; rw [List.map_map]; rfl
theorem nN_pos (n : Nd) : 1 ≤ nN n := by have := parts_n n; omega
theorem stN_len : ∀ st : List (Nd × Int), st.length ≤ stN st
  | [] => Nat.zero_le _
  | q :: r => by
    have := stN_len r
    have h := nN_pos q.1
    show r.length + 1 ≤ nN q.1 + stN r
    omega
theorem pend_app : ∀ (x y : List (Nd × Int)) (a : Nat), pend (x ++ y) a = pend x a ++ pend y (a + stN x)
  | [], y, a => rfl
  | q :: r, y, a => by
    show goneH 40 q.1 q.2 a ++ pend (r ++ y) (a + nN q.1) = (goneH 40 q.1 q.2 a ++ pend r (a + nN q.1)) ++ pend y (a + (nN q.1 + stN r))
    rw [pend_app r y, List.append_assoc, Nat.add_assoc]
theorem pend_len : ∀ (st : List (Nd × Int)) (a : Nat), (∀ q ∈ st, hN q.1 ≤ 40) → (pend st a).length = stN st
  | [], a, _ => rfl
  | q :: r, a, h => by
    show (goneH 40 q.1 q.2 a ++ pend r (a + nN q.1)).length = nN q.1 + stN r
    rw [List.length_append, gone_len 40 q.1 _ _ (h q List.mem_cons_self), pend_len r _ fun x hx => h x (List.mem_cons_of_mem _ hx)]
theorem goneL_pend {h : Nat} (h40 : h ≤ 40) (qs : List Nd) (c : Int) (a : Nat) (hq : ∀ q ∈ qs, hN q ≤ h) : goneL h qs c a = pend (qs.map fun q => (q, c)) a := by
  have gen : ∀ (qs : List Nd) (acc : List (Nd × Int)), (∀ q ∈ qs, hN q ≤ h) → qs.foldl (fun acc q => acc ++ goneH h q c (a + acc.length)) acc = acc ++ pend (qs.map fun q => (q, c)) (a + acc.length) := fun qs => by
    induction qs with
    | nil => intro acc _; exact (List.append_nil _).symm
    | cons q r ih =>
      intro acc hr
      have hq := hr q List.mem_cons_self
      have e : goneH h q c (a + acc.length) = goneH 40 q c (a + acc.length) := goneH_eq h 40 q c _ hq (by omega)
      rw [List.foldl_cons, ih _ fun x hx => hr x (List.mem_cons_of_mem _ hx), List.length_append, gone_len h q c _ hq, e, List.append_assoc, List.map_cons, ← Nat.add_assoc]
      rfl
  exact gen qs [] hq
theorem pend_step {n : Nd} (c : Int) (r : List (Nd × Int)) (a : Nat) (hn : hN n ≤ 40) : pend ((n, c) :: r) a = (n, c) :: pend ((parts n).map (fun q => (q, if isBlk n = true then ((a : Nat) : Int) else c)) ++ r) (a + 1) := by
  have e1 : goneH 40 n c a = (n, c) :: goneL 39 (parts n) (if isBlk n = true then ((a : Nat) : Int) else c) (a + 1) := goneH_succ 39 n c a
  have hp := parts_n n
  show goneH 40 n c a ++ pend r (a + nN n) = _
  rw [e1, goneL_pend (by decide) _ _ _ fun q hq => by have := (parts_h n q hq).1; omega, pend_app, stN_map, List.cons_append]
  have e2 : a + 1 + ((parts n).map nN).sum = a + nN n := by omega
  rw [e2]
/-- as the program needs it of a method -/
structure gdM (m : Me) : Prop where
  ps : m.ps.length ≤ 10
  ss : gdSs m.ss
  o : oSs m.ss ≤ 18
def gM (m : Me) : List (Nd × Int) := goneL 40 (stl m.ss) (-1) 0
theorem stl_ho : ∀ (ss : Sts) (q : Nd), q ∈ stl ss → hN q ≤ 2 * oSs ss + 2
  | .nil, q, h => by simp [stl] at h
  | .cons s r, q, h => by
    have e : oSs (.cons s r) = max (oS s) (oSs r) := rfl
    rcases List.mem_cons.mp h with rfl | h
    · show 2 * oS s + 2 ≤ _
      omega
    · have := stl_ho r q h
      omega
theorem gM_pend {m : Me} (h : gdM m) : gM m = pend ((stl m.ss).map fun q => (q, -1)) 0 := goneL_pend (Nat.le_refl _) _ _ _ fun q hq => by
  have := stl_ho m.ss q hq
  have := h.o
  omega
theorem st0_ok {m : Me} (h : gdM m) : ∀ q ∈ (stl m.ss).map (fun q => (q, (-1 : Int))), gdN q.1 ∧ hN q.1 ≤ 40 := fun q hq => by
  obtain ⟨x, hx, rfl⟩ := List.mem_map.mp hq
  have := stl_ho m.ss x hx
  have := h.o
  exact ⟨stl_gd m.ss h.ss x hx, by show hN x ≤ 40; omega⟩
theorem gM_len {m : Me} (h : gdM m) : (gM m).length = nSs m.ss := by
  rw [gM_pend h, pend_len _ _ fun q hq => (st0_ok h q hq).2, stN_map, stl_n]
theorem AtL.unsnoc {α : Type} {R : Hp → α → V → Prop} {H : Hp} : ∀ {xs : List α} {x : α} {vs : List V}, AtL R H (xs ++ [x]) vs → ∃ vs' u, vs = vs' ++ [u] ∧ AtL R H xs vs' ∧ R H x u
  | [], x, vs, ⟨u, us, h1, h2, h3⟩ => by
    have h3' : us = [] := h3
    subst h3'
    exact ⟨[], u, h1, rfl, h2⟩
  | y :: r, x, vs, ⟨u, us, h1, h2, h3⟩ => by
    obtain ⟨vs', z, e1, e2, e3⟩ := AtL.unsnoc (xs := r) h3
    exact ⟨u :: vs', z, by rw [h1, e1]; rfl, ⟨u, vs', rfl, h2, e2⟩, e3⟩
theorem AtL.rev {α : Type} {R : Hp → α → V → Prop} {H : Hp} : ∀ {xs : List α} {vs : List V}, AtL R H xs vs → AtL R H xs.reverse vs.reverse
  | [], vs, h => by
    have h' : vs = [] := h
    subst h'
    rfl
  | y :: r, vs, ⟨u, us, h1, h2, h3⟩ => by
    subst h1
    rw [List.reverse_cons, List.reverse_cons]
    exact (AtL.rev h3).snoc h2
theorem tif_val {t : TT} {ta tb : TE} {σ : L2.St} {H : Hp} {Q : VK} {x : V} (b : Bool) (ht : ∀ Q' : Bool → Hp → Prop, Q' b H → t σ H Q') (ha : b = true → ∀ Q' : VK, Q' x H → ta σ H Q') (hb : b = false → ∀ Q' : VK, Q' x H → tb σ H Q') (q : Q x H) : tIf t ta tb σ H Q := by
  refine ht _ ?_
  cases b with
  | true => rw [if_pos rfl]; exact ha rfl _ q
  | false => rw [if_neg (by decide)]; exact hb rfl _ q
theorem nx_if {t : TT} {ta tb : TE} {g : TG} {r : TS} {D D' : Ends} {σ : L2.St} {H : Hp} {x : V} (b : Bool) (ht : ∀ Q' : Bool → Hp → Prop, Q' b H → t σ H Q') (ha : b = true → ∀ Q' : VK, Q' x H → ta σ H Q') (hb : b = false → ∀ Q' : VK, Q' x H → tb σ H Q') (q : g x σ H (r D)) : ({ D' with nx := tSeq (tAsg (tIf t ta tb) g) r D } : Ends).nx σ H := tif_val b ht ha hb q
section
variable {P : Program} {w : World} {K : PySem.W.Frag} {mg : Str → Option Value} {base : Heap}
def spNc : Sp := fun vs H Q _ => ∃ (m : Me) (v : V), vs = [v] ∧ AtM H m v ∧ gdM m ∧ nSs m.ss ≤ 1100 ∧ ∀ H' a us, Same H H' → H' a = some (.lst us) → AtL AtR H' (gM m) us → Q (.ref a) H'
theorem scNc : FnScope ["method", "nodes", "_", "statements", "todo", "node", "code", "code_inside", "statement", "part"] ["method"] (defScope sNc) := ⟨rfl, rfl, rfl, by decide +kernel, rfl, by decide +kernel, by decide +kernel⟩
/-- at a turn of the while -/
def NcI (m : Me) (H0 : Hp) (v : V) (ln lt qs : Addr) (k : Nat) (σ : L2.St) (Hn : Hp) : Prop := ∃ (g st : List (Nd × Int)) (us vs : List V) (v2 v5 v6 v7 : Option V),
  σ = [some v, some (.ref ln), v2, some (.ref qs), some (.ref lt), v5, v6, v7, none, none] ∧ k = stN st ∧ Same H0 Hn ∧ Hn ln = some (.lst us) ∧ Hn lt = some (.lst vs) ∧
  AtL AtR Hn g us ∧ AtL AtR Hn st.reverse vs ∧ g ++ pend st g.length = gM m ∧ ∀ q ∈ st, gdN q.1 ∧ hN q.1 ≤ 40
theorem c_nc (TS : TxS K mg) (gMC : GI mg "METHOD_CODE" (-1)) (D : Dn K mg "nodes_with_codes" sNc) (PP : C0 P w K mg base 1 "parts_of" spPt) : C0 P w K mg base 2 "nodes_with_codes" spNc := by
  obtain ⟨f, fd, F, hmm⟩ := D.ex
  refine ⟨f, fd, ["method"], F.ok scNc (fun vs H Q E h => ?_) (fun cdv A outer s H vs Q E hr h => ?_), hmm, F.kp, F.binds (ps := ["method"]) fun _ _ _ _ _ _ us hl => match us, hl with | [_], _ => rfl⟩
  · obtain ⟨n, v, rfl, _⟩ := h
    rfl
  obtain ⟨m, v, rfl, hat, hok, hns, kq⟩ := h
  refine ⟨_, pss_cons (ps_set (i := 1) scNc.nd rfl (Or.inl rfl) (pe_lst pa_nil)) <|
    pss_cons (ps_asg (pv 0) (pg_tup (by rfl) (pgs_cons (pg_name (i := 2) scNc.nd rfl (Or.inl rfl)) (pgs_cons (pg_name (i := 2) scNc.nd rfl (Or.inl rfl)) (pgs_cons (pg_name (i := 2) scNc.nd rfl (Or.inl rfl)) (pgs_cons (pg_name (i := 3) scNc.nd rfl (Or.inl rfl)) pgs_nil)))))) <|
    pss_cons (ps_setLc (i := 4) (own := [("statement", 8)]) (g := gName 8) (by rfl) scNc.nd rfl rfl (sw_true rfl rfl rfl (by decide +kernel)) (pi_tup (pe_revT (pv 3)))
        (blkOk_by (own := [("statement", 8)]) (N := ["method", "nodes", "_", "statements", "todo", "node", "code", "code_inside", "statement", "part"]) (sc := defScope sNc) (by decide +kernel))
        (fun _ _ _ _ _ => pg_name (i := 8) scNc.nd rfl (Or.inl rfl)) (fun _ _ _ _ _ => pts_nil) (fun _ _ _ _ _ => pe_tup (pa_cons (pv 8) (pa_cons (pe_gi gMC) pa_nil)))) <|
    pss_cons (ps_while PassesOwn.never (pt_truth (pv 4) (fun _ => rfl))
      (pss_cons (ps_asg (pe_bm0 PySem.F.plainAttrs_list PySem.F.slot_list_pop PySem.F.type_list_pop mt_pop (pv 4)) (pg_tup (by rfl) (pgs_cons (pg_name (i := 5) scNc.nd rfl (Or.inl rfl)) (pgs_cons (pg_name (i := 6) scNc.nd rfl (Or.inl rfl)) pgs_nil)))) <|
        pss_cons (ps_set (i := 7) scNc.nd rfl (Or.inr rfl) (pe_ifExp (pt_cmpR op_eq (pe_ix ix_tup (pv 5) pe_int (fun _ _ => rfl)) pe_str (nomark _)) (pe_callB call_len_seq (by rfl) TS.len PySem.boot_len (pa_cons (pv 1) pa_nil)) (pv 6))) <|
        pss_cons (ps_expr (pe_bm PySem.F.plainAttrs_list PySem.F.slot_list_append PySem.F.type_list_append mt_append (pv 1) (pa_cons (pe_tup (pa_cons (pv 5) (pa_cons (pv 6) pa_nil))) pa_nil))) <|
        pss_one (ps_expr (pe_bm PySem.F.plainAttrs_list PySem.F.slot_list_extend PySem.F.type_list_extend mt_extend (pv 4) (pa_cons (pe_lc (own := [("part", 9)]) (g := gName 9) (tt := tYes) rfl scNc.nd (pi_tup (pe_revT (pe_cc PP hr (by decide) pass0 (pa_cons (pv 5) pa_nil))))
          (blkOk_by (own := [("part", 9)]) (N := ["method", "nodes", "_", "statements", "todo", "node", "code", "code_inside", "statement", "part"]) (sc := defScope sNc) (by decide +kernel))
          (fun _ _ _ _ _ => pg_name (i := 9) scNc.nd rfl (Or.inl rfl)) (fun _ _ _ _ _ => pts_nil) (fun _ _ _ _ _ => pe_tup (pa_cons (pv 9) (pa_cons (pv 7) pa_nil)))) pa_nil))))) <|
    pss_one (ps_ret (pv 1)), ?_⟩
  have hgl := gM_len hok
  refine ⟨Nat.zero_le _, fun ln hln => ?_⟩
  have s1 := same_new hln (.lst [])
  have f1 : upd H ln (.lst []) ln = some (.lst []) := upd_same
  have at1 : AtM (upd H ln (.lst [])) m v := hat.on (same_tups s1)
  generalize upd H ln (.lst []) = H1 at s1 f1 at1 ⊢
  obtain ⟨pm, vw, q, ys, rfl, hm1, hm2, hm3, hm4⟩ := at1
  refine ⟨_, rfl, pm, _, rfl, SqT.of hm1, rfl, _, _, rfl, _, _, rfl, _, _, rfl, _, _, rfl, rfl, ?_⟩
  refine ⟨_, rfl, q, ys, rfl, SqT.of hm3, fun rp hrp => ?_⟩
  have s2 := same_new hrp (.tup ys.reverse)
  have f2 : upd H1 rp (.tup ys.reverse) rp = some (.tup ys.reverse) := upd_same
  have at2 : AtL AtN (upd H1 rp (.tup ys.reverse)) (stl m.ss).reverse ys.reverse := (AtL.on (same_tups s2) (fun _ _ h => AtN.on (same_tups s2) h) (atl_stl hm4)).rev
  have f1b := s2 _ _ f1
  have s02 := s1.trans s2
  generalize upd H1 rp (.tup ys.reverse) = H2 at s2 f2 at2 f1b s02 ⊢
  refine ⟨rp, rfl, ⟨_, SqT.of f2⟩, fun lt hlt => ?_⟩
  have hlt0 : H lt = none := s02.free hlt
  have hne : ln ≠ lt := fun e => by rw [e, hlt] at f1b; cases f1b
  have hys : ys.length ≤ 1100 := by
    have h1 := (atl_stl hm4).len
    have h2 := stl_len m.ss
    omega
  refine lc_tup (K := K) (a := rp) (xs := ys.reverse) (fun i H7 => Same H2 H7 ∧ ∃ vs, H7 lt = some (.lst vs) ∧ AtL AtR H7 (((stl m.ss).reverse.take i).map fun q => (q, (-1 : Int))) vs) ⟨same_new hlt _, [], upd_same, rfl⟩ (fun i H7 _ h => SqT.of (h.1 _ _ f2)) ?_ ?_
  · rintro i u H7 hu ⟨s7, vs, f7, at7⟩
    obtain ⟨x, hx1, hx2⟩ := (AtL.on (same_tups s7) (fun _ _ h => AtN.on (same_tups s7) h) at2).get hu
    have hi : i < ys.reverse.length := (List.getElem?_eq_some_iff.mp hu).1
    rw [List.length_reverse] at hi
    refine ⟨rfl, ?_⟩
    unfold tYes
    refine iteT ?_
    refine ⟨_, rfl, by show 2 ≤ sizeLine; decide, fun tp htp => ?_⟩
    have s8 := same_new htp (.tup [u, .int (-1)])
    have tt := tups_lst (ys := vs ++ [.ref tp]) (s8 _ _ f7)
    refine ⟨vs, s8 _ _ f7, by rw [at7.len, List.length_map, List.length_take, sizeLine_eq]; omega, ?_, vs ++ [.ref tp], upd_same, ?_⟩
    · intro b z h
      rw [upd_ne (ne_of_none h hlt)]
      exact s8 _ _ (s7 _ _ h)
    · have et : ((stl m.ss).reverse.take (i + 1)).map (fun q => (q, (-1 : Int))) = ((stl m.ss).reverse.take i).map (fun q => (q, (-1 : Int))) ++ [(x, -1)] := by
        rw [List.take_add_one, hx1, List.map_append]
        rfl
      rw [et]
      refine (AtL.on tt (fun _ _ h => AtR.on tt h) (AtL.on (same_tups s8) (fun _ _ h => AtR.on (same_tups s8) h) at7)).snoc ⟨tp, u, rfl, tt _ _ upd_same, AtN.on tt (AtN.on (same_tups s8) hx2)⟩
  rintro H7 ⟨s7, vs, f7, at7⟩
  have hl7 : ys.reverse.length = (stl m.ss).reverse.length := by rw [List.length_reverse, List.length_reverse]; exact (atl_stl hm4).len
  rw [hl7, List.take_length, List.map_reverse] at at7
  have s07 := s02.trans s7
  refine ⟨fun k σ Hn => NcI m H (.ref pm) ln lt q k σ Hn, ⟨_, [], (stl m.ss).map (fun q => (q, -1)), [], vs, _, _, _, _, rfl, rfl, s07, s7 _ _ f1b, f7, rfl, at7, (gM_pend hok).symm, st0_ok hok⟩, ?_⟩
  clear hm1 hm2 hm3 hm4 f1 f2 at2 f1b s2 s02 hlt hrp s7 f7 at7 s07 hl7 s1
  rintro k σ Hn ⟨g, st, us, vs, v2, v5, v6, v7, rfl, rfl, s0, fn, ft, atg, att, hpend, hst⟩
  have hplen : g.length + stN st = nSs m.ss := by
    rw [← hgl, ← hpend, List.length_append, pend_len _ _ fun q hq => (hst q hq).2]
  have hgus := atg.len
  cases st with
  | nil =>
    have h' : vs = [] := att
    subst h'
    refine ⟨_, rfl, false, .inl ⟨[], SqL.of ft, rfl⟩, iteF ?_⟩
    have hg : g = gM m := by rw [← hpend]; exact (List.append_nil _).symm
    rw [hg] at atg
    exact ⟨_, rfl, kq Hn ln us s0 fn atg⟩
  | cons x r =>
    obtain ⟨n, c⟩ := x
    obtain ⟨hokn, hn40⟩ := hst (n, c) List.mem_cons_self
    rw [List.reverse_cons] at att
    obtain ⟨vs', u, rfl, att', atu⟩ := AtL.unsnoc att
    obtain ⟨p, vn, rfl, hp, hvn⟩ := atu
    have hpn := parts_n n
    have hsn : stN ((n, c) :: r) = nN n + stN r := rfl
    rw [hsn] at hplen ⊢
    have hrl := stN_len r
    have hvl := att'.len
    rw [List.length_reverse] at hvl
    refine ⟨_, rfl, true, .inl ⟨vs' ++ [.ref p], SqL.of ft, by simp⟩, iteT ?_⟩
    refine ⟨fun σ' H' => ∃ k', k' < nN n + stN r ∧ NcI m H (.ref pm) ln lt q k' σ' H', fun σ' H' h => h, ?_⟩
    have ta := tups_lst (ys := vs') ft
    refine ⟨_, rfl, .inl ⟨rfl, _, SqL.of ft⟩, lt, vs' ++ [.ref p], .ref p, rfl, rfl, ft, by simp, ?_⟩
    rw [List.dropLast_concat]
    have sa : Same H (upd Hn lt (.lst vs')) := fun b z hb => by rw [upd_ne (ne_of_none hb hlt0)]; exact s0 _ _ hb
    have fa : upd Hn lt (.lst vs') ln = some (.lst us) := by rw [upd_ne hne]; exact fn
    have fb : upd Hn lt (.lst vs') lt = some (.lst vs') := upd_same
    have hpa := ta _ _ hp
    have hvna := AtN.on ta hvn
    have atga := AtL.on ta (fun _ _ h => AtR.on ta h) atg
    have atta := AtL.on ta (fun _ _ h => AtR.on ta h) att'
    generalize upd Hn lt (.lst vs') = Ha at sa fa fb hpa hvna atga atta ⊢
    refine ⟨p, _, rfl, SqT.of hpa, rfl, _, _, rfl, _, _, rfl, rfl, ?_⟩
    obtain ⟨pz, z, rest, rfl, hpz, hz⟩ := blk_word hvna hokn
    refine nx_if (x := .int (if isBlk n = true then ((g.length : Nat) : Int) else c)) (isBlk n) (fun Q' q' => ⟨_, rfl, pz, _, _, _, rfl, rfl, SqT.of hpz, atI_0, rfl, _, rfl, by rw [hz]; exact q'⟩) (fun hb Q' q' => ⟨_, rfl, ln, us, rfl, .inl (SqL.of fa), by rw [if_pos hb] at q'; rw [hgus]; exact q'⟩) (fun hb Q' q' => ⟨_, rfl, by rw [if_neg (by rw [hb]; decide)] at q'; exact q'⟩) ?_
    generalize hci : (if isBlk n = true then ((g.length : Nat) : Int) else c) = ci
    refine ⟨_, rfl, .inl ⟨rfl, _, SqL.of fa⟩, _, rfl, _, rfl, by show 2 ≤ sizeLine; decide, fun tp htp => ?_⟩
    have s3 := same_new htp (.tup [.ref pz, .int c])
    have f3 := s3 _ _ fa
    have tt := tups_lst (ys := us ++ [.ref tp]) f3
    refine ⟨ln, us, _, rfl, rfl, f3, by rw [hgus, sizeLine_eq]; omega, ?_⟩
    have sb : Same H (upd (upd Ha tp (.tup [.ref pz, .int c])) ln (.lst (us ++ [.ref tp]))) := fun b z hb => by rw [upd_ne (ne_of_none hb hln)]; exact s3 _ _ (sa _ _ hb)
    have fnb : upd (upd Ha tp (.tup [.ref pz, .int c])) ln (.lst (us ++ [.ref tp])) ln = some (.lst (us ++ [.ref tp])) := upd_same
    have ftb : upd (upd Ha tp (.tup [.ref pz, .int c])) ln (.lst (us ++ [.ref tp])) lt = some (.lst vs') := by rw [upd_ne hne.symm]; exact s3 _ _ fb
    have t3 := (same_tups s3).trans tt
    have atgb : AtL AtR (upd (upd Ha tp (.tup [.ref pz, .int c])) ln (.lst (us ++ [.ref tp]))) (g ++ [(n, c)]) (us ++ [.ref tp]) := (AtL.on t3 (fun _ _ h => AtR.on t3 h) atga).snoc ⟨tp, .ref pz, rfl, tt _ _ upd_same, AtN.on t3 hvna⟩
    have attb := AtL.on t3 (fun _ _ h => AtR.on t3 h) atta
    have hvnb := AtN.on t3 hvna
    generalize upd (upd Ha tp (.tup [.ref pz, .int c])) ln (.lst (us ++ [.ref tp])) = Hb at sb fnb ftb atgb attb hvnb ⊢
    refine ⟨_, rfl, .inl ⟨rfl, _, SqL.of ftb⟩, ?_⟩
    refine ⟨_, rfl, n, _, rfl, hvnb, hokn, by omega, fun Hc a zs sc fc atc => ?_⟩
    refine ⟨a, zs, rfl, SqT.of fc, fun rp2 hrp2 => ?_⟩
    have s4 := sc.trans (same_new hrp2 (.tup zs.reverse))
    have f4 : upd Hc rp2 (.tup zs.reverse) rp2 = some (.tup zs.reverse) := upd_same
    have at4 : AtL AtN (upd Hc rp2 (.tup zs.reverse)) (parts n).reverse zs.reverse := (AtL.on (same_tups (same_new hrp2 _)) (fun _ _ h => AtN.on (same_tups (same_new hrp2 _)) h) atc).rev
    generalize upd Hc rp2 (.tup zs.reverse) = Hd at s4 f4 at4 ⊢
    refine ⟨rp2, rfl, ⟨_, SqT.of f4⟩, fun D0 hD0 => ?_⟩
    have hzl : zs.length = (parts n).length := atc.len
    have hpl : (parts n).length ≤ ((parts n).map nN).sum := by
      have := stN_len ((parts n).map fun q => (q, c))
      rw [stN_map, List.length_map] at this
      exact this
    refine lc_tup (K := K) (a := rp2) (xs := zs.reverse) (fun i H7 => Same Hd H7 ∧ ∃ ws, H7 D0 = some (.lst ws) ∧ AtL AtR H7 (((parts n).reverse.take i).map fun q => (q, ci)) ws) ⟨same_new hD0 _, [], upd_same, rfl⟩ (fun i H7 _ h => SqT.of (h.1 _ _ f4)) ?_ ?_
    · rintro i u H7 hu ⟨s7, ws, f7, at7⟩
      obtain ⟨x, hx1, hx2⟩ := (AtL.on (same_tups s7) (fun _ _ h => AtN.on (same_tups s7) h) at4).get hu
      have hi : i < zs.reverse.length := (List.getElem?_eq_some_iff.mp hu).1
      rw [List.length_reverse] at hi
      refine ⟨rfl, ?_⟩
      unfold tYes
      refine iteT ?_
      refine ⟨_, rfl, _, rfl, by show 2 ≤ sizeLine; decide, fun tp2 htp2 => ?_⟩
      have s8 := same_new htp2 (.tup [u, .int ci])
      have tt2 := tups_lst (ys := ws ++ [.ref tp2]) (s8 _ _ f7)
      refine ⟨ws, s8 _ _ f7, by rw [at7.len, List.length_map, List.length_take, sizeLine_eq]; omega, ?_, ws ++ [.ref tp2], upd_same, ?_⟩
      · intro b z h
        rw [upd_ne (ne_of_none h hD0)]
        exact s8 _ _ (s7 _ _ h)
      · have et : ((parts n).reverse.take (i + 1)).map (fun q => (q, ci)) = ((parts n).reverse.take i).map (fun q => (q, ci)) ++ [(x, ci)] := by
          rw [List.take_add_one, hx1, List.map_append]
          rfl
        rw [et]
        refine (AtL.on tt2 (fun _ _ h => AtR.on tt2 h) (AtL.on (same_tups s8) (fun _ _ h => AtR.on (same_tups s8) h) at7)).snoc ⟨tp2, u, rfl, tt2 _ _ upd_same, AtN.on tt2 (AtN.on (same_tups s8) hx2)⟩
    rintro H7 ⟨s7, ws, f7, at7⟩
    have hl7 : zs.reverse.length = (parts n).reverse.length := by rw [List.length_reverse, List.length_reverse]; exact hzl
    rw [hl7, List.take_length, List.map_reverse] at at7
    have hwl := at7.len
    rw [List.length_reverse, List.length_map] at hwl
    have s5 := s4.trans s7
    have f5 := s5 _ _ ftb
    have t5 := (same_tups s5).trans (tups_lst (ys := vs' ++ ws) f5)
    refine ⟨lt, D0, vs', ws, rfl, rfl, f5, f7, by rw [hvl, hwl, sizeLine_eq]; omega, ?_⟩
    refine ⟨stN (((parts n).map fun q => (q, ci)) ++ r), ?_, g ++ [(n, c)], ((parts n).map fun q => (q, ci)) ++ r, us ++ [.ref tp], vs' ++ ws, _, _, _, _, rfl, rfl, fun b z hb => ?_, ?_, upd_same, AtL.on t5 (fun _ _ h => AtR.on t5 h) atgb, ?_, ?_, fun x hx => ?_⟩
    · rw [stN_app, stN_map]
      omega
    · rw [upd_ne (ne_of_none hb hlt0)]
      exact s5 _ _ (sb _ _ hb)
    · rw [upd_ne hne]
      exact s5 _ _ fnb
    · rw [List.reverse_append]
      have t6 := tups_lst (ys := vs' ++ ws) f5
      exact atl_app (AtL.on t5 (fun _ _ h => AtR.on t5 h) attb) (AtL.on t6 (fun _ _ h => AtR.on t6 h) at7)
    · rw [← hpend, pend_step c r g.length hn40, hci, List.length_append, List.append_assoc]
      rfl
    · rcases List.mem_append.mp hx with hx | hx
      · obtain ⟨y, hy, rfl⟩ := List.mem_map.mp hx
        obtain ⟨h1, h2⟩ := parts_h n y hy
        exact ⟨parts_gd n hokn y hy, by have h3 : hN n ≤ 40 := hn40; show hN y ≤ 40; omega⟩
      · exact hst x (List.mem_cons_of_mem _ hx)
end
end My
set_option Elab.async false
set_option linter.all false
set_option maxRecDepth 100000
set_option maxHeartbeats 8000000
namespace My
open PySem L2 SS
/-! ### the parameters of the blocks around, by codes -/
inductive Hid (g : List (Nd × Int)) : Int → List T → Prop
  | top : Hid g (-1) []
  | blk {i : Nat} {n : Nd} {c : Int} {hid : List T} : g[i]? = some (n, c) → isBlk n = true → c < ((i : Nat) : Int) → Hid g c hid → Hid g ((i : Nat) : Int) (blkP n ++ hid)
/-- words that stand for the same -/
def SameW (a b : List T) : Prop := ∀ w, w ∈ a ↔ w ∈ b
theorem SameW.add {a b : List T} (h : SameW a b) (n : Nd) (f : List T) : addN n a f = addN n b f := by
  unfold addN
  cases nameN n with
  | none => rfl
  | some w =>
    show (if w ∈ a ∨ w ∈ f then f else f ++ [w]) = if w ∈ b ∨ w ∈ f then f else f ++ [w]
    have e : (w ∈ a ∨ w ∈ f) ↔ (w ∈ b ∨ w ∈ f) := by rw [h w]
    by_cases hw : w ∈ a ∨ w ∈ f
    · rw [if_pos hw, if_pos (e.mp hw)]
    · rw [if_neg hw, if_neg fun z => hw (e.mpr z)]
theorem SameW.blk {a b : List T} (h : SameW a b) (p : List T) : SameW (p ++ a) (b ++ p) := fun w => by
  rw [List.mem_append, List.mem_append, h w]
  exact Or.comm
/-- what the nodes of g, from the left, add: each by its code's words -/
inductive Names (g : List (Nd × Int)) : List (Nd × Int) → List T → List T → Prop
  | nil {f : List T} : Names g [] f f
  | cons {n : Nd} {c : Int} {r : List (Nd × Int)} {hid f f' : List T} : Hid g c hid → Names g r (addN n hid f) f' → Names g ((n, c) :: r) f f'
theorem Names.app {g x y : List (Nd × Int)} {f f1 f2 : List T} (h : Names g x f f1) (h2 : Names g y f1 f2) : Names g (x ++ y) f f2 := by
  induction h with
  | nil => exact h2
  | cons a b ih => exact .cons a (ih h2)
theorem Names.cut {g : List (Nd × Int)} : ∀ {x y : List (Nd × Int)} {f f2 : List T}, Names g (x ++ y) f f2 → ∃ f1, Names g x f f1 ∧ Names g y f1 f2
  | [], y, f, f2, h => ⟨f, .nil, h⟩
  | q :: r, y, f, f2, h => by
    cases h with
    | cons a b =>
      obtain ⟨f1, h1, h2⟩ := Names.cut (x := r) b
      exact ⟨f1, .cons a h1, h2⟩
/-- the segment at a place -/
def Seg (g : List (Nd × Int)) (a : Nat) (x : List (Nd × Int)) : Prop := ∃ p q, g = p ++ (x ++ q) ∧ p.length = a
theorem Seg.left {g x y : List (Nd × Int)} {a : Nat} (h : Seg g a (x ++ y)) : Seg g a x := by
  obtain ⟨p, q, h1, h2⟩ := h
  exact ⟨p, y ++ q, by rw [h1, List.append_assoc], h2⟩
theorem Seg.right {g x y : List (Nd × Int)} {a : Nat} (h : Seg g a (x ++ y)) : Seg g (a + x.length) y := by
  obtain ⟨p, q, h1, h2⟩ := h
  exact ⟨p ++ x, q, by rw [h1]; simp, by rw [List.length_append, h2]⟩
theorem Seg.head {g r : List (Nd × Int)} {a : Nat} {q : Nd × Int} (h : Seg g a (q :: r)) : g[a]? = some q := by
  obtain ⟨p, z, h1, h2⟩ := h
  rw [h1, ← h2]
  simp
/-- nodes in a row within a code -/
theorem names_pend {g : List (Nd × Int)} {h : Nat} (one : ∀ (n : Nd) (c : Int) (a : Nat) (hid hid' f : List T), hN n ≤ h → Seg g a (goneH 40 n c a) → Hid g c hid → SameW hid hid' → c < ((a : Nat) : Int) → Names g (goneH 40 n c a) f (wiH h (parts n) (hid' ++ blkP n) (addN n hid' f))) :
    ∀ (qs : List Nd) (c : Int) (a : Nat) (hid hid' f : List T), h ≤ 40 → (∀ q ∈ qs, hN q ≤ h) → Seg g a (pend (qs.map fun q => (q, c)) a) → Hid g c hid → SameW hid hid' → c < ((a : Nat) : Int) → Names g (pend (qs.map fun q => (q, c)) a) f (wiL h qs hid' f)
  | [], c, a, hid, hid', f, _, _, _, _, _, _ => .nil
  | q :: r, c, a, hid, hid', f, h40, hq, sg, hd, sw, hc => by
    have hq1 := hq q List.mem_cons_self
    have sg' : Seg g a (goneH 40 q c a ++ pend (r.map fun q => (q, c)) (a + nN q)) := sg
    have l := gone_len 40 q c a (by omega)
    have sr := sg'.right
    rw [l] at sr
    exact Names.app (one q c a hid hid' f hq1 sg'.left hd sw hc) (names_pend one r c (a + nN q) hid hid' _ h40 (fun x hx => hq x (List.mem_cons_of_mem _ hx)) sr hd sw (by omega))
theorem names_one {g : List (Nd × Int)} : ∀ (h : Nat) (n : Nd) (c : Int) (a : Nat) (hid hid' f : List T), h ≤ 40 → hN n ≤ h → Seg g a (goneH 40 n c a) → Hid g c hid → SameW hid hid' → c < ((a : Nat) : Int) → Names g (goneH 40 n c a) f (wiH h (parts n) (hid' ++ blkP n) (addN n hid' f))
  | 0, n, c, a, hid, hid', f, _, hn, _, _, _, _ => by have := hN_pos n; omega
  | h + 1, n, c, a, hid, hid', f, h40, hn, sg, hd, sw, hc => by
    have e1 : goneH 40 n c a = (n, c) :: pend ((parts n).map fun q => (q, if isBlk n = true then ((a : Nat) : Int) else c)) (a + 1) := by
      have e := pend_step c [] a (n := n) (by omega)
      rw [List.append_nil] at e
      have e0 : pend [(n, c)] a = goneH 40 n c a := List.append_nil _
      rw [← e0]
      exact e
    rw [e1] at sg ⊢
    have hg := sg.head
    have sr : Seg g (a + 1) (pend ((parts n).map fun q => (q, if isBlk n = true then ((a : Nat) : Int) else c)) (a + 1)) := Seg.right (x := [(n, c)]) sg
    have ea : addN n hid' f = addN n hid f := (sw.add n f).symm
    rw [ea]
    refine .cons hd ?_
    rw [wiH_succ]
    have hp : ∀ q ∈ parts n, hN q ≤ h := fun q hq => by have := (parts_h n q hq).1; omega
    have one := fun (n : Nd) (c : Int) (a : Nat) (hid hid' f : List T) (hn : hN n ≤ h) sg hd sw hc => names_one (g := g) h n c a hid hid' f (by omega) hn sg hd sw hc
    cases hb : isBlk n with
    | true =>
      rw [hb] at sr
      rw [if_pos rfl] at sr ⊢
      exact names_pend one (parts n) _ (a + 1) (blkP n ++ hid) _ _ (by omega) hp sr (.blk hg hb hc hd) (sw.blk _) (by omega)
    | false =>
      rw [hb] at sr
      rw [if_neg (by decide)] at sr ⊢
      have e2 : blkP n = [] := by
        cases n with
        | e x => cases x with
          | blk ps ss => cases hb
          | _ => rfl
        | s x => rfl
      rw [e2, List.append_nil]
      exact names_pend one (parts n) c (a + 1) hid hid' _ (by omega) hp sr hd sw (by omega)
theorem wiH_le : ∀ (h : Nat) (qs : List Nd) (hid f : List T), (∀ q ∈ qs, hN q ≤ h) → wiH (h + 1) qs hid f = wiH h qs hid f
  | 0, qs, hid, f, hq => by
    cases qs with
    | nil => rfl
    | cons q r => have := hq q List.mem_cons_self; have := hN_pos q; omega
  | h + 1, qs, hid, f, hq => by
    rw [wiH_succ, wiH_succ]
    unfold wiL
    induction qs generalizing f with
    | nil => rfl
    | cons q r ih =>
      have hq1 := hq q List.mem_cons_self
      have e : wiS (h + 1) hid f q = wiS h hid f q := wiH_le h (parts q) _ _ fun x hx => by have := (parts_h q x hx).1; omega
      rw [List.foldl_cons, List.foldl_cons, e]
      exact ih _ fun x hx => hq x (List.mem_cons_of_mem _ hx)
def namesH (m : Me) : List T := wiH 40 (stl m.ss) [] m.ps
theorem names_all {m : Me} (h : gdM m) : Names (gM m) (gM m) m.ps (namesH m) := by
  have hq : ∀ q ∈ stl m.ss, hN q ≤ 40 := fun q hq => by
    have := stl_ho m.ss q hq
    have := h.o
    omega
  have e : namesH m = wiL 40 (stl m.ss) [] m.ps := by
    unfold namesH
    rw [← wiH_le 40 _ _ _ hq]
    exact wiH_succ 40 _ _ _
  rw [e]
  have := names_pend (g := gM m) (h := 40) (fun n c a hid hid' f hn sg hd sw hc => names_one 40 n c a hid hid' f (Nat.le_refl _) hn sg hd sw hc) (stl m.ss) (-1) 0 [] [] m.ps (Nat.le_refl _) hq
    ⟨[], [], by rw [← gM_pend h, List.append_nil]; rfl, rfl⟩ .top (fun _ => Iff.rfl) (by decide)
  rw [← gM_pend h] at this
  exact this
theorem goneH_gd : ∀ (h : Nat) (n : Nd) (c : Int) (a : Nat), gdN n → ∀ q ∈ goneH h n c a, gdN q.1
  | 0, n, c, a, _, q, hq => by cases hq
  | h + 1, n, c, a, ok, q, hq => by
    rw [goneH_succ] at hq
    rcases List.mem_cons.mp hq with rfl | hq
    · exact ok
    · have gen : ∀ (qs : List Nd) (acc : List (Nd × Int)) (c : Int) (a : Nat), (∀ x ∈ qs, x ∈ parts n) → (∀ x ∈ acc, gdN x.1) → ∀ x ∈ qs.foldl (fun acc q => acc ++ goneH h q c (a + acc.length)) acc, gdN x.1 := fun qs => by
        induction qs with
        | nil => intro acc c a _ hacc x hx; exact hacc x hx
        | cons p r ih =>
          intro acc c a hp hacc x hx
          rw [List.foldl_cons] at hx
          refine ih _ c a (fun y hy => hp y (List.mem_cons_of_mem _ hy)) (fun y hy => ?_) x hx
          rcases List.mem_append.mp hy with hy | hy
          · exact hacc y hy
          · exact goneH_gd h p c _ (parts_gd n ok p (hp p List.mem_cons_self)) y hy
      exact gen (parts n) [] _ _ (fun x hx => hx) (fun x hx => by cases hx) q hq
theorem pend_gd : ∀ (st : List (Nd × Int)) (a : Nat), (∀ q ∈ st, gdN q.1) → ∀ q ∈ pend st a, gdN q.1
  | [], _, _, q, hq => by cases hq
  | x :: r, a, h, q, hq => by
    have hq' : q ∈ goneH 40 x.1 x.2 a ++ pend r (a + nN x.1) := hq
    rcases List.mem_append.mp hq' with hq | hq
    · exact goneH_gd 40 x.1 x.2 a (h x List.mem_cons_self) q hq
    · exact pend_gd r _ (fun y hy => h y (List.mem_cons_of_mem _ hy)) q hq
theorem gM_gd {m : Me} (h : gdM m) : ∀ q ∈ gM m, gdN q.1 := fun q hq => by
  rw [gM_pend h] at hq
  exact pend_gd _ _ (fun x hx => (st0_ok h x hx).1) q hq
end My
set_option Elab.async false
set_option linter.all false
set_option maxRecDepth 100000
set_option maxHeartbeats 8000000
namespace My
open PySem L2 SS
abbrev sNo : Stmt := s_names_of
abbrev sNa : Stmt := s_names_among
abbrev sSw : Stmt := s_set_word
abbrev sIp : Stmt := s_is_parameter
section
variable {P : Program} {w : World} {K : PySem.W.Frag} {mg : Str → Option Value} {base : Heap}
def spSw : Sp := fun vs H Q _ => ∃ (n : Nd) (v : V), vs = [v] ∧ AtN H n v ∧ gdN n ∧ Q (nameV n) H
theorem scSw : FnScope ["node"] ["node"] (defScope sSw) := ⟨rfl, rfl, rfl, by decide +kernel, rfl, by decide +kernel, by decide +kernel⟩
theorem c_sw (D : Dn K mg "set_word" sSw) : C0 P w K mg base 1 "set_word" spSw := by
  obtain ⟨f, fd, F, m⟩ := D.ex
  refine ⟨f, fd, ["node"], F.ok scSw (fun vs H Q E h => ?_) (fun cdv A outer s H vs Q E hr h => ?_), m, F.kp, F.binds (ps := ["node"]) fun _ _ _ _ _ _ us hl => match us, hl with | [_], _ => rfl⟩
  · obtain ⟨n, v, rfl, _⟩ := h
    rfl
  obtain ⟨n, v, rfl, hat, hok, kq⟩ := h
  refine ⟨_, pss_cons (ps_if (pt_cmpR op_eq (pe_ix (r := rIxT K) ix_tup (pv 0) pe_int (fun _ _ => rfl)) pe_str (nomark _)) (pss_one (ps_ret (pe_ix (r := rIxT K) ix_tup (pv 0) pe_int (fun _ _ => rfl)))) pss_nil) <|
    pss_cons (ps_if (pt_cmpR op_eq (pe_ix (r := rIxT K) ix_tup (pv 0) pe_int (fun _ _ => rfl)) pe_str (nomark _)) (pss_one (ps_ret (pe_ix (r := rIxT K) ix_tup (pv 0) pe_int (fun _ _ => rfl)))) pss_nil) <|
    pss_one (ps_ret pe_non), ?_⟩
  obtain ⟨pw, rest, rfl, hpw, hc⟩ := name_word hat hok
  refine ⟨_, rfl, pw, _, _, _, rfl, rfl, SqT.of hpw, atI_0, rfl, _, rfl, ?_⟩
  rcases hc with ⟨c1, c2⟩ | ⟨c1, c2, c3⟩ | ⟨c1, c2, c3⟩
  · refine ite2 (fun _ => ?_) (fun c => absurd c1 c)
    exact ⟨_, rfl, pw, _, _, _, rfl, rfl, SqT.of hpw, atI_nat (j := 1) (by simpa using c2), kq⟩
  · refine ite2 (fun c => absurd (c1.symm.trans c) Bool.false_ne_true) (fun _ => ?_)
    refine ⟨_, rfl, pw, _, _, _, rfl, rfl, SqT.of hpw, atI_0, rfl, _, rfl, ?_⟩
    refine ite2 (fun _ => ?_) (fun c => absurd c2 c)
    exact ⟨_, rfl, pw, _, _, _, rfl, rfl, SqT.of hpw, atI_nat (j := 2) (by simpa using c3), kq⟩
  · refine ite2 (fun c => absurd (c1.symm.trans c) Bool.false_ne_true) (fun _ => ?_)
    refine ⟨_, rfl, pw, _, _, _, rfl, rfl, SqT.of hpw, atI_0, rfl, _, rfl, ?_⟩
    refine ite2 (fun c => absurd (c2.symm.trans c) Bool.false_ne_true) (fun _ => ?_)
    rw [c3] at kq
    exact kq
def spIp : Sp := fun vs H Q _ => ∃ (ln : Addr) (us : List V) (g : List (Nd × Int)) (c : Int) (hid : List T) (z : T), vs = [.ref ln, .int c, .str (mk z)] ∧ H ln = some (.lst us) ∧ AtL AtR H g us ∧ Hid g c hid ∧ Q (.bl (decide (z ∈ hid))) H
theorem scIp : FnScope ["nodes", "code", "word", "_", "parameters", "around"] ["nodes", "code", "word"] (defScope sIp) := ⟨rfl, rfl, rfl, by decide +kernel, rfl, by decide +kernel, by decide +kernel⟩
theorem c_ip (gMC : GI mg "METHOD_CODE" (-1)) (D : Dn K mg "is_parameter" sIp) : C0 P w K mg base 1 "is_parameter" spIp := by
  obtain ⟨f, fd, F, m⟩ := D.ex
  refine ⟨f, fd, ["nodes", "code", "word"], F.ok scIp (fun vs H Q E h => ?_) (fun cdv A outer s H vs Q E hr h => ?_), m, F.kp, F.binds (ps := ["nodes", "code", "word"]) fun _ _ _ _ _ _ us hl => match us, hl with | [_, _, _], _ => rfl⟩
  · obtain ⟨ln, us, g, c, hid, z, rfl, _⟩ := h
    rfl
  obtain ⟨ln, us, g, c, hid, z, rfl, hln, hat, hhid, kq⟩ := h
  refine ⟨_, pss_cons (ps_while PassesOwn.never (pt_cmpR op_ne (pv 1) (pe_gi gMC) (nomark _))
      (pss_cons (ps_asg (pe_ix (r := rIxL K) ix_list (pv 0) (pv 1) (fun _ _ => rfl)) (pg_tup (by rfl) (pgs_cons (pg_tup (by rfl) (pgs_cons (pg_name (i := 3) scIp.nd rfl (Or.inl rfl)) (pgs_cons (pg_name (i := 4) scIp.nd rfl (Or.inl rfl)) (pgs_cons (pg_name (i := 3) scIp.nd rfl (Or.inl rfl)) pgs_nil)))) (pgs_cons (pg_name (i := 5) scIp.nd rfl (Or.inl rfl)) pgs_nil)))) <|
        pss_cons (ps_if (pt_cmpR op_in_seq (pv 2) (pv 4) (by rfl)) (pss_one (ps_ret pe_bl)) pss_nil) <|
        pss_one (ps_set (i := 1) scIp.nd rfl (Or.inl rfl) (pv 5)))) <|
    pss_one (ps_ret pe_bl), ?_⟩
  refine ⟨fun k σ Hn => ∃ (c' : Int) (hid' : List T) (v3 v4 v5 : Option V), σ = [some (.ref ln), some (.int c'), some (.str (mk z)), v3, v4, v5] ∧ Hn = H ∧ k = (c' + 1).toNat ∧ Hid g c' hid' ∧ (z ∈ hid' ↔ z ∈ hid), ⟨_, c, hid, none, none, none, rfl, rfl, rfl, hhid, Iff.rfl⟩, ?_⟩
  rintro k σ Hn ⟨c', hid', v3, v4, v5, rfl, rfl, rfl, hh, hiff⟩
  refine ⟨_, rfl, rfl, _, rfl, ?_⟩
  cases hh with
  | top =>
    refine ite2 (fun c => absurd c (by decide)) (fun _ => ?_)
    have e : decide (z ∈ hid) = false := decide_eq_false fun q => by have := hiff.mpr q; cases this
    rw [e] at kq
    exact kq
  | @blk i n c2 hid2 hg hb hc2 h2 =>
    refine ite2 (fun _ => ?_) (fun cc => absurd (by simp) cc)
    obtain ⟨u, hu, hat2⟩ := hat.get' hg
    obtain ⟨p, vn, rfl, hp, hvn⟩ := hat2
    cases n with
    | s x => cases hb
    | e x =>
      cases x with
      | blk ps ss =>
        obtain ⟨pb, vw, q, xs, rfl, hpb, hq, hw, h4⟩ := hvn
        obtain ⟨pw, rfl, hpw⟩ := hw
        refine ⟨fun σ' H' => ∃ (c' : Int) (hid' : List T) (v3 v4 v5 : Option V), σ' = [some (.ref ln), some (.int c'), some (.str (mk z)), v3, v4, v5] ∧ H' = Hn ∧ c' < ((i : Nat) : Int) ∧ Hid g c' hid' ∧ (z ∈ hid' ↔ z ∈ hid), fun σ' H' h => ?_, ?_⟩
        · obtain ⟨c', hid', v3, v4, v5, h1, h2, h3, h4, h5⟩ := h
          exact ⟨(c' + 1).toNat, by omega, c', hid', v3, v4, v5, h1, h2, rfl, h4, h5⟩
        refine ⟨_, rfl, _, rfl, ln, us, _, _, rfl, rfl, SqL.of hln, atI_nat hu, p, _, rfl, SqT.of hp, rfl, _, _, rfl, ?_⟩
        refine ⟨pb, _, rfl, SqT.of hpb, rfl, _, _, rfl, _, _, rfl, _, _, rfl, rfl, _, _, rfl, rfl, ?_⟩
        refine ⟨_, rfl, _, rfl, pw, _, rfl, .inr (hpw.sq), rfl, flat_ws _, _, rfl, ?_⟩
        show if (inV (.str (mk z)) (wsV ps)) = true then _ else _
        rw [in_ws]
        by_cases c1 : z ∈ ps
        · rw [decide_eq_true c1]
          refine iteT ?_
          have e : decide (z ∈ hid) = true := decide_eq_true (hiff.mp (List.mem_append.mpr (.inl c1)))
          rw [e] at kq
          exact kq
        · rw [decide_eq_false c1]
          refine iteF ?_
          refine ⟨_, rfl, c2, hid2, _, _, _, rfl, rfl, hc2, h2, ?_⟩
          rw [← hiff]
          show _ ↔ z ∈ ps ++ hid2
          rw [List.mem_append]
          exact ⟨.inr, fun h => h.elim (fun q => absurd q c1) id⟩
      | _ => cases hb
def spNm : Sp := fun vs H Q _ => ∃ (m : Me) (v : V), vs = [v] ∧ AtM H m v ∧ gdM m ∧ nSs m.ss ≤ 1100 ∧ ∀ H' p, Same H H' → FrzT H' p (wsV (namesH m)) → Q (.ref p) H'
def spNa : Sp := fun vs H Q _ => ∃ (m : Me) (pw ln : Addr) (us : List V), vs = [.ref pw, .ref ln] ∧ H pw = some (.tup (wsV m.ps)) ∧ H ln = some (.lst us) ∧ AtL AtR H (gM m) us ∧ m.ps.length ≤ 10 ∧ gdM m ∧ nSs m.ss ≤ 1100 ∧ ∀ H' p, Same H H' → FrzT H' p (wsV (namesH m)) → Q (.ref p) H'
theorem scNa : FnScope ["parameters", "nodes", "names", "node", "code", "word"] ["parameters", "nodes"] (defScope sNa) := ⟨rfl, rfl, rfl, by decide +kernel, rfl, by decide +kernel, by decide +kernel⟩
theorem c_na (TS : TxS K mg) (gL : mg "list" = none) (D : Dn K mg "names_among" sNa) (SW : C0 P w K mg base 1 "set_word" spSw) (IP : C0 P w K mg base 1 "is_parameter" spIp) : C0 P w K mg base 2 "names_among" spNa := by
  obtain ⟨f, fd, F, hmm⟩ := D.ex
  refine ⟨f, fd, ["parameters", "nodes"], F.ok scNa (fun vs H Q E h => ?_) (fun cdv A outer s H vs Q E hr h => ?_), hmm, F.kp, F.binds (ps := ["parameters", "nodes"]) fun _ _ _ _ _ _ us hl => match us, hl with | [_, _], _ => rfl⟩
  · obtain ⟨m, pw, ln, us, rfl, _⟩ := h
    rfl
  obtain ⟨m, pw, ln, us, rfl, hpw, hln, at1, hps, hok, hns, kq⟩ := h
  refine ⟨_, pss_cons (ps_set (i := 2) scNa.nd rfl (Or.inl rfl) (pe_callTy call_list_of (by rfl) gL (by decide +kernel) (pa_cons (pv 0) pa_nil))) <|
    pss_cons (ps_for PassesOwn.never rfl (pi_list (pv 1)) (pg_tup (by rfl) (pgs_cons (pg_name (i := 3) scNa.nd rfl (Or.inl rfl)) (pgs_cons (pg_name (i := 4) scNa.nd rfl (Or.inl rfl)) pgs_nil)))
      (pss_cons (ps_set (i := 5) scNa.nd rfl (Or.inl rfl) (pe_cc SW hr (by decide) pass0 (pa_cons (pv 3) pa_nil))) <|
        pss_one (ps_if (PW.pt (pw_and (pt_cmpR op_notN (pv 5) pe_non (nomark _)) (pw_and (pt_cmpR op_notIn_seq (pv 5) (pv 2) (by rfl)) (pw_and1 (pt_not (pt_val (pe_cc IP hr (by decide) pass0 (pa_cons (pv 1) (pa_cons (pv 4) (pa_cons (pv 5) pa_nil)))))))))) (pss_one (ps_expr (pe_bm PySem.F.plainAttrs_list PySem.F.slot_list_append PySem.F.type_list_append mt_append (pv 2) (pa_cons (pv 5) pa_nil)))) pss_nil))) <|
    pss_one (ps_ret (pe_callTy call_tuple_ofF (by rfl) TS.tup (by decide +kernel) (pa_cons (pv 2) pa_nil))), ?_⟩
  generalize H = H1 at hpw hln at1 kq ⊢
  refine ⟨_, rfl, pw, _, rfl, .inr (SqT.of hpw), fun nl hnl => ?_⟩
  have hne : ln ≠ nl := fun e => by rw [e, hnl] at hln; cases hln
  have hgl := gM_len hok
  have hul : us.length = (gM m).length := at1.len
  refine ⟨_, rfl, ln, rfl, ⟨us, SqL.of (same_new hnl _ _ _ hln)⟩, ?_⟩
  refine for_list (xs := us) (fun i σ H2 => ∃ (v5 v6 v7 : Option V) (fs : List T), σ = [some (.ref pw), some (.ref ln), some (.ref nl), v5, v6, v7] ∧ Same H1 H2 ∧ H2 nl = some (.lst (wsV fs)) ∧ fs.length ≤ 10 + i ∧ Names (gM m) ((gM m).drop i) fs (namesH m)) ⟨none, none, none, m.ps, rfl, same_new hnl _, upd_same, by have := hps; omega, names_all hok⟩ (fun i σ H2 _ ⟨_, _, _, _, _, s2, _⟩ => SqL.of (s2 _ _ hln)) ?_ ?_
  · rintro i u σ H2 hu ⟨v5, v6, v7, fs, rfl, s2, hnl2, hfl, hN⟩
    have hi : i < us.length := (List.getElem?_eq_some_iff.mp hu).1
    have at2 := AtL.on (same_tups s2) (fun _ _ h => AtR.on (same_tups s2) h) at1
    obtain ⟨x, hx1, hx2⟩ := at2.get hu
    obtain ⟨n, c⟩ := x
    obtain ⟨p, vn, rfl, hp, hvn⟩ := hx2
    have hin : i < (gM m).length := by omega
    have ed : (gM m).drop i = (n, c) :: (gM m).drop (i + 1) := by
      rw [List.drop_eq_getElem_cons hin]
      congr 1
      have := List.getElem?_eq_getElem hin
      rw [hx1] at this
      exact (Option.some.inj this).symm
    rw [ed] at hN
    cases hN with
    | @cons _ _ _ hid _ _ hh hN' =>
    have hokn : gdN n := gM_gd hok _ (List.mem_of_getElem? hx1)
    refine ⟨p, _, rfl, SqT.of hp, rfl, _, _, rfl, _, _, rfl, rfl, ?_⟩
    refine ⟨_, rfl, n, _, rfl, hvn, hokn, ?_⟩
    have hal := addN_len n hid fs
    cases ec : nameN n with
    | none =>
      have en : nameV n = .non := by unfold nameV; rw [ec]
      have ea : addN n hid fs = fs := by unfold addN; rw [ec]
      rw [ea] at hN'
      rw [en]
      refine ⟨_, rfl, rfl, _, rfl, ?_⟩
      refine ite2 (fun c => absurd c (by decide)) (fun _ => ?_)
      refine ite2 (fun c => absurd c (by decide)) (fun _ => ?_)
      exact ⟨_, _, _, fs, rfl, s2, hnl2, by omega, hN'⟩
    | some z =>
      have en : nameV n = .str (mk z) := by unfold nameV; rw [ec]
      rw [en]
      refine ⟨_, rfl, rfl, _, rfl, ?_⟩
      refine ite2 (fun _ => ?_) (fun c => absurd (by simp) c)
      refine ⟨_, rfl, _, rfl, nl, _, rfl, .inl (SqL.of hnl2), rfl, flat_ws _, _, rfl, ?_⟩
      show if (!inV (.str (mk z)) (wsV fs)) = true then _ else _
      rw [in_ws]
      by_cases c1 : z ∈ fs
      · have ea : addN n hid fs = fs := by unfold addN; rw [ec]; exact if_pos (.inr c1)
        rw [ea] at hN'
        rw [decide_eq_true c1]
        refine ite2 (fun c => absurd c (by decide)) (fun _ => ?_)
        refine ite2 (fun c => absurd c (by decide)) (fun _ => ?_)
        exact ⟨_, _, _, fs, rfl, s2, hnl2, by omega, hN'⟩
      rw [decide_eq_false c1]
      refine ite2 (fun _ => ?_) (fun c => absurd rfl c)
      refine ⟨_, rfl, _, rfl, _, rfl, ln, us, gM m, c, hid, z, rfl, s2 _ _ hln, at2, hh, _, rfl, ?_⟩
      by_cases c2 : z ∈ hid
      · have ea : addN n hid fs = fs := by unfold addN; rw [ec]; exact if_pos (.inl c2)
        rw [ea] at hN'
        rw [decide_eq_true c2]
        refine ite2 (fun c => absurd c (by decide)) (fun _ => ?_)
        exact ⟨_, _, _, fs, rfl, s2, hnl2, by omega, hN'⟩
      have ea : addN n hid fs = fs ++ [z] := by unfold addN; rw [ec]; exact if_neg fun c => c.elim c2 c1
      rw [ea] at hN' hal
      rw [decide_eq_false c2]
      refine ite2 (fun _ => ?_) (fun c => absurd rfl c)
      refine ⟨_, rfl, .inl ⟨rfl, _, SqL.of hnl2⟩, _, rfl, nl, _, _, rfl, rfl, hnl2, by rw [wsV_len, sizeLine_eq]; omega, ?_⟩
      refine ⟨_, _, _, fs ++ [z], rfl, fun b o hb => by rw [upd_ne (ne_of_none hb hnl)]; exact s2 _ _ hb, by rw [upd_same, ← wsV_app]; rfl, by omega, hN'⟩
  rintro σ H2 ⟨v5, v6, v7, fs, rfl, s2, hnl2, hfl, hN⟩
  have e0 : (gM m).drop us.length = [] := List.drop_eq_nil_of_le (by omega)
  rw [e0] at hN
  cases hN with
  | nil =>
  refine ⟨_, rfl, nl, _, rfl, SqL.of hnl2, fun tp ob htp hob => ?_⟩
  exact kq _ tp (s2.trans (same_new htp _)) ⟨ob, upd_same, hob⟩
theorem scNm : FnScope ["method", "_", "parameters"] ["method"] (defScope sNo) := ⟨rfl, rfl, rfl, by decide +kernel, rfl, by decide +kernel, by decide +kernel⟩
theorem c_nm (D : Dn K mg "names_of" sNo) (NC : C0 P w K mg base 2 "nodes_with_codes" spNc) (NA : C0 P w K mg base 2 "names_among" spNa) : C0 P w K mg base 3 "names_of" spNm := by
  obtain ⟨f, fd, F, hmm⟩ := D.ex
  refine ⟨f, fd, ["method"], F.ok scNm (fun vs H Q E h => ?_) (fun cdv A outer s H vs Q E hr h => ?_), hmm, F.kp, F.binds (ps := ["method"]) fun _ _ _ _ _ _ us hl => match us, hl with | [_], _ => rfl⟩
  · obtain ⟨n, v, rfl, _⟩ := h
    rfl
  obtain ⟨m, v, rfl, hat, hok, hns, kq⟩ := h
  have hps := hok.ps
  refine ⟨_, pss_cons (ps_asg (pv 0) (pg_tup (by rfl) (pgs_cons (pg_name (i := 1) scNm.nd rfl (Or.inl rfl)) (pgs_cons (pg_name (i := 1) scNm.nd rfl (Or.inl rfl)) (pgs_cons (pg_name (i := 2) scNm.nd rfl (Or.inl rfl)) (pgs_cons (pg_name (i := 1) scNm.nd rfl (Or.inl rfl)) pgs_nil)))))) <|
    pss_one (ps_ret (pe_cc NA hr (by decide) pass0 (pa_cons (pv 2) (pa_cons (pe_cc NC hr (by decide) pass0 (pa_cons (pv 0) pa_nil)) pa_nil)))), ?_⟩
  have hat0 := hat
  obtain ⟨pm, vw, q, ys, rfl, hm1, hm2, hm3, hm4⟩ := hat0
  obtain ⟨pw, rfl, hpw⟩ := hm2
  refine ⟨_, rfl, pm, _, rfl, SqT.of hm1, rfl, _, _, rfl, _, _, rfl, _, _, rfl, _, _, rfl, rfl, ?_⟩
  refine ⟨_, rfl, _, rfl, m, _, rfl, hat, hok, hns, fun H1 ln us s1 hln at1 => ?_⟩
  exact ⟨m, pw, ln, us, rfl, s1 _ _ hpw, hln, at1, hps, hok, hns, fun H2 p s2 hp => kq H2 p (s1.trans s2) hp⟩
end
end My
set_option Elab.async false
set_option linter.all false
set_option maxRecDepth 100000
set_option maxHeartbeats 8000000
namespace My
open PySem L2 SS
abbrev sNd : Stmt := s_nodes_of
abbrev sBd : Stmt := s_body_of
abbrev sCt : Stmt := s_code_tree
def ndM (m : Me) : List Nd := (gM m).map (·.1)
def blks (g : List (Nd × Int)) : List Nat := (List.range g.length).filter fun i => match g[i]? with
  | some q => isBlk q.1
  | none => false
def CodeOf (m : Me) (c : Int) (ps : List T) (ss : Sts) : Prop := (c = -1 ∧ ps = m.ps ∧ ss = m.ss) ∨ ∃ (i : Nat) (k : Int), c = ((i : Nat) : Int) ∧ (gM m)[i]? = some (.e (.blk ps ss), k)
def blkI (g : List (Nd × Int)) (i : Nat) : List Nat := (List.range i).filter fun i => match g[i]? with
  | some q => isBlk q.1
  | none => false
theorem blkI_succ (g : List (Nd × Int)) (i : Nat) {q : Nd × Int} (h : g[i]? = some q) : blkI g (i + 1) = blkI g i ++ if isBlk q.1 = true then [i] else [] := by
  unfold blkI
  rw [List.range_succ, List.filter_append]
  congr 1
  rw [List.filter_cons, h]
  rfl
theorem blkI_len (g : List (Nd × Int)) (i : Nat) : (blkI g i).length ≤ i := by
  unfold blkI
  have := List.length_filter_le (fun i => match g[i]? with
    | some q => isBlk q.1
    | none => false) (List.range i)
  rw [List.length_range] at this
  exact this
def natI (is : List Nat) : List V := (is.map fun (i : Nat) => ((i : Nat) : Int)).map V.int
theorem blk_of {n : Nd} (h : isBlk n = true) : ∃ ps ss, n = .e (.blk ps ss) := by
  cases n with
  | e x => cases x with
    | blk ps ss => exact ⟨ps, ss, rfl⟩
    | _ => cases h
  | s x => cases h
def spNd : Sp := fun vs H Q _ => ∃ (m : Me) (v : V), vs = [v] ∧ AtM H m v ∧ gdM m ∧ nSs m.ss ≤ 1100 ∧ ∀ H' p us, Same H H' → H' p = some (.tup us) → AtL AtN H' (ndM m) us → Q (.ref p) H'
def spCo : Sp := fun vs H Q _ => ∃ (m : Me) (v : V), vs = [v] ∧ AtM H m v ∧ gdM m ∧ nSs m.ss ≤ 1100 ∧ ∀ H' p, Same H H' → H' p = some (.tup ((-1 :: (blks (gM m)).map fun (i : Nat) => ((i : Nat) : Int)).map V.int)) → Q (.ref p) H'
def spWi : Sp := fun vs H Q _ => ∃ (m : Me) (v : V) (i : Nat) (q : Nd × Int), vs = [v, .int (i : Nat)] ∧ AtM H m v ∧ gdM m ∧ nSs m.ss ≤ 1100 ∧ (gM m)[i]? = some q ∧ ∀ H', Same H H' → Q (.int q.2) H'
def spPm : Sp := fun vs H Q _ => ∃ (m : Me) (v : V) (c : Int) (ps : List T) (ss : Sts), vs = [v, .int c] ∧ AtM H m v ∧ gdM m ∧ nSs m.ss ≤ 1100 ∧ CodeOf m c ps ss ∧ ∀ H' v', Same H H' → AtWs H' ps v' → Q v' H'
def spBd : Sp := fun vs H Q _ => ∃ (m : Me) (v : V) (c : Int) (ps : List T) (ss : Sts), vs = [v, .int c] ∧ AtM H m v ∧ gdM m ∧ nSs m.ss ≤ 1100 ∧ CodeOf m c ps ss ∧ ∀ H' p xs, Same H H' → H' p = some (.tup xs) → AtSs H' ss xs → Q (.ref p) H'
theorem walk_enumT {K : PySem.W.Frag} {a : Addr} {xs : List V} : Walk (IeT K a xs) xs.length (fun H => SqT K H a xs) (fun i H v H' => ∃ T x, v = .ref T ∧ H T = none ∧ H' = upd H T (.tup [.int (i : Nat), x]) ∧ xs[i]? = some x) :=
  ⟨fun _ _ hi h => ⟨hi, h⟩, fun _ h => ⟨rfl, h⟩, fun _ _ _ _ _ _ y => y⟩
section
variable {P : Program} {w : World} {K : PySem.W.Frag} {mg : Str → Option Value} {base : Heap}
theorem scNd : FnScope ["method", "node", "_"] ["method"] (defScope sNd) := ⟨rfl, rfl, rfl, by decide +kernel, rfl, by decide +kernel, by decide +kernel⟩
theorem ndM_len {m : Me} (h : gdM m) : (ndM m).length = nSs m.ss := by
  unfold ndM
  rw [List.length_map, gM_len h]
theorem c_no (TS : TxS K mg) (D : Dn K mg "nodes_of" sNd) (NC : C0 P w K mg base 2 "nodes_with_codes" spNc) : C0 P w K mg base 3 "nodes_of" spNd := by
  obtain ⟨f, fd, F, hmm⟩ := D.ex
  refine ⟨f, fd, ["method"], F.ok scNd (fun vs H Q E h => ?_) (fun cdv A outer s H vs Q E hr h => ?_), hmm, F.kp, F.binds (ps := ["method"]) fun _ _ _ _ _ _ us hl => match us, hl with | [_], _ => rfl⟩
  · obtain ⟨n, v, rfl, _⟩ := h
    rfl
  obtain ⟨m, v, rfl, hat, hok, hns, kq⟩ := h
  refine ⟨_, pss_one (ps_ret (pe_callTy call_tuple_of (by rfl) TS.tup (by decide +kernel) (pa_cons (pe_lc (own := [("node", 1), ("_", 2)]) (g := gTup K 2 (gCons (gName 1) (gCons (gName 2) gNil))) (tt := tYes) rfl scNd.nd (pi_list (pe_cc NC hr (by decide) pass0 (pa_cons (pv 0) pa_nil)))
        (blkOk_by (own := [("node", 1), ("_", 2)]) (N := ["method", "node", "_"]) (sc := defScope sNd) (by decide +kernel))
        (fun _ _ _ _ _ => pg_tup (by rfl) (pgs_cons (pg_name (i := 1) scNd.nd rfl (Or.inl rfl)) (pgs_cons (pg_name (i := 2) scNd.nd rfl (Or.inl rfl)) pgs_nil))) (fun _ _ _ _ _ => pts_nil) (fun _ _ _ _ _ => pv 1)) pa_nil))), ?_⟩
  refine ⟨_, rfl, m, _, rfl, hat, hok, hns, fun H1 a us s1 h1 at1 => ?_⟩
  refine ⟨a, rfl, ⟨us, SqL.of h1⟩, fun D0 hD0 => ?_⟩
  have hul : us.length = (gM m).length := at1.len
  have hgl := gM_len hok
  refine lc_list (K := K) (a := a) (xs := us) (fun i H7 => Same H1 H7 ∧ ∃ vs, H7 D0 = some (.lst vs) ∧ AtL AtN H7 ((ndM m).take i) vs) ⟨same_new hD0 _, [], upd_same, rfl⟩ (fun i H7 _ h => SqL.of (h.1 _ _ h1)) ?_ ?_
  · rintro i u H7 hu ⟨s7, vs, f7, at7⟩
    obtain ⟨x, hx1, px, vn, rfl, hx2, hx3⟩ := (AtL.on (same_tups s7) (fun _ _ h => AtR.on (same_tups s7) h) at1).get hu
    have hi : i < us.length := (List.getElem?_eq_some_iff.mp hu).1
    refine ⟨px, _, rfl, SqT.of hx2, rfl, _, _, rfl, _, _, rfl, rfl, rfl, ?_⟩
    unfold tYes
    refine iteT ?_
    have tt := tups_lst (ys := vs ++ [vn]) f7
    refine ⟨_, rfl, vs, f7, by rw [at7.len, List.length_take, sizeLine_eq]; omega, ?_, vs ++ [vn], upd_same, ?_⟩
    · intro b u h
      rw [upd_ne (ne_of_none h hD0)]
      exact s7 _ _ h
    · have et : (ndM m).take (i + 1) = (ndM m).take i ++ [x.1] := by
        unfold ndM
        rw [List.take_add_one, List.getElem?_map, hx1]
        rfl
      rw [et]
      exact (AtL.on tt (fun _ _ h => AtN.on tt h) at7).snoc (AtN.on tt hx3)
  rintro H7 ⟨s7, vs, f7, at7⟩
  have hndl : (ndM m).length = us.length := by rw [ndM_len hok]; omega
  rw [← hndl, List.take_length] at at7
  refine ⟨D0, vs, rfl, .inl ⟨SqL.of f7, fun tp htp => ?_⟩⟩
  have s8 := same_new htp (.tup vs)
  exact kq _ tp vs ((s1.trans s7).trans s8) upd_same (AtL.on (same_tups s8) (fun _ _ h => AtN.on (same_tups s8) h) at7)
/-- the tree of a code: the method's, or a block's -/
def spCt : Sp := fun vs H Q _ => ∃ (m : Me) (v : V) (c : Int) (ps : List T) (ss : Sts), vs = [v, .int c] ∧ AtM H m v ∧ gdM m ∧ nSs m.ss ≤ 1100 ∧ CodeOf m c ps ss ∧ ∀ H' p zs vw q xs, Same H H' → H' p = some (.tup (zs ++ [vw, .ref q])) → H' q = some (.tup xs) → AtWs H' ps vw → AtSs H' ss xs → zs.length ≤ 2 → zs.length ≥ 1 → Q (.ref p) H'
theorem scCt : FnScope ["method", "code"] ["method", "code"] (defScope sCt) := ⟨rfl, rfl, rfl, by decide +kernel, rfl, by decide +kernel, by decide +kernel⟩
theorem c_ct (gMC : GI mg "METHOD_CODE" (-1)) (D : Dn K mg "code_tree" sCt) (NO : C0 P w K mg base 3 "nodes_of" spNd) : C0 P w K mg base 4 "code_tree" spCt := by
  obtain ⟨f, fd, F, hmm⟩ := D.ex
  refine ⟨f, fd, ["method", "code"], F.ok scCt (fun vs H Q E h => ?_) (fun cdv A outer s H vs Q E hr h => ?_), hmm, F.kp, F.binds (ps := ["method", "code"]) fun _ _ _ _ _ _ us hl => match us, hl with | [_, _], _ => rfl⟩
  · obtain ⟨n, v, c, ps, ss, rfl, _⟩ := h
    rfl
  obtain ⟨m, v, c, ps, ss, rfl, hat, hok, hns, hc, kq⟩ := h
  refine ⟨_, pss_cons (ps_if (pt_cmpR op_eq (pv 1) (pe_gi gMC) (nomark _)) (pss_one (ps_ret (pv 0))) pss_nil) <|
    pss_one (ps_ret (pe_ix (r := rIxT K) ix_tup (pe_cc NO hr (by decide) pass0 (pa_cons (pv 0) pa_nil)) (pv 1) (fun _ _ => rfl))), ?_⟩
  refine ⟨_, rfl, rfl, _, rfl, ?_⟩
  refine ite2 (fun cc => ?_) (fun cc => ?_)
  · have e : c = -1 := by simpa using cc
    rcases hc with ⟨_, rfl, rfl⟩ | ⟨i, k, h, _⟩
    · obtain ⟨pm, vw, q, ys, rfl, hm1, hm2, hm3, hm4⟩ := hat
      exact ⟨_, rfl, kq H pm [S_ "method", .str (mk m.m)] vw q ys (Same.refl _) hm1 hm3 hm2.s hm4 (Nat.le_refl 2) (Nat.le_add_left 1 1)⟩
    · omega
  · rcases hc with ⟨h, _, _⟩ | ⟨i, k, rfl, hgi⟩
    · exact absurd (by rw [h]; rfl) cc
    · refine ⟨_, rfl, m, _, rfl, hat, hok, hns, fun H1 a us s1 h1 at1 => ?_⟩
      have hn : (ndM m)[i]? = some (.e (.blk ps ss)) := by unfold ndM; rw [List.getElem?_map, hgi]; rfl
      obtain ⟨u, hu, hat2⟩ := at1.get' hn
      obtain ⟨p, vw, q, xs, rfl, hp, hq, hw, h4⟩ := hat2
      exact ⟨_, rfl, a, us, _, _, rfl, rfl, SqT.of h1, atI_nat hu, kq H1 p [S_ "block"] vw q xs s1 hp hq hw.s h4 (Nat.le_add_left 1 1) (Nat.le_refl 1)⟩
theorem atI_m2 (zs : List V) (x y : V) : atI (zs ++ [x, y]) (-2) = some x := by
  unfold atI ixN
  have e : (-2 + (((zs ++ [x, y]).length : Nat) : Int)).toNat = zs.length := by rw [List.length_append]; show (-2 + ((zs.length + 2 : Nat) : Int)).toNat = _; omega
  rw [if_neg (by decide), if_pos (by rw [List.length_append]; show -((zs.length + 2 : Nat) : Int) ≤ -2; omega), e]
  show (zs ++ [x, y])[zs.length]? = some x
  simp
theorem atI_m1 (zs : List V) (x y : V) : atI (zs ++ [x, y]) (-1) = some y := by
  have e : zs ++ [x, y] = (zs ++ [x]) ++ [y] := by simp
  rw [e]
  exact atI_last _ _
theorem scBd : FnScope ["method", "node"] ["method", "node"] (defScope sBd) := ⟨rfl, rfl, rfl, by decide +kernel, rfl, by decide +kernel, by decide +kernel⟩
theorem c_bd (D : Dn K mg "body_of" sBd) (CT : C0 P w K mg base 4 "code_tree" spCt) : C0 P w K mg base 5 "body_of" spBd := by
  obtain ⟨f, fd, F, hmm⟩ := D.ex
  refine ⟨f, fd, ["method", "node"], F.ok scBd (fun vs H Q E h => ?_) (fun cdv A outer s H vs Q E hr h => ?_), hmm, F.kp, F.binds (ps := ["method", "node"]) fun _ _ _ _ _ _ us hl => match us, hl with | [_, _], _ => rfl⟩
  · obtain ⟨n, v, c, ps, ss, rfl, _⟩ := h
    rfl
  obtain ⟨m, v, c, ps, ss, rfl, hat, hok, hns, hc, kq⟩ := h
  refine ⟨_, pss_one (ps_ret (pe_ix (r := rIxT K) ix_tup (pe_cc CT hr (by decide) pass0 (pa_cons (pv 0) (pa_cons (pv 1) pa_nil))) (pe_un un_neg pe_int) (fun _ _ => rfl))), ?_⟩
  refine ⟨_, rfl, _, rfl, m, _, c, ps, ss, rfl, hat, hok, hns, hc, fun H1 p zs vw q xs s1 h1 h2 hw hs _ _ => ?_⟩
  exact ⟨1, rfl, p, _, -1, .ref q, rfl, rfl, SqT.of h1, atI_m1 zs _ _, kq H1 q xs s1 h2 hs⟩
end
end My
set_option Elab.async false
set_option linter.all false
set_option maxRecDepth 100000
set_option maxHeartbeats 4000000
namespace My
open PySem L2 SS
/-! names, by heights and by the tree's own shape, are the same -/
def stN_ (hid : List T) : Nd → List T
  | .e x => stE hid x
  | .s x => stS hid x
theorem addW_app (a b c : List T) : addW a (b ++ c) = addW (addW a b) c := by unfold addW; rw [List.foldl_append]
theorem st_exl (hid : List T) : ∀ es : Exs, (exl es).flatMap (stN_ hid) = stEs hid es
  | .nil => rfl
  | .cons e r => by
    show stE hid e ++ (exl r).flatMap (stN_ hid) = stE hid e ++ stEs hid r
    rw [st_exl hid r]
theorem st_stl (hid : List T) : ∀ es : Sts, (stl es).flatMap (stN_ hid) = stSs hid es
  | .nil => rfl
  | .cons e r => by
    show stS hid e ++ (stl r).flatMap (stN_ hid) = stS hid e ++ stSs hid r
    rw [st_stl hid r]
mutual
theorem same_stE {a b : List T} (h : SameW a b) : ∀ e : Ex, stE a e = stE b e
  | .send r m es => by show stE a r ++ stEs a es = stE b r ++ stEs b es; rw [same_stE h r, same_stEs h es]
  | .up m es => same_stEs h es
  | .lst es => same_stEs h es
  | .blk ps ss => same_stSs (fun w => by rw [List.mem_append, List.mem_append, h w]) ss
  | .num _ => rfl
  | .txt _ => rfl
  | .tru _ => rfl
  | .non => rfl
  | .slf => rfl
  | .nam _ => rfl
  | .fld _ => rfl
  | .new _ => rfl
theorem same_stEs {a b : List T} (h : SameW a b) : ∀ e : Exs, stEs a e = stEs b e
  | .nil => rfl
  | .cons e r => by show stE a e ++ stEs a r = stE b e ++ stEs b r; rw [same_stE h e, same_stEs h r]
theorem same_stS {a b : List T} (h : SameW a b) : ∀ e : St_, stS a e = stS b e
  | .set w e => by
    show (if w ∈ a then [] else [w]) ++ stE a e = (if w ∈ b then [] else [w]) ++ stE b e
    rw [same_stE h e]
    by_cases c : w ∈ a
    · rw [if_pos c, if_pos ((h w).mp c)]
    · rw [if_neg c, if_neg fun z => c ((h w).mpr z)]
  | .sfl w e => same_stE h e
  | .pl w e => same_stE h e
  | .iff e x y => by show stE a e ++ stSs a x ++ stSs a y = stE b e ++ stSs b x ++ stSs b y; rw [same_stE h e, same_stSs h x, same_stSs h y]
  | .whl e x => by show stE a e ++ stSs a x = stE b e ++ stSs b x; rw [same_stE h e, same_stSs h x]
  | .tri x w y => by
    show (if w ∈ a then [] else [w]) ++ stSs a x ++ stSs a y = (if w ∈ b then [] else [w]) ++ stSs b x ++ stSs b y
    rw [same_stSs h x, same_stSs h y]
    by_cases c : w ∈ a
    · rw [if_pos c, if_pos ((h w).mp c)]
    · rw [if_neg c, if_neg fun z => c ((h w).mpr z)]
theorem same_stSs {a b : List T} (h : SameW a b) : ∀ e : Sts, stSs a e = stSs b e
  | .nil => rfl
  | .cons e r => by show stS a e ++ stSs a r = stS b e ++ stSs b r; rw [same_stS h e, same_stSs h r]
end
theorem addN_W (n : Nd) (hid f : List T) : addN n hid f = addW f (match nameN n with | some w => if w ∈ hid then [] else [w] | none => []) := by
  unfold addN
  cases nameN n with
  | none => rfl
  | some w =>
    show (if w ∈ hid ∨ w ∈ f then f else f ++ [w]) = addW f (if w ∈ hid then [] else [w])
    by_cases c : w ∈ hid
    · rw [if_pos (.inl c), if_pos c]; rfl
    · rw [if_neg c]
      show _ = (if w ∈ f then f else f ++ [w])
      by_cases d : w ∈ f
      · rw [if_pos (.inr d), if_pos d]
      · rw [if_neg (fun z => z.elim c d), if_neg d]
theorem same_app (hid ps : List T) : SameW (hid ++ ps) (ps ++ hid) := fun w => by rw [List.mem_append, List.mem_append]; exact Or.comm
/-- a node's own name, then its parts -/
theorem st_node (hid : List T) (n : Nd) : (match nameN n with | some w => if w ∈ hid then [] else [w] | none => []) ++ (parts n).flatMap (stN_ (hid ++ blkP n)) = stN_ hid n := by
  have e0 : SameW (hid ++ []) hid := fun w => by rw [List.append_nil]
  cases n with
  | e x =>
    cases x with
    | send r m es =>
      show (Nd.e r :: exl es).flatMap (stN_ (hid ++ [])) = _
      rw [List.append_nil, List.flatMap_cons, st_exl]
      rfl
    | up m es => show (exl es).flatMap (stN_ (hid ++ [])) = _; rw [List.append_nil, st_exl]; rfl
    | lst es => show (exl es).flatMap (stN_ (hid ++ [])) = _; rw [List.append_nil, st_exl]; rfl
    | blk ps ss =>
      show (stl ss).flatMap (stN_ (hid ++ ps)) = stSs (ps ++ hid) ss
      rw [st_stl, same_stSs (same_app hid ps)]
    | _ => rfl
  | s x =>
    cases x with
    | set w e => show (if w ∈ hid then [] else [w]) ++ [Nd.e e].flatMap (stN_ (hid ++ [])) = _; rw [List.append_nil]; simp [stN_, stS]
    | sfl w e => show [Nd.e e].flatMap (stN_ (hid ++ [])) = _; rw [List.append_nil]; simp [stN_, stS]
    | pl w e => show [Nd.e e].flatMap (stN_ (hid ++ [])) = _; rw [List.append_nil]; simp [stN_, stS]
    | iff e a b =>
      show (Nd.e e :: (stl a ++ stl b)).flatMap (stN_ (hid ++ [])) = _
      rw [List.append_nil, List.flatMap_cons, List.flatMap_append, st_stl, st_stl]
      show stE hid e ++ (stSs hid a ++ stSs hid b) = stE hid e ++ stSs hid a ++ stSs hid b
      rw [List.append_assoc]
    | whl e a =>
      show (Nd.e e :: stl a).flatMap (stN_ (hid ++ [])) = _
      rw [List.append_nil, List.flatMap_cons, st_stl]
      rfl
    | tri a w b =>
      show (if w ∈ hid then [] else [w]) ++ (stl a ++ stl b).flatMap (stN_ (hid ++ [])) = _
      rw [List.append_nil, List.flatMap_append, st_stl, st_stl]
      show _ = (if w ∈ hid then [] else [w]) ++ stSs hid a ++ stSs hid b
      rw [List.append_assoc]
theorem wi_st : ∀ (h : Nat) (qs : List Nd) (hid f : List T), (∀ q ∈ qs, hN q ≤ h) → wiH h qs hid f = addW f (qs.flatMap (stN_ hid))
  | 0, qs, hid, f, hq => by
    cases qs with
    | nil => rfl
    | cons q r => have := hq q List.mem_cons_self; have := hN_pos q; omega
  | h + 1, qs, hid, f, hq => by
    rw [wiH_succ]
    unfold wiL
    induction qs generalizing f with
    | nil => rfl
    | cons q r ih =>
      rw [List.foldl_cons, ih _ fun x hx => hq x (List.mem_cons_of_mem _ hx), List.flatMap_cons, addW_app]
      congr 1
      unfold wiS
      have hq1 := hq q List.mem_cons_self
      rw [wi_st h (parts q) _ _ fun x hx => by have := (parts_h q x hx).1; omega, addN_W, ← addW_app, st_node]
theorem namesH_eq {m : Me} (h : gdM m) : namesH m = namesM m := by
  unfold namesH namesM
  rw [wi_st 40 (stl m.ss) [] m.ps fun q hq => by
    have := stl_ho m.ss q hq
    have := h.o
    omega, st_stl]
end My
set_option Elab.async false
set_option linter.all false
set_option maxRecDepth 100000
set_option maxHeartbeats 4000000
namespace My
open PySem L2 SS
/-- all but some stands -/
def SX (B : List Addr) (H H' : Hp) : Prop := ∀ b u, b ∉ B → H b = some u → H' b = some u
theorem SX.refl {B : List Addr} {H : Hp} : SX B H H := fun _ _ _ h => h
theorem SX.trans {B : List Addr} {H H1 H2 : Hp} (a : SX B H H1) (b : SX B H1 H2) : SX B H H2 := fun q u n h => b q u n (a q u n h)
theorem SX.same {B : List Addr} {H H' : Hp} (s : Same H H') : SX B H H' := fun q u _ h => s q u h
theorem SX.sd {B : List Addr} {p l : Addr} {H H' : Hp} (s : SD p l H H') (hp : p ∈ B) (hl : l ∈ B) : SX B H H' := fun q u n h => s q u (fun e => n (e ▸ hp)) (fun e => n (e ▸ hl)) h
theorem SX.upd {B : List Addr} {p : Addr} {H : Hp} (o : HO) (hp : p ∈ B) : SX B H (upd H p o) := fun q u n h => by rw [upd_ne (fun e => n (by rw [e]; exact hp))]; exact h
/-- a list of words, away from some -/
def AtWl (B : List Addr) (H : Hp) (ws : List T) (v : V) : Prop := ∃ q, v = .ref q ∧ q ∉ B ∧ H q = some (.lst (wsV ws))
/-- a list of lists of words -/
def AtAr (B : List Addr) (H : Hp) (ar : List (List T)) (v : V) : Prop := ∃ p us, v = .ref p ∧ p ∉ B ∧ H p = some (.lst us) ∧ AtL (AtWl B) H ar us
theorem AtWl.sx {B : List Addr} {H H' : Hp} {ws : List T} {v : V} (s : SX B H H') (h : AtWl B H ws v) : AtWl B H' ws v := by
  obtain ⟨q, e, n, h⟩ := h
  exact ⟨q, e, n, s _ _ n h⟩
theorem AtAr.sx {B : List Addr} {H H' : Hp} {ar : List (List T)} {v : V} (s : SX B H H') (h : AtAr B H ar v) : AtAr B H' ar v := by
  obtain ⟨p, us, e, n, h, k⟩ := h
  exact ⟨p, us, e, n, s _ _ n h, AtL.onR (fun _ _ z => AtWl.sx s z) k⟩
theorem AtL.impR {α : Type} {R R' : Hp → α → V → Prop} {H H' : Hp} (hR : ∀ x v, R H x v → R' H' x v) : ∀ {xs : List α} {vs : List V}, AtL R H xs vs → AtL R' H' xs vs
  | [], vs, h => h
  | y :: r, vs, ⟨u, us, h1, h2, h3⟩ => ⟨u, us, h1, hR y u h2, AtL.impR hR h3⟩
theorem AtAr.mono {B B' : List Addr} {H : Hp} {ar : List (List T)} {v : V} (h : AtAr B H ar v) (f : ∀ q, H q ≠ none → q ∉ B → q ∉ B') : AtAr B' H ar v := by
  obtain ⟨p, us, e, n, h, k⟩ := h
  exact ⟨p, us, e, f _ (by rw [h]; simp) n, h, AtL.impR (fun _ _ ⟨q, e, n, h⟩ => ⟨q, e, f _ (by rw [h]; simp) n, h⟩) k⟩
/-- the deck, the words, what is left, the known names -/
structure V60 (H : Hp) (p l wl ll kl : Addr) (ws : List T) (a : Nat) (xs : List Int) (b : Int) (o : Nat) (ks : List T) : Prop where
  d : DkAt H p l a xs
  w : H wl = some (.lst (wsV ws))
  l7 : ws.length = 7
  wn : ws.Nodup
  lo : ∀ w ∈ ws, ∀ c ∈ w, c < 128
  sh : ∀ w ∈ ws, w.length ≤ 12
  ki : ∀ w ∈ ks, w ∈ ws
  f : H ll = some (.lst [.int b, .int (o : Nat)])
  k : H kl = some (.lst (wsV ks))
  nw : wl ∉ [p, l, ll, kl]
  nl : ll ∉ [p, l]
  nk : kl ∉ [p, l, ll]
section
variable {H H' : Hp} {p l wl ll kl q : Addr} {ws ks ks' : List T} {a a' : Nat} {xs xs' : List Int} {b b' : Int} {o o' : Nat}
theorem V60.same (h : V60 H p l wl ll kl ws a xs b o ks) (s : Same H H') : V60 H' p l wl ll kl ws a xs b o ks := ⟨h.d.same s, s _ _ h.w, h.l7, h.wn, h.lo, h.sh, h.ki, s _ _ h.f, s _ _ h.k, h.nw, h.nl, h.nk⟩
theorem V60.sd (h : V60 H p l wl ll kl ws a xs b o ks) (s : SD p l H H') (d : DkAt H' p l a' xs') : V60 H' p l wl ll kl ws a' xs' b o ks := by
  have h1 := h.nw
  have h2 := h.nl
  have h3 := h.nk
  simp only [List.mem_cons, List.not_mem_nil, or_false, not_or] at h1 h2 h3
  exact ⟨d, s _ _ h1.1 h1.2.1 h.w, h.l7, h.wn, h.lo, h.sh, h.ki, s _ _ h2.1 h2.2 h.f, s _ _ h3.1 h3.2.1 h.k, h.nw, h.nl, h.nk⟩
theorem V60.left (h : V60 H p l wl ll kl ws a xs b o ks) (b' : Int) (o' : Nat) : V60 (upd H ll (.lst [.int b', .int (o' : Nat)])) p l wl ll kl ws a xs b' o' ks := by
  have h1 := h.nw
  have h2 := h.nl
  have h3 := h.nk
  simp only [List.mem_cons, List.not_mem_nil, or_false, not_or] at h1 h2 h3
  exact ⟨h.d.upd h2 _, by rw [upd_ne h1.2.2.1]; exact h.w, h.l7, h.wn, h.lo, h.sh, h.ki, upd_same, by rw [upd_ne h3.2.2]; exact h.k, h.nw, h.nl, h.nk⟩
theorem V60.know (h : V60 H p l wl ll kl ws a xs b o ks) (ks' : List T) (hk : ∀ w ∈ ks', w ∈ ws) : V60 (upd H kl (.lst (wsV ks'))) p l wl ll kl ws a xs b o ks' := by
  have h1 := h.nw
  have h2 := h.nl
  have h3 := h.nk
  simp only [List.mem_cons, List.not_mem_nil, or_false, not_or] at h1 h2 h3
  exact ⟨h.d.upd ⟨h3.1, h3.2.1⟩ _, by rw [upd_ne h1.2.2.2]; exact h.w, h.l7, h.wn, h.lo, h.sh, hk, by rw [upd_ne (Ne.symm h3.2.2)]; exact h.f, upd_same, h.nw, h.nl, h.nk⟩
theorem V60.ne (h : V60 H p l wl ll kl ws a xs b o ks) (e : H q = none) : q ∉ [p, l, ll, kl] := by
  simp only [List.mem_cons, List.not_mem_nil, or_false, not_or]
  exact ⟨(h.d.ne e).1, (h.d.ne e).2, fun z => (by rw [z, h.f] at e; cases e), fun z => (by rw [z, h.k] at e; cases e)⟩
theorem V60.off (h : V60 H p l wl ll kl ws a xs b o ks) (hq : q ∉ [p, l, ll, kl]) (hw : q ≠ wl) (u : HO) : V60 (upd H q u) p l wl ll kl ws a xs b o ks := by
  simp only [List.mem_cons, List.not_mem_nil, or_false, not_or] at hq
  exact ⟨h.d.upd ⟨hq.1, hq.2.1⟩ _, by rw [upd_ne (Ne.symm hw)]; exact h.w, h.l7, h.wn, h.lo, h.sh, h.ki, by rw [upd_ne (Ne.symm hq.2.2.1)]; exact h.f, by rw [upd_ne (Ne.symm hq.2.2.2)]; exact h.k, h.nw, h.nl, h.nk⟩
theorem V60.newW (h : V60 H p l wl ll kl ws a xs b o ks) (e : H q = none) : q ≠ wl := fun z => by rw [z, h.w] at e; cases e
theorem V60.tups (h : V60 H p l wl ll kl ws a xs b o ks) (s : SX [p, l, ll, kl] H H') : Tups H H' := by
  have key : ∀ q u, q ∈ [p, l, ll, kl] → H q = some u → ∃ vs, u = .lst vs := fun q u hq e => by
    simp only [List.mem_cons, List.not_mem_nil, or_false] at hq
    rcases hq with rfl | rfl | rfl | rfl
    · rw [h.d.1] at e; cases e; exact ⟨_, rfl⟩
    · rw [h.d.2.1] at e; cases e; exact ⟨_, rfl⟩
    · rw [h.f] at e; cases e; exact ⟨_, rfl⟩
    · rw [h.k] at e; cases e; exact ⟨_, rfl⟩
  exact ⟨fun q ys e => s q _ (fun z => by obtain ⟨vs, e2⟩ := key q _ z e; cases e2) e, fun q o_ u_ e => s q _ (fun z => by obtain ⟨vs, e2⟩ := key q _ z e; cases e2) e⟩
end
theorem SX.new {B : List Addr} {H H1 : Hp} {q : Addr} {o : HO} (s : SX B H H1) (h : H1 q = none) : SX B H (L2.upd H1 q o) := s.trans (SX.same (same_new h _))
/-! lists against the empty one -/
def wsP (ws : List T) : List PyData := ws.map fun w => .str (mk w)
theorem wsP_all {K : PySem.W.Frag} {H : Hp} : ∀ ws : List T, DpAll K H (wsV ws) (wsP ws)
  | [] => .nil
  | w :: r => .cons (.str _) (wsP_all r)
theorem wsP_lay : ∀ ws : List T, (∀ w ∈ ws, ∀ c ∈ w, c < 128) → PyData.canLayAll0 (wsP ws) = true ∧ PyData.depthAll (wsP ws) = 0
  | [], _ => ⟨rfl, rfl⟩
  | w :: r, h => by
    obtain ⟨h1, h2⟩ := wsP_lay r fun x hx => h x (List.mem_cons_of_mem _ hx)
    have hw : PyData.strOk (mk w) = true := by
      show (mk w).cps.all _ = true
      have : (mk w).cps = w.toArray := rfl
      rw [this, List.all_toArray, List.all_eq_true]
      intro c hc
      have := h w List.mem_cons_self c hc
      exact decide_eq_true (by omega)
    constructor
    · show (PyData.strOk (mk w) && PyData.canLayAll0 (wsP r)) = true
      rw [hw, h1]
      rfl
    · show max 0 (PyData.depthAll (wsP r)) = 0
      rw [h2]
      rfl
theorem wsP_shaped {ws : List T} (h : ∀ w ∈ ws, ∀ c ∈ w, c < 128) : SeqAt.shaped (.list (wsP ws)) = true := by
  obtain ⟨h1, h2⟩ := wsP_lay ws h
  show (PyData.canLayAll0 (wsP ws) && decide (PyData.depthAll (wsP ws) + 1 ≤ 64)) = true
  rw [h1, h2]
  rfl
theorem eqv_nil (ds : List PyData) : PyData.eqv (.list ds) (.list []) = decide (ds = []) := by
  cases ds <;> rfl
theorem nil_shaped : SeqAt.shaped (.list []) = true := rfl
theorem ws_ne_nil {K : PySem.W.Frag} {H : Hp} {q e : Addr} {ws : List T} (hq : H q = some (.lst (wsV ws))) (he : H e = some (.lst [])) (lo : ∀ w ∈ ws, ∀ c ∈ w, c < 128) {Q : VK} (k : Q (.bl (!decide (ws = []))) H) : rNeD K (.ref q) (.ref e) H Q := by
  refine ⟨.list (wsP ws), .list [], .lst (SqL.of hq) (wsP_all ws), .lst (SqL.of he) .nil, wsP_shaped lo, nil_shaped, ?_⟩
  rw [eqv_nil]
  have : decide (wsP ws = []) = decide (ws = []) := by cases ws <;> rfl
  rw [this]
  exact k
/-- lists of words, against the empty one -/
theorem wls_all {K : PySem.W.Frag} {B : List Addr} {H : Hp} : ∀ {ar : List (List T)} {us : List V}, AtL (AtWl B) H ar us → DpAll K H us (ar.map fun ws => .list (wsP ws))
  | [], us, h => by
    have h' : us = [] := h
    subst h'
    exact .nil
  | ws :: r, us, ⟨u, vs, e, ⟨q, e2, _, hq⟩, h2⟩ => by
    subst e
    subst e2
    exact .cons (.lst (SqL.of hq) (wsP_all ws)) (wls_all h2)
theorem wls_lay : ∀ ar : List (List T), (∀ ws ∈ ar, ∀ w ∈ ws, ∀ c ∈ w, c < 128) → PyData.canLayAll0 (ar.map fun ws => .list (wsP ws)) = true ∧ PyData.depthAll (ar.map fun ws => .list (wsP ws)) ≤ 1
  | [], _ => ⟨rfl, Nat.zero_le _⟩
  | ws :: r, h => by
    obtain ⟨h1, h2⟩ := wls_lay r fun x hx => h x (List.mem_cons_of_mem _ hx)
    obtain ⟨g1, g2⟩ := wsP_lay ws (h ws List.mem_cons_self)
    constructor
    · show (PyData.canLayAll0 (wsP ws) && PyData.canLayAll0 _) = true
      rw [g1, h1]
      rfl
    · show max (PyData.depthAll (wsP ws) + 1) (PyData.depthAll _) ≤ 1
      rw [g2]
      omega
theorem wls_eq_nil {K : PySem.W.Frag} {B : List Addr} {H : Hp} {q e : Addr} {ar : List (List T)} {us : List V} (hq : H q = some (.lst us)) (ha : AtL (AtWl B) H ar us) (he : H e = some (.lst [])) (lo : ∀ ws ∈ ar, ∀ w ∈ ws, ∀ c ∈ w, c < 128) {Q : VK} (k : Q (.bl (decide (ar = []))) H) : rEqD K (.ref q) (.ref e) H Q := by
  obtain ⟨h1, h2⟩ := wls_lay ar lo
  refine ⟨.list (ar.map fun ws => .list (wsP ws)), .list [], .lst (SqL.of hq) (wls_all ha), .lst (SqL.of he) .nil, ?_, nil_shaped, ?_⟩
  · show (PyData.canLayAll0 _ && decide (PyData.depthAll _ + 1 ≤ 64)) = true
    rw [h1, decide_eq_true (by omega)]
    rfl
  rw [eqv_nil]
  have : decide ((ar.map fun ws => PyData.list (wsP ws)) = []) = decide (ar = []) := by cases ar <;> rfl
  rw [this]
  exact k
/-- [own for own in around if word in own] == [] -/
theorem seen_none {K : PySem.W.Frag} {B : List Addr} {σ : L2.St} {H : Hp} {i j x : Nat} {ar : List (List T)} {va : V} {w : T} (hi : σ[i]? = some (some va)) (ha : AtAr B H ar va) (hx : (wipe σ [j])[x]? = some (some (.str (mk w)))) (hxj : x ≠ j) (hj : j < σ.length)
    (lo : ∀ ws ∈ ar, ∀ w ∈ ws, ∀ c ∈ w, c < 128) (sm : ar.length ≤ 1000) {Q : VK} (k : ∀ H', Same H H' → Q (.bl (decide (∀ ps ∈ ar, w ∉ ps))) H') : tOp (rEqD K) (tLc (iList K (tVar i)) (gName j) (tTest (tOp (rIn K false) (tVar x) (tVar j))) (tVar j) [j]) (tLst tNil) σ H Q := by
  obtain ⟨p, us, rfl, hp, hH, hat⟩ := ha
  have hul := hat.len
  refine ⟨_, hi, p, rfl, ⟨_, SqL.of hH⟩, fun D0 hD0 => ?_⟩
  refine lc_list (xs := us) (fun i H1 => ∃ vs, Same H H1 ∧ H1 D0 = some (.lst vs) ∧ AtL (AtWl B) H ((ar.take i).filter fun ps => decide (w ∈ ps)) vs ∧ vs.length ≤ i) ⟨[], same_new hD0 _, upd_same, rfl, Nat.le_refl _⟩ (fun i H1 _ ⟨vs, s, _⟩ => SqL.of (s _ _ hH)) ?_ ?_
  · rintro n u H1 hu ⟨vs, s1, f1, at1, l1⟩
    obtain ⟨ps, hps, q, rfl, hq, hqH0⟩ := hat.get hu
    have hqH := s1 _ _ hqH0
    have hw2 : wipe ((wipe σ [j]).set j (some (V.ref q))) [j] = wipe σ [j] := by
      show (((σ.set j none).set j (some (V.ref q))).set j none) = σ.set j none
      rw [List.set_set, List.set_set]
    refine ⟨hw2, ?_⟩
    have g1 : ((wipe σ [j]).set j (some (V.ref q)))[x]? = some (some (.str (mk w))) := by rw [List.getElem?_set_ne (Ne.symm hxj)]; exact hx
    have hlen : (wipe σ [j]).length = σ.length := wipe_length _ _
    have g2 : ((wipe σ [j]).set j (some (V.ref q)))[j]? = some (some (.ref q)) := by rw [List.getElem?_set_self (by omega)]
    refine ⟨_, g1, _, g2, q, wsV ps, rfl, .inl (SqL.of hqH), rfl, flat_ws ps, _, rfl, ?_⟩
    rw [in_ws]
    have et : (ar.take (n + 1)).filter (fun ps => decide (w ∈ ps)) = (ar.take n).filter (fun ps => decide (w ∈ ps)) ++ (if decide (w ∈ ps) = true then [ps] else []) := by
      rw [List.take_add_one, hps, List.filter_append]
      by_cases c : w ∈ ps <;> simp [c]
    show if (if false = true then _ else decide (w ∈ ps)) = true then _ else _
    by_cases c : w ∈ ps
    · rw [if_pos (by simp [c])]
      rw [if_pos (by simp [c])] at et
      refine ⟨_, g2, vs, f1, by rw [sizeLine_eq]; have : n < us.length := (List.getElem?_eq_some_iff.mp hu).1; omega, vs ++ [.ref q], fun b o hb => by rw [upd_ne (ne_of_none hb hD0)]; exact s1 _ _ hb, upd_same, ?_, by rw [List.length_append]; show vs.length + 1 ≤ _; omega⟩
      rw [et]
      exact at1.snoc ⟨q, rfl, hq, hqH0⟩
    · rw [if_neg (by simp [c])]
      rw [if_neg (by simp [c]), List.append_nil] at et
      exact ⟨vs, s1, f1, by rw [et]; exact at1, by omega⟩
  rintro H1 ⟨vs, s1, f1, at1, l1⟩
  refine ⟨by show 0 ≤ sizeLine; decide, fun e he => ?_⟩
  have s2 := same_new he (.lst [])
  rw [hul, List.take_length] at at1
  refine wls_eq_nil (s2 _ _ f1) (AtL.onR (fun _ _ z => AtWl.sx (SX.same (s1.trans s2)) z) at1) upd_same (fun ws hws => lo ws (List.mem_filter.mp hws).1) ?_
  have eb : decide (ar.filter (fun ps => decide (w ∈ ps)) = []) = decide (∀ ps ∈ ar, w ∉ ps) := by
    congr 1
    simp [List.filter_eq_nil_iff]
  rw [eb]
  exact k _ (s1.trans s2)
theorem skipI {n m : Int} {p q : Prop} (h : n ≠ m) (k : q) : if decide (V.int n = V.int m) = true then p else q := by
  rw [if_neg (fun c => h (V.int.inj (of_decide_eq_true c)))]
  exact k
theorem takeI {n m : Int} {p q : Prop} (h : n = m) (k : p) : if decide (V.int n = V.int m) = true then p else q := by
  rw [if_pos (decide_eq_true (by rw [h]))]
  exact k
theorem cut_pre (xs : List V) (n : Nat) : cutV xs none (some ((n : Nat) : Int)) = xs.take n := by
  unfold cutV
  rw [HT.sIx_none, HT.sIx_nat, List.drop_zero, Nat.sub_zero]
  by_cases c : n ≤ xs.length
  · rw [Nat.min_eq_left c]
  · rw [Nat.min_eq_right (by omega), List.take_length, List.take_of_length_le (by omega)]
theorem cut_ws (ws : List T) (n : Nat) : cutV (wsV ws) none (some ((n : Nat) : Int)) = wsV (ws.take n) := by
  rw [cut_pre]
  unfold wsV
  rw [List.map_take]
/-- a leaf -/
structure Lf (ar : List (List T)) (ks : List T) (e : Ex) : Prop where
  n : nE e = 1
  o : oE e = 0
  st : ∀ hid, stE hid e = []
  sd : ∀ KS, (∀ w ∈ ks, w ∈ KS) → sdE (ar ++ [KS]) e
theorem inSur_known {ar : List (List T)} {ks KS : List T} {w : T} (h : w ∈ ks ∨ ∃ ps ∈ ar, w ∈ ps) (k : ∀ w ∈ ks, w ∈ KS) : inSur w (ar ++ [KS]) := by
  rcases h with h | ⟨ps, h1, h2⟩
  · exact ⟨KS, List.mem_append_right _ List.mem_cons_self, k w h⟩
  · exact ⟨ps, List.mem_append_left _ h1, h2⟩
/-- an e drawn: its nodes, what is known behind it -/
structure GE (ar : List (List T)) (ks ks' : List T) (o : Nat) (b b' : Int) (e : Ex) : Prop where
  n : (nE e : Int) = b - b'
  o : oE e ≤ o
  mono : ∀ w ∈ ks, w ∈ ks'
  new : ∀ w ∈ ks', w ∈ ks ∨ w ∈ stE ar.flatten e
  sd : ∀ KS, (∀ w ∈ ks', w ∈ KS) → sdE (ar ++ [KS]) e
structure GEs (ar : List (List T)) (ks ks' : List T) (o : Nat) (b b' : Int) (es : Exs) : Prop where
  n : (nEs es : Int) = b - b'
  o : oEs es ≤ o
  mono : ∀ w ∈ ks, w ∈ ks'
  new : ∀ w ∈ ks', w ∈ ks ∨ w ∈ stEs ar.flatten es
  sd : ∀ KS, (∀ w ∈ ks', w ∈ KS) → sdEs (ar ++ [KS]) es
structure GSt (ar : List (List T)) (ks ks' : List T) (o : Nat) (b b' : Int) (s : St_) : Prop where
  n : (nS s : Int) = b - b'
  o : oS s ≤ o
  mono : ∀ w ∈ ks, w ∈ ks'
  new : ∀ w ∈ ks', w ∈ ks ∨ w ∈ stS ar.flatten s
  sd : ∀ KS, (∀ w ∈ ks', w ∈ KS) → sdS (ar ++ [KS]) s
structure GSs (ar : List (List T)) (ks ks' : List T) (o : Nat) (b b' : Int) (ss : Sts) : Prop where
  n : (nSs ss : Int) = b - b'
  o : oSs ss ≤ o
  mono : ∀ w ∈ ks, w ∈ ks'
  new : ∀ w ∈ ks', w ∈ ks ∨ w ∈ stSs ar.flatten ss
  sd : ∀ KS, (∀ w ∈ ks', w ∈ KS) → sdSs (ar ++ [KS]) ss
theorem sdEs_snoc {sur : List (List T)} : ∀ {es : Exs} {e : Ex}, sdEs sur es → sdE sur e → sdEs sur (es.snoc e)
  | .nil, e, _, h => ⟨h, trivial⟩
  | .cons x r, e, ⟨h1, h2⟩, h => ⟨h1, sdEs_snoc h2 h⟩
theorem sdSs_snoc {sur : List (List T)} : ∀ {es : Sts} {e : St_}, sdSs sur es → sdS sur e → sdSs sur (es.snoc e)
  | .nil, e, _, h => ⟨h, trivial⟩
  | .cons x r, e, ⟨h1, h2⟩, h => ⟨h1, sdSs_snoc h2 h⟩
theorem stEs_snoc {hid : List T} : ∀ (es : Exs) (e : Ex), stEs hid (es.snoc e) = stEs hid es ++ stE hid e
  | .nil, e => by show stE hid e ++ [] = [] ++ stE hid e; simp
  | .cons x r, e => by show stE hid x ++ stEs hid (r.snoc e) = stE hid x ++ stEs hid r ++ stE hid e; rw [stEs_snoc r e, List.append_assoc]
theorem stSs_snoc {hid : List T} : ∀ (es : Sts) (e : St_), stSs hid (es.snoc e) = stSs hid es ++ stS hid e
  | .nil, e => by show stS hid e ++ [] = [] ++ stS hid e; simp
  | .cons x r, e => by show stS hid x ++ stSs hid (r.snoc e) = stS hid x ++ stSs hid r ++ stS hid e; rw [stSs_snoc r e, List.append_assoc]
theorem GEs.nil {ar : List (List T)} {ks : List T} {o : Nat} {b : Int} : GEs ar ks ks o b b .nil := ⟨by show ((0 : Nat) : Int) = _; omega, Nat.zero_le _, fun _ h => h, fun _ h => .inl h, fun _ _ => trivial⟩
theorem GEs.snoc {ar : List (List T)} {ks k1 k2 : List T} {o : Nat} {b b1 b2 : Int} {es : Exs} {e : Ex} (h : GEs ar ks k1 o b b1 es) (g : GE ar k1 k2 o b1 b2 e) : GEs ar ks k2 o b b2 (es.snoc e) := by
  have h1 := (Exs.snoc_n es e).1
  have h2 := (Exs.snoc_n es e).2.1
  have a1 := h.n
  have a2 := g.n
  have a3 := h.o
  have a4 := g.o
  refine ⟨by omega, by omega, fun w hw => g.mono w (h.mono w hw), fun w hw => ?_, fun KS k => sdEs_snoc (h.sd KS fun w hw => k w (g.mono w hw)) (g.sd KS k)⟩
  rw [stEs_snoc]
  rcases g.new w hw with hw | hw
  · rcases h.new w hw with hw | hw
    · exact .inl hw
    · exact .inr (List.mem_append_left _ hw)
  · exact .inr (List.mem_append_right _ hw)
theorem GSs.nil {ar : List (List T)} {ks : List T} {o : Nat} {b : Int} : GSs ar ks ks o b b .nil := ⟨by show ((0 : Nat) : Int) = _; omega, Nat.zero_le _, fun _ h => h, fun _ h => .inl h, fun _ _ => trivial⟩
theorem GSs.snoc {ar : List (List T)} {ks k1 k2 : List T} {o : Nat} {b b1 b2 : Int} {es : Sts} {e : St_} (h : GSs ar ks k1 o b b1 es) (g : GSt ar k1 k2 o b1 b2 e) : GSs ar ks k2 o b b2 (es.snoc e) := by
  have h1 := (Sts.snoc_n es e).1
  have h2 := (Sts.snoc_n es e).2.1
  have a1 := h.n
  have a2 := g.n
  have a3 := h.o
  have a4 := g.o
  refine ⟨by omega, by omega, fun w hw => g.mono w (h.mono w hw), fun w hw => ?_, fun KS k => sdSs_snoc (h.sd KS fun w hw => k w (g.mono w hw)) (g.sd KS k)⟩
  rw [stSs_snoc]
  rcases g.new w hw with hw | hw
  · rcases h.new w hw with hw | hw
    · exact .inl hw
    · exact .inr (List.mem_append_left _ hw)
  · exact .inr (List.mem_append_right _ hw)
theorem Lf.ge {ar : List (List T)} {ks : List T} {e : Ex} (h : Lf ar ks e) (o : Nat) (b : Int) : GE ar ks ks o b (b - 1) e := ⟨by rw [h.n]; omega, by rw [h.o]; exact Nat.zero_le _, fun _ h => h, fun _ h => .inl h, h.sd⟩
end My
set_option Elab.async false
set_option linter.all false
set_option maxRecDepth 100000
set_option maxHeartbeats 8000000
namespace My
open PySem L2 SS
/-! ### sorts of things; whether two are the same -/
inductive Srt
  | non | tru | num | txt | tup | oth
deriving DecidableEq
def Srt.w : Srt → Str
  | .non => Str.ofString "none"
  | .tru => Str.ofString "truth"
  | .num => Str.ofString "number"
  | .txt => Str.ofString "text"
  | .tup => Str.ofString "tuple"
  | .oth => Str.ofString "other"
theorem Srt.w_dec (s t : Srt) : decide (V.str s.w = V.str t.w) = decide (s = t) := by cases s <;> cases t <;> decide +kernel
theorem Srt.w_oth (s : Srt) : decide (V.str s.w = V.str (Str.ofString "other")) = decide (s = .oth) := Srt.w_dec s .oth
theorem Srt.w_tup (s : Srt) : decide (V.str s.w = V.str (Str.ofString "tuple")) = decide (s = .tup) := Srt.w_dec s .tup
abbrev TupA (H : Hp) (p : Addr) (xs : List V) : Prop := Rd H p (.tup xs)
inductive ThS (H : Hp) : V → Srt → Prop
  | non : ThS H .non .non
  | tru (b : Bool) : ThS H (.bl b) .tru
  | num (i : Int) : ThS H (.int i) .num
  | txt (z : Str) : ThS H (.str z) .txt
  | tup {p : Addr} {xs : List V} (h : TupA H p xs) : ThS H (.ref p) .tup
  | lst {p : Addr} {xs : List V} (h : H p = some (.lst xs)) : ThS H (.ref p) .oth
  | dK {p : Addr} {kvs : List (Key × V)} (h : H p = some (.dK kvs)) : ThS H (.ref p) .oth
/-- Rd tuples and things stand where tuples, lists, dicts stand -/
def Stds (H H' : Hp) : Prop := ∀ b u, H b = some u → H' b = some u
theorem ThS.same {H H' : Hp} (s : Same H H') {x : V} {t : Srt} (h : ThS H x t) : ThS H' x t := by
  cases h with
  | non => exact .non
  | tru b => exact .tru b
  | num i => exact .num i
  | txt z => exact .txt z
  | tup h => exact .tup (h.elim (fun h => .inl (s _ _ h)) fun ⟨o, h⟩ => .inr ⟨o, s _ _ h⟩)
  | lst h => exact .lst (s _ _ h)
  | dK h => exact .dK (s _ _ h)
theorem TupA.same {H H' : Hp} (s : Same H H') {p : Addr} {xs : List V} (h : TupA H p xs) : TupA H' p xs := h.elim (fun h => .inl (s _ _ h)) fun ⟨o, h⟩ => .inr ⟨o, s _ _ h⟩
theorem TupA.sq {K : PySem.W.Frag} {H : Hp} {p : Addr} {xs : List V} (h : TupA H p xs) : SqT K H p xs := .inl h
/-- the type that isinstance sees -/
def Srt.ty : Srt → String → Prop
  | .non, t => t = "NoneType"
  | .tru, t => t = "bool"
  | .num, t => t = "int"
  | .txt, t => t = "str"
  | .tup, t => t = "tuple"
  | .oth, t => t = "list" ∨ t = "dict"
theorem ThS.ty {K : PySem.W.Frag} {H : Hp} {x : V} {s : Srt} (h : ThS H x s) : ∃ t, TyX K H x (.type t) ∧ s.ty t := by
  cases h with
  | non => exact ⟨_, .base .non, rfl⟩
  | tru b => exact ⟨_, .base (.bl b), rfl⟩
  | num i => exact ⟨_, .base (.int i), rfl⟩
  | txt z => exact ⟨_, .base (.str z), rfl⟩
  | tup h =>
    rcases h with h | ⟨o, h⟩
    · exact ⟨_, .base (.tup h), rfl⟩
    · exact ⟨_, .fTuple h, rfl⟩
  | lst h => exact ⟨_, .base (.lst h), .inl rfl⟩
  | dK h => exact ⟨_, .base (.dK h), .inr rfl⟩
/-- isinstance(x, T) for T a built-in of these four -/
def Srt.isT : Srt → String → Bool
  | .tru, "bool" => true
  | .tru, "int" => true
  | .num, "int" => true
  | .txt, "str" => true
  | .tup, "tuple" => true
  | _, _ => false
theorem Srt.kit {K : PySem.W.Frag} {s : Srt} {t : String} (h : s.ty t) : PySem.W.kitOne K (.type t) (.type "bool") = some (s.isT "bool") ∧ PySem.W.kitOne K (.type t) (.type "int") = some (s.isT "int") ∧ PySem.W.kitOne K (.type t) (.type "str") = some (s.isT "str") ∧ PySem.W.kitOne K (.type t) (.type "tuple") = some (s.isT "tuple") := by
  cases s with
  | oth => rcases h with rfl | rfl <;> exact ⟨rfl, rfl, rfl, rfl⟩
  | non => cases h; exact ⟨rfl, rfl, rfl, rfl⟩
  | tru => cases h; exact ⟨rfl, rfl, rfl, rfl⟩
  | num => cases h; exact ⟨rfl, rfl, rfl, rfl⟩
  | txt => cases h; exact ⟨rfl, rfl, rfl, rfl⟩
  | tup => cases h; exact ⟨rfl, rfl, rfl, rfl⟩
theorem ThS.none {H : Hp} {x : V} {s : Srt} (h : ThS H x s) : decide (x = V.non) = decide (s = .non) := by
  cases h <;> simp
theorem ThS.det {H : Hp} {x : V} {s t : Srt} (h : ThS H x s) (k : ThS H x t) : s = t := by
  have no : ∀ {p : Addr} {xs : List V} {u : HO}, TupA H p xs → H p = some u → (∀ ys, u ≠ .tup ys) → (∀ o v, u ≠ .frz o v) → False := fun {p xs u} h1 h2 n1 n2 => by
    rcases h1 with h1 | ⟨o, h1⟩
    · rw [h1] at h2; cases h2; exact n1 _ rfl
    · rw [h1] at h2; cases h2; exact n2 _ _ rfl
  cases h with
  | non => cases k; rfl
  | tru b => cases k; rfl
  | num i => cases k; rfl
  | txt z => cases k; rfl
  | tup h =>
    cases k with
    | tup _ => rfl
    | lst k => exact (no h k (by intro _ z; cases z) (by intro _ _ z; cases z)).elim
    | dK k => exact (no h k (by intro _ z; cases z) (by intro _ _ z; cases z)).elim
  | lst h =>
    cases k with
    | tup k => exact (no k h (by intro _ z; cases z) (by intro _ _ z; cases z)).elim
    | lst _ => rfl
    | dK _ => rfl
  | dK h =>
    cases k with
    | tup k => exact (no k h (by intro _ z; cases z) (by intro _ _ z; cases z)).elim
    | lst _ => rfl
    | dK _ => rfl
theorem ThS.scal {H : Hp} {x y : V} {s : Srt} (h : ThS H x s) (k : ThS H y s) (n1 : s ≠ .oth) (n2 : s ≠ .tup) : scal x y = true := by
  cases h with
  | non => cases k; rfl
  | tru b => cases k; rfl
  | num i => cases k; rfl
  | txt z => cases k; rfl
  | tup h => exact absurd rfl n2
  | lst h => exact absurd rfl n1
  | dK h => exact absurd rfl n1
theorem dec_int_nat (a b : Nat) : decide (V.int ((a : Nat) : Int) = V.int ((b : Nat) : Int)) = decide (a = b) := by
  by_cases c : a = b
  · subst c; rw [decide_eq_true rfl, decide_eq_true rfl]
  · rw [decide_eq_false c, decide_eq_false fun z => c (by have := V.int.inj z; omega)]
section
variable {P : Program} {w : World} {K : PySem.W.Frag} {mg : Str → Option Value} {base : Heap}
def spSo : Sp := fun vs H Q _ => ∃ (x : V) (s : Srt), vs = [x] ∧ ThS H x s ∧ Q (.str s.w) H
/-- the same by one look: of unlike sorts, plain, or of unlike lengths -/
def SmB (H : Hp) (x y : V) (b : Bool) : Prop := (∃ s t, ThS H x s ∧ ThS H y t ∧ (s = .oth ∨ s ≠ t) ∧ b = false) ∨ (∃ s, ThS H x s ∧ ThS H y s ∧ s ≠ .oth ∧ s ≠ .tup ∧ b = decide (x = y)) ∨
  (∃ (p q : Addr) (xs ys : List V), x = .ref p ∧ y = .ref q ∧ TupA H p xs ∧ TupA H q ys ∧ xs.length ≠ ys.length ∧ b = false)
def SmR (H : Hp) : Nat → V → V → Bool → Prop
  | 0, x, y, b => SmB H x y b
  | d + 1, x, y, b => SmB H x y b ∨ ∃ (p q : Addr) (xs ys : List V) (bs : List Bool), x = .ref p ∧ y = .ref q ∧ TupA H p xs ∧ TupA H q ys ∧ xs.length = ys.length ∧ bs.length = xs.length ∧ xs.length ≤ 100000 ∧ b = bs.all id ∧ ∀ (i : Nat) (u v : V) (c : Bool), xs[i]? = some u → ys[i]? = some v → bs[i]? = some c → SmR H d u v c
theorem SmB.same {H H' : Hp} (s : Same H H') {x y : V} {b : Bool} (h : SmB H x y b) : SmB H' x y b := by
  rcases h with ⟨a, t, h1, h2, r⟩ | ⟨a, h1, h2, r⟩ | ⟨p, q, xs, ys, e1, e2, h1, h2, r⟩
  · exact .inl ⟨a, t, h1.same s, h2.same s, r⟩
  · exact .inr (.inl ⟨a, h1.same s, h2.same s, r⟩)
  · exact .inr (.inr ⟨p, q, xs, ys, e1, e2, TupA.same s h1, TupA.same s h2, r⟩)
theorem SmR.same {H H' : Hp} (s : Same H H') : ∀ (d : Nat) {x y : V} {b : Bool}, SmR H d x y b → SmR H' d x y b
  | 0, x, y, b, h => SmB.same s h
  | d + 1, x, y, b, h => by
    rcases h with h | ⟨p, q, xs, ys, bs, e1, e2, h1, h2, h3, h4, h5, h6, h7⟩
    · exact .inl (h.same s)
    · exact .inr ⟨p, q, xs, ys, bs, e1, e2, TupA.same s h1, TupA.same s h2, h3, h4, h5, h6, fun i u v c a1 a2 a3 => SmR.same s d (h7 i u v c a1 a2 a3)⟩
theorem SmR.look {H : Hp} : ∀ {d : Nat} {x y : V} {b : Bool}, SmB H x y b → SmR H d x y b
  | 0, _, _, _, h => h
  | _ + 1, _, _, _, h => .inl h
def spSa (d : Nat) : Sp := fun vs H Q _ => ∃ (x y : V) (b : Bool), vs = [x, y] ∧ SmR H d x y b ∧ ∀ H', Same H H' → Q (.bl b) H'
def prevSa : Nat → Sp
  | 0 => fun _ _ _ _ => False
  | d + 1 => spSa d
theorem walk_zipT {a b : Addr} {xs ys : List V} {n : Nat} (hn : n = min xs.length ys.length) : Walk (RZ.ItzT K a b) n (fun H => SqT K H a xs ∧ SqT K H b ys) (YPair (fun i => xs[i]?) (fun i => ys[i]?)) := by
  subst hn
  refine ⟨fun i _ hi q => ?_, fun _ q => ⟨xs, ys, q.1, q.2, by omega⟩, fun i H v H' _ q y => ?_⟩
  · have h1 : i < xs.length := by omega
    have h2 : i < ys.length := by omega
    exact ⟨xs, ys, _, _, q.1, q.2, List.getElem?_eq_getElem h1, List.getElem?_eq_getElem h2⟩
  · obtain ⟨T, x, y, h1, h2, h3, h4, h5⟩ := y
    exact ⟨T, x, y, h1, h2, h3, h4 xs q.1, h5 ys q.2⟩
end
end My
set_option Elab.async false
set_option linter.all false
set_option maxRecDepth 100000
set_option maxHeartbeats 4000000
namespace My
open PySem L2 SS
/-! ### things as data -/
inductive Dt : Type
  | v (x : V) : Dt
  | tup (xs : List Dt) : Dt
  | lst (xs : List Dt) : Dt
  | dic : Dt
/-- one by one -/
inductive All2 {α β : Type} (R : α → β → Prop) : List α → List β → Prop
  | nil : All2 R [] []
  | cons {a : α} {b : β} {as : List α} {bs : List β} : R a b → All2 R as bs → All2 R (a :: as) (b :: bs)
theorem All2.len {α β : Type} {R : α → β → Prop} {as : List α} {bs : List β} (h : All2 R as bs) : as.length = bs.length := by
  induction h with
  | nil => rfl
  | cons _ _ ih => rw [List.length_cons, List.length_cons, ih]
theorem All2.get {α β : Type} {R : α → β → Prop} {as : List α} {bs : List β} (h : All2 R as bs) {i : Nat} {b : β} (hb : bs[i]? = some b) : ∃ a, as[i]? = some a ∧ R a b := by
  induction h generalizing i with
  | nil => simp at hb
  | cons r _ ih =>
    cases i with
    | zero => simp at hb; subst hb; exact ⟨_, rfl, r⟩
    | succ i => obtain ⟨a, h1, h2⟩ := ih (i := i) (by simpa using hb); exact ⟨a, by simpa using h1, h2⟩
theorem All2.app {α β : Type} {R : α → β → Prop} {as cs : List α} {bs ds : List β} (h : All2 R as bs) (k : All2 R cs ds) : All2 R (as ++ cs) (bs ++ ds) := by
  induction h with
  | nil => exact k
  | cons r _ ih => exact .cons r ih
theorem All2.imp {α β : Type} {R S : α → β → Prop} {as : List α} {bs : List β} (h : All2 R as bs) (k : ∀ a b, R a b → S a b) : All2 S as bs := by
  induction h with
  | nil => exact .nil
  | cons r _ ih => exact .cons (k _ _ r) ih
theorem All2.take {α β : Type} {R : α → β → Prop} : ∀ {as : List α} {bs : List β} (n : Nat), All2 R as bs → All2 R (as.take n) (bs.take n)
  | _, _, 0, _ => .nil
  | _, _, n + 1, .nil => .nil
  | _, _, n + 1, .cons r h => .cons r (h.take n)
theorem All2.drop {α β : Type} {R : α → β → Prop} : ∀ {as : List α} {bs : List β} (n : Nat), All2 R as bs → All2 R (as.drop n) (bs.drop n)
  | _, _, 0, h => h
  | _, _, n + 1, .nil => .nil
  | _, _, n + 1, .cons r h => h.drop n
/-- the data that stands there, of so many levels -/
def AtD (H : Hp) : Nat → Dt → V → Prop
  | _, .v y, x => x = y ∧ Pln y
  | 0, .tup _, _ => False
  | n + 1, .tup ds, x => ∃ p us, x = .ref p ∧ H p = some (.tup us) ∧ ds.length ≤ 100000 ∧ All2 (AtD H n) ds us
  | 0, .lst _, _ => False
  | n + 1, .lst ds, x => ∃ p us, x = .ref p ∧ H p = some (.lst us) ∧ ds.length ≤ 100000 ∧ All2 (AtD H n) ds us
  | _, .dic, x => ∃ p kvs, x = .ref p ∧ H p = some (.dK kvs)
theorem AtD.same {H H' : Hp} (s : Same H H') : ∀ {n : Nat} {d : Dt} {x : V}, AtD H n d x → AtD H' n d x
  | 0, .v y, x, h => h
  | n + 1, .v y, x, h => h
  | 0, .tup _, _, h => h.elim
  | n + 1, .tup ds, x, ⟨p, us, e, h1, h2, h3⟩ => ⟨p, us, e, s _ _ h1, h2, h3.imp fun a b r => AtD.same s r⟩
  | 0, .lst _, _, h => h.elim
  | n + 1, .lst ds, x, ⟨p, us, e, h1, h2, h3⟩ => ⟨p, us, e, s _ _ h1, h2, h3.imp fun a b r => AtD.same s r⟩
  | 0, .dic, x, ⟨p, k, e, h⟩ => ⟨p, k, e, s _ _ h⟩
  | n + 1, .dic, x, ⟨p, k, e, h⟩ => ⟨p, k, e, s _ _ h⟩
theorem AtD.up {H : Hp} : ∀ {n : Nat} {d : Dt} {x : V}, AtD H n d x → AtD H (n + 1) d x
  | 0, .v y, x, h => h
  | n + 1, .v y, x, h => h
  | 0, .tup _, _, h => h.elim
  | n + 1, .tup ds, x, ⟨p, us, e, h1, h2, h3⟩ => ⟨p, us, e, h1, h2, h3.imp fun a b r => AtD.up r⟩
  | 0, .lst _, _, h => h.elim
  | n + 1, .lst ds, x, ⟨p, us, e, h1, h2, h3⟩ => ⟨p, us, e, h1, h2, h3.imp fun a b r => AtD.up r⟩
  | 0, .dic, x, h => h
  | n + 1, .dic, x, h => h
theorem AtD.mono {H : Hp} {n m : Nat} (h : n ≤ m) {d : Dt} {x : V} (a : AtD H n d x) : AtD H m d x := by
  induction h with
  | refl => exact a
  | step _ ih => exact ih.up
/-- whether data are the same, kind for kind -/
def smD : Nat → Dt → Dt → Bool
  | _, .v x, .v y => decide (x = y)
  | 0, .tup xs, .tup ys => false
  | n + 1, .tup xs, .tup ys => decide (xs.length = ys.length) && (List.zipWith (smD n) xs ys).all id
  | _, _, _ => false
theorem pln_ths {H : Hp} {x : V} (h : Pln x) : ∃ s, ThS H x s ∧ s ≠ .oth ∧ s ≠ .tup := by
  cases h with
  | int i => exact ⟨_, .num i, by decide, by decide⟩
  | str z => exact ⟨_, .txt z, by decide, by decide⟩
  | bl b => exact ⟨_, .tru b, by decide, by decide⟩
  | non => exact ⟨_, .non, by decide, by decide⟩
/-- the sort of data -/
def Dt.s : Dt → Option Srt
  | .v _ => none
  | .tup _ => some .tup
  | .lst _ => some .oth
  | .dic => some .oth
theorem AtD.ths {H : Hp} : ∀ {n : Nat} {d : Dt} {x : V}, AtD H n d x → ∃ s, ThS H x s ∧ (d.s = none → s ≠ .oth ∧ s ≠ .tup) ∧ (∀ t, d.s = some t → s = t)
  | n, .v y, x, h => by
    obtain ⟨e, hp⟩ : x = y ∧ Pln y := by cases n <;> exact h
    subst e
    obtain ⟨s, h, a, b⟩ := pln_ths (H := H) hp
    exact ⟨s, h, fun _ => ⟨a, b⟩, fun _ e => (by cases e)⟩
  | 0, .tup _, _, h => h.elim
  | n + 1, .tup ds, x, ⟨p, us, e, h1, _⟩ => by subst e; exact ⟨.tup, .tup (.inl h1), fun e => (by cases e), fun _ e => (by cases e; rfl)⟩
  | 0, .lst _, _, h => h.elim
  | n + 1, .lst ds, x, ⟨p, us, e, h1, _⟩ => by subst e; exact ⟨.oth, .lst h1, fun e => (by cases e), fun _ e => (by cases e; rfl)⟩
  | n, .dic, x, h => by
    obtain ⟨p, k, e, h1⟩ : ∃ p kvs, x = .ref p ∧ H p = some (.dK kvs) := by cases n <;> exact h
    subst e
    exact ⟨.oth, .dK h1, fun e => (by cases e), fun _ e => (by cases e; rfl)⟩
theorem sm_v (n : Nat) (x y : V) : smD n (.v x) (.v y) = decide (x = y) := by cases n <;> rfl
/-- of unlike sorts -/
theorem sm_un {H : Hp} {n : Nat} {d e : Dt} {x y : V} (hb : smD n d e = false) (h : AtD H n d x) (k : AtD H n e y) (c : d.s = some .oth ∨ ((d.s ≠ none → d.s ≠ e.s) ∧ (d.s = none → e.s ≠ none))) : SmR H n x y (smD n d e) := by
  obtain ⟨s, h1, h2, h3⟩ := AtD.ths h
  obtain ⟨t, k1, k2, k3⟩ := AtD.ths k
  rw [hb]
  rcases c with c | ⟨c1, c2⟩
  · exact SmR.look (.inl ⟨s, t, h1, k1, .inl (h3 _ c), rfl⟩)
  · refine SmR.look (.inl ⟨s, t, h1, k1, .inr fun z => ?_, rfl⟩)
    subst z
    cases hd : d.s with
    | none =>
      cases he : e.s with
      | none => exact c2 hd he
      | some t =>
        have e1 := k3 t he
        have := h2 hd
        cases e with
        | v _ => cases he
        | tup _ => cases he; exact this.2 e1
        | lst _ => cases he; exact this.1 e1
        | dic => cases he; exact this.1 e1
    | some a =>
      have e1 := h3 a hd
      cases he : e.s with
      | none =>
        have := k2 he
        cases d with
        | v _ => cases hd
        | tup _ => cases hd; exact this.2 e1
        | lst _ => cases hd; exact this.1 e1
        | dic => cases hd; exact this.1 e1
      | some b =>
        have e2 := k3 b he
        exact c1 (by rw [hd]; intro z; cases z) (by rw [hd, he, ← e1, ← e2])
theorem sm_at {H : Hp} : ∀ (n : Nat) {d e : Dt} {x y : V}, AtD H n d x → AtD H n e y → SmR H n x y (smD n d e)
  | n, .v a, .v b, x, y, h, k => by
    obtain ⟨e1, hp⟩ : x = a ∧ Pln a := by cases n <;> exact h
    obtain ⟨e2, kp⟩ : y = b ∧ Pln b := by cases n <;> exact k
    subst e1
    subst e2
    obtain ⟨s, h1, h2, h3⟩ := pln_ths (H := H) hp
    obtain ⟨t, k1, k2, k3⟩ := pln_ths (H := H) kp
    rw [sm_v]
    by_cases c : s = t
    · subst c
      exact SmR.look (.inr (.inl ⟨s, h1, k1, h2, h3, rfl⟩))
    · have : decide (x = y) = false := decide_eq_false fun e => c (by subst e; exact ThS.det h1 k1)
      rw [this]
      exact SmR.look (.inl ⟨s, t, h1, k1, .inr c, rfl⟩)
  | 0, .tup _, _, _, _, h, _ => h.elim
  | 0, .v _, .tup _, _, _, _, k => k.elim
  | n + 1, .tup ds, .tup es, x, y, ⟨p, us, e1, h1, h2, h3⟩, ⟨q, vs, e2, k1, k2, k3⟩ => by
    subst e1
    subst e2
    have l1 := h3.len
    have l2 := k3.len
    by_cases c : ds.length = es.length
    · have e : smD (n + 1) (.tup ds) (.tup es) = (List.zipWith (smD n) ds es).all id := by
        show (decide (ds.length = es.length) && _) = _
        rw [decide_eq_true c, Bool.true_and]
      rw [e]
      refine .inr ⟨p, q, us, vs, List.zipWith (smD n) ds es, rfl, rfl, .inl h1, .inl k1, by omega, by rw [List.length_zipWith]; omega, by omega, rfl, fun i u v b hu hv hb => ?_⟩
      obtain ⟨d, hd, rd⟩ := h3.get hu
      obtain ⟨e, he, re⟩ := k3.get hv
      rw [List.getElem?_zipWith, hd, he] at hb
      have := Option.some.inj hb
      rw [← this]
      exact sm_at n rd re
    · have e : smD (n + 1) (.tup ds) (.tup es) = false := by
        show (decide (ds.length = es.length) && _) = _
        rw [decide_eq_false c, Bool.false_and]
      rw [e]
      exact .inl (.inr (.inr ⟨p, q, us, vs, rfl, rfl, .inl h1, .inl k1, by omega, rfl⟩))
  | n + 1, .v a, .tup es, x, y, h, k => sm_un rfl h k (.inr ⟨(fun z => absurd rfl z), (fun _ => (by intro z; cases z))⟩)
  | n + 1, .tup ds, .v b, x, y, h, k => sm_un rfl h k (.inr ⟨(fun _ => (by intro z; cases z)), (fun z => (by cases z))⟩)
  | n, .lst ds, e, x, y, h, k => sm_un (by cases n <;> cases e <;> rfl) h k (.inl rfl)
  | n, .dic, e, x, y, h, k => sm_un (by cases n <;> cases e <;> rfl) h k (.inl rfl)
  | n, .v a, .lst es, x, y, h, k => sm_un (by cases n <;> rfl) h k (.inr ⟨(fun z => absurd rfl z), (fun _ => (by intro z; cases z))⟩)
  | n, .v a, .dic, x, y, h, k => sm_un (by cases n <;> rfl) h k (.inr ⟨(fun z => absurd rfl z), (fun _ => (by intro z; cases z))⟩)
  | n + 1, .tup ds, .lst es, x, y, h, k => sm_un rfl h k (.inr ⟨(fun _ => (by intro z; cases z)), (fun z => (by cases z))⟩)
  | n + 1, .tup ds, .dic, x, y, h, k => sm_un rfl h k (.inr ⟨(fun _ => (by intro z; cases z)), (fun z => (by cases z))⟩)
/-! rows as data -/
def dRow (r : Rw) : Dt := .tup (r.map .v)
def dRows (rs : List Rw) : Dt := .tup (rs.map dRow)
theorem all2_pln {H : Hp} {n : Nat} : ∀ {r : List V}, (∀ x ∈ r, Pln x) → All2 (AtD H n) (r.map .v) r
  | [], _ => .nil
  | x :: r, h => .cons (by cases n <;> exact ⟨rfl, h x List.mem_cons_self⟩) (all2_pln fun y hy => h y (List.mem_cons_of_mem _ hy))
theorem dRow_at {H : Hp} {r : Rw} {v : V} (h : AtRw H r v) (hr : r.length ≤ 5 ∧ ∀ x ∈ r, Pln x) : AtD H 1 (dRow r) v := by
  obtain ⟨p, rfl, hp⟩ := h
  exact ⟨p, r, rfl, hp, by rw [List.length_map]; omega, all2_pln hr.2⟩
theorem all2_rows {H : Hp} : ∀ {rs : List Rw} {us : List V}, AtL AtRw H rs us → PlR rs → All2 (AtD H 1) (rs.map dRow) us
  | [], us, h, _ => by
    have h' : us = [] := h
    subst h'
    exact .nil
  | r :: rs, us, ⟨v, vs, e, h1, h2⟩, hp => by
    subst e
    exact .cons (dRow_at h1 (hp r List.mem_cons_self)) (all2_rows h2 fun x hx => hp x (List.mem_cons_of_mem _ hx))
theorem dRows_at {H : Hp} {p : Addr} {rs : List Rw} {us : List V} (hp : H p = some (.tup us)) (h : AtL AtRw H rs us) (hr : PlR rs) (hl : rs.length ≤ 100000) : AtD H 2 (dRows rs) (.ref p) :=
  ⟨p, us, rfl, hp, by rw [List.length_map]; exact hl, all2_rows h hr⟩
/-- unlike at one place -/
theorem sm_off {n : Nat} {xs ys : List Dt} {i : Nat} {a b : Dt} (ha : xs[i]? = some a) (hb : ys[i]? = some b) (h : smD n a b = false) : smD (n + 1) (.tup xs) (.tup ys) = false := by
  show (decide (xs.length = ys.length) && (List.zipWith (smD n) xs ys).all id) = false
  have hz : (List.zipWith (smD n) xs ys)[i]? = some false := by rw [List.getElem?_zipWith, ha, hb, ← h]
  have : (List.zipWith (smD n) xs ys).all id = false := List.all_eq_false.mpr ⟨false, List.mem_of_getElem? hz, by decide⟩
  rw [this, Bool.and_false]
theorem sm_lenD {n : Nat} {xs ys : List Dt} (h : xs.length ≠ ys.length) : smD (n + 1) (.tup xs) (.tup ys) = false := by
  show (decide (xs.length = ys.length) && _) = false
  rw [decide_eq_false h, Bool.false_and]
theorem sm_rows_ne {n : Nat} : ∀ {r s : List V}, r ≠ s → smD (n + 1) (dRow r) (dRow s) = false := fun {r s} h => by
  by_cases c : r.length = s.length
  · have : ∃ i : Nat, r[i]? ≠ s[i]? := by
      by_cases z : ∃ i : Nat, r[i]? ≠ s[i]?
      · exact z
      · exact absurd (List.ext_getElem? fun i => by
          by_cases y : r[i]? = s[i]?
          · exact y
          · exact absurd ⟨i, y⟩ z) h
    obtain ⟨i, hi⟩ := this
    have hlt : i < r.length := by
      by_cases z : i < r.length
      · exact z
      · rw [List.getElem?_eq_none (by omega), List.getElem?_eq_none (by omega)] at hi; exact absurd rfl hi
    have h1 : r[i]? = some r[i] := List.getElem?_eq_getElem hlt
    have h2 : s[i]? = some (s[i]'(by omega)) := List.getElem?_eq_getElem (by omega)
    refine sm_off (i := i) (a := .v r[i]) (b := .v (s[i]'(by omega))) (by rw [List.getElem?_map, h1]; rfl) (by rw [List.getElem?_map, h2]; rfl) ?_
    rw [sm_v]
    exact decide_eq_false fun z => hi (by rw [h1, h2, z])
  · exact sm_lenD (by rw [List.length_map, List.length_map]; exact c)
end My
set_option Elab.async false
set_option linter.all false
set_option maxRecDepth 100000
set_option maxHeartbeats 4000000
namespace My
open PySem L2 SS
/-! ### what evaluates to what data; what stood stands -/
def EvD (te : TE) (σ : L2.St) (H : Hp) (n : Nat) (d : Dt) : Prop := ∀ H1, Same H H1 → ∀ Q : VK, (∀ v H2, Same H1 H2 → AtD H2 n d v → Q v H2) → te σ H1 Q
def EvDs (ta : TA) (σ : L2.St) (H : Hp) (n : Nat) (ds : List Dt) : Prop := ∀ H1, Same H H1 → ∀ Q : List V → Hp → Prop, (∀ vs H2, Same H1 H2 → All2 (AtD H2 n) ds vs → Q vs H2) → ta σ H1 Q
theorem All2.same {H H' : Hp} {n : Nat} {ds : List Dt} {vs : List V} (s : Same H H') (h : All2 (AtD H n) ds vs) : All2 (AtD H' n) ds vs := h.imp fun a b r => AtD.same s r
section
variable {σ : L2.St} {H : Hp} {n : Nat} {d : Dt} {ds es : List Dt} {te tb : TE} {ta : TA}
theorem EvD.mono {H' : Hp} (s : Same H H') (h : EvD te σ H n d) : EvD te σ H' n d := fun H1 s1 Q q => h H1 (s.trans s1) Q q
theorem EvDs.mono {H' : Hp} (s : Same H H') (h : EvDs ta σ H n ds) : EvDs ta σ H' n ds := fun H1 s1 Q q => h H1 (s.trans s1) Q q
theorem atD_v {v : V} (h : Pln v) : AtD H n (.v v) v := by cases n <;> exact ⟨rfl, h⟩
theorem atD_pl {v w : V} (h : AtD H n (.v v) w) : w = v ∧ Pln v := by cases n <;> exact h
theorem evd_c {v : V} (h : Pln v) : EvD (tC v) σ H n (.v v) := fun H1 s1 Q q => q v H1 (Same.refl _) (atD_v h)
theorem evd_var {i : Nat} {v : V} (h : σ[i]? = some (some v)) (a : AtD H n d v) : EvD (tVar i) σ H n d := fun H1 s1 Q q => ⟨v, h, q v H1 (Same.refl _) (a.same s1)⟩
theorem evds_nil : EvDs tNil σ H n [] := fun H1 s1 Q q => q [] H1 (Same.refl _) .nil
theorem evds_cons (h : EvD te σ H n d) (k : EvDs ta σ H n ds) : EvDs (tCons te ta) σ H n (d :: ds) := fun H1 s1 Q q => h H1 s1 _ fun v H2 s2 a => k H2 (s1.trans s2) _ fun vs H3 s3 b => q (v :: vs) H3 (s2.trans s3) (.cons (a.same s3) b)
theorem evd_tup (h : EvDs ta σ H n ds) (hl : ds.length ≤ 100000) : EvD (tTup ta) σ H (n + 1) (.tup ds) := fun H1 s1 Q q => h H1 s1 _ fun vs H2 s2 a => by
  refine ⟨by rw [← a.len]; exact Evl.sz_of hl, fun p hp => ?_⟩
  have s3 := same_new hp (.tup vs)
  exact q _ _ (s2.trans s3) ⟨p, vs, rfl, upd_same, hl, a.same s3⟩
theorem evd_lst (h : EvDs ta σ H n ds) (hl : ds.length ≤ 100000) : EvD (tLst ta) σ H (n + 1) (.lst ds) := fun H1 s1 Q q => h H1 s1 _ fun vs H2 s2 a => by
  refine ⟨by rw [← a.len]; exact Evl.sz_of hl, fun p hp => ?_⟩
  have s3 := same_new hp (.lst vs)
  exact q _ _ (s2.trans s3) ⟨p, vs, rfl, upd_same, hl, a.same s3⟩
theorem evd_cat (h : EvD te σ H (n + 1) (.lst ds)) (k : EvD tb σ H (n + 1) (.lst es)) (hl : ds.length + es.length ≤ 100000) : EvD (tOp rCat te tb) σ H (n + 1) (.lst (ds ++ es)) := fun H1 s1 Q q => h H1 s1 _ fun v H2 s2 a => k H2 (s1.trans s2) _ fun w H3 s3 b => by
  obtain ⟨p, us, rfl, hp, _, h1⟩ := a
  obtain ⟨r, ws, rfl, hr, _, h2⟩ := b
  have l1 := h1.len
  have l2 := h2.len
  refine ⟨p, r, us, ws, rfl, rfl, s3 _ _ hp, hr, Evl.sz_of (by omega), fun t ht => ?_⟩
  have s4 := same_new ht (.lst (us ++ ws))
  exact q _ _ (s2.trans (s3.trans s4)) ⟨t, us ++ ws, rfl, upd_same, by rw [List.length_append]; exact hl, ((h1.same s3).app h2).same s4⟩
theorem evd_len {K : PySem.W.Frag} (h : EvD te σ H (n + 1) (.lst ds)) : EvD (tCB (Evl.rLenS K) (tCons te tNil)) σ H n (.v (.int (ds.length : Nat))) := fun H1 s1 Q q => h H1 s1 _ fun v H2 s2 a => by
  obtain ⟨p, us, rfl, hp, _, h1⟩ := a
  refine ⟨p, us, rfl, .inl (SqL.of hp), ?_⟩
  rw [← h1.len]
  exact q _ H2 s2 (atD_v (.int _))
theorem evd_i0 {g : Int → Int → V} {i j : Int} (h : EvD te σ H n (.v (.int i))) (k : EvD tb σ H n (.v (.int j))) (hp : Pln (g i j)) : EvD (tOp (rI0 g) te tb) σ H n (.v (g i j)) := fun H1 s1 Q q => h H1 s1 _ fun v H2 s2 a => k H2 (s1.trans s2) _ fun w H3 s3 b => by
  obtain ⟨rfl, _⟩ := atD_pl a
  obtain ⟨rfl, _⟩ := atD_pl b
  exact ⟨i, j, rfl, rfl, q _ H3 (s2.trans s3) (atD_v hp)⟩
theorem evd_neg {i : Int} (h : EvD te σ H n (.v (.int i))) : EvD (tUn (rU fun i => .int (-i)) te) σ H n (.v (.int (-i))) := fun H1 s1 Q q => h H1 s1 _ fun v H2 s2 a => by
  obtain ⟨rfl, _⟩ := atD_pl a
  exact ⟨i, rfl, q _ H2 s2 (atD_v (.int _))⟩
/-! statements -/
variable {D : Ends} {tz : TS}
theorem sd_ret (h : EvD te σ H n d) (k : ∀ v H1, Same H H1 → AtD H1 n d v → D.rt v H1) : tRet te D σ H := h H (Same.refl _) _ fun v H1 s a => k v H1 s a
theorem qn_asg {bk ct : L2.St → Hp → Prop} {rt : VK} {i : Nat} (h : EvD te σ H n d) (k : ∀ v H1, Same H H1 → AtD H1 n d v → tz D (σ.set i (some v)) H1) : (Ends.mk (tSeq (tAsg te (gName i)) tz D) rt bk ct).nx σ H := h H (Same.refl _) _ fun v H1 s a => k v H1 s a
theorem qd_asg {i : Nat} (h : EvD te σ H n d) (k : ∀ v H1, Same H H1 → AtD H1 n d v → tz D (σ.set i (some v)) H1) : tSeq (tAsg te (gName i)) tz D σ H := h H (Same.refl _) _ fun v H1 s a => k v H1 s a
end
/-! trees as data -/
abbrev dK (s : String) : Dt := .v (S_ s)
abbrev dT (z : List Nat) : Dt := .v (.str (mk z))
mutual
def deE : Ex → Dt
  | .num n => .tup [dK "number", .v (.int n)]
  | .txt s => .tup [dK "text", dT s]
  | .tru b => .tup [dK "truth", .v (.bl b)]
  | .non => .tup [dK "none"]
  | .slf => .tup [dK "self"]
  | .nam w => .tup [dK "name", dT w]
  | .fld w => .tup [dK "field", dT w]
  | .new w => .tup [dK "new", dT w]
  | .send r m es => .tup [dK "send", deE r, dT m, .tup (deEs es)]
  | .up m es => .tup [dK "up", dT m, .tup (deEs es)]
  | .lst es => .tup [dK "list", .tup (deEs es)]
  | .blk ps ss => .tup [dK "block", .tup (ps.map dT), .tup (deSs ss)]
def deEs : Exs → List Dt
  | .nil => []
  | .cons e r => deE e :: deEs r
def deS : St_ → Dt
  | .set w e => .tup [dK "set", dT w, deE e]
  | .sfl w e => .tup [dK "setfield", dT w, deE e]
  | .pl k e => .tup [dT k, deE e]
  | .iff e a b => .tup [dK "if", deE e, .tup (deSs a), .tup (deSs b)]
  | .whl e a => .tup [dK "while", deE e, .tup (deSs a)]
  | .tri a w b => .tup [dK "try", .tup (deSs a), dT w, .tup (deSs b)]
def deSs : Sts → List Dt
  | .nil => []
  | .cons e r => deS e :: deSs r
end
/-! no blocks in it -/
mutual
def nbE : Ex → Prop
  | .send r _ es => nbE r ∧ nbEs es
  | .up _ es => nbEs es
  | .lst es => nbEs es
  | .blk _ _ => False
  | _ => True
def nbEs : Exs → Prop
  | .nil => True
  | .cons e r => nbE e ∧ nbEs r
def nbS : St_ → Prop
  | .set _ e => nbE e
  | .sfl _ e => nbE e
  | .pl _ e => nbE e
  | .iff e a b => nbE e ∧ nbSs a ∧ nbSs b
  | .whl e a => nbE e ∧ nbSs a
  | .tri a _ b => nbSs a ∧ nbSs b
def nbSs : Sts → Prop
  | .nil => True
  | .cons e r => nbS e ∧ nbSs r
end
theorem atd_tup {H : Hp} {n : Nat} {ds : List Dt} {v : V} (h : AtD H n (.tup ds) v) : ∃ m p us, n = m + 1 ∧ v = .ref p ∧ H p = some (.tup us) ∧ All2 (AtD H m) ds us := by
  cases n with
  | zero => exact h.elim
  | succ m => obtain ⟨p, us, e, h1, _, h2⟩ := h; exact ⟨m, p, us, rfl, e, h1, h2⟩
theorem all2_1 {α β : Type} {R : α → β → Prop} {a : α} {bs : List β} (h : All2 R [a] bs) : ∃ b, bs = [b] ∧ R a b := by
  cases h with
  | cons r k => cases k; exact ⟨_, rfl, r⟩
theorem all2_c {α β : Type} {R : α → β → Prop} {a : α} {as : List α} {bs : List β} (h : All2 R (a :: as) bs) : ∃ b cs, bs = b :: cs ∧ R a b ∧ All2 R as cs := by
  cases h with
  | cons r k => exact ⟨_, _, rfl, r, k⟩
theorem all2_n {α β : Type} {R : α → β → Prop} {bs : List β} (h : All2 R ([] : List α) bs) : bs = [] := by cases h; rfl
mutual
theorem atd_E {H : Hp} : ∀ (e : Ex) {n : Nat} {v : V}, nbE e → AtD H n (deE e) v → AtE H e v
  | .num i, n, v, _, h => by
    obtain ⟨m, p, us, rfl, rfl, hp, a⟩ := atd_tup h
    obtain ⟨b, cs, rfl, r1, a⟩ := all2_c a
    obtain ⟨c, rfl, r2⟩ := all2_1 a
    rw [(atD_pl r1).1, (atD_pl r2).1] at hp
    exact ⟨p, rfl, hp⟩
  | .txt i, n, v, _, h => by
    obtain ⟨m, p, us, rfl, rfl, hp, a⟩ := atd_tup h
    obtain ⟨b, cs, rfl, r1, a⟩ := all2_c a
    obtain ⟨c, rfl, r2⟩ := all2_1 a
    rw [(atD_pl r1).1, (atD_pl r2).1] at hp
    exact ⟨p, rfl, hp⟩
  | .tru i, n, v, _, h => by
    obtain ⟨m, p, us, rfl, rfl, hp, a⟩ := atd_tup h
    obtain ⟨b, cs, rfl, r1, a⟩ := all2_c a
    obtain ⟨c, rfl, r2⟩ := all2_1 a
    rw [(atD_pl r1).1, (atD_pl r2).1] at hp
    exact ⟨p, rfl, hp⟩
  | .non, n, v, _, h => by
    obtain ⟨m, p, us, rfl, rfl, hp, a⟩ := atd_tup h
    obtain ⟨b, rfl, r1⟩ := all2_1 a
    rw [(atD_pl r1).1] at hp
    exact ⟨p, rfl, hp⟩
  | .slf, n, v, _, h => by
    obtain ⟨m, p, us, rfl, rfl, hp, a⟩ := atd_tup h
    obtain ⟨b, rfl, r1⟩ := all2_1 a
    rw [(atD_pl r1).1] at hp
    exact ⟨p, rfl, hp⟩
  | .nam i, n, v, _, h => by
    obtain ⟨m, p, us, rfl, rfl, hp, a⟩ := atd_tup h
    obtain ⟨b, cs, rfl, r1, a⟩ := all2_c a
    obtain ⟨c, rfl, r2⟩ := all2_1 a
    rw [(atD_pl r1).1, (atD_pl r2).1] at hp
    exact ⟨p, rfl, hp⟩
  | .fld i, n, v, _, h => by
    obtain ⟨m, p, us, rfl, rfl, hp, a⟩ := atd_tup h
    obtain ⟨b, cs, rfl, r1, a⟩ := all2_c a
    obtain ⟨c, rfl, r2⟩ := all2_1 a
    rw [(atD_pl r1).1, (atD_pl r2).1] at hp
    exact ⟨p, rfl, hp⟩
  | .new i, n, v, _, h => by
    obtain ⟨m, p, us, rfl, rfl, hp, a⟩ := atd_tup h
    obtain ⟨b, cs, rfl, r1, a⟩ := all2_c a
    obtain ⟨c, rfl, r2⟩ := all2_1 a
    rw [(atD_pl r1).1, (atD_pl r2).1] at hp
    exact ⟨p, rfl, hp⟩
  | .send r z es, n, v, nb, h => by
    obtain ⟨m, p, us, rfl, rfl, hp, a⟩ := atd_tup h
    obtain ⟨b, cs, rfl, r1, a⟩ := all2_c a
    obtain ⟨c, cs, rfl, r2, a⟩ := all2_c a
    obtain ⟨d, cs, rfl, r3, a⟩ := all2_c a
    obtain ⟨e, rfl, r4⟩ := all2_1 a
    obtain ⟨m2, q, xs, rfl, rfl, hq, a2⟩ := atd_tup r4
    rw [(atD_pl r1).1, (atD_pl r3).1] at hp
    exact ⟨p, c, q, xs, rfl, hp, hq, atd_E r nb.1 r2, atd_Es es nb.2 a2⟩
  | .up z es, n, v, nb, h => by
    obtain ⟨m, p, us, rfl, rfl, hp, a⟩ := atd_tup h
    obtain ⟨b, cs, rfl, r1, a⟩ := all2_c a
    obtain ⟨d, cs, rfl, r3, a⟩ := all2_c a
    obtain ⟨e, rfl, r4⟩ := all2_1 a
    obtain ⟨m2, q, xs, rfl, rfl, hq, a2⟩ := atd_tup r4
    rw [(atD_pl r1).1, (atD_pl r3).1] at hp
    exact ⟨p, q, xs, rfl, hp, hq, atd_Es es nb a2⟩
  | .lst es, n, v, nb, h => by
    obtain ⟨m, p, us, rfl, rfl, hp, a⟩ := atd_tup h
    obtain ⟨b, cs, rfl, r1, a⟩ := all2_c a
    obtain ⟨e, rfl, r4⟩ := all2_1 a
    obtain ⟨m2, q, xs, rfl, rfl, hq, a2⟩ := atd_tup r4
    rw [(atD_pl r1).1] at hp
    exact ⟨p, q, xs, rfl, hp, hq, atd_Es es nb a2⟩
  | .blk ps ss, n, v, nb, h => nb.elim
theorem atd_Es {H : Hp} : ∀ (e : Exs) {n : Nat} {vs : List V}, nbEs e → All2 (AtD H n) (deEs e) vs → AtEs H e vs
  | .nil, n, vs, _, h => all2_n h
  | .cons e r, n, vs, nb, h => by
    obtain ⟨b, cs, rfl, r1, a⟩ := all2_c h
    exact ⟨b, cs, rfl, atd_E e nb.1 r1, atd_Es r nb.2 a⟩
theorem atd_S {H : Hp} : ∀ (s : St_) {n : Nat} {v : V}, nbS s → AtD H n (deS s) v → AtS H s v
  | .set w e, n, v, nb, h => by
    obtain ⟨m, p, us, rfl, rfl, hp, a⟩ := atd_tup h
    obtain ⟨b, cs, rfl, r1, a⟩ := all2_c a
    obtain ⟨d, cs, rfl, r2, a⟩ := all2_c a
    obtain ⟨c, rfl, r3⟩ := all2_1 a
    rw [(atD_pl r1).1, (atD_pl r2).1] at hp
    exact ⟨p, c, rfl, hp, atd_E e nb r3⟩
  | .sfl w e, n, v, nb, h => by
    obtain ⟨m, p, us, rfl, rfl, hp, a⟩ := atd_tup h
    obtain ⟨b, cs, rfl, r1, a⟩ := all2_c a
    obtain ⟨d, cs, rfl, r2, a⟩ := all2_c a
    obtain ⟨c, rfl, r3⟩ := all2_1 a
    rw [(atD_pl r1).1, (atD_pl r2).1] at hp
    exact ⟨p, c, rfl, hp, atd_E e nb r3⟩
  | .pl w e, n, v, nb, h => by
    obtain ⟨m, p, us, rfl, rfl, hp, a⟩ := atd_tup h
    obtain ⟨b, cs, rfl, r1, a⟩ := all2_c a
    obtain ⟨c, rfl, r3⟩ := all2_1 a
    rw [(atD_pl r1).1] at hp
    exact ⟨p, c, rfl, hp, atd_E e nb r3⟩
  | .iff e x y, n, v, nb, h => by
    obtain ⟨m, p, us, rfl, rfl, hp, a⟩ := atd_tup h
    obtain ⟨b, cs, rfl, r1, a⟩ := all2_c a
    obtain ⟨d, cs, rfl, r2, a⟩ := all2_c a
    obtain ⟨f, cs, rfl, r3, a⟩ := all2_c a
    obtain ⟨c, rfl, r4⟩ := all2_1 a
    obtain ⟨m2, q, xs, rfl, rfl, hq, a2⟩ := atd_tup r3
    obtain ⟨m3, r, ys, h3, rfl, hr, a3⟩ := atd_tup r4
    rw [(atD_pl r1).1] at hp
    exact ⟨p, d, q, xs, r, ys, rfl, hp, hq, hr, atd_E e nb.1 r2, atd_Ss x nb.2.1 a2, atd_Ss y nb.2.2 a3⟩
  | .whl e x, n, v, nb, h => by
    obtain ⟨m, p, us, rfl, rfl, hp, a⟩ := atd_tup h
    obtain ⟨b, cs, rfl, r1, a⟩ := all2_c a
    obtain ⟨d, cs, rfl, r2, a⟩ := all2_c a
    obtain ⟨c, rfl, r3⟩ := all2_1 a
    obtain ⟨m2, q, xs, rfl, rfl, hq, a2⟩ := atd_tup r3
    rw [(atD_pl r1).1] at hp
    exact ⟨p, d, q, xs, rfl, hp, hq, atd_E e nb.1 r2, atd_Ss x nb.2 a2⟩
  | .tri x w y, n, v, nb, h => by
    obtain ⟨m, p, us, rfl, rfl, hp, a⟩ := atd_tup h
    obtain ⟨b, cs, rfl, r1, a⟩ := all2_c a
    obtain ⟨d, cs, rfl, r2, a⟩ := all2_c a
    obtain ⟨f, cs, rfl, r3, a⟩ := all2_c a
    obtain ⟨c, rfl, r4⟩ := all2_1 a
    obtain ⟨m2, q, xs, rfl, rfl, hq, a2⟩ := atd_tup r2
    obtain ⟨m3, r, ys, h3, rfl, hr, a3⟩ := atd_tup r4
    rw [(atD_pl r1).1, (atD_pl r3).1] at hp
    exact ⟨p, q, xs, r, ys, rfl, hp, hq, hr, atd_Ss x nb.1 a2, atd_Ss y nb.2 a3⟩
theorem atd_Ss {H : Hp} : ∀ (e : Sts) {n : Nat} {vs : List V}, nbSs e → All2 (AtD H n) (deSs e) vs → AtSs H e vs
  | .nil, n, vs, _, h => all2_n h
  | .cons e r, n, vs, nb, h => by
    obtain ⟨b, cs, rfl, r1, a⟩ := all2_c h
    exact ⟨b, cs, rfl, atd_S e nb.1 r1, atd_Ss r nb.2 a⟩
end
/-- a method -/
def deM (m : Me) : Dt := .tup [dK "method", dT m.m, .tup (m.ps.map dT), .tup (deSs m.ss)]
theorem all2_dT {H : Hp} {n : Nat} : ∀ {ps : List (List Nat)} {us : List V}, All2 (AtD H n) (ps.map dT) us → us = wsV ps
  | [], us, h => all2_n h
  | p :: r, us, h => by
    obtain ⟨b, cs, rfl, r1, a⟩ := all2_c h
    rw [all2_dT a, (atD_pl r1).1]
    rfl
theorem atd_M {H : Hp} {m : Me} {n : Nat} {v : V} (nb : nbSs m.ss) (h : AtD H n (deM m) v) : AtM H m v := by
  obtain ⟨k, p, us, rfl, rfl, hp, a⟩ := atd_tup h
  obtain ⟨b, cs, rfl, r1, a⟩ := all2_c a
  obtain ⟨d, cs, rfl, r2, a⟩ := all2_c a
  obtain ⟨f, cs, rfl, r3, a⟩ := all2_c a
  obtain ⟨c, rfl, r4⟩ := all2_1 a
  obtain ⟨m2, q, xs, rfl, rfl, hq, a2⟩ := atd_tup r3
  obtain ⟨m3, r, ys, h3, rfl, hr, a3⟩ := atd_tup r4
  rw [(atD_pl r1).1, (atD_pl r2).1] at hp
  rw [all2_dT a2] at hq
  exact ⟨p, .ref q, r, ys, rfl, hp, ⟨q, rfl, hq⟩, hr, atd_Ss m.ss nb a3⟩
end My
set_option Elab.async false
set_option linter.all false
set_option maxRecDepth 100000
set_option maxHeartbeats 4000000
namespace My
open PySem L2 SS PySem.Spec PyProof.Rows
/-! ### != of what is equal -/
theorem flat_same {v : V} (h : flatV v = true) : eqV v v = true := by
  cases v with
  | int i => exact beq_self_eq_true i
  | str z => exact beq_self_eq_true z
  | bl b => exact beq_self_eq_true b
  | non => rfl
  | _ => first | cases h | rfl
/-- equal, item by item -/
def EqS (K : PySem.W.Frag) (H : Hp) : Nat → V → V → Prop
  | 0, x, y => x = y ∧ flatV x = true
  | n + 1, x, y => (x = y ∧ flatV x = true) ∨ ∃ (p q : Addr) (us vs : List V), x = .ref p ∧ y = .ref q ∧ ((SqT K H p us ∧ SqT K H q vs) ∨ (SqL K H p us ∧ SqL K H q vs)) ∧ All2 (EqS K H n) us vs
theorem EqS.flat {K : PySem.W.Frag} {H : Hp} {n : Nat} {x : V} (h : flatV x = true) : EqS K H n x x := by
  cases n with
  | zero => exact ⟨rfl, h⟩
  | succ n => exact .inl ⟨rfl, h⟩
theorem EqS.tup {K : PySem.W.Frag} {H : Hp} {n : Nat} {p q : Addr} {us vs : List V} (h1 : SqT K H p us) (h2 : SqT K H q vs) (h : All2 (EqS K H n) us vs) : EqS K H (n + 1) (.ref p) (.ref q) := .inr ⟨p, q, us, vs, rfl, rfl, .inl ⟨h1, h2⟩, h⟩
theorem EqS.lst {K : PySem.W.Frag} {H : Hp} {n : Nat} {p q : Addr} {us vs : List V} (h1 : SqL K H p us) (h2 : SqL K H q vs) (h : All2 (EqS K H n) us vs) : EqS K H (n + 1) (.ref p) (.ref q) := .inr ⟨p, q, us, vs, rfl, rfl, .inr ⟨h1, h2⟩, h⟩
theorem All2.get' {α β : Type} {R : α → β → Prop} {as : List α} {bs : List β} (h : All2 R as bs) {i : Nat} {a : α} {b : β} (ha : as[i]? = some a) (hb : bs[i]? = some b) : R a b := by
  obtain ⟨a', h1, h2⟩ := h.get hb
  rw [ha] at h1
  cases h1
  exact h2
theorem vals_get2 : ∀ {xs : List V} {us : List Value}, Vals xs us → ∀ {j : Nat} {u : Value}, us[j]? = some u → ∃ x, xs[j]? = some x ∧ RelV x u
  | _, _, .nil, j, u, h => by simp at h
  | _, _, .cons (a := a) (b := b) r t, 0, u, h => by
    have e : b = u := by simpa using h
    subst e
    exact ⟨a, rfl, r⟩
  | _, _, .cons r t, j + 1, u, h => by
    obtain ⟨x, h1, h2⟩ := vals_get2 t (j := j) (u := u) (by simpa using h)
    exact ⟨x, by simpa using h1, h2⟩
theorem all_t (n : Nat) : (List.range n).all (fun _ => true) = true := List.all_eq_true.mpr fun _ _ => rfl
section
variable {X : Cx} {pins : List (Addr × Obj)} {σ : L2.St} {H : Hp} {s : Shared}
theorem eqS_at (I : Inv X pins σ H s) : ∀ (n : Nat) (A : Around) (x y : V) (u v : Value), A.units + n < cLine → EqS X.K H n x y → RelV x u → RelV y v → SeqAt.EqAt A s u v true
  | 0, A, x, y, u, v, hu, ⟨e, f⟩, rx, ry => by
    subst e
    have := eqAt_V (A := A) (s := s) rx ry f f
    rw [flat_same f] at this
    exact this
  | n + 1, A, x, y, u, v, hu, h, rx, ry => by
    rcases h with ⟨e, f⟩ | ⟨p, q, us, vs, e1, e2, hh, ha⟩
    · subst e
      have := eqAt_V (A := A) (s := s) rx ry f f
      rw [flat_same f] at this
      exact this
    subst e1
    subst e2
    cases rx
    cases ry
    by_cases hpq : p = q
    · subst hpq
      exact SeqAt.EqAt.same _
    refine SeqAt.EqAt.of_refs hpq ?_
    have la := ha.len
    rcases hh with ⟨h1, h2⟩ | ⟨h1, h2⟩
    · obtain ⟨its, r1, p1, _⟩ := I.tuple h1
      obtain ⟨its2, r2, p2, _⟩ := I.tuple h2
      have g1 := r1.length
      have g2 := r2.length
      have key := SeqAt.RcAt.tuples (A := A) (s := s) (l := p) (b := q) (items := its.toArray) (items2 := its2.toArray) (e := fun j => true) p1 p2 (by omega) (fun j j1 j2 => ?_)
      · have es : (its.toArray.size == its2.toArray.size) = true := by rw [List.size_toArray, List.size_toArray, ← g1, ← g2, la]; simp
        rw [all_t, es] at key
        exact key
      · have j1' : j < its.length := by simpa using j1
        have j2' : j < its2.length := by simpa using j2
        obtain ⟨a, ha1, ra⟩ := vals_get2 r1 (List.getElem?_eq_getElem j1')
        obtain ⟨b, hb1, rb⟩ := vals_get2 r2 (List.getElem?_eq_getElem j2')
        exact eqS_at I n A.in1 a b _ _ (by show A.units + 1 + n < cLine; omega) (ha.get' ha1 hb1) ra rb
    · obtain ⟨its, r1, p1, _⟩ := I.list h1
      obtain ⟨its2, r2, p2, _⟩ := I.list h2
      have g1 := r1.length
      have g2 := r2.length
      have key := SeqAt.RcAt.lists (A := A) (s := s) (l := p) (b := q) (items := its.toArray) (items2 := its2.toArray) (e := fun j => true) p1.isList p2.isList (by rw [List.size_toArray, List.size_toArray]; omega) (by omega) (fun j j1 j2 => ?_)
      · rw [all_t] at key
        exact key
      · have j1' : j < its.length := by simpa using j1
        have j2' : j < its2.length := by simpa using j2
        obtain ⟨a, ha1, ra⟩ := vals_get2 r1 (List.getElem?_eq_getElem j1')
        obtain ⟨b, hb1, rb⟩ := vals_get2 r2 (List.getElem?_eq_getElem j2')
        exact eqS_at I n A.in1 a b _ _ (by show A.units + 1 + n < cLine; omega) (ha.get' ha1 hb1) ra rb
end
/-- a != b, two equal tuples or lists -/
def rNeS (K : PySem.W.Frag) : R2 := fun x y H Q => (∃ n p q us vs, n ≤ 60 ∧ x = .ref p ∧ y = .ref q ∧ ((SqT K H p us ∧ SqT K H q vs) ∨ (SqL K H p us ∧ SqL K H q vs)) ∧ All2 (EqS K H n) us vs) ∧ Q (.bl false) H
theorem op_neS {X : Cx} (hu : X.A.units + 64 < cLine) : OpR X (compareOp .NotEq) (rNeS X.K) := by
  intro pins s σ H x y v u Q I rx ry hh
  obtain ⟨⟨n, p, q, us, vs, hn, e1, e2, h, ha⟩, hq⟩ := hh
  subst e1
  subst e2
  cases rx
  cases ry
  have la := ha.len
  rcases h with ⟨h1, h2⟩ | ⟨h1, h2⟩
  · obtain ⟨its, r1, p1, _⟩ := I.tuple h1
    obtain ⟨its2, r2, p2, _⟩ := I.tuple h2
    have g1 := r1.length
    have g2 := r2.length
    have key := SeqAt.RcNeAt.tuples (A := X.A) (s := s) (l := p) (b := q) (items := its.toArray) (items2 := its2.toArray) (e := fun j => true) p1 p2 (by omega) (fun j j1 j2 => ?_)
    · have es : (its.toArray.size == its2.toArray.size) = true := by rw [List.size_toArray, List.size_toArray, ← g1, ← g2, la]; simp
      rw [all_t, es] at key
      exact key _ _ _ _ ⟨.bl _, H, I, rfl, hq⟩
    · have j1' : j < its.length := by simpa using j1
      have j2' : j < its2.length := by simpa using j2
      obtain ⟨a, ha1, ra⟩ := vals_get2 r1 (List.getElem?_eq_getElem j1')
      obtain ⟨b, hb1, rb⟩ := vals_get2 r2 (List.getElem?_eq_getElem j2')
      exact eqS_at I n X.A.in1 a b _ _ (by show X.A.units + 1 + n < cLine; omega) (ha.get' ha1 hb1) ra rb
  · obtain ⟨its, r1, p1, _⟩ := I.list h1
    obtain ⟨its2, r2, p2, _⟩ := I.list h2
    have g1 := r1.length
    have g2 := r2.length
    have key := SeqAt.RcNeAt.lists (A := X.A) (s := s) (l := p) (b := q) (items := its.toArray) (items2 := its2.toArray) (e := fun j => true) p1.isList p2.isList (by rw [List.size_toArray, List.size_toArray]; omega) (by omega) (fun j j1 j2 => ?_)
    · rw [all_t] at key
      exact key _ _ _ _ ⟨.bl _, H, I, rfl, hq⟩
    · have j1' : j < its.length := by simpa using j1
      have j2' : j < its2.length := by simpa using j2
      obtain ⟨a, ha1, ra⟩ := vals_get2 r1 (List.getElem?_eq_getElem j1')
      obtain ⟨b, hb1, rb⟩ := vals_get2 r2 (List.getElem?_eq_getElem j2')
      exact eqS_at I n X.A.in1 a b _ _ (by show X.A.units + 1 + n < cLine; omega) (ha.get' ha1 hb1) ra rb
/-- a tuple against the empty one -/
def rNeT0 (K : PySem.W.Frag) : R2 := fun x y H Q => ∃ p q us, x = .ref p ∧ y = .ref q ∧ SqT K H p us ∧ SqT K H q [] ∧ Q (.bl (!decide (us = []))) H
theorem op_neT0 {X : Cx} (hu : X.A.units + 64 < cLine) : OpR X (compareOp .NotEq) (rNeT0 X.K) := by
  intro pins s σ H x y v u Q I rx ry hh
  obtain ⟨p, q, us, e1, e2, h1, h2, hq⟩ := hh
  subst e1
  subst e2
  cases rx
  cases ry
  obtain ⟨its, r1, p1, _⟩ := I.tuple h1
  obtain ⟨its2, r2, p2, _⟩ := I.tuple h2
  have g1 := r1.length
  have g2 := r2.length
  have i2 : its2.length = 0 := by rw [← g2]; rfl
  have key := SeqAt.RcNeAt.tuples (A := X.A) (s := s) (l := p) (b := q) (items := its.toArray) (items2 := its2.toArray) (e := fun j => true) p1 p2 (by omega) (fun j j1 j2 => by
    have j2' : j < its2.length := by simpa using j2
    omega)
  have es : (its.toArray.size == its2.toArray.size) = decide (us = []) := by
    rw [List.size_toArray, List.size_toArray, ← g1, i2]
    cases us <;> simp
  rw [all_t, es, Bool.true_and] at key
  exact key _ _ _ _ ⟨.bl _, H, I, rfl, hq⟩
/-- a list against the empty one -/
def rNeL0 (K : PySem.W.Frag) : R2 := fun x y H Q => ∃ p q us, x = .ref p ∧ y = .ref q ∧ SqL K H p us ∧ SqL K H q [] ∧ Q (.bl (!decide (us = []))) H
theorem op_neL0 {X : Cx} (hu : X.A.units + 64 < cLine) : OpR X (compareOp .NotEq) (rNeL0 X.K) := by
  intro pins s σ H x y v u Q I rx ry hh
  obtain ⟨p, q, us, e1, e2, h1, h2, hq⟩ := hh
  subst e1
  subst e2
  cases rx
  cases ry
  obtain ⟨its, r1, p1, _⟩ := I.list h1
  obtain ⟨its2, r2, p2, _⟩ := I.list h2
  have g1 := r1.length
  have g2 := r2.length
  have i2 : its2.length = 0 := by rw [← g2]; rfl
  by_cases c : us = []
  · have i1 : its.length = 0 := by rw [← g1, c]; rfl
    have key := SeqAt.RcNeAt.lists (A := X.A) (s := s) (l := p) (b := q) (items := its.toArray) (items2 := its2.toArray) (e := fun j => true) p1.isList p2.isList (by rw [List.size_toArray, List.size_toArray]; omega) (by omega) (fun j j1 j2 => by
      have j2' : j < its2.length := by simpa using j2
      omega)
    rw [all_t] at key
    rw [decide_eq_true c] at hq
    exact key _ _ _ _ ⟨.bl _, H, I, rfl, hq⟩
  · have i1 : its.length ≠ 0 := by rw [← g1]; exact fun z => c (List.eq_nil_of_length_eq_zero z)
    have key := SeqAt.RcNeAt.lists_lengths (A := X.A) (s := s) (l := p) (b := q) (items := its.toArray) (items2 := its2.toArray) p1.isList p2.isList (by rw [List.size_toArray, List.size_toArray]; simp; omega) (by omega)
    rw [decide_eq_false c] at hq
    exact key _ _ _ _ ⟨.bl _, H, I, rfl, hq⟩
end My
set_option Elab.async false
set_option linter.all false
set_option maxRecDepth 100000
set_option maxHeartbeats 8000000
namespace My
open PySem L2 SS
theorem seen_any {K : PySem.W.Frag} {B : List Addr} {σ : L2.St} {H : Hp} {i j x : Nat} {ar : List (List T)} {va : V} {w : T} (hi : σ[i]? = some (some va)) (ha : AtAr B H ar va) (hx : (wipe σ [j])[x]? = some (some (.str (mk w)))) (hxj : x ≠ j) (hj : j < σ.length)
    (sm : ar.length ≤ 1000) {Q : VK} (k : ∀ H', Same H H' → Q (.bl (decide (∃ ps ∈ ar, w ∈ ps))) H') : tOp (rNeL0 K) (tLc (iList K (tVar i)) (gName j) (tTest (tOp (rIn K false) (tVar x) (tVar j))) (tVar j) [j]) (tLst tNil) σ H Q := by
  obtain ⟨p, us, rfl, hp, hH, hat⟩ := ha
  have hul := hat.len
  refine ⟨_, hi, p, rfl, ⟨_, SqL.of hH⟩, fun D0 hD0 => ?_⟩
  refine lc_list (xs := us) (fun i H1 => ∃ vs, Same H H1 ∧ H1 D0 = some (.lst vs) ∧ AtL (AtWl B) H ((ar.take i).filter fun ps => decide (w ∈ ps)) vs ∧ vs.length ≤ i) ⟨[], same_new hD0 _, upd_same, rfl, Nat.le_refl _⟩ (fun i H1 _ ⟨vs, s, _⟩ => SqL.of (s _ _ hH)) ?_ ?_
  · rintro n u H1 hu ⟨vs, s1, f1, at1, l1⟩
    obtain ⟨ps, hps, q, rfl, hq, hqH0⟩ := hat.get hu
    have hqH := s1 _ _ hqH0
    have hw2 : wipe ((wipe σ [j]).set j (some (V.ref q))) [j] = wipe σ [j] := by
      show (((σ.set j none).set j (some (V.ref q))).set j none) = σ.set j none
      rw [List.set_set, List.set_set]
    refine ⟨hw2, ?_⟩
    have g1 : ((wipe σ [j]).set j (some (V.ref q)))[x]? = some (some (.str (mk w))) := by rw [List.getElem?_set_ne (Ne.symm hxj)]; exact hx
    have hlen : (wipe σ [j]).length = σ.length := wipe_length _ _
    have g2 : ((wipe σ [j]).set j (some (V.ref q)))[j]? = some (some (.ref q)) := by rw [List.getElem?_set_self (by omega)]
    refine ⟨_, g1, _, g2, q, wsV ps, rfl, .inl (SqL.of hqH), rfl, flat_ws ps, _, rfl, ?_⟩
    rw [in_ws]
    have et : (ar.take (n + 1)).filter (fun ps => decide (w ∈ ps)) = (ar.take n).filter (fun ps => decide (w ∈ ps)) ++ (if decide (w ∈ ps) = true then [ps] else []) := by
      rw [List.take_add_one, hps, List.filter_append]
      by_cases c : w ∈ ps <;> simp [c]
    show if (if false = true then _ else decide (w ∈ ps)) = true then _ else _
    by_cases c : w ∈ ps
    · rw [if_pos (by simp [c])]
      rw [if_pos (by simp [c])] at et
      refine ⟨_, g2, vs, f1, by rw [sizeLine_eq]; have : n < us.length := (List.getElem?_eq_some_iff.mp hu).1; omega, vs ++ [.ref q], fun b o hb => by rw [upd_ne (ne_of_none hb hD0)]; exact s1 _ _ hb, upd_same, ?_, by rw [List.length_append]; show vs.length + 1 ≤ _; omega⟩
      rw [et]
      exact at1.snoc ⟨q, rfl, hq, hqH0⟩
    · rw [if_neg (by simp [c])]
      rw [if_neg (by simp [c]), List.append_nil] at et
      exact ⟨vs, s1, f1, by rw [et]; exact at1, by omega⟩
  rintro H1 ⟨vs, s1, f1, at1, l1⟩
  refine ⟨by show 0 ≤ sizeLine; decide, fun e he => ?_⟩
  have s2 := same_new he (.lst [])
  rw [hul, List.take_length] at at1
  have l1 := at1.len
  refine ⟨D0, e, vs, rfl, rfl, SqL.of (s2 _ _ f1), SqL.of upd_same, ?_⟩
  have ev : decide (vs = []) = decide (ar.filter (fun ps => decide (w ∈ ps)) = []) := by
    cases vs with
    | nil => rw [List.eq_nil_of_length_eq_zero (l1.symm : _ = 0)]; simp
    | cons x r =>
      have : ar.filter (fun ps => decide (w ∈ ps)) ≠ [] := fun z => by rw [z] at l1; cases l1
      rw [decide_eq_false this]
      simp
  rw [ev]
  have eb : (!decide (ar.filter (fun ps => decide (w ∈ ps)) = [])) = decide (∃ ps ∈ ar, w ∈ ps) := by
    by_cases c : ∃ ps ∈ ar, w ∈ ps
    · rw [decide_eq_true c]
      obtain ⟨ps, h1, h2⟩ := c
      have : ar.filter (fun ps => decide (w ∈ ps)) ≠ [] := fun z => by
        have := List.filter_eq_nil_iff.mp z ps h1
        simp [h2] at this
      rw [decide_eq_false this]
      rfl
    · rw [decide_eq_false c]
      have : ar.filter (fun ps => decide (w ∈ ps)) = [] := List.filter_eq_nil_iff.mpr fun ps h1 h2 => c ⟨ps, h1, by simpa using h2⟩
      rw [decide_eq_true this]
      rfl
  rw [eb]
  exact k _ (s1.trans s2)
section
variable {P : Program} {w : World} {K : PySem.W.Frag} {mg : Str → Option Value} {base : Heap}
def seenW (ar : List (List T)) (ws : List T) : List T := ws.filter fun w => decide (∃ ps ∈ ar, w ∈ ps)
def spSn : Sp := fun vs H Q _ => ∃ (wl : Addr) (ws : List T) (va : V) (B : List Addr) (ar : List (List T)), vs = [.ref wl, va] ∧ H wl = some (.lst (wsV ws)) ∧ AtAr B H ar va ∧ ar.length ≤ 1000 ∧ ws.length ≤ 1000 ∧
  ∀ (H' : Hp) (r : Addr), Same H H' → H r = none → H' r = some (.lst (wsV (seenW ar ws))) → Q (.ref r) H'
abbrev scNs : Scope := { kind := .function, names := [(".0", .local), ("_law_word_here", .cell), ("_law_around", .cell)], isGenerator := false, isCoroutine := false }
theorem scSn : FnScope ["_law_words_here", "_law_around", "_law_word_here", "_law_row"] ["_law_words_here", "_law_around"] (defScope s__law_seen) := ⟨rfl, rfl, rfl, by decide +kernel, rfl, by decide +kernel, by decide +kernel⟩
theorem c_sn (D : Dn K mg "_law_seen" s__law_seen) : C0 P w K mg base 1 "_law_seen" spSn := by
  obtain ⟨f, fd, F, m⟩ := D.ex
  refine ⟨f, fd, ["_law_words_here", "_law_around"], F.ok scSn (fun vs H Q E h => ?_) (fun cdv A outer s H vs Q E hr h => ?_), m, F.kp, F.binds (ps := ["_law_words_here", "_law_around"]) fun _ _ _ _ _ _ us hl => match us, hl with | [_, _], _ => rfl⟩
  · obtain ⟨wl, ws, va, B, ar, rfl, _⟩ := h
    rfl
  obtain ⟨wl, ws, va, B, ar, rfl, hwl, har, sm1, sm2, kq⟩ := h
  refine ⟨_, pss_one (ps_ret (pe_lc (own := [("_law_word_here", 2)]) (g := (gName 2)) (tt := tTest (tOp (rNeL0 K) (tLc (iList K (tVar 1)) (gName 3) (tTest (tOp (rIn K false) (tVar 2) (tVar 3))) (tVar 3) [3]) (tLst tNil))) rfl scSn.nd (pi_list (pv 0)) (blkOk_by (own := [("_law_word_here", 2)]) (N := ["_law_words_here", "_law_around", "_law_word_here", "_law_row"]) (sc := defScope s__law_seen) (by decide +kernel)) (fun _ _ _ _ _ => (pg_name (i := 2) scSn.nd rfl (Or.inr rfl))) (fun _ _ _ _ _ => pts_one (pt_cmpR (op_neL0 hr.units) (pe_lc (own := [("_law_row", 3)]) (g := (gName 3)) (tt := (tTest (tOp (rIn K false) (tVar 2) (tVar 3)))) rfl scSn.nd (pi_list (pv 1)) (blkOk_by (own := [("_law_row", 3)]) (N := ["_law_words_here", "_law_around", "_law_word_here", "_law_row"]) (sc := scNs) (by decide +kernel)) (fun _ _ _ _ _ => (pg_name (i := 3) scSn.nd rfl (Or.inl rfl))) (fun _ _ _ _ _ => pts_one (pt_cmpR op_in_seq (pv 2) (pv 3) (by rfl))) (fun _ _ _ _ _ => (pv 3))) (pe_lst pa_nil) (nomark _))) (fun _ _ _ _ _ => (pv 2)))), ?_⟩
  refine ⟨_, rfl, wl, rfl, ⟨_, SqL.of hwl⟩, fun D0 hD0 => ?_⟩
  refine lc_list (xs := wsV ws) (fun i H' => Same H H' ∧ H' D0 = some (.lst (wsV (seenW ar (ws.take i))))) ⟨same_new hD0 _, upd_same⟩ (fun i H' _ ⟨s', _⟩ => SqL.of (s' _ _ hwl)) ?_ ?_
  · rintro i u H1 hu ⟨s1, f1⟩
    unfold wsV at hu
    rw [List.getElem?_map] at hu
    cases hw : ws[i]? with
    | none => rw [hw] at hu; cases hu
    | some w =>
    rw [hw] at hu
    cases hu
    refine ⟨rfl, ?_⟩
    have et : seenW ar (ws.take (i + 1)) = seenW ar (ws.take i) ++ (if decide (∃ ps ∈ ar, w ∈ ps) = true then [w] else []) := by
      unfold seenW
      rw [List.take_add_one, hw, List.filter_append]
      by_cases c : ∃ ps ∈ ar, w ∈ ps
      · rw [if_pos (decide_eq_true c)]
        congr 1
        show List.filter _ [w] = [w]
        exact List.filter_cons_of_pos (decide_eq_true c)
      · rw [if_neg (by simpa using c)]
        congr 1
        show List.filter _ [w] = []
        exact List.filter_cons_of_neg (by simpa using c)
    refine seen_any (i := 1) (j := 3) (x := 2) (w := w) rfl (har.sx (SX.same s1)) rfl (by decide) (by show 3 < 4; decide) sm1 fun H2 s2 => ?_
    refine ⟨_, rfl, ?_⟩
    have s3 := s1.trans s2
    have f2 := s2 _ _ f1
    by_cases c : decide (∃ ps ∈ ar, w ∈ ps) = true
    · rw [if_pos c] at et
      rw [c]
      refine iteT ?_
      have hl : (seenW ar (ws.take i)).length ≤ i := Nat.le_trans (List.length_filter_le _ _) (List.length_take_le _ _)
      have hi := (List.getElem?_eq_some_iff.mp hw).1
      refine ⟨_, rfl, _, f2, by rw [wsV_len, sizeLine_eq]; omega, fun b o hb => by rw [upd_ne (ne_of_none hb hD0)]; exact s3 _ _ hb, ?_⟩
      rw [upd_same, et]
      unfold wsV
      rw [List.map_append]
      rfl
    · have c' : decide (∃ ps ∈ ar, w ∈ ps) = false := by simpa using c
      rw [if_neg c, List.append_nil] at et
      rw [c']
      refine iteF ?_
      exact ⟨s3, by rw [et]; exact f2⟩
  rintro H1 ⟨s1, f1⟩
  rw [wsV_len, List.take_length] at f1
  exact kq H1 D0 s1 hD0 f1
end
end My
set_option Elab.async false
set_option linter.all false
set_option maxRecDepth 100000
set_option maxHeartbeats 4000000
namespace L2
open PySem PySem.Spec PyProof.Rows
/-! ### a list against the empty one, whatever it holds -/
def rEqNil (K : PySem.W.Frag) : R2 := fun x y H Q => ∃ a b xs, x = .ref a ∧ y = .ref b ∧ SqL K H a xs ∧ SqL K H b [] ∧ Q (.bl (decide (xs = []))) H
theorem op_eqNil {X : Cx} (hu : X.A.units + 64 < cLine) : OpR X (compareOp .Eq) (rEqNil X.K) := by
  intro pins s σ H x y v u Q I rx ry h
  obtain ⟨a, b, xs, rfl, rfl, ha, hb, q⟩ := h
  cases rx
  cases ry
  obtain ⟨its, r1, p1, _⟩ := I.list ha
  obtain ⟨its2, r2, p2, _⟩ := I.list hb
  cases r2
  cases xs with
  | nil =>
    cases r1
    exact SeqAt.eq_listAt (e := fun _ => true) p1.isList p2.isList rfl (by omega) (fun j h1 _ => absurd h1 (Nat.not_lt_zero j)) ⟨.bl true, H, I, rfl, q⟩
  | cons z zs =>
    cases r1
    exact SeqAt.eq_list_lengthsAt p1.isList p2.isList (by simp) (by omega) ⟨.bl false, H, I, rfl, q⟩
end L2
namespace My
open PySem L2 SS
/-- [own for own in around if word in own] == [] -/
theorem seen_nil {K : PySem.W.Frag} {B : List Addr} {σ : L2.St} {H : Hp} {i j x : Nat} {ar : List (List T)} {va : V} {w : T} (hi : σ[i]? = some (some va)) (ha : AtAr B H ar va) (hx : (wipe σ [j])[x]? = some (some (.str (mk w)))) (hxj : x ≠ j) (hj : j < σ.length) (sm : ar.length ≤ 1000) {Q : VK} (k : ∀ H', Same H H' → Q (.bl (decide (∀ ps ∈ ar, w ∉ ps))) H') : tOp (rEqNil K) (tLc (iList K (tVar i)) (gName j) (tTest (tOp (rIn K false) (tVar x) (tVar j))) (tVar j) [j]) (tLst tNil) σ H Q := by
  obtain ⟨p, us, rfl, hp, hH, hat⟩ := ha
  have hul := hat.len
  refine ⟨_, hi, p, rfl, ⟨_, SqL.of hH⟩, fun D0 hD0 => ?_⟩
  refine lc_list (xs := us) (fun i H1 => ∃ vs, Same H H1 ∧ H1 D0 = some (.lst vs) ∧ vs.length = ((ar.take i).filter fun ps => decide (w ∈ ps)).length ∧ vs.length ≤ i) ⟨[], same_new hD0 _, upd_same, rfl, Nat.le_refl _⟩ (fun i H1 _ ⟨vs, s, _⟩ => SqL.of (s _ _ hH)) ?_ ?_
  · rintro n u H1 hu ⟨vs, s1, f1, at1, l1⟩
    obtain ⟨ps, hps, q, rfl, hq, hqH0⟩ := hat.get hu
    have hqH := s1 _ _ hqH0
    have hw2 : wipe ((wipe σ [j]).set j (some (V.ref q))) [j] = wipe σ [j] := by
      show (((σ.set j none).set j (some (V.ref q))).set j none) = σ.set j none
      rw [List.set_set, List.set_set]
    refine ⟨hw2, ?_⟩
    have g1 : ((wipe σ [j]).set j (some (V.ref q)))[x]? = some (some (.str (mk w))) := by rw [List.getElem?_set_ne (Ne.symm hxj)]; exact hx
    have hlen : (wipe σ [j]).length = σ.length := wipe_length _ _
    have g2 : ((wipe σ [j]).set j (some (V.ref q)))[j]? = some (some (.ref q)) := by rw [List.getElem?_set_self (by omega)]
    refine ⟨_, g1, _, g2, q, wsV ps, rfl, .inl (SqL.of hqH), rfl, flat_ws ps, _, rfl, ?_⟩
    rw [in_ws]
    have et : (ar.take (n + 1)).filter (fun ps => decide (w ∈ ps)) = (ar.take n).filter (fun ps => decide (w ∈ ps)) ++ (if decide (w ∈ ps) = true then [ps] else []) := by
      rw [List.take_add_one, hps, List.filter_append]
      by_cases c : w ∈ ps <;> simp [c]
    show if (if false = true then _ else decide (w ∈ ps)) = true then _ else _
    by_cases c : w ∈ ps
    · rw [if_pos (by simp [c])]
      rw [if_pos (by simp [c])] at et
      exact ⟨_, g2, vs, f1, by rw [sizeLine_eq]; have : n < us.length := (List.getElem?_eq_some_iff.mp hu).1; omega, vs ++ [.ref q], fun b o hb => by rw [upd_ne (ne_of_none hb hD0)]; exact s1 _ _ hb, upd_same, by rw [et, List.length_append, List.length_append, at1]; rfl, by rw [List.length_append]; show vs.length + 1 ≤ _; omega⟩
    · rw [if_neg (by simp [c])]
      rw [if_neg (by simp [c]), List.append_nil] at et
      exact ⟨vs, s1, f1, by rw [et]; exact at1, by omega⟩
  rintro H1 ⟨vs, s1, f1, at1, l1⟩
  refine ⟨by show 0 ≤ sizeLine; decide, fun e he => ?_⟩
  have s2 := same_new he (.lst [])
  rw [hul, List.take_length] at at1
  refine ⟨D0, e, vs, rfl, rfl, SqL.of (s2 _ _ f1), SqL.of upd_same, ?_⟩
  have eb : decide (vs = []) = decide (∀ ps ∈ ar, w ∉ ps) := by
    have h1 : (vs = []) ↔ (ar.filter (fun ps => decide (w ∈ ps)) = []) := by
      rw [← List.length_eq_zero_iff, ← List.length_eq_zero_iff, at1]
    have h2 : (vs = []) ↔ (∀ ps ∈ ar, w ∉ ps) := by
      rw [h1]
      simp [List.filter_eq_nil_iff]
    simp [h2]
  rw [eb]
  exact k _ (s1.trans s2)
end My
set_option Elab.async false
set_option linter.all false
set_option maxRecDepth 100000
set_option maxHeartbeats 8000000
namespace My
open PySem L2 SS
/-- the deck, the words, what is left, the known names -/
structure V58 (H : Hp) (p l wl ll kl : Addr) (ws : List T) (a : Nat) (xs : List Int) (b o d : Nat) (ks : List T) : Prop where
  dk : DkAt H p l a xs
  w : H wl = some (.lst (wsV ws))
  l7 : ws.length = 6
  wn : ws.Nodup
  lo : ∀ w ∈ ws, ∀ c ∈ w, c < 128
  sh : ∀ w ∈ ws, w.length ≤ 12
  ki : ∀ w ∈ ks, w ∈ ws
  f : H ll = some (.lst [.int (b : Nat), .int (o : Nat), .int (d : Nat)])
  k : H kl = some (.lst (wsV ks))
  nw : wl ∉ [p, l, ll, kl]
  nl : ll ∉ [p, l]
  nk : kl ∉ [p, l, ll]
section
variable {H H' : Hp} {p l wl ll kl q : Addr} {ws ks ks' : List T} {a a' : Nat} {xs xs' : List Int} {b b' o d d' : Nat}
theorem V58.same (h : V58 H p l wl ll kl ws a xs b o d ks) (s : Same H H') : V58 H' p l wl ll kl ws a xs b o d ks := ⟨h.dk.same s, s _ _ h.w, h.l7, h.wn, h.lo, h.sh, h.ki, s _ _ h.f, s _ _ h.k, h.nw, h.nl, h.nk⟩
theorem V58.sd (h : V58 H p l wl ll kl ws a xs b o d ks) (s : SD p l H H') (dk : DkAt H' p l a' xs') : V58 H' p l wl ll kl ws a' xs' b o d ks := by
  have h1 := h.nw
  have h2 := h.nl
  have h3 := h.nk
  simp only [List.mem_cons, List.not_mem_nil, or_false, not_or] at h1 h2 h3
  exact ⟨dk, s _ _ h1.1 h1.2.1 h.w, h.l7, h.wn, h.lo, h.sh, h.ki, s _ _ h2.1 h2.2 h.f, s _ _ h3.1 h3.2.1 h.k, h.nw, h.nl, h.nk⟩
theorem V58.left (h : V58 H p l wl ll kl ws a xs b o d ks) (b' d' : Nat) : V58 (upd H ll (.lst [.int (b' : Nat), .int (o : Nat), .int (d' : Nat)])) p l wl ll kl ws a xs b' o d' ks := by
  have h1 := h.nw
  have h2 := h.nl
  have h3 := h.nk
  simp only [List.mem_cons, List.not_mem_nil, or_false, not_or] at h1 h2 h3
  exact ⟨h.dk.upd h2 _, by rw [upd_ne h1.2.2.1]; exact h.w, h.l7, h.wn, h.lo, h.sh, h.ki, upd_same, by rw [upd_ne h3.2.2]; exact h.k, h.nw, h.nl, h.nk⟩
theorem V58.know (h : V58 H p l wl ll kl ws a xs b o d ks) (ks' : List T) (hk : ∀ w ∈ ks', w ∈ ws) : V58 (upd H kl (.lst (wsV ks'))) p l wl ll kl ws a xs b o d ks' := by
  have h1 := h.nw
  have h2 := h.nl
  have h3 := h.nk
  simp only [List.mem_cons, List.not_mem_nil, or_false, not_or] at h1 h2 h3
  exact ⟨h.dk.upd ⟨h3.1, h3.2.1⟩ _, by rw [upd_ne h1.2.2.2]; exact h.w, h.l7, h.wn, h.lo, h.sh, hk, by rw [upd_ne (Ne.symm h3.2.2)]; exact h.f, upd_same, h.nw, h.nl, h.nk⟩
theorem V58.ne (h : V58 H p l wl ll kl ws a xs b o d ks) (e : H q = none) : q ∉ [p, l, ll, kl] := by
  simp only [List.mem_cons, List.not_mem_nil, or_false, not_or]
  exact ⟨(h.dk.ne e).1, (h.dk.ne e).2, fun z => (by rw [z, h.f] at e; cases e), fun z => (by rw [z, h.k] at e; cases e)⟩
theorem V58.off (h : V58 H p l wl ll kl ws a xs b o d ks) (hq : q ∉ [p, l, ll, kl]) (hw : q ≠ wl) (u : HO) : V58 (upd H q u) p l wl ll kl ws a xs b o d ks := by
  simp only [List.mem_cons, List.not_mem_nil, or_false, not_or] at hq
  exact ⟨h.dk.upd ⟨hq.1, hq.2.1⟩ _, by rw [upd_ne (Ne.symm hw)]; exact h.w, h.l7, h.wn, h.lo, h.sh, h.ki, by rw [upd_ne (Ne.symm hq.2.2.1)]; exact h.f, by rw [upd_ne (Ne.symm hq.2.2.2)]; exact h.k, h.nw, h.nl, h.nk⟩
theorem V58.newW (h : V58 H p l wl ll kl ws a xs b o d ks) (e : H q = none) : q ≠ wl := fun z => by rw [z, h.w] at e; cases e
theorem V58.tups (h : V58 H p l wl ll kl ws a xs b o d ks) (s : SX [p, l, ll, kl] H H') : Tups H H' := by
  have key : ∀ q u, q ∈ [p, l, ll, kl] → H q = some u → ∃ vs, u = .lst vs := fun q u hq e => by
    simp only [List.mem_cons, List.not_mem_nil, or_false] at hq
    rcases hq with rfl | rfl | rfl | rfl
    · rw [h.dk.1] at e; cases e; exact ⟨_, rfl⟩
    · rw [h.dk.2.1] at e; cases e; exact ⟨_, rfl⟩
    · rw [h.f] at e; cases e; exact ⟨_, rfl⟩
    · rw [h.k] at e; cases e; exact ⟨_, rfl⟩
  exact ⟨fun q ys e => s q _ (fun z => by obtain ⟨vs, e2⟩ := key q _ z e; cases e2) e, fun q o_ u_ e => s q _ (fun z => by obtain ⟨vs, e2⟩ := key q _ z e; cases e2) e⟩
end
def AI8 (ws : List T) (ar : List (List T)) : Prop := ∀ ps ∈ ar, ps.length ≤ 4 ∧ ∀ w ∈ ps, w ∈ ws
structure P8 (ws : List T) (ar : List (List T)) (ks : List T) (a b o : Nat) : Prop where
  ain : AI8 ws ar
  arl : ar.length ≤ 4
  o4 : o ≤ 4
  a16 : a + 16 * b ≤ 8000
  kb : ks.length + b ≤ 100
mutual
/-- the forms that are drawn -/
def fE : Ex → Prop
  | .num _ => True
  | .nam _ => True
  | .blk _ ss => fSs ss
  | _ => False
def fS : St_ → Prop
  | .set _ e => fE e
  | .tri a _ b => fSs a ∧ fSs b
  | _ => False
def fSs : Sts → Prop
  | .nil => True
  | .cons s r => fS s ∧ fSs r
end
theorem fSs_snoc : ∀ {es : Sts} {e : St_}, fSs es → fS e → fSs (es.snoc e)
  | .nil, e, _, h => ⟨h, trivial⟩
  | .cons x r, e, ⟨h1, h2⟩, h => ⟨h1, fSs_snoc h2 h⟩
structure E8 (ar : List (List T)) (ks ks' : List T) (d b b' : Nat) (e : Ex) : Prop where
  le : b' ≤ b
  n : nE e ≤ 1 + 2 * (b - b')
  o : oE e ≤ d
  mono : ∀ w ∈ ks, w ∈ ks'
  new : ∀ w ∈ ks', w ∈ ks ∨ w ∈ stE ar.flatten e
  sd : ∀ KS, (∀ w ∈ ks', w ∈ KS) → sdE (ar ++ [KS]) e
  f : fE e
structure Ss8 (ar : List (List T)) (ks ks' : List T) (d b b' : Nat) (ss : Sts) : Prop where
  le : b' ≤ b
  n : nSs ss ≤ 2 * (b - b')
  o : oSs ss ≤ d
  mono : ∀ w ∈ ks, w ∈ ks'
  new : ∀ w ∈ ks', w ∈ ks ∨ w ∈ stSs ar.flatten ss
  sd : ∀ KS, (∀ w ∈ ks', w ∈ KS) → sdSs (ar ++ [KS]) ss
  f : fSs ss
structure S8 (ar : List (List T)) (ks ks' : List T) (d b b' : Nat) (s : St_) : Prop where
  le : b' ≤ b
  n : nS s ≤ 2 * (b - b')
  o : oS s ≤ d
  mono : ∀ w ∈ ks, w ∈ ks'
  new : ∀ w ∈ ks', w ∈ ks ∨ w ∈ stS ar.flatten s
  sd : ∀ KS, (∀ w ∈ ks', w ∈ KS) → sdS (ar ++ [KS]) s
  f : fS s
theorem Ss8.nil {ar : List (List T)} {ks : List T} {d b : Nat} : Ss8 ar ks ks d b b .nil := ⟨Nat.le_refl _, Nat.zero_le _, Nat.zero_le _, fun _ h => h, fun _ h => .inl h, fun _ _ => trivial, trivial⟩
theorem Ss8.snoc {ar : List (List T)} {ks k1 k2 : List T} {d b b1 b2 : Nat} {es : Sts} {e : St_} (h : Ss8 ar ks k1 d b b1 es) (g : S8 ar k1 k2 d b1 b2 e) : Ss8 ar ks k2 d b b2 (es.snoc e) := by
  have h1 := (Sts.snoc_n es e).1
  have h2 := (Sts.snoc_n es e).2.1
  have a1 := h.n
  have a2 := g.n
  have a3 := h.o
  have a4 := g.o
  have a5 := h.le
  have a6 := g.le
  refine ⟨by omega, by omega, by omega, fun w hw => g.mono w (h.mono w hw), fun w hw => ?_, fun KS k => sdSs_snoc (h.sd KS fun w hw => k w (g.mono w hw)) (g.sd KS k), fSs_snoc h.f g.f⟩
  rw [stSs_snoc]
  rcases g.new w hw with hw | hw
  · rcases h.new w hw with hw | hw
    · exact .inl hw
    · exact .inr (List.mem_append_left _ hw)
  · exact .inr (List.mem_append_right _ hw)
def spE8 (d0 : Nat) : Sp := fun vs H Q _ => ∃ (p l wl ll kl : Addr) (ws : List T) (a : Nat) (xs : List Int) (b o d : Nat) (ks : List T) (ar : List (List T)) (va : V), vs = [.ref p, .ref wl, .ref kl, .ref ll, va] ∧ d ≤ d0 ∧ V58 H p l wl ll kl ws a xs b o d ks ∧ AtAr [p, l, ll, kl] H ar va ∧ P8 ws ar ks a b o ∧ a + 16 * b + 8 ≤ 8000 ∧
  ∀ (e : Ex) (v : V) (H' : Hp) (a' : Nat) (xs' : List Int) (b' : Nat) (ks' : List T), SX [p, l, ll, kl] H H' → V58 H' p l wl ll kl ws a' xs' b' o d ks' → a' + 16 * b' ≤ a + 16 * b + 6 → ks'.length + b' ≤ ks.length + b → AtE H' e v → E8 ar ks ks' d b b' e → Q v H'
def spSs8 (d0 : Nat) : Sp := fun vs H Q _ => ∃ (p l wl ll kl : Addr) (ws : List T) (a : Nat) (xs : List Int) (b o d : Nat) (ks : List T) (ar : List (List T)) (va : V), vs = [.ref p, .ref wl, .ref kl, .ref ll, va] ∧ d ≤ d0 ∧ V58 H p l wl ll kl ws a xs b o d ks ∧ AtAr [p, l, ll, kl] H ar va ∧ P8 ws ar ks a b o ∧
  ∀ (ss : Sts) (q : Addr) (us : List V) (H' : Hp) (a' : Nat) (xs' : List Int) (b' : Nat) (ks' : List T), SX [p, l, ll, kl] H H' → V58 H' p l wl ll kl ws a' xs' b' o d ks' → a' + 16 * b' ≤ a + 16 * b + 1 → ks'.length + b' ≤ ks.length + b → H' q = some (.tup us) → AtSs H' ss us → Ss8 ar ks ks' d b b' ss → Q (.ref q) H'
/-- one deeper -/
def spIn8 (d0 : Nat) : Sp := fun vs H Q _ => ∃ (p l wl ll kl : Addr) (ws : List T) (a : Nat) (xs : List Int) (b o d : Nat) (ks : List T) (ar : List (List T)) (va : V), vs = [.ref p, .ref wl, .ref kl, .ref ll, va] ∧ d + 1 ≤ d0 ∧ V58 H p l wl ll kl ws a xs b o (d + 1) ks ∧ AtAr [p, l, ll, kl] H ar va ∧ P8 ws ar ks a b o ∧
  ∀ (ss : Sts) (q : Addr) (us : List V) (H' : Hp) (a' : Nat) (xs' : List Int) (b' : Nat) (ks' : List T), SX [p, l, ll, kl] H H' → V58 H' p l wl ll kl ws a' xs' b' o (d + 1) ks' → a' + 16 * b' ≤ a + 16 * b + 1 → ks'.length + b' ≤ ks.length + b → H' q = some (.tup us) → AtSs H' ss us → Ss8 ar ks ks' d b b' ss → Q (.ref q) H'
def prevS8 : Nat → Sp
  | 0 => fun _ _ _ _ => False
  | n + 1 => spSs8 n
end My
set_option Elab.async false
set_option linter.all false
set_option maxRecDepth 100000
set_option maxHeartbeats 8000000
namespace My
open PySem L2 SS
section
variable {P : Program} {w : World} {K : PySem.W.Frag} {mg : Str → Option Value} {base : Heap}
theorem scIn8 : FnScope ["_law_deck_here", "_law_words_here", "_law_known", "_law_left", "_law_around", "_law_found"] ["_law_deck_here", "_law_words_here", "_law_known", "_law_left", "_law_around"] (defScope s__law_inner) := ⟨rfl, rfl, rfl, by decide +kernel, rfl, by decide +kernel, by decide +kernel⟩
theorem c_in8 {d0 k : Nat} (hk : 1 ≤ k) (SP : C0 P w K mg base k "_law_statements" (prevS8 d0)) (D : Dn K mg "_law_inner" s__law_inner) : C0 P w K mg base (k + 1) "_law_inner" (spIn8 d0) := by
  obtain ⟨f, fd, F, m⟩ := D.ex
  refine ⟨f, fd, ["_law_deck_here", "_law_words_here", "_law_known", "_law_left", "_law_around"], F.ok scIn8 (fun vs H Q E h => ?_) (fun cdv A outer s H vs Q E hr h => ?_), m, F.kp, F.binds (ps := ["_law_deck_here", "_law_words_here", "_law_known", "_law_left", "_law_around"]) fun _ _ _ _ _ _ us hl => match us, hl with | [_, _, _, _, _], _ => rfl⟩
  · obtain ⟨p, l, wl, ll, kl, ws, a, xs, b, o, d, ks, ar, va, rfl, _⟩ := h
    rfl
  obtain ⟨p, l, wl, ll, kl, ws, a, xs, b, o, d, ks, ar, va, rfl, hoo, ev, har, hp8, kq⟩ := h
  refine ⟨_, pss_cons (ps_asg (pe_op op_sub (pe_ix (r := rIxL K) ix_list (pv 3) pe_int (fun _ _ => rfl)) pe_int) (pg_sub (pv 3) pe_int set_list)) <|
    pss_cons (ps_set (i := 5) scIn8.nd rfl (Or.inl rfl) (pe_cc SP hr (by omega) pass0 (pa_cons (pv 0) (pa_cons (pv 1) (pa_cons (pv 2) (pa_cons (pv 3) (pa_cons (pv 4) pa_nil))))))) <|
    pss_cons (ps_asg (pe_op op_add (pe_ix (r := rIxL K) ix_list (pv 3) pe_int (fun _ _ => rfl)) pe_int) (pg_sub (pv 3) pe_int set_list)) <|
    pss_one (ps_ret (pv 5)), ?_⟩
  have hpl : p ∈ [p, l, ll, kl] ∧ l ∈ [p, l, ll, kl] ∧ ll ∈ [p, l, ll, kl] ∧ kl ∈ [p, l, ll, kl] := by simp
  obtain ⟨d1, rfl⟩ : ∃ d1, d0 = d1 + 1 := ⟨d0 - 1, by omega⟩
  refine ⟨_, rfl, ll, _, _, _, rfl, rfl, SqL.of ev.f, atI_nat (j := 2) rfl, _, _, rfl, rfl, _, rfl, ll, _, 2, 2, rfl, rfl, ev.f, rfl, ?_⟩
  have hset : [V.int (b : Nat), V.int (o : Nat), V.int ((d + 1 : Nat) : Int)].set 2 (V.int (((d + 1 : Nat) : Int) - 1)) = [V.int (b : Nat), V.int (o : Nat), V.int (d : Nat)] := by
    rw [show ((d + 1 : Nat) : Int) - 1 = ((d : Nat) : Int) by omega]
    rfl
  rw [hset]
  have ev2 := ev.left b d
  have sx2 : SX [p, l, ll, kl] H (upd H ll (.lst [.int (b : Nat), .int (o : Nat), .int (d : Nat)])) := SX.upd _ hpl.2.2.1
  generalize upd H ll (.lst [.int (b : Nat), .int (o : Nat), .int (d : Nat)]) = H2 at ev2 sx2 ⊢
  refine ⟨_, rfl, _, rfl, _, rfl, _, rfl, _, rfl, p, l, wl, ll, kl, ws, a, xs, b, o, d, ks, ar, va, rfl, by omega, ev2, har.sx sx2, hp8, fun ss q us H3 a3 xs3 b3 ks3 s3 ev3 h1 h2 hq hat gs => ?_⟩
  refine ⟨_, rfl, ll, _, _, _, rfl, rfl, SqL.of ev3.f, atI_nat (j := 2) rfl, _, _, rfl, rfl, _, rfl, ll, _, 2, 2, rfl, rfl, ev3.f, rfl, ?_⟩
  have hset3 : [V.int (b3 : Nat), V.int (o : Nat), V.int (d : Nat)].set 2 (V.int (((d : Nat) : Int) + 1)) = [V.int (b3 : Nat), V.int (o : Nat), V.int ((d + 1 : Nat) : Int)] := rfl
  rw [hset3]
  have ev4 := ev3.left b3 (d + 1)
  have sx4 : SX [p, l, ll, kl] H3 (upd H3 ll (.lst [.int (b3 : Nat), .int (o : Nat), .int ((d + 1 : Nat) : Int)])) := SX.upd _ hpl.2.2.1
  have t4 := ev3.tups sx4
  exact ⟨_, rfl, kq ss q us _ a3 xs3 b3 ks3 ((sx2.trans s3).trans sx4) ev4 h1 h2 (t4 _ _ hq) (hat.on_ t4) gs⟩
theorem scE8 : FnScope ["_law_deck_here", "_law_words_here", "_law_known", "_law_left", "_law_around", "_law_way", "_law_usable", "_law_own", "_law_k", "_law_word_here"] ["_law_deck_here", "_law_words_here", "_law_known", "_law_left", "_law_around"] (defScope s__law_e) := ⟨rfl, rfl, rfl, by decide +kernel, rfl, by decide +kernel, by decide +kernel⟩
theorem c_e8 {d0 k : Nat} (hk : 1 ≤ k) (b_len : mg "len" = none) (b_range : mg "range" = none) (b_tuple : mg "tuple" = none) (DR : C0 P w K mg base 1 "_law_draw" spDr) (SN : C0 P w K mg base 1 "_law_seen" spSn) (IN : C0 P w K mg base k "_law_inner" (spIn8 d0)) (D : Dn K mg "_law_e" s__law_e) : C0 P w K mg base (k + 1) "_law_e" (spE8 d0) := by
  obtain ⟨f, fd, F, m⟩ := D.ex
  refine ⟨f, fd, ["_law_deck_here", "_law_words_here", "_law_known", "_law_left", "_law_around"], F.ok scE8 (fun vs H Q E h => ?_) (fun cdv A outer s H vs Q E hr h => ?_), m, F.kp, F.binds (ps := ["_law_deck_here", "_law_words_here", "_law_known", "_law_left", "_law_around"]) fun _ _ _ _ _ _ us hl => match us, hl with | [_, _, _, _, _], _ => rfl⟩
  · obtain ⟨p, l, wl, ll, kl, ws, a, xs, b, o, d, ks, ar, va, rfl, _⟩ := h
    rfl
  obtain ⟨p, l, wl, ll, kl, ws, a, xs, b, o, d, ks, ar, va, rfl, hoo, ev, har, ⟨p1, p2, p3, p4, p5⟩, p6, kq⟩ := h
  refine ⟨_, pss_cons (ps_set (i := 5) scE8.nd rfl (Or.inl rfl) (pe_cc DR hr (by omega) pass0 (pa_cons (pv 0) (pa_cons pe_int pa_nil)))) <|
    pss_cons (ps_set (i := 6) scE8.nd rfl (Or.inl rfl) (pe_op op_cat (pe_cc SN hr (by omega) pass0 (pa_cons (pv 1) (pa_cons (pv 4) pa_nil))) (pv 2))) <|
    C8.pss_cut (ps_if (PW.pt (pw_and (pt_cmpR op_lt (pv 5) pe_int (nomark _)) (pw_and (pt_cmpR op_gt (pe_ix (r := rIxL K) ix_list (pv 3) pe_int (fun _ _ => rfl)) (pe_callB call_len_seq (by rfl) b_len PySem.boot_len (pa_cons (pv 4) pa_nil)) (nomark _)) (pw_and (pt_cmpR op_gt (pe_ix (r := rIxL K) ix_list (pv 3) pe_int (fun _ _ => rfl)) pe_int (nomark _)) (pw_and1 (pt_cmpR op_gt (pe_ix (r := rIxL K) ix_list (pv 3) pe_int (fun _ _ => rfl)) pe_int (nomark _)))))))
      (pss_cons (ps_set (i := 7) scE8.nd rfl (Or.inl rfl) (pe_lst pa_nil)) <|
      pss_cons (ps_for PassesOwn.never rfl (pi_range1 rfl b_range (pa_cons (pe_cc DR hr (by omega) pass0 (pa_cons (pv 0) (pa_cons pe_int pa_nil))) pa_nil)) (pg_name (i := 8) scE8.nd rfl (Or.inl rfl))
        (pss_cons (ps_set (i := 9) scE8.nd rfl (Or.inl rfl) (pe_ix (r := rIxL K) ix_list (pv 1) (pe_cc DR hr (by omega) pass0 (pa_cons (pv 0) (pa_cons pe_int pa_nil))) (fun _ _ => rfl))) <|
        pss_one (ps_if (pt_cmpR op_notIn_seq (pv 9) (pv 7) (by rfl))
          (pss_one (ps_expr (pe_bm PySem.F.plainAttrs_list PySem.F.slot_list_append PySem.F.type_list_append mt_append (pv 7) (pa_cons (pv 9) pa_nil))))
          (pss_nil)))) <|
      pss_one (ps_ret (pe_tup (pa_cons pe_str (pa_cons (pe_callTy call_tuple_ofF (by rfl) b_tuple (by decide +kernel) (pa_cons (pv 7) pa_nil)) (pa_cons (pe_cc IN hr (by omega) pass0 (pa_cons (pv 0) (pa_cons (pv 1) (pa_cons (pv 2) (pa_cons (pv 3) (pa_cons (pe_op op_cat (pe_lst (pa_cons (pv 7) pa_nil)) (pv 4)) pa_nil)))))) pa_nil))))))
      (pss_nil)) <|
    pss_cons (ps_if (PW.pt (pw_or (pt_cmpR op_gt (pv 5) pe_int (nomark _)) (pw_or1 (pt_cmpR (op_eqNil hr.units) (pv 6) (pe_lst pa_nil) (nomark _)))))
      (pss_one (ps_ret (pe_tup (pa_cons pe_str (pa_cons (pe_cc DR hr (by omega) pass0 (pa_cons (pv 0) (pa_cons pe_int pa_nil))) pa_nil)))))
      (pss_nil)) <|
    pss_one (ps_ret (pe_tup (pa_cons pe_str (pa_cons (pe_ix (r := rIxL K) ix_list (pv 6) (pe_cc DR hr (by omega) pass0 (pa_cons (pv 0) (pa_cons (pe_callB call_len_seq (by rfl) b_len PySem.boot_len (pa_cons (pv 6) pa_nil)) pa_nil))) (fun _ _ => rfl)) pa_nil)))), ?_⟩
  have hpl : p ∈ [p, l, ll, kl] ∧ l ∈ [p, l, ll, kl] ∧ ll ∈ [p, l, ll, kl] ∧ kl ∈ [p, l, ll, kl] := by simp
  refine ⟨_, rfl, p, l, a, xs, 5, rfl, by decide, by decide, ev.dk, by omega, fun n H1 xs1 s1 f1 d1 hn0 hn1 => ?_⟩
  have ev1 := ev.sd s1 d1
  have sx1 : SX [p, l, ll, kl] H H1 := SX.sd s1 hpl.1 hpl.2.1
  have har1 := har.sx sx1
  have lo1 : ∀ ps ∈ ar, ∀ w ∈ ps, ∀ c ∈ w, c < 128 := fun ps hps w hw => ev.lo w ((p1 ps hps).2 w hw)
  refine ⟨_, rfl, _, rfl, wl, ws, va, [p, l, ll, kl], ar, rfl, ev1.w, har1, by omega, by rw [ev1.l7]; decide, fun H2 r2 s2 hr2 g2 => ?_⟩
  have ev2 := ev1.same s2
  have n2 := ev1.ne hr2
  have hsl : (seenW ar ws).length ≤ 6 := by rw [← ev1.l7]; exact List.length_filter_le _ _
  have hkl : ks.length ≤ 100 := by omega
  refine ⟨_, rfl, r2, kl, _, _, rfl, rfl, g2, ev2.k, by rw [wsV_len, wsV_len, sizeLine_eq]; omega, fun ul hul => ?_⟩
  have t3 := same_new hul (.lst (wsV (seenW ar ws) ++ wsV ks))
  have eus : wsV (seenW ar ws) ++ wsV ks = wsV (seenW ar ws ++ ks) := by unfold wsV; rw [List.map_append]
  rw [eus] at t3 ⊢
  have g3 : upd H2 ul (.lst (wsV (seenW ar ws ++ ks))) ul = some (.lst (wsV (seenW ar ws ++ ks))) := upd_same
  have ev3 := ev2.same t3
  have n3 := ev2.ne hul
  have nuse : ∀ w ∈ seenW ar ws ++ ks, w ∈ ks ∨ ∃ ps ∈ ar, w ∈ ps := fun w hw => by
    rcases List.mem_append.mp hw with h | h
    · exact .inr (of_decide_eq_true (List.mem_filter.mp h).2)
    · exact .inl h
  have hul2 : (seenW ar ws ++ ks).length ≤ 106 := by rw [List.length_append]; omega
  generalize seenW ar ws ++ ks = us at t3 g3 ev3 nuse hul2 ⊢
  generalize upd H2 ul (.lst (wsV us)) = H3 at t3 g3 ev3 ⊢
  have sx3 : SX [p, l, ll, kl] H H3 := (sx1.trans (SX.same s2)).trans (SX.same t3)
  obtain ⟨pa, uar, rfl, npa, hpaH, hats⟩ := id (har.sx sx3)
  have hual := hats.len
  refine ⟨fun σ H' => σ = [some (.ref p), some (.ref wl), some (.ref kl), some (.ref ll), some (.ref pa), some (.int n), some (.ref ul), none, none, none] ∧ H' = H3, ?_, ?_⟩
  · refine ⟨_, rfl, _, _, rfl, rfl, _, rfl, ?_⟩
    refine ite2 (fun c1 => ?_) (fun c1 => ⟨rfl, rfl⟩)
    refine ⟨_, rfl, ll, _, _, _, rfl, rfl, SqL.of ev3.f, atI_nat (j := 1) rfl, _, rfl, pa, uar, rfl, .inl (SqL.of hpaH), _, _, rfl, rfl, _, rfl, ?_⟩
    refine ite2 (fun c2 => ?_) (fun c2 => ⟨rfl, rfl⟩)
    refine ⟨_, rfl, ll, _, _, _, rfl, rfl, SqL.of ev3.f, atI_0, _, _, rfl, rfl, _, rfl, ?_⟩
    refine ite2 (fun c3 => ?_) (fun c3 => ⟨rfl, rfl⟩)
    refine ⟨_, rfl, ll, _, _, _, rfl, rfl, SqL.of ev3.f, atI_nat (j := 2) rfl, _, _, rfl, rfl, _, rfl, ?_⟩
    refine ite2 (fun c4 => ?_) (fun c4 => ⟨rfl, rfl⟩)
    have h2 : ((uar.length : Nat) : Int) < ((o : Nat) : Int) := of_decide_eq_true c2
    have h4 : (0 : Int) < ((d : Nat) : Int) := of_decide_eq_true c4
    obtain ⟨d, rfl⟩ : ∃ d', d = d' + 1 := ⟨d - 1, by omega⟩
    refine ⟨by show 0 ≤ sizeLine; decide, fun ol hol => ?_⟩
    have t4 := same_new hol (.lst [])
    have g4 : upd H3 ol (.lst []) ol = some (.lst []) := upd_same
    have nol := ev3.ne hol
    have nolw := ev3.newW hol
    have ev4 := ev3.same t4
    generalize hH4 : upd H3 ol (.lst []) = H4 at t4 g4 ev4 ⊢
    have nol2 : ol ≠ p ∧ ol ≠ l := by
      simp only [List.mem_cons, List.not_mem_nil, or_false, not_or] at nol
      exact ⟨nol.1, nol.2.1⟩
    refine ⟨_, rfl, p, l, _, xs1, 4, rfl, by decide, by decide, ev4.dk, by omega, fun n5 H5 xs5 s5 f5 d5 h50 h51 => ⟨_, rfl, by omega, by omega, ?_⟩⟩
    have ev5 := ev4.sd s5 d5
    refine for_range (lo := 0) (n := n5.toNat) (fun i σ H' => ∃ (own : List T) (xs' : List Int) (v8 v9 : Option V), σ = [some (.ref p), some (.ref wl), some (.ref kl), some (.ref ll), some (.ref pa), some (.int n), some (.ref ul), some (.ref ol), v8, v9] ∧ SX [p, l, ll, kl] H3 H' ∧ V58 H' p l wl ll kl ws (a + 2 + i) xs' b o (d + 1) ks ∧ H' ol = some (.lst (wsV own)) ∧ own.Nodup ∧ (∀ w ∈ own, w ∈ ws) ∧ own.length ≤ i)
      ⟨[], xs5, none, none, rfl, (SX.same t4).trans (SX.sd s5 hpl.1 hpl.2.1), ev5, s5 _ _ nol2.1 nol2.2 g4, List.nodup_nil, fun _ h => (by cases h), Nat.zero_le _⟩ ?_ ?_
    · rintro i σ H6 hi ⟨own, xs6, v8, v9, rfl, s6, ev6, g6, on, ow, ol_⟩
      refine ⟨_, rfl, _, rfl, p, l, _, xs6, 5, rfl, by decide, by decide, ev6.dk, by omega, fun n7 H7 xs7 s7 f7 d7 h70 h71 => ?_⟩
      have ev7 := ev6.sd s7 d7
      have g7 := s7 _ _ nol2.1 nol2.2 g6
      have s67 := s6.trans (SX.sd s7 hpl.1 hpl.2.1)
      obtain ⟨w7, hw7, hat7⟩ := wsV_at (ws := ws) (d := n7) h70 (by rw [ev7.l7]; omega)
      refine ⟨wl, _, _, _, rfl, rfl, SqL.of ev7.w, hat7, _, rfl, _, rfl, ol, wsV own, rfl, .inl (SqL.of g7), rfl, flat_ws own, _, rfl, ?_⟩
      rw [in_ws]
      refine ite2 (fun cn => ?_) (fun cn => ?_)
      · have hn2 : w7 ∉ own := by simpa using cn
        refine ⟨_, rfl, .inl ⟨rfl, _, SqL.of g7⟩, _, rfl, ol, _, _, rfl, rfl, g7, by rw [wsV_len, sizeLine_eq]; omega, ?_⟩
        refine ⟨own ++ [w7], xs7, _, _, rfl, ?_, ev7.off nol nolw _, ?_, ?_, ?_, by rw [List.length_append]; show own.length + 1 ≤ _; omega⟩
        · intro q u hq h
          rw [upd_ne (ne_of_none h hol)]
          exact s67 _ _ hq h
        · rw [upd_same]; unfold wsV; rw [List.map_append]; rfl
        · exact List.nodup_append.mpr ⟨on, by simp, fun x hx y hy => by
            simp only [List.mem_cons, List.not_mem_nil, or_false] at hy
            subst hy
            exact fun e => hn2 (e ▸ hx)⟩
        · intro w hw
          rcases List.mem_append.mp hw with hw | hw
          · exact ow w hw
          · simp only [List.mem_cons, List.not_mem_nil, or_false] at hw
            subst hw
            exact hw7
      · exact ⟨own, xs7, _, _, rfl, s67, ev7, g7, on, ow, by omega⟩
    rintro σ H6 ⟨own, xs6, v8, v9, rfl, s6, ev6, g6, on, ow, ol_⟩
    have own4 : own.length ≤ 4 := by omega
    refine ⟨_, rfl, ol, _, rfl, SqL.of g6, fun tp ob htp hob => ?_⟩
    have t6 := same_new htp (.frz ob (.tup (wsV own)))
    have fz : FrzT (upd H6 tp (.frz ob (.tup (wsV own)))) tp (wsV own) := ⟨ob, upd_same, hob⟩
    have g7 := t6 _ _ g6
    have ev7 := ev6.same t6
    generalize upd H6 tp (.frz ob (.tup (wsV own))) = H7 at t6 fz g7 ev7 ⊢
    refine ⟨_, rfl, _, rfl, _, rfl, _, rfl, _, rfl, (by show 1 ≤ sizeLine; decide), fun e1 he1 => ?_⟩
    have t7 := same_new he1 (.lst [V.ref ol])
    have g8 : upd H7 e1 (.lst [V.ref ol]) e1 = some (.lst [V.ref ol]) := upd_same
    have g78 := t7 _ _ g7
    have sx7 : SX [p, l, ll, kl] H3 (upd H7 e1 (.lst [V.ref ol])) := (s6.trans (SX.same t6)).trans (SX.same t7)
    have pa8 := sx7 _ _ npa hpaH
    have hats8 : AtL (AtWl [p, l, ll, kl]) (upd H7 e1 (.lst [V.ref ol])) ar uar := AtL.onR (fun _ _ z => AtWl.sx sx7 z) hats
    have fz8 : AtWb (upd H7 e1 (.lst [V.ref ol])) own (.ref tp) := AtWb.on (same_tups t7) ⟨tp, rfl, fz⟩
    have ev8 := ev7.same t7
    generalize upd H7 e1 (.lst [V.ref ol]) = H8 at t7 g8 g78 sx7 pa8 hats8 fz8 ev8 ⊢
    refine ⟨_, rfl, e1, pa, _, uar, rfl, rfl, g8, pa8, by rw [sizeLine_eq]; show 1 + uar.length ≤ _; omega, fun r hr' => ?_⟩
    have t8 := same_new hr' (.lst ([V.ref ol] ++ uar))
    have nr := ev8.ne hr'
    have ev9 := ev8.same t8
    have har9 : AtAr [p, l, ll, kl] (upd H8 r (.lst ([V.ref ol] ++ uar))) (own :: ar) (.ref r) := ⟨r, _, rfl, nr, upd_same, ⟨_, _, rfl, ⟨ol, rfl, nol, t8 _ _ g78⟩, AtL.onR (fun _ _ z => AtWl.sx (SX.same t8) z) hats8⟩⟩
    have fz9 := AtWb.on (same_tups t8) fz8
    have sx9 := sx7.trans (SX.same t8)
    generalize upd H8 r (.lst ([V.ref ol] ++ uar)) = H9 at ev9 har9 fz9 sx9 ⊢
    refine ⟨p, l, wl, ll, kl, ws, _, xs6, b, o, d, ks, own :: ar, .ref r, rfl, by omega, ev9, har9, ⟨fun ps hps => ?_, by rw [List.length_cons]; omega, p3, by omega, by omega⟩, fun ss q us9 H10 a9 xs9 b9 ks9 s9 ev10 h1 h2 h5 at9 g9' => ?_⟩
    · rcases List.mem_cons.mp hps with rfl | hps
      · exact ⟨own4, ow⟩
      · exact p1 ps hps
    have t9 := ev9.tups s9
    have fz10 := AtWb.on t9 fz9
    refine ⟨(by show 3 ≤ sizeLine; decide), fun v hv => ?_⟩
    have tv := same_new hv (.tup [S_ "block", V.ref tp, V.ref q])
    have gv : upd H10 v (.tup [S_ "block", V.ref tp, V.ref q]) v = some (.tup [S_ "block", V.ref tp, V.ref q]) := upd_same
    generalize upd H10 v (.tup [S_ "block", V.ref tp, V.ref q]) = H11 at tv gv ⊢
    have g1 := g9'.n
    have g2' := g9'.o
    refine kq (.blk own ss) (.ref v) H11 a9 xs9 b9 ks9 (((sx3.trans sx9).trans s9).trans (SX.same tv)) (ev10.same tv) (by omega) (by omega) ⟨v, .ref tp, q, us9, rfl, gv, tv _ _ h5, fz10.on (same_tups tv), at9.on_ (same_tups tv)⟩ ?_
    exact ⟨g9'.le, by show 1 + nSs ss ≤ _; omega, by show 1 + oSs ss ≤ _; omega, g9'.mono, g9'.new, fun KS hk => ⟨on, own4, g9'.sd KS hk⟩, g9'.f⟩
  rintro σ H' ⟨rfl, rfl⟩
  refine ⟨_, rfl, _, _, rfl, rfl, _, rfl, ?_⟩
  refine ite2 (fun c1 => ?_) (fun c1 => ?_)
  · refine ⟨_, rfl, p, l, _, xs1, 100, rfl, by decide, by decide, (ev3).dk, by omega, fun n8 H8 xs8 s8 f8 d8 h80 h81 => ⟨(by show 2 ≤ sizeLine; decide), fun v hv => ?_⟩⟩
    have tv := same_new hv (.tup [S_ "number", V.int n8])
    have ev8 := ((ev3).sd s8 d8).same tv
    refine kq (.num n8) (.ref v) _ (a + 1 + 1) xs8 b ks ((sx3.trans (SX.sd s8 hpl.1 hpl.2.1)).trans (SX.same tv)) ev8 (by omega) (by omega) ⟨v, rfl, upd_same⟩ ?_
    exact ⟨Nat.le_refl _, by show 1 ≤ _; omega, Nat.zero_le _, fun _ h => h, fun _ h => .inl h, fun _ _ => (by show -1000000000000 < n8 ∧ n8 < 1000000000000; omega), trivial⟩
  refine ⟨_, rfl, by show 0 ≤ sizeLine; decide, fun e5 he5 => ?_⟩
  have t5 := same_new he5 (.lst [])
  refine ⟨ul, e5, wsV us, rfl, rfl, SqL.of (t5 _ _ g3), SqL.of upd_same, _, rfl, ?_⟩
  have ev5 := ev3.same t5
  have g5 := t5 _ _ g3
  have sx5 := sx3.trans (SX.same t5)
  generalize upd H' e5 (.lst []) = H5 at t5 ev5 g5 sx5 ⊢
  refine ite2 (fun c2 => ?_) (fun c2 => ?_)
  · refine ⟨_, rfl, p, l, _, xs1, 100, rfl, by decide, by decide, (ev5).dk, by omega, fun n8 H8 xs8 s8 f8 d8 h80 h81 => ⟨(by show 2 ≤ sizeLine; decide), fun v hv => ?_⟩⟩
    have tv := same_new hv (.tup [S_ "number", V.int n8])
    have ev8 := ((ev5).sd s8 d8).same tv
    refine kq (.num n8) (.ref v) _ (a + 1 + 1) xs8 b ks ((sx5.trans (SX.sd s8 hpl.1 hpl.2.1)).trans (SX.same tv)) ev8 (by omega) (by omega) ⟨v, rfl, upd_same⟩ ?_
    exact ⟨Nat.le_refl _, by show 1 ≤ _; omega, Nat.zero_le _, fun _ h => h, fun _ h => .inl h, fun _ _ => (by show -1000000000000 < n8 ∧ n8 < 1000000000000; omega), trivial⟩
  have hne : us ≠ [] := fun z => c2 (by rw [z]; exact decide_eq_true rfl)
  have hpos : 1 ≤ us.length := by
    cases us with
    | nil => exact absurd rfl hne
    | cons _ _ => exact Nat.succ_le_succ (Nat.zero_le _)
  refine ⟨_, rfl, _, rfl, _, rfl, ul, _, rfl, .inl (SqL.of g5), p, l, _, xs1, ((wsV us).length : Int), rfl, by rw [wsV_len]; omega, by rw [wsV_len]; omega, ev5.dk, by omega, fun n8 H8 xs8 s8 f8 d8 h80 h81 => ?_⟩
  rw [wsV_len] at h81
  obtain ⟨w8, hw8, hat8⟩ := wsV_at (ws := us) (d := n8) h80 (by omega)
  have nul : ul ≠ p ∧ ul ≠ l := by
    simp only [List.mem_cons, List.not_mem_nil, or_false, not_or] at n3
    exact ⟨n3.1, n3.2.1⟩
  refine ⟨ul, _, _, _, rfl, rfl, SqL.of (s8 _ _ nul.1 nul.2 g5), hat8, (by show 2 ≤ sizeLine; decide), fun v hv => ?_⟩
  have tv := same_new hv (.tup [S_ "name", V.str (mk w8)])
  have ev8 := (ev5.sd s8 d8).same tv
  refine kq (.nam w8) (.ref v) _ (a + 1 + 1) xs8 b ks ((sx5.trans (SX.sd s8 hpl.1 hpl.2.1)).trans (SX.same tv)) ev8 (by omega) (by omega) ⟨v, rfl, upd_same⟩ ?_
  exact ⟨Nat.le_refl _, by show 1 ≤ _; omega, Nat.zero_le _, fun _ h => h, fun _ h => .inl h, fun KS hk => inSur_known (nuse w8 hw8) hk, trivial⟩
end
end My
set_option Elab.async false
set_option linter.all false
set_option maxRecDepth 100000
set_option maxHeartbeats 8000000
namespace My
open PySem L2 SS
section
variable {P : Program} {w : World} {K : PySem.W.Frag} {mg : Str → Option Value} {base : Heap}
theorem scSs8 : FnScope ["_law_deck_here", "_law_words_here", "_law_known", "_law_left", "_law_around", "_law_found", "_law_k", "_law_word_here", "_law_first"] ["_law_deck_here", "_law_words_here", "_law_known", "_law_left", "_law_around"] (defScope s__law_statements) := ⟨rfl, rfl, rfl, by decide +kernel, rfl, by decide +kernel, by decide +kernel⟩
theorem c_ss8 {d0 k : Nat} (hk : 1 ≤ k) (b_range : mg "range" = none) (b_tuple : mg "tuple" = none) (DR : C0 P w K mg base 1 "_law_draw" spDr) (SN : C0 P w K mg base 1 "_law_seen" spSn) (IN : C0 P w K mg base k "_law_inner" (spIn8 d0)) (EE : C0 P w K mg base k "_law_e" (spE8 d0)) (D : Dn K mg "_law_statements" s__law_statements) : C0 P w K mg base (k + 1) "_law_statements" (spSs8 d0) := by
  obtain ⟨f, fd, F, m⟩ := D.ex
  refine ⟨f, fd, ["_law_deck_here", "_law_words_here", "_law_known", "_law_left", "_law_around"], F.ok scSs8 (fun vs H Q E h => ?_) (fun cdv A outer s H vs Q E hr h => ?_), m, F.kp, F.binds (ps := ["_law_deck_here", "_law_words_here", "_law_known", "_law_left", "_law_around"]) fun _ _ _ _ _ _ us hl => match us, hl with | [_, _, _, _, _], _ => rfl⟩
  · obtain ⟨p, l, wl, ll, kl, ws, a, xs, b, o, d, ks, ar, va, rfl, _⟩ := h
    rfl
  obtain ⟨p, l, wl, ll, kl, ws, a, xs, b, o, d, ks, ar, va, rfl, hoo, ev, har, ⟨p1, p2, p3, p4, p5⟩, kq⟩ := h
  refine ⟨_, pss_cons (ps_set (i := 5) scSs8.nd rfl (Or.inl rfl) (pe_lst pa_nil)) <|
    pss_cons (ps_for PassesOwn.never rfl (pi_range1 rfl b_range (pa_cons (pe_cc DR hr (by omega) pass0 (pa_cons (pv 0) (pa_cons pe_int pa_nil))) pa_nil)) (pg_name (i := 6) scSs8.nd rfl (Or.inl rfl))
      (pss_one (ps_if (pt_cmpR op_gt (pe_ix (r := rIxL K) ix_list (pv 3) pe_int (fun _ _ => rfl)) pe_int (nomark _))
        (pss_cons (ps_asg (pe_op op_sub (pe_ix (r := rIxL K) ix_list (pv 3) pe_int (fun _ _ => rfl)) pe_int) (pg_sub (pv 3) pe_int set_list)) <|
        pss_cons (ps_set (i := 7) scSs8.nd rfl (Or.inl rfl) (pe_ix (r := rIxL K) ix_list (pv 1) (pe_cc DR hr (by omega) pass0 (pa_cons (pv 0) (pa_cons pe_int pa_nil))) (fun _ _ => rfl))) <|
        pss_cons (ps_set (i := 8) scSs8.nd rfl (Or.inl rfl) (pe_tup pa_nil)) <|
        C8.pss_cut (ps_if (PW.pt (pw_and (pt_cmpR op_eq (pe_cc DR hr (by omega) pass0 (pa_cons (pv 0) (pa_cons pe_int pa_nil))) pe_int (nomark _)) (pw_and1 (pt_cmpR op_gt (pe_ix (r := rIxL K) ix_list (pv 3) pe_int (fun _ _ => rfl)) pe_int (nomark _)))))
          (pss_one (ps_set (i := 8) scSs8.nd rfl (Or.inl rfl) (pe_cc IN hr (by omega) pass0 (pa_cons (pv 0) (pa_cons (pv 1) (pa_cons (pv 2) (pa_cons (pv 3) (pa_cons (pv 4) pa_nil))))))))
          (pss_nil)) <|
        C8.pss_cut (ps_if (PW.pt (pw_and (pt_cmpR (op_eqNil hr.units) (pe_cc SN hr (by omega) pass0 (pa_cons (pe_lst (pa_cons (pv 7) pa_nil)) (pa_cons (pv 4) pa_nil))) (pe_lst pa_nil) (nomark _)) (pw_and1 (pt_cmpR op_notIn_seq (pv 7) (pv 2) (by rfl)))))
          (pss_one (ps_expr (pe_bm PySem.F.plainAttrs_list PySem.F.slot_list_append PySem.F.type_list_append mt_append (pv 2) (pa_cons (pv 7) pa_nil))))
          (pss_nil)) <|
        pss_one (ps_if (pt_cmpR (op_neT0 hr.units) (pv 8) (pe_tup pa_nil) (nomark _))
          (pss_one (ps_expr (pe_bm PySem.F.plainAttrs_list PySem.F.slot_list_append PySem.F.type_list_append mt_append (pv 5) (pa_cons (pe_tup (pa_cons pe_str (pa_cons (pv 8) (pa_cons (pv 7) (pa_cons (pe_cc IN hr (by omega) pass0 (pa_cons (pv 0) (pa_cons (pv 1) (pa_cons (pv 2) (pa_cons (pv 3) (pa_cons (pv 4) pa_nil)))))) pa_nil))))) pa_nil))))
          (pss_one (ps_expr (pe_bm PySem.F.plainAttrs_list PySem.F.slot_list_append PySem.F.type_list_append mt_append (pv 5) (pa_cons (pe_tup (pa_cons pe_str (pa_cons (pv 7) (pa_cons (pe_cc EE hr (by omega) pass0 (pa_cons (pv 0) (pa_cons (pv 1) (pa_cons (pv 2) (pa_cons (pv 3) (pa_cons (pv 4) pa_nil)))))) pa_nil)))) pa_nil))))))
        (pss_nil)))) <|
    pss_one (ps_ret (pe_callTy call_tuple_of (by rfl) b_tuple (by decide +kernel) (pa_cons (pv 5) pa_nil))), ?_⟩
  have hpl : p ∈ [p, l, ll, kl] ∧ l ∈ [p, l, ll, kl] ∧ ll ∈ [p, l, ll, kl] ∧ kl ∈ [p, l, ll, kl] := by simp
  have lo1 : ∀ ps ∈ ar, ∀ w ∈ ps, ∀ c ∈ w, c < 128 := fun ps hps w hw => ev.lo w ((p1 ps hps).2 w hw)
  refine ⟨by show 0 ≤ sizeLine; decide, fun fl hfl => ?_⟩
  have nf := ev.ne hfl
  have nfw := ev.newW hfl
  have nf4 := nf
  simp only [List.mem_cons, List.not_mem_nil, or_false, not_or] at nf4
  have c1 := same_new hfl (.lst [])
  have e1 : upd H fl (.lst []) fl = some (.lst []) := upd_same
  generalize upd H fl (.lst []) = H1 at c1 e1 ⊢
  have ev1 := ev.same c1
  refine ⟨_, rfl, p, l, a, xs, _, rfl, by decide, by decide, ev1.dk, by omega, fun n H2 xs2 s2 f2 d2 hn0 hn1 => ⟨_, rfl, by omega, by omega, ?_⟩⟩
  obtain ⟨kn, rfl⟩ := Int.eq_ofNat_of_zero_le hn0
  have ev2 := ev1.sd s2 d2
  refine for_range (lo := 0) (n := ((kn : Nat) : Int).toNat) (fun i σ H' => ∃ (ss : Sts) (vs : List V) (a' : Nat) (xs' : List Int) (b' : Nat) (ks' : List T) (v6 v7 v8 v9 : Option V), σ = [some (.ref p), some (.ref wl), some (.ref kl), some (.ref ll), some va, some (.ref fl), v6, v7, v8] ∧ SX [p, l, ll, kl] H H' ∧ V58 H' p l wl ll kl ws a' xs' b' o d ks' ∧ a' + 16 * b' ≤ a + 16 * b + 1 ∧ ks'.length + b' ≤ ks.length + b ∧ H' fl = some (.lst vs) ∧ AtSs H' ss vs ∧ Ss8 ar ks ks' d b b' ss ∧ vs.length ≤ i)
    ⟨.nil, [], a + 1, xs2, b, ks, none, none, none, none, rfl, (SX.same c1).trans (SX.sd s2 hpl.1 hpl.2.1), ev2, by omega, by omega, s2 _ _ nf4.1 nf4.2.1 e1, rfl, Ss8.nil, Nat.zero_le _⟩ ?_ ?_
  · rintro i σ H3 hi ⟨ss, vs, a', xs', b', ks', v6, v7, v8, v9, rfl, s3, ev3, h1, h4, f3, at3, g3, l3⟩
    have hi' : i < kn := by omega
    refine ⟨_, rfl, ll, _, _, _, rfl, rfl, SqL.of ev3.f, atI_0, _, _, rfl, rfl, _, rfl, ?_⟩
    refine ite2 (fun c => ?_) (fun c => ?_)
    · have hpos : (0 : Int) < ((b' : Nat) : Int) := of_decide_eq_true c
      obtain ⟨b1, rfl⟩ : ∃ b1, b' = b1 + 1 := ⟨b' - 1, by omega⟩
      refine ⟨_, rfl, ll, _, _, _, rfl, rfl, SqL.of ev3.f, atI_0, _, _, rfl, rfl, _, rfl, ll, _, 0, 0, rfl, rfl, ev3.f, rfl, ?_⟩
      have hset : [V.int ((b1 + 1 : Nat) : Int), V.int (o : Nat), V.int (d : Nat)].set 0 (V.int (((b1 + 1 : Nat) : Int) - 1)) = [V.int (b1 : Nat), V.int (o : Nat), V.int (d : Nat)] := by
        rw [show ((b1 + 1 : Nat) : Int) - 1 = ((b1 : Nat) : Int) by omega]
        rfl
      rw [hset]
      have ev4 := ev3.left b1 d
      have s4 : SX [p, l, ll, kl] H3 (upd H3 ll (.lst [.int (b1 : Nat), .int (o : Nat), .int (d : Nat)])) := SX.upd _ hpl.2.2.1
      have t4 := ev3.tups s4
      have f4 := s4 _ _ nf f3
      have at4 := at3.on_ t4
      generalize upd H3 ll (.lst [.int (b1 : Nat), .int (o : Nat), .int (d : Nat)]) = H4 at ev4 s4 f4 at4 ⊢
      refine ⟨_, rfl, _, rfl, p, l, a', xs', 5, rfl, by decide, by decide, ev4.dk, by omega, fun n5 H5 xs5 s5 f5 d5 h50 h51 => ?_⟩
      have ev5 := ev4.sd s5 d5
      have sx5 : SX [p, l, ll, kl] H3 H5 := s4.trans (SX.sd s5 hpl.1 hpl.2.1)
      have f5 := s5 _ _ nf4.1 nf4.2.1 f4
      have at5 := at4.on_ (ev4.tups (SX.sd s5 hpl.1 hpl.2.1))
      obtain ⟨w5, hw5, hat5⟩ := wsV_at (ws := ws) (d := n5) h50 (by rw [ev5.l7]; omega)
      refine ⟨wl, _, _, _, rfl, rfl, SqL.of ev5.w, hat5, ?_⟩
      refine ⟨by show 0 ≤ sizeLine; decide, fun e0 he0 => ?_⟩
      have t6 := same_new he0 (.tup [])
      have ev6 := ev5.same t6
      have sx6 := sx5.trans (SX.same t6)
      have f6 := t6 _ _ f5
      have g6 : upd H5 e0 (.tup []) e0 = some (.tup []) := upd_same
      have at6 := at5.on_ (same_tups t6)
      generalize upd H5 e0 (.tup []) = H6 at ev6 sx6 f6 g6 at6 ⊢
      refine ⟨fun σ H' => ∃ (sx : Sts) (q1 : Addr) (us1 : List V) (a7 : Nat) (xs7 : List Int) (b7 : Nat) (ks7 : List T) (v6 : Option V), σ = [some (.ref p), some (.ref wl), some (.ref kl), some (.ref ll), some va, some (.ref fl), v6, some (.str (mk w5)), some (.ref q1)] ∧ SX [p, l, ll, kl] H6 H' ∧ V58 H' p l wl ll kl ws a7 xs7 b7 o d ks7 ∧ H' q1 = some (.tup us1) ∧ AtSs H' sx us1 ∧ Ss8 ar ks' ks7 (d - 1) b1 b7 sx ∧ (us1 ≠ [] → 1 ≤ d) ∧ a7 + 16 * b7 ≤ a' + 3 + 16 * b1 ∧ ks7.length + b7 ≤ ks'.length + b1, ?_, ?_⟩
      · refine ⟨_, rfl, p, l, _, xs5, 4, rfl, by decide, by decide, ev6.dk, by omega, fun n7 H7 xs7 s7 f7 d7 h70 h71 => ?_⟩
        have ev7 := ev6.sd s7 d7
        have g7 := s7 _ _ (ev5.dk.ne he0).1 (ev5.dk.ne he0).2 g6
        have stay : ∃ (sx : Sts) (q1 : Addr) (us1 : List V) (a7 : Nat) (xs7_1 : List Int) (b7 : Nat) (ks7 : List T) (v6 : Option V), ([some (.ref p), some (.ref wl), some (.ref kl), some (.ref ll), some va, some (.ref fl), some (.int (0 + ((i : Nat) : Int))), some (.str (mk w5)), some (.ref e0)] : St) = [some (.ref p), some (.ref wl), some (.ref kl), some (.ref ll), some va, some (.ref fl), v6, some (.str (mk w5)), some (.ref q1)] ∧ SX [p, l, ll, kl] H6 H7 ∧ V58 H7 p l wl ll kl ws a7 xs7_1 b7 o d ks7 ∧ H7 q1 = some (.tup us1) ∧ AtSs H7 sx us1 ∧ Ss8 ar ks' ks7 (d - 1) b1 b7 sx ∧ (us1 ≠ [] → 1 ≤ d) ∧ a7 + 16 * b7 ≤ a' + 3 + 16 * b1 ∧ ks7.length + b7 ≤ ks'.length + b1 :=
          ⟨.nil, e0, [], _, xs7, b1, ks', _, rfl, SX.sd s7 hpl.1 hpl.2.1, ev7, g7, rfl, Ss8.nil, fun z => absurd rfl z, by omega, by omega⟩
        refine ⟨rfl, _, rfl, ?_⟩
        refine ite2 (fun c2 => ?_) (fun c2 => stay)
        refine ⟨_, rfl, ll, _, _, _, rfl, rfl, SqL.of ev7.f, atI_nat (j := 2) rfl, _, _, rfl, rfl, _, rfl, ?_⟩
        refine ite2 (fun c3 => ?_) (fun c3 => stay)
        have hd : (0 : Int) < ((d : Nat) : Int) := of_decide_eq_true c3
        obtain ⟨d, rfl⟩ : ∃ d', d = d' + 1 := ⟨d - 1, by omega⟩
        refine ⟨_, rfl, _, rfl, _, rfl, _, rfl, _, rfl, p, l, wl, ll, kl, ws, _, xs7, b1, o, d, ks', ar, va, rfl, hoo, ev7, har.sx ((s3.trans sx6).trans (SX.sd s7 hpl.1 hpl.2.1)), ⟨p1, p2, p3, by omega, by omega⟩, fun sx q1 us1 H8 a8 xs8 b8 ks8 s8 ev8 k1 k2 hq8 at8 g8 => ?_⟩
        exact ⟨sx, q1, us1, a8, xs8, b8, ks8, _, rfl, (SX.sd s7 hpl.1 hpl.2.1).trans s8, ev8, hq8, at8, g8, fun _ => by omega, by omega, by omega⟩
      rintro σ H7 ⟨sx, q1, us1, a7, xs7, b7, ks7, v6', rfl, s7, ev7, hq7, at7, g7, hd7, k71, k72⟩
      have t7 := ev6.tups s7
      have f7 := s7 _ _ nf f6
      have as7 := at6.on_ t7
      have sx7 := sx6.trans s7
      have g7le := g7.le
      refine ⟨fun σ H' => ∃ (ks8 : List T), σ = [some (.ref p), some (.ref wl), some (.ref kl), some (.ref ll), some va, some (.ref fl), v6', some (.str (mk w5)), some (.ref q1)] ∧ SX [p, l, ll, kl] H7 H' ∧ V58 H' p l wl ll kl ws a7 xs7 b7 o d ks8 ∧ (∀ w ∈ ks7, w ∈ ks8) ∧ (∀ w ∈ ks8, w ∈ ks7 ∨ (w = w5 ∧ ∀ ps ∈ ar, w5 ∉ ps)) ∧ (w5 ∈ ks8 ∨ ∃ ps ∈ ar, w5 ∈ ps) ∧ ks8.length ≤ ks7.length + 1, ?_, ?_⟩
      · refine ⟨_, rfl, by show 1 ≤ sizeLine; decide, fun q2 hq2 => ?_⟩
        have u1 := same_new hq2 (.lst [V.str (mk w5)])
        have gu1 : upd H7 q2 (.lst [V.str (mk w5)]) q2 = some (.lst (wsV [w5])) := upd_same
        have evu := ev7.same u1
        have haru := (har.sx (s3.trans sx7)).sx (SX.same u1)
        generalize upd H7 q2 (.lst [V.str (mk w5)]) = H8 at u1 gu1 evu haru ⊢
        refine ⟨_, rfl, q2, [w5], va, [p, l, ll, kl], ar, rfl, gu1, haru, by omega, by show 1 ≤ 1000; decide, fun H9 q3 u2 hq3 gu2 => ⟨by show 0 ≤ sizeLine; decide, fun q4 hq4 => ?_⟩⟩
        have u3 := same_new hq4 (.lst [])
        refine ⟨q3, q4, _, rfl, rfl, SqL.of (u3 _ _ gu2), SqL.of upd_same, _, rfl, ?_⟩
        have u123 := (u1.trans u2).trans u3
        have ev10 := ev7.same u123
        generalize upd H9 q4 (.lst []) = H10 at u123 ev10 ⊢
        refine ite2 (fun c2 => ?_) (fun c2 => ?_)
        · have hno : ∀ ps ∈ ar, w5 ∉ ps := fun ps hps hw => by
            have : seenW ar [w5] = [w5] := List.filter_cons_of_pos (decide_eq_true ⟨ps, hps, hw⟩)
            rw [this] at c2
            exact absurd c2 (by simp [wsV])
          refine ⟨_, rfl, _, rfl, kl, wsV ks7, rfl, .inl (SqL.of ev10.k), rfl, flat_ws ks7, _, rfl, ?_⟩
          rw [in_ws]
          refine ite2 (fun cn => ?_) (fun cn => ?_)
          · have hn2 : w5 ∉ ks7 := by simpa using cn
            have hk8 : ∀ w ∈ ks7 ++ [w5], w ∈ ws := fun w hw => by
              rcases List.mem_append.mp hw with hw | hw
              · exact ev7.ki w hw
              · simp only [List.mem_cons, List.not_mem_nil, or_false] at hw
                subst hw
                exact hw5
            refine ⟨_, rfl, .inl ⟨rfl, _, SqL.of ev10.k⟩, _, rfl, kl, _, _, rfl, rfl, ev10.k, by rw [wsV_len, sizeLine_eq]; omega, ?_⟩
            have e9 : wsV ks7 ++ [V.str (mk w5)] = wsV (ks7 ++ [w5]) := by unfold wsV; rw [List.map_append]; rfl
            rw [e9]
            refine ⟨ks7 ++ [w5], rfl, (SX.same u123).trans (SX.upd _ hpl.2.2.2), ev10.know _ hk8, fun w hw => List.mem_append_left _ hw, fun w hw => ?_, .inl (List.mem_append_right _ List.mem_cons_self), by rw [List.length_append]; exact Nat.le_refl _⟩
            rcases List.mem_append.mp hw with hw | hw
            · exact .inl hw
            · simp only [List.mem_cons, List.not_mem_nil, or_false] at hw
              exact .inr ⟨hw, hno⟩
          · have hn2 : w5 ∈ ks7 := by simpa using cn
            exact ⟨ks7, rfl, SX.same u123, ev10, fun _ h => h, fun _ h => .inl h, .inl hn2, by omega⟩
        · have hyes : ∃ ps ∈ ar, w5 ∈ ps := by
            by_cases z : ∃ ps ∈ ar, w5 ∈ ps
            · exact z
            · have : seenW ar [w5] = [] := List.filter_cons_of_neg (by simpa using z)
              rw [this] at c2
              exact absurd (decide_eq_true rfl) c2
          exact ⟨ks7, rfl, SX.same u123, ev10, fun _ h => h, fun _ h => .inl h, .inr hyes, by omega⟩
      rintro σ H8 ⟨ks8, rfl, s8, ev8, m8, n8, i8, l8⟩
      have t8 := ev7.tups s8
      have f8 := s8 _ _ nf f7
      have as8 := as7.on_ t8
      have hq8 := t8 _ _ hq7
      have at8 := at7.on_ t8
      have sx8 := sx7.trans s8
      refine ⟨_, rfl, by show 0 ≤ sizeLine; decide, fun q5 hq5 => ?_⟩
      have u5 := same_new hq5 (.tup [])
      refine ⟨q1, q5, us1, rfl, rfl, SqT.of (u5 _ _ hq8), SqT.of upd_same, _, rfl, ?_⟩
      have ev9 := ev8.same u5
      have f9 := u5 _ _ f8
      have as9 := as8.on_ (same_tups u5)
      have hq9 := u5 _ _ hq8
      have at9 := at8.on_ (same_tups u5)
      have sx9 := sx8.trans (SX.same u5)
      generalize upd H8 q5 (.tup []) = H9 at u5 ev9 f9 as9 hq9 at9 sx9 ⊢
      refine ite2 (fun c2 => ?_) (fun c2 => ?_)
      · have hne : us1 ≠ [] := by simpa using c2
        have hd1 := hd7 hne
        obtain ⟨d, rfl⟩ : ∃ d', d = d' + 1 := ⟨d - 1, by omega⟩
        refine ⟨_, rfl, .inl ⟨rfl, _, SqL.of f9⟩, _, rfl, _, rfl, _, rfl, _, rfl, _, rfl, _, rfl, _, rfl, p, l, wl, ll, kl, ws, a7, xs7, b7, o, d, ks8, ar, va, rfl, hoo, ev9, har.sx (s3.trans sx9), ⟨p1, p2, p3, by omega, by omega⟩, fun sy q6 us6 H10 a10 xs10 b10 ks10 s10 ev10 k1 k2 hq10 at10 g10 => ?_⟩
        have t10 := ev9.tups s10
        have f10 := s10 _ _ nf f9
        refine ⟨by show 4 ≤ sizeLine; decide, fun v hv => ?_⟩
        have tv := same_new hv (.tup [S_ "try", V.ref q1, V.str (mk w5), V.ref q6])
        have gv : upd H10 v (.tup [S_ "try", V.ref q1, V.str (mk w5), V.ref q6]) v = some (.tup [S_ "try", V.ref q1, V.str (mk w5), V.ref q6]) := upd_same
        generalize upd H10 v (.tup [S_ "try", V.ref q1, V.str (mk w5), V.ref q6]) = H11 at tv gv ⊢
        have t911 := t10.trans (same_tups tv)
        have f11 := tv _ _ f10
        refine ⟨fl, vs, .ref v, rfl, rfl, f11, by rw [sizeLine_eq]; omega, ?_⟩
        have tu : Tups H11 (upd H11 fl (.lst (vs ++ [.ref v]))) := tups_lst f11
        have g10le := g10.le
        have h7n := g7.n
        have h10n := g10.n
        have h7o := g7.o
        have h10o := g10.o
        refine ⟨ss.snoc (.tri sx w5 sy), vs ++ [.ref v], a10, xs10, b10, ks10, _, _, _, none, rfl, ?_, (ev10.same tv).off nf nfw _, by omega, by omega, upd_same, Sts.at_snoc ((as9.on_ t911).on_ tu) ?_, g3.snoc ?_, by rw [List.length_append]; show vs.length + 1 ≤ _; omega⟩
        · intro q u hq h
          rw [upd_ne (ne_of_none h hfl)]
          exact tv _ _ (s10 _ _ hq (sx9 _ _ hq (s3 _ _ hq h)))
        · exact ⟨v, q1, us1, q6, us6, rfl, tu _ _ gv, tu _ _ (t911 _ _ hq9), tu _ _ (tv _ _ hq10), (at9.on_ t911).on_ tu, (at10.on_ (same_tups tv)).on_ tu⟩
        · refine ⟨by omega, by show 1 + nSs sx + nSs sy ≤ _; omega, by show 1 + max (oSs sx) (oSs sy) ≤ _; omega, fun w hw => g10.mono w (m8 w (g7.mono w hw)), fun w hw => ?_, fun KS hk => ⟨?_, g7.sd KS fun w hw => hk w (g10.mono w (m8 w hw)), g10.sd KS hk⟩, ⟨g7.f, g10.f⟩⟩
          · show _ ∨ w ∈ (if w5 ∈ ar.flatten then [] else [w5]) ++ stSs ar.flatten sx ++ stSs ar.flatten sy
            rcases g10.new w hw with hw | hw
            · rcases n8 w hw with hw | ⟨rfl, hno⟩
              · rcases g7.new w hw with hw | hw
                · exact .inl hw
                · exact .inr (List.mem_append_left _ (List.mem_append_right _ hw))
              · refine .inr (List.mem_append_left _ (List.mem_append_left _ ?_))
                rw [if_neg (fun z => by obtain ⟨ps, h1, h2⟩ := List.mem_flatten.mp z; exact hno ps h1 h2)]
                exact List.mem_cons_self
            · exact .inr (List.mem_append_right _ hw)
          · refine inSur_known (ks := ks8) i8 fun w hw => hk w (g10.mono w hw)
      · refine ⟨_, rfl, .inl ⟨rfl, _, SqL.of f9⟩, _, rfl, _, rfl, _, rfl, _, rfl, _, rfl, _, rfl, p, l, wl, ll, kl, ws, a7, xs7, b7, o, d, ks8, ar, va, rfl, hoo, ev9, har.sx (s3.trans sx9), ⟨p1, p2, p3, by omega, by omega⟩, by omega, fun e ve H10 a10 xs10 b10 ks10 s10 ev10 k1 k2 at10 g10 => ?_⟩
        have t10 := ev9.tups s10
        have f10 := s10 _ _ nf f9
        refine ⟨by show 3 ≤ sizeLine; decide, fun v hv => ?_⟩
        have tv := same_new hv (.tup [S_ "set", V.str (mk w5), ve])
        have gv : upd H10 v (.tup [S_ "set", V.str (mk w5), ve]) v = some (.tup [S_ "set", V.str (mk w5), ve]) := upd_same
        generalize upd H10 v (.tup [S_ "set", V.str (mk w5), ve]) = H11 at tv gv ⊢
        have t911 := t10.trans (same_tups tv)
        have f11 := tv _ _ f10
        refine ⟨fl, vs, .ref v, rfl, rfl, f11, by rw [sizeLine_eq]; omega, ?_⟩
        have tu : Tups H11 (upd H11 fl (.lst (vs ++ [.ref v]))) := tups_lst f11
        have g10le := g10.le
        have h7n := g7.n
        have h10n := g10.n
        have h10o := g10.o
        have hs1 : us1 = [] := by
          by_cases z : us1 = []
          · exact z
          · exact absurd (by simpa using z) c2
        have hsx : sx = .nil := by
          subst hs1
          cases sx with
          | nil => rfl
          | cons x y => obtain ⟨v', vs', h, _⟩ := at9; cases h
        subst hsx
        refine ⟨ss.snoc (.set w5 e), vs ++ [.ref v], a10, xs10, b10, ks10, _, _, _, none, rfl, ?_, (ev10.same tv).off nf nfw _, by omega, by omega, upd_same, Sts.at_snoc ((as9.on_ t911).on_ tu) ?_, g3.snoc ?_, by rw [List.length_append]; show vs.length + 1 ≤ _; omega⟩
        · intro q u hq h
          rw [upd_ne (ne_of_none h hfl)]
          exact tv _ _ (s10 _ _ hq (sx9 _ _ hq (s3 _ _ hq h)))
        · exact ⟨v, ve, rfl, tu _ _ gv, (at10.on_ (same_tups tv)).on_ tu⟩
        · refine ⟨by omega, by show 1 + nE e ≤ _; omega, by show oE e ≤ _; omega, fun w hw => g10.mono w (m8 w (g7.mono w hw)), fun w hw => ?_, fun KS hk => ⟨?_, g10.sd KS hk⟩, g10.f⟩
          · show _ ∨ w ∈ (if w5 ∈ ar.flatten then [] else [w5]) ++ stE ar.flatten e
            rcases g10.new w hw with hw | hw
            · rcases n8 w hw with hw | ⟨rfl, hno⟩
              · rcases g7.new w hw with hw | hw
                · exact .inl hw
                · cases hw
              · refine .inr (List.mem_append_left _ ?_)
                rw [if_neg (fun z => by obtain ⟨ps, h1, h2⟩ := List.mem_flatten.mp z; exact hno ps h1 h2)]
                exact List.mem_cons_self
            · exact .inr (List.mem_append_right _ hw)
          · refine inSur_known (ks := ks8) i8 fun w hw => hk w (g10.mono w hw)
    · exact ⟨ss, vs, a', xs', b', ks', _, _, _, v9, rfl, s3, ev3, h1, h4, f3, at3, g3, by omega⟩
  rintro σ H3 ⟨ss, vs, a', xs', b', ks', v6, v7, v8, v9, rfl, s3, ev3, h1, h4, f3, at3, g3, l3⟩
  refine ⟨_, rfl, fl, _, rfl, .inl ⟨SqL.of f3, fun tq htq => ?_⟩⟩
  have ct := same_new htq (.tup vs)
  exact kq ss tq vs _ a' xs' b' ks' (s3.trans (SX.same ct)) (ev3.same ct) h1 h4 upd_same (at3.on_ (same_tups ct)) g3
theorem ss8_none (k : Nat) (D : Dn K mg "_law_statements" s__law_statements) : C0 P w K mg base (k + 1) "_law_statements" (prevS8 0) := by
  obtain ⟨f, fd, F, m⟩ := D.ex
  exact ⟨f, fd, ["_law_deck_here", "_law_words_here", "_law_known", "_law_left", "_law_around"], F.ok scSs8 (fun vs H Q E h => h.elim) (fun cdv A outer s H vs Q E hr h => h.elim), m, F.kp, F.binds (ps := ["_law_deck_here", "_law_words_here", "_law_known", "_law_left", "_law_around"]) fun _ _ _ _ _ _ us hl => match us, hl with | [_, _, _, _, _], _ => rfl⟩
theorem ss8_step {d k : Nat} (hk : 1 ≤ k) (b_len : mg "len" = none) (b_range : mg "range" = none) (b_tuple : mg "tuple" = none) (DR : C0 P w K mg base 1 "_law_draw" spDr) (SN : C0 P w K mg base 1 "_law_seen" spSn) (D1 : Dn K mg "_law_e" s__law_e) (D2 : Dn K mg "_law_inner" s__law_inner) (D3 : Dn K mg "_law_statements" s__law_statements) (SP : C0 P w K mg base k "_law_statements" (prevS8 d)) : C0 P w K mg base (k + 3) "_law_statements" (spSs8 d) := by
  have IN := c_in8 hk SP D2
  have EE := c_e8 (k := k + 1) (by omega) b_len b_range b_tuple DR SN IN D1
  exact c_ss8 (k := k + 2) (by omega) b_range b_tuple DR SN (IN.mono (by omega)) EE D3
theorem ss8_all (b_len : mg "len" = none) (b_range : mg "range" = none) (b_tuple : mg "tuple" = none) (DR : C0 P w K mg base 1 "_law_draw" spDr) (SN : C0 P w K mg base 1 "_law_seen" spSn) (D1 : Dn K mg "_law_e" s__law_e) (D2 : Dn K mg "_law_inner" s__law_inner) (D3 : Dn K mg "_law_statements" s__law_statements) : ∀ d : Nat, C0 P w K mg base (3 * d + 4) "_law_statements" (spSs8 d)
  | 0 => ss8_step (k := 1) (by omega) b_len b_range b_tuple DR SN D1 D2 D3 (ss8_none 0 D3)
  | d + 1 => ss8_step (k := 3 * d + 4) (by omega) b_len b_range b_tuple DR SN D1 D2 D3 (ss8_all b_len b_range b_tuple DR SN D1 D2 D3 d)
end
end My
set_option Elab.async false
set_option linter.all false
set_option maxRecDepth 100000
set_option maxHeartbeats 8000000
namespace My
open PySem L2 SS
abbrev W8 := Nd × Int × List (List T)
def arI (n : Nd) (ar : List (List T)) : List (List T) := if isBlk n = true then blkP n :: ar else ar
def cdI (n : Nd) (c : Int) (a : Nat) : Int := if isBlk n = true then ((a : Nat) : Int) else c
def wk8 : Nat → Nd → Int → List (List T) → Nat → List W8
  | 0, _, _, _, _ => []
  | h + 1, n, c, ar, a => (n, c, ar) :: (parts n).foldl (fun acc q => acc ++ wk8 h q (cdI n c a) (arI n ar) (a + 1 + acc.length)) []
def wk8L (h : Nat) (qs : List Nd) (c : Int) (ar : List (List T)) (a : Nat) : List W8 := qs.foldl (fun acc q => acc ++ wk8 h q c ar (a + acc.length)) []
theorem wk8_succ (h : Nat) (n : Nd) (c : Int) (ar : List (List T)) (a : Nat) : wk8 (h + 1) n c ar a = (n, c, ar) :: wk8L h (parts n) (cdI n c a) (arI n ar) (a + 1) := rfl
theorem wk8L_snoc (h : Nat) (qs : List Nd) (q : Nd) (c : Int) (ar : List (List T)) (a : Nat) : wk8L h (qs ++ [q]) c ar a = wk8L h qs c ar a ++ wk8 h q c ar (a + (wk8L h qs c ar a).length) := by
  unfold wk8L
  rw [List.foldl_append]
  rfl
theorem wk8_len : ∀ (h : Nat) (n : Nd) (c : Int) (ar : List (List T)) (a : Nat), hN n ≤ h → (wk8 h n c ar a).length = nN n
  | 0, n, c, ar, a, hh => by have := hN_pos n; omega
  | h + 1, n, c, ar, a, hh => by
    rw [wk8_succ, List.length_cons, ← parts_n n]
    congr 1
    have gen : ∀ (qs : List Nd) (acc : List W8), (∀ q ∈ qs, hN q < hN n) → (qs.foldl (fun acc q => acc ++ wk8 h q (cdI n c a) (arI n ar) (a + 1 + acc.length)) acc).length = acc.length + (qs.map nN).sum := fun qs => by
      induction qs with
      | nil => intro acc _; simp
      | cons q r ih =>
        intro acc hr
        have hq := hr q List.mem_cons_self
        rw [List.foldl_cons, ih _ fun x hx => hr x (List.mem_cons_of_mem _ hx), List.length_append, wk8_len h q _ _ _ (by omega), List.map_cons, List.sum_cons]
        omega
    have := gen (parts n) [] fun q hq => (parts_h n q hq).1
    unfold wk8L
    rw [this]
    simp
theorem wk8L_len {h : Nat} {c : Int} {ar : List (List T)} : ∀ (qs : List Nd) (a : Nat), (∀ q ∈ qs, hN q ≤ h) → (wk8L h qs c ar a).length = (qs.map nN).sum := by
  intro qs a hq
  have gen : ∀ (qs : List Nd) (acc : List W8), (∀ q ∈ qs, hN q ≤ h) → (qs.foldl (fun acc q => acc ++ wk8 h q c ar (a + acc.length)) acc).length = acc.length + (qs.map nN).sum := fun qs => by
    induction qs with
    | nil => intro acc _; simp
    | cons q r ih =>
      intro acc hr
      rw [List.foldl_cons, ih _ fun x hx => hr x (List.mem_cons_of_mem _ hx), List.length_append, wk8_len h q _ _ _ (hr q List.mem_cons_self), List.map_cons, List.sum_cons]
      omega
  have := gen qs [] hq
  unfold wk8L
  rw [this]
  simp
def At8 (B : List Addr) (H : Hp) (t : W8) (v : V) : Prop := ∃ p vn va, v = .ref p ∧ H p = some (.tup [vn, .int t.2.1, va]) ∧ AtN H t.1 vn ∧ AtAr B H t.2.2 va
theorem At8.sx {B : List Addr} {H H' : Hp} (s : SX B H H') (tt : Tups H H') {t : W8} {v : V} (h : At8 B H t v) : At8 B H' t v := by
  obtain ⟨p, vn, va, e, h1, h2, h3⟩ := h
  exact ⟨p, vn, va, e, tt _ _ h1, h2.on tt, h3.sx s⟩
theorem sx_tups8 {fl : Addr} {H H' : Hp} {us : List V} (s : SX [fl] H H') (h : H fl = some (.lst us)) : Tups H H' := by
  have key : ∀ q u, q ∈ [fl] → H q = some u → ∃ vs, u = .lst vs := fun q u hq e => by
    simp only [List.mem_cons, List.not_mem_nil, or_false] at hq
    subst hq
    rw [h] at e
    cases e
    exact ⟨_, rfl⟩
  exact ⟨fun q ys e => s q _ (fun z => by obtain ⟨vs, e2⟩ := key q _ z e; cases e2) e, fun q o_ u_ e => s q _ (fun z => by obtain ⟨vs, e2⟩ := key q _ z e; cases e2) e⟩
theorem cat_at {α : Type} {R : Hp → α → V → Prop} {K : PySem.W.Frag} {H : Hp} {p r : Addr} {us ws : List V} {A B : List α} (hp : H p = some (.tup us)) (hr : H r = some (.tup ws)) (ha : AtL R H A us) (hb : AtL R H B ws) (hR : ∀ {H H' : Hp} (x v), Same H H' → R H x v → R H' x v) (hl : us.length + ws.length ≤ 5000) {Q : VK} (k : ∀ H' q zs, Same H H' → H' q = some (.tup zs) → AtL R H' (A ++ B) zs → Q (.ref q) H') : rCatA K (.ref p) (.ref r) H Q := by
  refine ⟨p, r, us, ws, rfl, rfl, SqT.of hp, SqT.of hr, by rw [sizeLine_eq]; omega, fun z => ?_, fun _ z => ?_, fun _ _ q hq => ?_⟩
  · subst z
    have e := ha.len
    have : A = [] := List.eq_nil_of_length_eq_zero e.symm
    subst this
    exact k H r ws (Same.refl _) hr hb
  · subst z
    have e := hb.len
    have : B = [] := List.eq_nil_of_length_eq_zero e.symm
    subst this
    exact k H p us (Same.refl _) hp (by rw [List.append_nil]; exact ha)
  · have s := same_new hq (.tup (us ++ ws))
    exact k _ q _ s upd_same (atl_app (AtL.onR (fun x v z => hR x v s z) ha) (AtL.onR (fun x v z => hR x v s z) hb))
def fN : Nd → Prop
  | .e x => fE x
  | .s x => fS x
theorem fN_stl : ∀ (ss : Sts), fSs ss → ∀ q ∈ stl ss, fN q
  | .nil, _, q, h => by cases h
  | .cons s r, g, q, h => by
    rcases List.mem_cons.mp h with rfl | h
    · exact g.1
    · exact fN_stl r g.2 q h
section
variable {P : Program} {w : World} {K : PySem.W.Frag} {mg : Str → Option Value} {base : Heap}
def spW8 (h : Nat) : Sp := fun vs H Q _ => ∃ (n : Nd) (v : V) (a : Nat) (pl : Addr) (c : Int) (ar : List (List T)) (va : V) (fl : Addr) (us0 : List V), vs = [v, .int (a : Nat), .ref pl, .ref fl] ∧ H pl = some (.tup [.int c, va]) ∧ AtN H n v ∧ gdN n ∧ fN n ∧ hN n ≤ h ∧ nN n ≤ 1100 ∧ AtAr [fl] H ar va ∧ ar.length + h ≤ 200 ∧ H fl = some (.lst us0) ∧ us0.length + nN n ≤ 5000 ∧
  ∀ (H' : Hp) (us1 : List V), SX [fl] H H' → H' fl = some (.lst (us0 ++ us1)) → AtL (At8 [fl]) H' (wk8 h n c ar a) us1 → us1.length = nN n → Q (.int ((a + nN n : Nat) : Int)) H'
theorem scW8 : FnScope ["_law_part", "_law_at", "_law_place", "_law_found", "_law_code", "_law_around", "_law_number", "_law_each"] ["_law_part", "_law_at", "_law_place", "_law_found"] (defScope s__law_walk) := ⟨rfl, rfl, rfl, by decide +kernel, rfl, by decide +kernel, by decide +kernel⟩
theorem w8_none (k : Nat) (D : Dn K mg "_law_walk" s__law_walk) : C0 P w K mg base (k + 1) "_law_walk" (spW8 0) := by
  obtain ⟨f, fd, F, m⟩ := D.ex
  have no : ∀ vs H Q E, spW8 0 vs H Q E → False := fun vs H Q E h => by
    obtain ⟨n, v, a, pl, c, ar, va, fl, us0, _, _, _, _, _, hh, _⟩ := h
    have := hN_pos n
    omega
  exact ⟨f, fd, ["_law_part", "_law_at", "_law_place", "_law_found"], F.ok scW8 (fun vs H Q E h => (no _ _ _ _ h).elim) (fun cdv A outer s H vs Q E hr h => (no _ _ _ _ h).elim), m, F.kp, F.binds (ps := ["_law_part", "_law_at", "_law_place", "_law_found"]) fun _ _ _ _ _ _ us hl => match us, hl with | [_, _, _, _], _ => rfl⟩
theorem c_w8 {h k : Nat} (hk : 1 ≤ k) (b_list : mg "list" = none) (D : Dn K mg "_law_walk" s__law_walk) (WK : C0 P w K mg base k "_law_walk" (spW8 h)) : C0 P w K mg base (k + 1) "_law_walk" (spW8 (h + 1)) := by
  obtain ⟨f, fd, F, m⟩ := D.ex
  refine ⟨f, fd, ["_law_part", "_law_at", "_law_place", "_law_found"], F.ok scW8 (fun vs H Q E h => ?_) (fun cdv A outer s H vs Q E hr h => ?_), m, F.kp, F.binds (ps := ["_law_part", "_law_at", "_law_place", "_law_found"]) fun _ _ _ _ _ _ us hl => match us, hl with | [_, _, _, _], _ => rfl⟩
  · obtain ⟨n, v, a, pl, c, ar, va, fl, us0, rfl, _⟩ := h
    rfl
  obtain ⟨n, v, a, pl, c, ar, va, fl, us0, rfl, hpl, hat, hok, hf, hh, hn, har, har2, hfl, hus, kq⟩ := h
  refine ⟨_, pss_cons (ps_asg (pv 2) (pg_tup (by rfl) (pgs_cons (pg_name (i := 4) scW8.nd rfl (Or.inl rfl)) (pgs_cons (pg_name (i := 5) scW8.nd rfl (Or.inl rfl)) pgs_nil)))) <|
    pss_cons (ps_expr (pe_bm PySem.F.plainAttrs_list PySem.F.slot_list_append PySem.F.type_list_append mt_append (pv 3) (pa_cons (pe_tup (pa_cons (pv 0) (pa_cons (pv 4) (pa_cons (pv 5) pa_nil)))) pa_nil))) <|
    pss_cons (ps_set (i := 6) scW8.nd rfl (Or.inl rfl) (pe_op op_add (pv 1) pe_int)) <|
    pss_cons (ps_if (pt_cmpR op_eq (pe_ix (r := rIxT K) ix_tup (pv 0) pe_int (fun _ _ => rfl)) pe_str (nomark _))
      (pss_one (ps_for PassesOwn.never rfl (pi_tup (pe_ix (r := rIxT K) ix_tup (pv 0) pe_int (fun _ _ => rfl))) (pg_name (i := 7) scW8.nd rfl (Or.inl rfl))
        (pss_one (ps_set (i := 6) scW8.nd rfl (Or.inl rfl) (pe_cc WK hr (by omega) pass0 (pa_cons (pv 7) (pa_cons (pv 6) (pa_cons (pe_tup (pa_cons (pv 1) (pa_cons (pe_op op_cat (pe_lst (pa_cons (pe_callTy call_list_of (by rfl) b_list (by decide +kernel) (pa_cons (pe_ix (r := rIxT K) ix_tup (pv 0) pe_int (fun _ _ => rfl)) pa_nil)) pa_nil)) (pv 5)) pa_nil))) (pa_cons (pv 3) pa_nil)))))))))
      (pss_nil)) <|
    pss_cons (ps_if (pt_cmpR op_eq (pe_ix (r := rIxT K) ix_tup (pv 0) pe_int (fun _ _ => rfl)) pe_str (nomark _))
      (pss_one (ps_set (i := 6) scW8.nd rfl (Or.inl rfl) (pe_cc WK hr (by omega) pass0 (pa_cons (pe_ix (r := rIxT K) ix_tup (pv 0) pe_int (fun _ _ => rfl)) (pa_cons (pv 6) (pa_cons (pv 2) (pa_cons (pv 3) pa_nil)))))))
      (pss_nil)) <|
    pss_cons (ps_if (pt_cmpR op_eq (pe_ix (r := rIxT K) ix_tup (pv 0) pe_int (fun _ _ => rfl)) pe_str (nomark _))
      (pss_one (ps_for PassesOwn.never rfl (pi_tup (pe_op op_catA (pe_ix (r := rIxT K) ix_tup (pv 0) pe_int (fun _ _ => rfl)) (pe_ix (r := rIxT K) ix_tup (pv 0) pe_int (fun _ _ => rfl)))) (pg_name (i := 7) scW8.nd rfl (Or.inl rfl))
        (pss_one (ps_set (i := 6) scW8.nd rfl (Or.inl rfl) (pe_cc WK hr (by omega) pass0 (pa_cons (pv 7) (pa_cons (pv 6) (pa_cons (pv 2) (pa_cons (pv 3) pa_nil)))))))))
      (pss_nil)) <|
    pss_one (ps_ret (pv 6)), ?_⟩
  refine ⟨_, rfl, pl, _, rfl, SqT.of hpl, rfl, _, _, rfl, _, _, rfl, rfl, ?_⟩
  refine ⟨_, rfl, .inl ⟨rfl, _, SqL.of hfl⟩, _, rfl, _, rfl, _, rfl, (by show 3 ≤ sizeLine; decide), fun q hq => ?_⟩
  have nq : q ≠ fl := fun z => by rw [z, hfl] at hq; cases hq
  have s1 := same_new hq (.tup [v, .int c, va])
  have f1 := s1 _ _ hfl
  refine ⟨fl, us0, _, rfl, rfl, f1, by rw [sizeLine_eq]; omega, ?_⟩
  have s2 : SX [fl] H (upd (upd H q (.tup [v, .int c, va])) fl (.lst (us0 ++ [.ref q]))) := (SX.same s1).trans (SX.upd _ (by simp))
  have g2 : (upd (upd H q (.tup [v, .int c, va])) fl (.lst (us0 ++ [.ref q]))) q = some (.tup [v, .int c, va]) := by rw [upd_ne nq]; exact upd_same
  have f2 : (upd (upd H q (.tup [v, .int c, va])) fl (.lst (us0 ++ [.ref q]))) fl = some (.lst (us0 ++ [.ref q])) := upd_same
  generalize upd (upd H q (.tup [v, .int c, va])) fl (.lst (us0 ++ [.ref q])) = H2 at s2 g2 f2 ⊢
  have t2 := sx_tups8 s2 hfl
  have hat2 := hat.on t2
  have har3 := har.sx s2
  refine ⟨_, rfl, _, _, rfl, rfl, ?_⟩
  have hpn := parts_n n
  have hh' : ∀ q ∈ parts n, hN q ≤ h := fun q hq => by have := (parts_h n q hq).1; omega
  have pl2 := s2 _ _ (fun z => by simp only [List.mem_cons, List.not_mem_nil, or_false] at z; rw [z, hfl] at hpl; cases hpl) hpl
  have e1 : ((a : Nat) : Int) + 1 = ((a + 1 : Nat) : Int) := by omega
  /- the end -/
  have last : ∀ (H5 : Hp) (us1 : List V), SX [fl] H2 H5 → H5 fl = some (.lst ((us0 ++ [.ref q]) ++ us1)) → AtL (At8 [fl]) H5 (wk8L h (parts n) (cdI n c a) (arI n ar) (a + 1)) us1 → us1.length = ((parts n).map nN).sum → Q (.int ((a + nN n : Nat) : Int)) H5 := fun H5 us1 s5 f5 at5 l5 => by
    have t5 := sx_tups8 s5 f2
    have s05 : SX [fl] H H5 := s2.trans s5
    exact kq H5 (V.ref q :: us1) s05 (by rw [List.append_assoc] at f5; exact f5) ⟨_, _, rfl, ⟨q, v, va, rfl, t5 _ _ g2, hat.on (sx_tups8 s05 hfl), har.sx s05⟩, at5⟩ (by rw [List.length_cons, l5]; omega)
  cases n with
  | e x =>
    cases x with
    | num z =>
      obtain ⟨p, rfl, hp⟩ := hat2
      refine ⟨_, rfl, p, _, 0, _, rfl, rfl, SqT.of hp, atI_0, rfl, _, rfl, ?_⟩
      refine iteF ?_
      refine ⟨_, rfl, p, _, 0, _, rfl, rfl, SqT.of hp, atI_0, rfl, _, rfl, ?_⟩
      refine iteF ?_
      refine ⟨_, rfl, p, _, 0, _, rfl, rfl, SqT.of hp, atI_0, rfl, _, rfl, ?_⟩
      refine iteF ?_
      exact ⟨_, rfl, last H2 [] SX.refl (by rw [List.append_nil]; exact f2) rfl rfl⟩
    | nam z =>
      obtain ⟨p, rfl, hp⟩ := hat2
      refine ⟨_, rfl, p, _, 0, _, rfl, rfl, SqT.of hp, atI_0, rfl, _, rfl, ?_⟩
      refine iteF ?_
      refine ⟨_, rfl, p, _, 0, _, rfl, rfl, SqT.of hp, atI_0, rfl, _, rfl, ?_⟩
      refine iteF ?_
      refine ⟨_, rfl, p, _, 0, _, rfl, rfl, SqT.of hp, atI_0, rfl, _, rfl, ?_⟩
      refine iteF ?_
      exact ⟨_, rfl, last H2 [] SX.refl (by rw [List.append_nil]; exact f2) rfl rfl⟩
    | blk ps ss =>
      obtain ⟨p, vw, q', xs, rfl, hp, hq', ⟨pw, rfl, hpw⟩, h4⟩ := hat2
      refine ⟨_, rfl, p, _, 0, _, rfl, rfl, SqT.of hp, atI_0, rfl, _, rfl, ?_⟩
      refine iteT ?_
      refine ⟨_, rfl, p, _, 2, _, rfl, rfl, SqT.of hp, rfl, q', rfl, ⟨_, SqT.of hq'⟩, ?_⟩
      have haty := atl_stl h4
      have hyl := haty.len
      obtain ⟨pa, uar, rfl, npa, hpaH, hats⟩ := har3
      have hual := hats.len
      have hok' : ps.length ≤ 10 ∧ gdSs ss := hok
      refine for_tup (xs := xs) (fun i σ H' => ∃ (us1 : List V) (v7 : Option V), σ = [some (.ref p), some (.int (a : Nat)), some (.ref pl), some (.ref fl), some (.int c), some (.ref pa), some (.int ((a + 1 + (((stl ss).take i).map nN).sum : Nat) : Int)), v7] ∧ SX [fl] H2 H' ∧ H' fl = some (.lst ((us0 ++ [.ref q]) ++ us1)) ∧ AtL (At8 [fl]) H' (wk8L h ((stl ss).take i) ((a : Nat) : Int) (ps :: ar) (a + 1)) us1 ∧ us1.length = (((stl ss).take i).map nN).sum)
        ⟨[], none, rfl, SX.refl, by rw [List.append_nil]; exact f2, rfl, rfl⟩ (fun i σ H' _ ⟨us1, v7, _, s', f', _, _⟩ => SqT.of ((sx_tups8 s' f2) _ _ hq')) ?_ ?_
      · rintro i u σ H5 hu ⟨us1, v7, rfl, s5, f5, at5, l5⟩
        have t5 := sx_tups8 s5 f2
        obtain ⟨x, hx, hxa⟩ := haty.get hu
        have hxm := List.mem_of_getElem? hx
        have hle := sum_take_le (stl ss) hx
        have et : (stl ss).take (i + 1) = (stl ss).take i ++ [x] := by rw [List.take_add_one, hx]; rfl
        have hsum : (((stl ss).take (i + 1)).map nN).sum = (((stl ss).take i).map nN).sum + nN x := by rw [et, List.map_append, List.sum_append]; simp
        have hwl := wk8L_len (h := h) (c := ((a : Nat) : Int)) (ar := ps :: ar) ((stl ss).take i) (a + 1) fun q hq => hh' q (List.mem_of_mem_take hq)
        have hpn' : 1 + ((stl ss).map nN).sum = nN (.e (.blk ps ss)) := by have := hpn; show _; exact (Nat.add_comm _ _).trans this
        have hpw5 : FrzT H5 pw (wsV ps) := by
          obtain ⟨pw', e', z⟩ := AtWb.on t5 (⟨pw, rfl, hpw⟩ : AtWb H2 ps (.ref pw))
          cases e'
          exact z
        refine ⟨_, rfl, _, rfl, _, rfl, _, rfl, p, _, 1, _, rfl, rfl, SqT.of (t5 _ _ hp), rfl, pw, _, rfl, .inr hpw5.sq, fun l3 hl3 => ⟨(by show 1 ≤ sizeLine; decide), fun l4 hl4 => ?_⟩⟩
        have s3 := same_new hl3 (.lst (wsV ps))
        have s4 := same_new hl4 (.lst [V.ref l3])
        have g3 := s4 _ _ (upd_same (H := H5) (a := l3) (o := .lst (wsV ps)))
        have g4 := upd_same (H := upd H5 l3 (.lst (wsV ps))) (a := l4) (o := .lst [V.ref l3])
        have s34 := s3.trans s4
        have n3 : l3 ∉ [fl] := by
          simp only [List.mem_cons, List.not_mem_nil, or_false]
          exact fun z => by rw [z, f5] at hl3; cases hl3
        generalize upd (upd H5 l3 (.lst (wsV ps))) l4 (.lst [V.ref l3]) = H6 at g3 g4 s34 ⊢
        have pa6 := s34 _ _ (s5 _ _ npa hpaH)
        refine ⟨_, rfl, l4, pa, _, uar, rfl, rfl, g4, pa6, by rw [sizeLine_eq]; show 1 + uar.length ≤ _; omega, fun r hr' => ⟨by show 2 ≤ sizeLine; decide, fun tp htp => ?_⟩⟩
        have s6 := same_new hr' (.lst ([V.ref l3] ++ uar))
        have n6 : r ∉ [fl] := by
          simp only [List.mem_cons, List.not_mem_nil, or_false]
          exact fun z => by rw [z, s34 _ _ f5] at hr'; cases hr'
        have s7 := same_new htp (.tup [V.int (a : Nat), V.ref r])
        have har7 : AtAr [fl] (upd (upd H6 r (.lst ([V.ref l3] ++ uar))) tp (.tup [V.int (a : Nat), V.ref r])) (ps :: ar) (.ref r) := ⟨r, _, rfl, n6, s7 _ _ upd_same, ⟨_, _, rfl, ⟨l3, rfl, n3, s7 _ _ (s6 _ _ g3)⟩, AtL.onR (fun _ _ z => AtWl.sx ((s5.trans (SX.same s34)).trans ((SX.same s6).trans (SX.same s7))) z) hats⟩⟩
        have g7 : (upd (upd H6 r (.lst ([V.ref l3] ++ uar))) tp (.tup [V.int (a : Nat), V.ref r])) tp = some (.tup [V.int (a : Nat), V.ref r]) := upd_same
        have s57 := (s34.trans s6).trans s7
        generalize upd (upd H6 r (.lst ([V.ref l3] ++ uar))) tp (.tup [V.int (a : Nat), V.ref r]) = H7 at s57 har7 g7 ⊢
        refine ⟨_, rfl, x, u, a + 1 + (((stl ss).take i).map nN).sum, tp, (a : Nat), ps :: ar, .ref r, fl, _, rfl, g7, (hxa.on t5).on (same_tups s57), stl_gd ss hok'.2 x hxm, fN_stl ss hf x hxm, hh' x hxm, by omega, har7, by rw [List.length_cons]; omega, s57 _ _ f5, ?_, fun H8 us2 s8 f8 at8 l8 => ?_⟩
        · rw [List.length_append, List.length_append, l5]
          show us0.length + 1 + _ + _ ≤ _
          omega
        have s58 : SX [fl] H5 H8 := (SX.same s57).trans s8
        refine ⟨us1 ++ us2, some u, ?_, s5.trans s58, by rw [← List.append_assoc]; exact f8, ?_, by rw [List.length_append, l5, l8, hsum]⟩
        · rw [hsum, ← Nat.add_assoc (a + 1)]
          rfl
        · rw [et, wk8L_snoc, hwl]
          have t8 := sx_tups8 s58 f5
          exact atl_app (AtL.onR (fun _ _ z => At8.sx s58 t8 z) at5) at8
      rintro σ H5 ⟨us1, v7, rfl, s5, f5, at5, l5⟩
      rw [hyl, List.take_length] at at5 l5
      rw [hyl, List.take_length]
      have t5 := sx_tups8 s5 f2
      have hp5 := t5 _ _ hp
      refine ⟨_, rfl, p, _, 0, _, rfl, rfl, SqT.of hp5, atI_0, rfl, _, rfl, ?_⟩
      refine iteF ?_
      refine ⟨_, rfl, p, _, 0, _, rfl, rfl, SqT.of hp5, atI_0, rfl, _, rfl, ?_⟩
      refine iteF ?_
      have eo : a + 1 + ((stl ss).map nN).sum = a + nN (.e (.blk ps ss)) := by
        have h0 : ((stl ss).map nN).sum + 1 = nN (.e (.blk ps ss)) := hpn
        omega
      rw [eo]
      exact ⟨_, rfl, last H5 us1 s5 f5 at5 l5⟩
    | _ => exact hf.elim
  | s x =>
    cases x with
    | set z e =>
      obtain ⟨p, ve, rfl, hp, h1⟩ := hat2
      refine ⟨_, rfl, p, _, 0, _, rfl, rfl, SqT.of hp, atI_0, rfl, _, rfl, ?_⟩
      refine iteF ?_
      refine ⟨_, rfl, p, _, 0, _, rfl, rfl, SqT.of hp, atI_0, rfl, _, rfl, ?_⟩
      refine iteT ?_
      have hpn' : nN (.e e) + 0 + 1 = nN (.s (.set z e)) := hpn
      refine ⟨_, rfl, p, _, 2, _, rfl, rfl, SqT.of hp, rfl, _, rfl, _, rfl, _, rfl, .e e, ve, a + 1, pl, c, ar, va, fl, _, rfl, pl2, h1, hok, hf, hh' _ (by show Nd.e e ∈ [Nd.e e]; simp), by omega, har3, by omega, f2, by rw [List.length_append]; show us0.length + 1 + nN (.e e) ≤ _; omega, fun H5 us1 s5 f5 at5 l5 => ?_⟩
      have t5 := sx_tups8 s5 f2
      refine ⟨_, rfl, p, _, 0, _, rfl, rfl, SqT.of (t5 _ _ hp), atI_0, rfl, _, rfl, ?_⟩
      refine iteF ?_
      have eo : a + 1 + nN (.e e) = a + nN (.s (.set z e)) := by omega
      rw [eo]
      refine ⟨_, rfl, last H5 us1 s5 f5 ?_ (by rw [l5]; rfl)⟩
      show AtL (At8 [fl]) H5 ([] ++ wk8 h (.e e) c ar (a + 1 + 0)) us1
      exact at5
    | tri x z y =>
      obtain ⟨p, q1, xs, q2, ys, rfl, hp, hq1, hq2, h3, h4⟩ := hat2
      refine ⟨_, rfl, p, _, 0, _, rfl, rfl, SqT.of hp, atI_0, rfl, _, rfl, ?_⟩
      refine iteF ?_
      refine ⟨_, rfl, p, _, 0, _, rfl, rfl, SqT.of hp, atI_0, rfl, _, rfl, ?_⟩
      refine iteF ?_
      refine ⟨_, rfl, p, _, 0, _, rfl, rfl, SqT.of hp, atI_0, rfl, _, rfl, ?_⟩
      refine iteT ?_
      refine ⟨_, rfl, p, _, 1, _, rfl, rfl, SqT.of hp, rfl, _, rfl, p, _, 3, _, rfl, rfl, SqT.of hp, rfl, ?_⟩
      have lx := (atl_stl h3).len
      have ly := (atl_stl h4).len
      have mx := stl_len x
      have my := stl_len y
      have hn' : 1 + nSs x + nSs y ≤ 1100 := hn
      refine cat_at hq1 hq2 (atl_stl h3) (atl_stl h4) (fun _ _ s z => AtN.on (same_tups s) z) (by omega) fun H3 qc zs s3 hqc hzs => ?_
      have hzl := hzs.len
      have f3 := s3 _ _ f2
      have pl3 := s3 _ _ pl2
      refine ⟨qc, rfl, ⟨_, SqT.of hqc⟩, ?_⟩
      have hok' : gdSs x ∧ gdSs y := hok
      have hf' : fSs x ∧ fSs y := hf
      refine for_tup (xs := zs) (fun i σ H' => ∃ (us1 : List V) (v7 : Option V), σ = [some (.ref p), some (.int (a : Nat)), some (.ref pl), some (.ref fl), some (.int c), some va, some (.int ((a + 1 + (((stl x ++ stl y).take i).map nN).sum : Nat) : Int)), v7] ∧ SX [fl] H3 H' ∧ H' fl = some (.lst ((us0 ++ [.ref q]) ++ us1)) ∧ AtL (At8 [fl]) H' (wk8L h ((stl x ++ stl y).take i) c ar (a + 1)) us1 ∧ us1.length = (((stl x ++ stl y).take i).map nN).sum)
        ⟨[], none, rfl, SX.refl, by rw [List.append_nil]; exact f3, rfl, rfl⟩ (fun i σ H' _ ⟨us1, v7, _, s', f', _, _⟩ => SqT.of ((sx_tups8 s' f3) _ _ hqc)) ?_ ?_
      · rintro i u σ H5 hu ⟨us1, v7, rfl, s5, f5, at5, l5⟩
        have t5 := sx_tups8 s5 f3
        obtain ⟨k, hx, hxa⟩ := hzs.get hu
        have hxm := List.mem_of_getElem? hx
        have hle := sum_take_le (stl x ++ stl y) hx
        have et : (stl x ++ stl y).take (i + 1) = (stl x ++ stl y).take i ++ [k] := by rw [List.take_add_one, hx]; rfl
        have hsum : (((stl x ++ stl y).take (i + 1)).map nN).sum = (((stl x ++ stl y).take i).map nN).sum + nN k := by rw [et, List.map_append, List.sum_append]; simp
        have hwl := wk8L_len (h := h) (c := c) (ar := ar) ((stl x ++ stl y).take i) (a + 1) fun q hq => hh' q (List.mem_of_mem_take hq)
        have hpn' : 1 + ((stl x ++ stl y).map nN).sum = nN (.s (.tri x z y)) := by have := hpn; exact (Nat.add_comm _ _).trans this
        have gk : gdN k ∧ fN k := by
          rcases List.mem_append.mp hxm with m | m
          · exact ⟨stl_gd x hok'.1 k m, fN_stl x hf'.1 k m⟩
          · exact ⟨stl_gd y hok'.2 k m, fN_stl y hf'.2 k m⟩
        refine ⟨_, rfl, _, rfl, _, rfl, _, rfl, k, u, a + 1 + (((stl x ++ stl y).take i).map nN).sum, pl, c, ar, va, fl, _, rfl, t5 _ _ pl3, hxa.on t5, gk.1, gk.2, hh' k hxm, by omega, (har3.sx (SX.same s3)).sx s5, by omega, f5, ?_, fun H8 us2 s8 f8 at8 l8 => ?_⟩
        · rw [List.length_append, List.length_append, l5]
          show us0.length + 1 + _ + _ ≤ _
          omega
        refine ⟨us1 ++ us2, some u, ?_, s5.trans s8, by rw [← List.append_assoc]; exact f8, ?_, by rw [List.length_append, l5, l8, hsum]⟩
        · rw [hsum, ← Nat.add_assoc (a + 1)]
          rfl
        · rw [et, wk8L_snoc, hwl]
          have t8 := sx_tups8 s8 f5
          exact atl_app (AtL.onR (fun _ _ z => At8.sx s8 t8 z) at5) at8
      rintro σ H5 ⟨us1, v7, rfl, s5, f5, at5, l5⟩
      rw [hzl, List.take_length] at at5 l5
      rw [hzl, List.take_length]
      have eo : a + 1 + ((stl x ++ stl y).map nN).sum = a + nN (.s (.tri x z y)) := by
        have h0 : ((stl x ++ stl y).map nN).sum + 1 = nN (.s (.tri x z y)) := hpn
        omega
      rw [eo]
      exact ⟨_, rfl, last H5 us1 ((SX.same s3).trans s5) f5 at5 l5⟩
    | _ => exact hf.elim
theorem w8_all (b_list : mg "list" = none) (D : Dn K mg "_law_walk" s__law_walk) : ∀ h : Nat, C0 P w K mg base (h + 2) "_law_walk" (spW8 h)
  | 0 => w8_none 1 D
  | h + 1 => c_w8 (by omega) b_list D (w8_all b_list D h)
end
end My
set_option Elab.async false
set_option linter.all false
set_option maxRecDepth 100000
set_option maxHeartbeats 8000000
namespace My
open PySem L2 SS
theorem findN_k : ∀ {sur : List (List T)} {i : Nat} {ps : List T} {w : T}, sur[i]? = some ps → w ∈ ps → (∀ j qs, j < i → sur[j]? = some qs → w ∉ qs) → findN w sur = (i, ps.idxOf w)
  | [], i, ps, w, h, _, _ => by simp at h
  | q :: r, 0, ps, w, h, hw, _ => by
    have e : q = ps := by simpa using h
    subst e
    exact if_pos hw
  | q :: r, i + 1, ps, w, h, hw, hn => by
    have h1 : w ∉ q := hn 0 q (by omega) rfl
    have ih := findN_k (sur := r) (i := i) (ps := ps) (w := w) (by simpa using h) hw fun j qs hj hq => hn (j + 1) qs (by omega) (by simpa using hq)
    show (if w ∈ q then (0, q.idxOf w) else ((findN w r).1 + 1, (findN w r).2)) = _
    rw [if_neg h1, ih]
section
variable {P : Program} {w : World} {K : PySem.W.Frag} {mg : Str → Option Value} {base : Heap}
def spF8 : Sp := fun vs H Q _ => ∃ (z : T) (va : V) (B : List Addr) (ar : List (List T)) (kl : Addr) (kn : List T), vs = [.str (mk z), va, .ref kl] ∧ AtAr B H ar va ∧ H kl = some (.lst (wsV kn)) ∧ inSur z (ar ++ [kn]) ∧ ar.length ≤ 1000 ∧ ∀ (H' : Hp) (p : Addr), Same H H' → H' p = some (.tup [iV (findN z (ar ++ [kn])).1, iV (findN z (ar ++ [kn])).2]) → Q (.ref p) H'
theorem scF8 : FnScope ["_law_word_here", "_law_around", "_law_known", "_law_k"] ["_law_word_here", "_law_around", "_law_known"] (defScope s__law_find) := ⟨rfl, rfl, rfl, by decide +kernel, rfl, by decide +kernel, by decide +kernel⟩
theorem c_f8 (b_len : mg "len" = none) (b_range : mg "range" = none) (D : Dn K mg "_law_find" s__law_find) : C0 P w K mg base 1 "_law_find" spF8 := by
  obtain ⟨f, fd, F, m⟩ := D.ex
  refine ⟨f, fd, ["_law_word_here", "_law_around", "_law_known"], F.ok scF8 (fun vs H Q E h => ?_) (fun cdv A outer s H vs Q E hr h => ?_), m, F.kp, F.binds (ps := ["_law_word_here", "_law_around", "_law_known"]) fun _ _ _ _ _ _ us hl => match us, hl with | [_, _, _], _ => rfl⟩
  · obtain ⟨z, va, B, ar, kl, kn, rfl, _⟩ := h
    rfl
  obtain ⟨z, va, B, ar, kl, kn, rfl, hat, hkl, hin, hsm, kq⟩ := h
  refine ⟨_, pss_cons (ps_for PassesOwn.never rfl (pi_range1 rfl b_range (pa_cons (pe_callB call_len_seq (by rfl) b_len PySem.boot_len (pa_cons (pv 1) pa_nil)) pa_nil)) (pg_name (i := 3) scF8.nd rfl (Or.inl rfl))
      (pss_one (ps_if (pt_cmpR op_in_seq (pv 0) (pe_ix (r := rIxL K) ix_list (pv 1) (pv 3) (fun _ _ => rfl)) (by rfl))
        (pss_one (ps_ret (pe_tup (pa_cons (pv 3) (pa_cons (pe_bm PySem.F.plainAttrs_list PySem.F.slot_list_index PySem.F.type_list_index mt_index (pe_ix (r := rIxL K) ix_list (pv 1) (pv 3) (fun _ _ => rfl)) (pa_cons (pv 0) pa_nil)) pa_nil)))))
        (pss_nil)))) <|
    pss_one (ps_ret (pe_tup (pa_cons (pe_callB call_len_seq (by rfl) b_len PySem.boot_len (pa_cons (pv 1) pa_nil)) (pa_cons (pe_bm PySem.F.plainAttrs_list PySem.F.slot_list_index PySem.F.type_list_index mt_index (pv 2) (pa_cons (pv 0) pa_nil)) pa_nil)))), ?_⟩
  obtain ⟨pa, us, rfl, hpa, hpaH, hats⟩ := hat
  have hul := hats.len
  refine ⟨_, rfl, pa, us, rfl, .inl (SqL.of hpaH), _, rfl, by omega, by omega, ?_⟩
  refine for_range (lo := 0) (n := (((us.length : Nat) : Int)).toNat) (fun i σ H' => ∃ (v2 : Option V), σ = [some (.str (mk z)), some (.ref pa), some (.ref kl), v2] ∧ Same H H' ∧ ∀ j qs, j < i → ar[j]? = some qs → z ∉ qs) ⟨none, rfl, Same.refl _, fun j qs h _ => absurd h (Nat.not_lt_zero j)⟩ ?_ ?_
  · rintro i σ H2 hi ⟨v2, rfl, s2, hno⟩
    have hi' : i < us.length := by omega
    have hu : us[i]? = some us[i] := List.getElem?_eq_getElem hi'
    obtain ⟨ps, hps, q, hq, _, hqH⟩ := hats.get hu
    have ei : (0 : Int) + ((i : Nat) : Int) = ((i : Nat) : Int) := by omega
    have hq2 := s2 _ _ hqH
    refine ⟨_, rfl, _, rfl, _, rfl, pa, us, _, _, rfl, rfl, SqL.of (s2 _ _ hpaH), by rw [ei]; exact atI_nat hu, q, wsV ps, hq, .inl (SqL.of hq2), rfl, flat_ws ps, _, rfl, ?_⟩
    rw [in_ws]
    refine ite2 (fun c => ?_) (fun c => ?_)
    · have hz : z ∈ ps := of_decide_eq_true (by simpa using c)
      obtain ⟨i1, i2⟩ := wsV_idx hz
      have hps' : (ar ++ [kn])[i]? = some ps := by rw [List.getElem?_append_left (by omega)]; exact hps
      have ef := findN_k hps' hz fun j qs hj hq => hno j qs hj (by rw [List.getElem?_append_left (by omega)] at hq; exact hq)
      refine ⟨_, rfl, _, rfl, _, rfl, pa, us, _, _, rfl, rfl, SqL.of (s2 _ _ hpaH), by rw [ei]; exact atI_nat hu, ?_⟩
      rw [hq]
      refine ⟨.inl ⟨rfl, _, SqL.of hq2⟩, _, rfl, q, _, _, _, _, rfl, rfl, SqL.of hq2, rfl, wsV_flat _, i1, by show (mk z == mk z) = true; exact beq_self_eq_true _, i2, by show 2 ≤ sizeLine; decide, fun t ht => ?_⟩
      have st := same_new ht (.tup [.int (0 + ((i : Nat) : Int)), .int ((ps.idxOf z : Nat) : Int)])
      refine kq _ t (s2.trans st) ?_
      rw [ef, ei]
      exact upd_same
    · refine ⟨_, rfl, s2, fun j qs hj hq3 => ?_⟩
      by_cases e : j = i
      · subst e
        rw [hps] at hq3
        cases hq3
        exact fun h => c (by simp [h])
      · exact hno j qs (by omega) hq3
  rintro σ H2 ⟨v2, rfl, s2, hno⟩
  have hno' : ∀ j qs, j < ar.length → (ar ++ [kn])[j]? = some qs → z ∉ qs := fun j qs hj hq => hno j qs (by omega) (by rw [List.getElem?_append_left hj] at hq; exact hq)
  have hz : z ∈ kn := by
    obtain ⟨ps, h1, h2⟩ := hin
    obtain ⟨j, hj, rfl⟩ := List.getElem_of_mem h1
    have hj' : j < ar.length + 1 := by rw [List.length_append] at hj; exact hj
    by_cases c : j < ar.length
    · exact absurd h2 (hno' j _ c (List.getElem?_eq_getElem hj))
    · have e : j = ar.length := by omega
      subst e
      rw [List.getElem_append_right (Nat.le_refl _)] at h2
      simpa using h2
  have hkn : (ar ++ [kn])[ar.length]? = some kn := by rw [List.getElem?_append_right (Nat.le_refl _)]; simp
  have ef := findN_k hkn hz hno'
  obtain ⟨i1, i2⟩ := wsV_idx hz
  have hkl2 := s2 _ _ hkl
  refine ⟨_, rfl, pa, us, rfl, .inl (SqL.of (s2 _ _ hpaH)), _, rfl, .inl ⟨rfl, _, SqL.of hkl2⟩, _, rfl, kl, _, _, _, _, rfl, rfl, SqL.of hkl2, rfl, wsV_flat _, i1, by show (mk z == mk z) = true; exact beq_self_eq_true _, i2, by show 2 ≤ sizeLine; decide, fun t ht => ?_⟩
  have st := same_new ht (.tup [.int ((us.length : Nat) : Int), .int ((kn.idxOf z : Nat) : Int)])
  refine kq _ t (s2.trans st) ?_
  rw [ef, ← hul]
  exact upd_same
end
end My
set_option Elab.async false
set_option linter.all false
set_option maxRecDepth 100000
set_option maxHeartbeats 8000000
namespace My
open PySem L2 SS
abbrev dSet (x y : V) : List (L2.Key × V) := [(.inr (Str.ofString "set"), x), (.inr (Str.ofString "try"), y)]
def nmV (n : Nd) : V := match nameN n with
  | some w => .str (mk w)
  | none => .non
theorem part_set {H : Hp} {n : Nd} {v : V} (h : AtN H n v) (g : fN n) : ∃ (p : Addr) (its : List V) (x1 xm : V) (word : Str), v = .ref p ∧ H p = some (.tup its) ∧ atI its 1 = some x1 ∧ atI its (-2) = some xm ∧ atI its 0 = some (.str word) ∧ (valV (mergeK [] (dSet x1 xm)) (.inr word)).getD .non = nmV n := by
  cases n with
  | e x =>
    cases x with
    | num z => obtain ⟨p, rfl, hp⟩ := h; exact ⟨p, _, _, _, _, rfl, hp, rfl, rfl, atI_0, by first | rfl | decide +kernel⟩
    | nam z => obtain ⟨p, rfl, hp⟩ := h; exact ⟨p, _, _, _, _, rfl, hp, rfl, rfl, atI_0, by first | rfl | decide +kernel⟩
    | blk ps ss => obtain ⟨p, vw, q, xs, rfl, hp, _⟩ := h; exact ⟨p, _, _, _, _, rfl, hp, rfl, rfl, atI_0, by first | rfl | decide +kernel⟩
    | _ => exact g.elim
  | s x =>
    cases x with
    | set z e => obtain ⟨p, ve, rfl, hp, _⟩ := h; exact ⟨p, _, _, _, _, rfl, hp, rfl, rfl, atI_0, by first | rfl | decide +kernel⟩
    | tri x z y => obtain ⟨p, q, xs, r, ys, rfl, hp, _⟩ := h; exact ⟨p, _, _, _, _, rfl, hp, rfl, rfl, atI_0, by first | rfl | decide +kernel⟩
    | _ => exact g.elim
def orF (f : List T) (t : W8) : List T := addN t.1 t.2.2.flatten f
theorem or_len : ∀ (wk : List W8) (f : List T), (wk.foldl orF f).length ≤ f.length + wk.length
  | [], f => Nat.le_refl _
  | t :: r, f => by
    have h1 := or_len r (orF f t)
    have h2 : (orF f t).length ≤ f.length + 1 := addN_len _ _ _
    rw [List.foldl_cons, List.length_cons]
    omega
structure W8ok (t : W8) : Prop where
  gd : gdN t.1
  f : fN t.1
  l : t.2.2.length ≤ 100
section
variable {P : Program} {w : World} {K : PySem.W.Frag} {mg : Str → Option Value} {base : Heap}
def spOr : Sp := fun vs H Q _ => ∃ (rl : Addr) (us : List V) (wk : List W8), vs = [.ref rl] ∧ H rl = some (.lst us) ∧ AtL (At8 []) H wk us ∧ (∀ t ∈ wk, W8ok t) ∧ wk.length ≤ 5000 ∧ ∀ (H' : Hp) (q : Addr), Same H H' → H q = none → H' q = some (.lst (wsV (wk.foldl orF []))) → Q (.ref q) H'
theorem scOr : FnScope ["_law_row", "_law_found", "_law_part", "_law_code", "_law_around", "_law_word_here"] ["_law_row"] (defScope s__law_order) := ⟨rfl, rfl, rfl, by decide +kernel, rfl, by decide +kernel, by decide +kernel⟩
theorem c_or (SN : C0 P w K mg base 1 "_law_seen" spSn) (D : Dn K mg "_law_order" s__law_order) : C0 P w K mg base 2 "_law_order" spOr := by
  obtain ⟨f, fd, F, m⟩ := D.ex
  refine ⟨f, fd, ["_law_row"], F.ok scOr (fun vs H Q E h => ?_) (fun cdv A outer s H vs Q E hr h => ?_), m, F.kp, F.binds (ps := ["_law_row"]) fun _ _ _ _ _ _ us hl => match us, hl with | [_], _ => rfl⟩
  · obtain ⟨rl, us, wk, rfl, _⟩ := h
    rfl
  obtain ⟨rl, us, wk, rfl, hrl, hat, hok, hwl, kq⟩ := h
  refine ⟨_, pss_cons (ps_set (i := 1) scOr.nd rfl (Or.inl rfl) (pe_lst pa_nil)) <|
    pss_cons (ps_for PassesOwn.never rfl (pi_list (pv 0)) (pg_tup (by rfl) (pgs_cons (pg_name (i := 2) scOr.nd rfl (Or.inl rfl)) (pgs_cons (pg_name (i := 3) scOr.nd rfl (Or.inl rfl)) (pgs_cons (pg_name (i := 4) scOr.nd rfl (Or.inl rfl)) pgs_nil))))
      (pss_cons (ps_set (i := 5) scOr.nd rfl (Or.inl rfl) (pe_dget1 (hu_of hr) (pe_disp (pps_cons pe_str (pe_ix (r := rIxT K) ix_tup (pv 2) pe_int (fun _ _ => rfl)) (pps_cons pe_str (pe_ix (r := rIxT K) ix_tup (pv 2) (pe_un un_neg pe_int) (fun _ _ => rfl)) pps_nil)) rfl rfl (by simp) (by decide)) (pe_ix (r := rIxT K) ix_tup (pv 2) pe_int (fun _ _ => rfl)) ⟨rfl, rfl, rfl, rfl⟩)) <|
      pss_one (ps_if (PW.pt (pw_and (pt_cmpR op_notN (pv 5) pe_non (nomark _)) (pw_and (pt_cmpR (op_eqNil hr.units) (pe_cc SN hr (by omega) pass0 (pa_cons (pe_lst (pa_cons (pv 5) pa_nil)) (pa_cons (pv 4) pa_nil))) (pe_lst pa_nil) (nomark _)) (pw_and1 (pt_cmpR op_notIn_seq (pv 5) (pv 1) (by rfl))))))
        (pss_one (ps_expr (pe_bm PySem.F.plainAttrs_list PySem.F.slot_list_append PySem.F.type_list_append mt_append (pv 1) (pa_cons (pv 5) pa_nil))))
        (pss_nil)))) <|
    pss_one (ps_ret (pv 1)), ?_⟩
  refine ⟨by show 0 ≤ sizeLine; decide, fun fl hfl => ?_⟩
  have s1 := same_new hfl (.lst [])
  have f1 : upd H fl (.lst []) fl = some (.lst (wsV [])) := upd_same
  generalize upd H fl (.lst []) = H1 at s1 f1 ⊢
  have hul := hat.len
  refine ⟨_, rfl, rl, rfl, ⟨_, SqL.of (s1 _ _ hrl)⟩, ?_⟩
  refine for_list (xs := us) (fun i σ H' => ∃ (v2 v3 v4 v5 : Option V), σ = [some (.ref rl), some (.ref fl), v2, v3, v4, v5] ∧ Same H H' ∧ H' fl = some (.lst (wsV ((wk.take i).foldl orF [])))) ⟨none, none, none, none, rfl, s1, f1⟩ (fun i σ H' _ ⟨_, _, _, _, _, s', _⟩ => SqL.of (s' _ _ hrl)) ?_ ?_
  · rintro i u σ H2 hu ⟨v2, v3, v4, v5, rfl, s2, f2⟩
    obtain ⟨⟨n, c, ar⟩, ht, pt, vn, va, rfl, hpt, hn, hva⟩ := hat.get hu
    have ok := hok _ (List.mem_of_getElem? ht)
    have et : (wk.take (i + 1)).foldl orF [] = orF ((wk.take i).foldl orF []) (n, c, ar) := by
      rw [List.take_add_one, ht, List.foldl_append]
      rfl
    have hfl5 : ((wk.take i).foldl orF []).length ≤ 5000 := by
      have h1 := or_len (wk.take i) []
      rw [List.length_take] at h1
      have h0 : ([] : List T).length = 0 := rfl
      omega
    generalize (wk.take i).foldl orF [] = fs at f2 et hfl5
    refine ⟨pt, _, rfl, SqT.of (s2 _ _ hpt), rfl, _, _, rfl, _, _, rfl, _, _, rfl, rfl, ?_⟩
    obtain ⟨p, its, x1, xm, word, rfl, hp, i1, im, i0, hval⟩ := part_set (AtN.on (same_tups s2) hn) ok.f
    refine fun pd hpd => ?_
    have sD0 := same_new hpd (.dK [])
    refine ⟨_, rfl, p, _, 1, _, rfl, rfl, SqT.of (sD0 _ _ hp), i1, ?_⟩
    refine ⟨_, rfl, _, rfl, p, _, _, _, rfl, rfl, SqT.of (sD0 _ _ hp), im, upd_same, dSet x1 xm, rfl, by show 2 ≤ 15; decide, ?_⟩
    have sD : Same H2 (upd (upd H2 pd (.dK [])) pd (.dK (mergeK [] (dSet x1 xm)))) := fun b u hb => by
      have nb : b ≠ pd := fun z => by rw [z, hpd] at hb; cases hb
      rw [upd_ne nb, upd_ne nb]
      exact hb
    have gD : (upd (upd H2 pd (.dK [])) pd (.dK (mergeK [] (dSet x1 xm)))) pd = some (.dK (mergeK [] (dSet x1 xm))) := upd_same
    generalize upd (upd H2 pd (.dK [])) pd (.dK (mergeK [] (dSet x1 xm))) = H3 at sD gD ⊢
    refine ⟨pd, rfl, .inl ⟨_, .inl gD⟩, _, rfl, p, _, 0, _, rfl, rfl, SqT.of (sD _ _ hp), i0, _, .inl ⟨_, .inr word, .inl gD, rfl, rfl⟩, ?_⟩
    generalize (valV (mergeK [] (dSet x1 xm)) (.inr word)).getD .non = vv at hval ⊢
    subst hval
    have f3 := sD _ _ f2
    have s3 := s2.trans sD
    refine ⟨_, rfl, rfl, _, rfl, ?_⟩
    cases hnm : nameN n with
    | none =>
      have e1 : orF fs (n, c, ar) = fs := by unfold orF addN; rw [hnm]
      have e2 : nmV n = .non := by unfold nmV; rw [hnm]
      rw [e2]
      refine iteF ?_
      exact ⟨_, _, _, _, rfl, s3, by rw [et, e1]; exact f3⟩
    | some wd =>
      have e1 : orF fs (n, c, ar) = if wd ∈ ar.flatten ∨ wd ∈ fs then fs else fs ++ [wd] := by unfold orF addN; rw [hnm]
      have e2 : nmV n = .str (mk wd) := by unfold nmV; rw [hnm]
      rw [e2]
      refine iteT ?_
      refine ⟨_, rfl, by show 1 ≤ sizeLine; decide, fun q2 hq2 => ?_⟩
      have u1 := same_new hq2 (.lst [V.str (mk wd)])
      have gu1 : upd H3 q2 (.lst [V.str (mk wd)]) q2 = some (.lst (wsV [wd])) := upd_same
      have haru := hva.sx (SX.same (s3.trans u1))
      generalize upd H3 q2 (.lst [V.str (mk wd)]) = H4 at u1 gu1 haru ⊢
      refine ⟨_, rfl, q2, [wd], va, [], ar, rfl, gu1, haru, by have : ar.length ≤ 100 := ok.l; omega, by show 1 ≤ 1000; decide, fun H5 q3 u2 hq3 gu2 => ⟨by show 0 ≤ sizeLine; decide, fun q4 hq4 => ?_⟩⟩
      have u3 := same_new hq4 (.lst [])
      refine ⟨q3, q4, _, rfl, rfl, SqL.of (u3 _ _ gu2), SqL.of upd_same, _, rfl, ?_⟩
      have u123 := (u1.trans u2).trans u3
      have s4 := s3.trans u123
      have f4 := u123 _ _ f3
      generalize upd H5 q4 (.lst []) = H6 at u123 s4 f4 ⊢
      refine ite2 (fun c2 => ?_) (fun c2 => ?_)
      · have hno : wd ∉ ar.flatten := fun hw => by
          obtain ⟨ps, h1, h2⟩ := List.mem_flatten.mp hw
          have : seenW ar [wd] = [wd] := List.filter_cons_of_pos (decide_eq_true ⟨ps, h1, h2⟩)
          rw [this] at c2
          exact absurd c2 (by simp [wsV])
        refine ⟨_, rfl, _, rfl, fl, wsV fs, rfl, .inl (SqL.of f4), rfl, flat_ws fs, _, rfl, ?_⟩
        rw [in_ws]
        refine ite2 (fun cn => ?_) (fun cn => ?_)
        · have hn2 : wd ∉ fs := by simpa using cn
          refine ⟨_, rfl, .inl ⟨rfl, _, SqL.of f4⟩, _, rfl, fl, _, _, rfl, rfl, f4, by rw [wsV_len, sizeLine_eq]; omega, ?_⟩
          refine ⟨_, _, _, _, rfl, ?_, ?_⟩
          · intro b u hb
            rw [upd_ne (ne_of_none hb hfl)]
            exact s4 _ _ hb
          · rw [upd_same, et, e1, if_neg (by intro z; exact z.elim hno hn2)]
            unfold wsV
            rw [List.map_append]
            rfl
        · have hn2 : wd ∈ fs := by simpa using cn
          exact ⟨_, _, _, _, rfl, s4, by rw [et, e1, if_pos (.inr hn2)]; exact f4⟩
      · have hyes : wd ∈ ar.flatten := by
          by_cases z : ∃ ps ∈ ar, wd ∈ ps
          · obtain ⟨ps, h1, h2⟩ := z
            exact List.mem_flatten.mpr ⟨ps, h1, h2⟩
          · have : seenW ar [wd] = [] := List.filter_cons_of_neg (by simpa using z)
            rw [this] at c2
            exact absurd (decide_eq_true rfl) c2
        exact ⟨_, _, _, _, rfl, s4, by rw [et, e1, if_pos (.inl hyes)]; exact f4⟩
  rintro σ H2 ⟨v2, v3, v4, v5, rfl, s2, f2⟩
  rw [hul, List.take_length] at f2
  exact ⟨_, rfl, kq H2 fl s2 hfl f2⟩
end
end My
set_option Elab.async false
set_option linter.all false
set_option maxRecDepth 100000
set_option maxHeartbeats 8000000
namespace My
open PySem L2 SS
def sdN (sur : List (List T)) : Nd → Prop
  | .e x => sdE sur x
  | .s x => sdS sur x
def dueR (kn : List T) (a : Nat) (t : W8) : List Rw := match t.1 with
  | .e (.blk _ _) => [[iV a, S_ "block", iV a]]
  | .e (.nam w) => [[iV a, S_ "name", iV (findN w (t.2.2 ++ [kn])).1, iV (findN w (t.2.2 ++ [kn])).2]]
  | .s (.set w _) => [[iV a, S_ "setname", iV (findN w (t.2.2 ++ [kn])).1, iV (findN w (t.2.2 ++ [kn])).2]]
  | .s (.tri _ w _) => [[iV a, S_ "setname", iV (findN w (t.2.2 ++ [kn])).1, iV (findN w (t.2.2 ++ [kn])).2]]
  | _ => []
def due8 (kn : List T) (c : Int) : Nat → List W8 → List Rw
  | _, [] => []
  | a, t :: r => (if t.2.1 = c then dueR kn a t else []) ++ due8 kn c (a + 1) r
theorem due8_app (kn : List T) (c : Int) : ∀ (x y : List W8) (a : Nat), due8 kn c a (x ++ y) = due8 kn c a x ++ due8 kn c (a + x.length) y
  | [], y, a => rfl
  | t :: r, y, a => by
    show (if t.2.1 = c then dueR kn a t else []) ++ due8 kn c (a + 1) (r ++ y) = ((if t.2.1 = c then dueR kn a t else []) ++ due8 kn c (a + 1) r) ++ _
    rw [due8_app kn c r y (a + 1), List.append_assoc, List.length_cons]
    congr 3
    omega
theorem dueR_len (kn : List T) (a : Nat) (t : W8) : (dueR kn a t).length ≤ 1 := by
  unfold dueR
  split <;> simp
theorem due8_len (kn : List T) (c : Int) : ∀ (x : List W8) (a : Nat), (due8 kn c a x).length ≤ x.length
  | [], _ => Nat.le_refl _
  | t :: r, a => by
    show ((if t.2.1 = c then dueR kn a t else []) ++ due8 kn c (a + 1) r).length ≤ _
    have h1 := due8_len kn c r (a + 1)
    have h2 := dueR_len kn a t
    rw [List.length_append, List.length_cons]
    split
    · omega
    · simp; omega
section
variable {P : Program} {w : World} {K : PySem.W.Frag} {mg : Str → Option Value} {base : Heap}
def spDu : Sp := fun vs H Q _ => ∃ (rl : Addr) (us : List V) (wk : List W8) (c : Int) (kl : Addr) (kn : List T), vs = [.ref rl, .int c, .ref kl] ∧ H rl = some (.lst us) ∧ AtL (At8 []) H wk us ∧ (∀ t ∈ wk, W8ok t ∧ sdN (t.2.2 ++ [kn]) t.1) ∧ wk.length ≤ 5000 ∧ H kl = some (.lst (wsV kn)) ∧ ∀ (H' : Hp) (q : Addr) (vs' : List V), Same H H' → H q = none → H' q = some (.lst vs') → AtL AtRw H' (due8 kn c 0 wk) vs' → Q (.ref q) H'
theorem scDu : FnScope ["_law_row", "_law_code", "_law_known", "_law_due_here", "_law_at", "_law_part", "_law_own", "_law_around"] ["_law_row", "_law_code", "_law_known"] (defScope s__law_due) := ⟨rfl, rfl, rfl, by decide +kernel, rfl, by decide +kernel, by decide +kernel⟩
theorem c_du (b_enumerate : mg "enumerate" = none) (FD : C0 P w K mg base 1 "_law_find" spF8) (D : Dn K mg "_law_due" s__law_due) : C0 P w K mg base 2 "_law_due" spDu := by
  obtain ⟨f, fd, F, m⟩ := D.ex
  refine ⟨f, fd, ["_law_row", "_law_code", "_law_known"], F.ok scDu (fun vs H Q E h => ?_) (fun cdv A outer s H vs Q E hr h => ?_), m, F.kp, F.binds (ps := ["_law_row", "_law_code", "_law_known"]) fun _ _ _ _ _ _ us hl => match us, hl with | [_, _, _], _ => rfl⟩
  · obtain ⟨rl, us, wk, c, kl, kn, rfl, _⟩ := h
    rfl
  obtain ⟨rl, us, wk, c, kl, kn, rfl, hrl, hat, hok, hwl, hkl, kq⟩ := h
  refine ⟨_, pss_cons (ps_set (i := 3) scDu.nd rfl (Or.inl rfl) (pe_lst pa_nil)) <|
    pss_cons (ps_for PassesOwn.never rfl (pi_enum (by rfl) b_enumerate (pa_cons (pv 0) pa_nil)) (pg_tup (by rfl) (pgs_cons (pg_name (i := 4) scDu.nd rfl (Or.inl rfl)) (pgs_cons (pg_tup (by rfl) (pgs_cons (pg_name (i := 5) scDu.nd rfl (Or.inl rfl)) (pgs_cons (pg_name (i := 6) scDu.nd rfl (Or.inl rfl)) (pgs_cons (pg_name (i := 7) scDu.nd rfl (Or.inl rfl)) pgs_nil)))) pgs_nil)))
      (pss_cons (ps_if (PW.pt (pw_and (pt_cmpR op_eq (pv 6) (pv 1) (nomark _)) (pw_and1 (pt_cmpR op_eq (pe_ix (r := rIxT K) ix_tup (pv 5) pe_int (fun _ _ => rfl)) pe_str (nomark _)))))
        (pss_one (ps_expr (pe_bm PySem.F.plainAttrs_list PySem.F.slot_list_append PySem.F.type_list_append mt_append (pv 3) (pa_cons (pe_tup (pa_cons (pv 4) (pa_cons pe_str (pa_cons (pv 4) pa_nil)))) pa_nil))))
        (pss_nil)) <|
      pss_cons (ps_if (PW.pt (pw_and (pt_cmpR op_eq (pv 6) (pv 1) (nomark _)) (pw_and1 (pt_cmpR op_eq (pe_ix (r := rIxT K) ix_tup (pv 5) pe_int (fun _ _ => rfl)) pe_str (nomark _)))))
        (pss_one (ps_expr (pe_bm PySem.F.plainAttrs_list PySem.F.slot_list_append PySem.F.type_list_append mt_append (pv 3) (pa_cons (pe_op op_catA (pe_tup (pa_cons (pv 4) (pa_cons pe_str pa_nil))) (pe_cc FD hr (by omega) pass0 (pa_cons (pe_ix (r := rIxT K) ix_tup (pv 5) pe_int (fun _ _ => rfl)) (pa_cons (pv 7) (pa_cons (pv 2) pa_nil))))) pa_nil))))
        (pss_nil)) <|
      pss_cons (ps_if (PW.pt (pw_and (pt_cmpR op_eq (pv 6) (pv 1) (nomark _)) (pw_and1 (pt_cmpR op_eq (pe_ix (r := rIxT K) ix_tup (pv 5) pe_int (fun _ _ => rfl)) pe_str (nomark _)))))
        (pss_one (ps_expr (pe_bm PySem.F.plainAttrs_list PySem.F.slot_list_append PySem.F.type_list_append mt_append (pv 3) (pa_cons (pe_op op_catA (pe_tup (pa_cons (pv 4) (pa_cons pe_str pa_nil))) (pe_cc FD hr (by omega) pass0 (pa_cons (pe_ix (r := rIxT K) ix_tup (pv 5) pe_int (fun _ _ => rfl)) (pa_cons (pv 7) (pa_cons (pv 2) pa_nil))))) pa_nil))))
        (pss_nil)) <|
      pss_one (ps_if (PW.pt (pw_and (pt_cmpR op_eq (pv 6) (pv 1) (nomark _)) (pw_and1 (pt_cmpR op_eq (pe_ix (r := rIxT K) ix_tup (pv 5) pe_int (fun _ _ => rfl)) pe_str (nomark _)))))
        (pss_one (ps_expr (pe_bm PySem.F.plainAttrs_list PySem.F.slot_list_append PySem.F.type_list_append mt_append (pv 3) (pa_cons (pe_op op_catA (pe_tup (pa_cons (pv 4) (pa_cons pe_str pa_nil))) (pe_cc FD hr (by omega) pass0 (pa_cons (pe_ix (r := rIxT K) ix_tup (pv 5) pe_int (fun _ _ => rfl)) (pa_cons (pv 7) (pa_cons (pv 2) pa_nil))))) pa_nil))))
        (pss_nil)))) <|
    pss_one (ps_ret (pv 3)), ?_⟩
  refine ⟨by show 0 ≤ sizeLine; decide, fun fl hfl => ?_⟩
  have s1 := same_new hfl (.lst [])
  have f1 : upd H fl (.lst []) fl = some (.lst []) := upd_same
  generalize upd H fl (.lst []) = H1 at s1 f1 ⊢
  have hul := hat.len
  refine ⟨_, rfl, rl, us, rfl, SqL.of (s1 _ _ hrl), ?_⟩
  refine for_it walk_enum (fun i σ H' => ∃ (v4 v5 v6 v7 : Option V) (vs : List V), σ = [some (.ref rl), some (.int c), some (.ref kl), some (.ref fl), v4, v5, v6, v7] ∧ Same H H' ∧ H' fl = some (.lst vs) ∧ AtL AtRw H' (due8 kn c 0 (wk.take i)) vs) ⟨none, none, none, none, [], rfl, s1, f1, rfl⟩ (fun i σ H' _ ⟨_, _, _, _, _, _, s', _⟩ => SqL.of (s' _ _ hrl)) ?_ ?_
  · rintro i u σ H2 H3 hi ⟨v4, v5, v6, v7, vs, rfl, s2, f2, at2⟩ hy
    obtain ⟨T, x0, u', rfl, hT, rfl, e0, hu⟩ := hy
    cases e0
    have sT := same_new hT (.tup [.int (i : Nat), u'])
    have fT : upd H2 T (.tup [.int (i : Nat), u']) T = some (.tup [.int (i : Nat), u']) := upd_same
    generalize upd H2 T (.tup [.int (i : Nat), u']) = H3 at sT fT ⊢
    have s3 := s2.trans sT
    have f3 := sT _ _ f2
    have at3 := AtL.onR (fun _ _ z => AtRw.on (same_tups sT) z) at2
    obtain ⟨⟨n, cc, ar⟩, ht, pt, vn, va, rfl, hpt0, hn0, hva0⟩ := hat.get hu
    obtain ⟨ok, hsd⟩ := hok _ (List.mem_of_getElem? ht)
    have hpt := s3 _ _ hpt0
    have hn := AtN.on (same_tups s3) hn0
    have hva := hva0.sx (SX.same s3)
    have hkl3 := s3 _ _ hkl
    have hal : ar.length ≤ 100 := ok.l
    have et : due8 kn c 0 (wk.take (i + 1)) = due8 kn c 0 (wk.take i) ++ (if cc = c then dueR kn i (n, cc, ar) else []) := by
      have hl : (wk.take i).length = i := by rw [List.length_take]; have := (List.getElem?_eq_some_iff.mp ht).1; omega
      rw [List.take_add_one, ht, due8_app, hl, Nat.zero_add]
      show _ ++ ((if cc = c then dueR kn i (n, cc, ar) else []) ++ []) = _
      rw [List.append_nil]
    have hvl : vs.length ≤ 5000 := by
      have h1 := at3.len
      have h2 := due8_len kn c (wk.take i) 0
      rw [List.length_take] at h2
      omega
    have hflk : fl ≠ kl := fun z => by rw [z, hkl] at hfl; cases hfl
    have add : ∀ (H5 : Hp) (v : V) (r : Rw), Same H3 H5 → AtRw H5 r v → Same H (upd H5 fl (.lst (vs ++ [v]))) ∧ Tups H3 (upd H5 fl (.lst (vs ++ [v]))) ∧ AtL AtRw (upd H5 fl (.lst (vs ++ [v]))) (due8 kn c 0 (wk.take i) ++ [r]) (vs ++ [v]) := fun H5 v r s5 hr => by
      have tu : Tups H5 (upd H5 fl (.lst (vs ++ [v]))) := tups_lst (s5 _ _ f3)
      refine ⟨fun b o hb => ?_, (same_tups s5).trans tu, ?_⟩
      · rw [upd_ne (ne_of_none hb hfl)]
        exact s5 _ _ (s3 _ _ hb)
      · exact (AtL.onR (fun _ _ z => AtRw.on ((same_tups s5).trans tu) z) at3).snoc (hr.on tu)
    refine ⟨T, _, rfl, SqT.of fT, rfl, _, _, rfl, _, _, rfl, pt, _, rfl, SqT.of hpt, rfl, _, _, rfl, _, _, rfl, _, _, rfl, rfl, rfl, ?_⟩
    cases n with
    | e x =>
      cases x with
      | num z =>
        obtain ⟨p, rfl, hp⟩ := hn
        by_cases hcc : cc = c
        · rw [if_pos hcc] at et
          refine ⟨_, rfl, _, rfl, rfl, _, rfl, takeI hcc ?_⟩
          refine ⟨_, rfl, p, _, 0, _, rfl, rfl, SqT.of hp, atI_0, rfl, _, rfl, ?_⟩
          refine iteF ?_
          refine ⟨_, rfl, _, rfl, rfl, _, rfl, takeI hcc ?_⟩
          refine ⟨_, rfl, p, _, 0, _, rfl, rfl, SqT.of hp, atI_0, rfl, _, rfl, ?_⟩
          refine iteF ?_
          refine ⟨_, rfl, _, rfl, rfl, _, rfl, takeI hcc ?_⟩
          refine ⟨_, rfl, p, _, 0, _, rfl, rfl, SqT.of hp, atI_0, rfl, _, rfl, ?_⟩
          refine iteF ?_
          refine ⟨_, rfl, _, rfl, rfl, _, rfl, takeI hcc ?_⟩
          refine ⟨_, rfl, p, _, 0, _, rfl, rfl, SqT.of hp, atI_0, rfl, _, rfl, ?_⟩
          refine iteF ?_
          exact ⟨_, _, _, _, _, rfl, s3, f3, by rw [et]; show AtL AtRw H3 (_ ++ []) _; rw [List.append_nil]; exact at3⟩
        · rw [if_neg hcc, List.append_nil] at et
          refine ⟨_, rfl, _, rfl, rfl, _, rfl, skipI hcc (iteF ?_)⟩
          refine ⟨_, rfl, _, rfl, rfl, _, rfl, skipI hcc (iteF ?_)⟩
          refine ⟨_, rfl, _, rfl, rfl, _, rfl, skipI hcc (iteF ?_)⟩
          refine ⟨_, rfl, _, rfl, rfl, _, rfl, skipI hcc (iteF ?_)⟩
          exact ⟨_, _, _, _, _, rfl, s3, f3, by rw [et]; exact at3⟩
      | nam z =>
        obtain ⟨p, rfl, hp⟩ := hn
        by_cases hcc : cc = c
        · rw [if_pos hcc] at et
          refine ⟨_, rfl, _, rfl, rfl, _, rfl, takeI hcc ?_⟩
          refine ⟨_, rfl, p, _, 0, _, rfl, rfl, SqT.of hp, atI_0, rfl, _, rfl, ?_⟩
          refine iteF ?_
          refine ⟨_, rfl, _, rfl, rfl, _, rfl, takeI hcc ?_⟩
          refine ⟨_, rfl, p, _, 0, _, rfl, rfl, SqT.of hp, atI_0, rfl, _, rfl, ?_⟩
          refine iteT ?_
          refine ⟨_, rfl, .inl ⟨rfl, _, SqL.of f3⟩, _, rfl, by show 2 ≤ sizeLine; decide, fun t1 ht1 => ?_⟩
          have r1 := same_new ht1 (.tup [iV i, S_ "name"])
          refine ⟨_, rfl, p, _, 1, _, rfl, rfl, SqT.of (r1 _ _ hp), rfl, _, rfl, _, rfl, z, va, [], ar, kl, kn, rfl, hva.sx (SX.same r1), r1 _ _ hkl3, hsd, by omega, fun H5 p5 r5 h5 => ?_⟩
          refine ⟨t1, p5, [iV i, S_ "name"], _, rfl, rfl, SqT.of (r5 _ _ upd_same), SqT.of h5, by show 2 + 2 ≤ sizeLine; decide, fun z => (by cases z), fun _ z => (by cases z), fun _ _ tq htq => ?_⟩
          have s5 := (r1.trans r5).trans (same_new htq (.tup ([iV i, S_ "name"] ++ [iV (findN z (ar ++ [kn])).1, iV (findN z (ar ++ [kn])).2])))
          obtain ⟨a1, a2, a3⟩ := add _ (.ref tq) [iV i, S_ "name", iV (findN z (ar ++ [kn])).1, iV (findN z (ar ++ [kn])).2] s5 ⟨tq, rfl, upd_same⟩
          refine ⟨fl, vs, .ref tq, rfl, rfl, s5 _ _ f3, by rw [sizeLine_eq]; omega, ?_⟩
          refine ⟨_, rfl, _, rfl, rfl, _, rfl, takeI hcc ?_⟩
          refine ⟨_, rfl, p, _, 0, _, rfl, rfl, SqT.of (a2 _ _ hp), atI_0, rfl, _, rfl, ?_⟩
          refine iteF ?_
          refine ⟨_, rfl, _, rfl, rfl, _, rfl, takeI hcc ?_⟩
          refine ⟨_, rfl, p, _, 0, _, rfl, rfl, SqT.of (a2 _ _ hp), atI_0, rfl, _, rfl, ?_⟩
          refine iteF ?_
          exact ⟨_, _, _, _, _, rfl, a1, upd_same, by rw [et]; exact a3⟩
        · rw [if_neg hcc, List.append_nil] at et
          refine ⟨_, rfl, _, rfl, rfl, _, rfl, skipI hcc (iteF ?_)⟩
          refine ⟨_, rfl, _, rfl, rfl, _, rfl, skipI hcc (iteF ?_)⟩
          refine ⟨_, rfl, _, rfl, rfl, _, rfl, skipI hcc (iteF ?_)⟩
          refine ⟨_, rfl, _, rfl, rfl, _, rfl, skipI hcc (iteF ?_)⟩
          exact ⟨_, _, _, _, _, rfl, s3, f3, by rw [et]; exact at3⟩
      | blk ps ss =>
        obtain ⟨p, vw, q, xs, rfl, hp, _⟩ := hn
        by_cases hcc : cc = c
        · rw [if_pos hcc] at et
          refine ⟨_, rfl, _, rfl, rfl, _, rfl, takeI hcc ?_⟩
          refine ⟨_, rfl, p, _, 0, _, rfl, rfl, SqT.of hp, atI_0, rfl, _, rfl, ?_⟩
          refine iteT ?_
          refine ⟨_, rfl, .inl ⟨rfl, _, SqL.of f3⟩, _, rfl, _, rfl, by show 3 ≤ sizeLine; decide, fun tq htq => ?_⟩
          have s5 := same_new htq (.tup [iV i, S_ "block", iV i])
          obtain ⟨a1, a2, a3⟩ := add _ (.ref tq) [iV i, S_ "block", iV i] s5 ⟨tq, rfl, upd_same⟩
          refine ⟨fl, vs, .ref tq, rfl, rfl, s5 _ _ f3, by rw [sizeLine_eq]; omega, ?_⟩
          refine ⟨_, rfl, _, rfl, rfl, _, rfl, takeI hcc ?_⟩
          refine ⟨_, rfl, p, _, 0, _, rfl, rfl, SqT.of (a2 _ _ hp), atI_0, rfl, _, rfl, ?_⟩
          refine iteF ?_
          refine ⟨_, rfl, _, rfl, rfl, _, rfl, takeI hcc ?_⟩
          refine ⟨_, rfl, p, _, 0, _, rfl, rfl, SqT.of (a2 _ _ hp), atI_0, rfl, _, rfl, ?_⟩
          refine iteF ?_
          refine ⟨_, rfl, _, rfl, rfl, _, rfl, takeI hcc ?_⟩
          refine ⟨_, rfl, p, _, 0, _, rfl, rfl, SqT.of (a2 _ _ hp), atI_0, rfl, _, rfl, ?_⟩
          refine iteF ?_
          exact ⟨_, _, _, _, _, rfl, a1, upd_same, by rw [et]; exact a3⟩
        · rw [if_neg hcc, List.append_nil] at et
          refine ⟨_, rfl, _, rfl, rfl, _, rfl, skipI hcc (iteF ?_)⟩
          refine ⟨_, rfl, _, rfl, rfl, _, rfl, skipI hcc (iteF ?_)⟩
          refine ⟨_, rfl, _, rfl, rfl, _, rfl, skipI hcc (iteF ?_)⟩
          refine ⟨_, rfl, _, rfl, rfl, _, rfl, skipI hcc (iteF ?_)⟩
          exact ⟨_, _, _, _, _, rfl, s3, f3, by rw [et]; exact at3⟩
      | _ => exact ok.f.elim
    | s x =>
      cases x with
      | set z e =>
        obtain ⟨p, ve, rfl, hp, _⟩ := hn
        by_cases hcc : cc = c
        · rw [if_pos hcc] at et
          refine ⟨_, rfl, _, rfl, rfl, _, rfl, takeI hcc ?_⟩
          refine ⟨_, rfl, p, _, 0, _, rfl, rfl, SqT.of hp, atI_0, rfl, _, rfl, ?_⟩
          refine iteF ?_
          refine ⟨_, rfl, _, rfl, rfl, _, rfl, takeI hcc ?_⟩
          refine ⟨_, rfl, p, _, 0, _, rfl, rfl, SqT.of hp, atI_0, rfl, _, rfl, ?_⟩
          refine iteF ?_
          refine ⟨_, rfl, _, rfl, rfl, _, rfl, takeI hcc ?_⟩
          refine ⟨_, rfl, p, _, 0, _, rfl, rfl, SqT.of hp, atI_0, rfl, _, rfl, ?_⟩
          refine iteT ?_
          refine ⟨_, rfl, .inl ⟨rfl, _, SqL.of f3⟩, _, rfl, by show 2 ≤ sizeLine; decide, fun t1 ht1 => ?_⟩
          have r1 := same_new ht1 (.tup [iV i, S_ "setname"])
          refine ⟨_, rfl, p, _, 1, _, rfl, rfl, SqT.of (r1 _ _ hp), rfl, _, rfl, _, rfl, z, va, [], ar, kl, kn, rfl, hva.sx (SX.same r1), r1 _ _ hkl3, hsd.1, by omega, fun H5 p5 r5 h5 => ?_⟩
          refine ⟨t1, p5, [iV i, S_ "setname"], _, rfl, rfl, SqT.of (r5 _ _ upd_same), SqT.of h5, by show 2 + 2 ≤ sizeLine; decide, fun z => (by cases z), fun _ z => (by cases z), fun _ _ tq htq => ?_⟩
          have s5 := (r1.trans r5).trans (same_new htq (.tup ([iV i, S_ "setname"] ++ [iV (findN z (ar ++ [kn])).1, iV (findN z (ar ++ [kn])).2])))
          obtain ⟨a1, a2, a3⟩ := add _ (.ref tq) [iV i, S_ "setname", iV (findN z (ar ++ [kn])).1, iV (findN z (ar ++ [kn])).2] s5 ⟨tq, rfl, upd_same⟩
          refine ⟨fl, vs, .ref tq, rfl, rfl, s5 _ _ f3, by rw [sizeLine_eq]; omega, ?_⟩
          refine ⟨_, rfl, _, rfl, rfl, _, rfl, takeI hcc ?_⟩
          refine ⟨_, rfl, p, _, 0, _, rfl, rfl, SqT.of (a2 _ _ hp), atI_0, rfl, _, rfl, ?_⟩
          refine iteF ?_
          exact ⟨_, _, _, _, _, rfl, a1, upd_same, by rw [et]; exact a3⟩
        · rw [if_neg hcc, List.append_nil] at et
          refine ⟨_, rfl, _, rfl, rfl, _, rfl, skipI hcc (iteF ?_)⟩
          refine ⟨_, rfl, _, rfl, rfl, _, rfl, skipI hcc (iteF ?_)⟩
          refine ⟨_, rfl, _, rfl, rfl, _, rfl, skipI hcc (iteF ?_)⟩
          refine ⟨_, rfl, _, rfl, rfl, _, rfl, skipI hcc (iteF ?_)⟩
          exact ⟨_, _, _, _, _, rfl, s3, f3, by rw [et]; exact at3⟩
      | tri x z y =>
        obtain ⟨p, q, xs, r, ys, rfl, hp, _⟩ := hn
        by_cases hcc : cc = c
        · rw [if_pos hcc] at et
          refine ⟨_, rfl, _, rfl, rfl, _, rfl, takeI hcc ?_⟩
          refine ⟨_, rfl, p, _, 0, _, rfl, rfl, SqT.of hp, atI_0, rfl, _, rfl, ?_⟩
          refine iteF ?_
          refine ⟨_, rfl, _, rfl, rfl, _, rfl, takeI hcc ?_⟩
          refine ⟨_, rfl, p, _, 0, _, rfl, rfl, SqT.of hp, atI_0, rfl, _, rfl, ?_⟩
          refine iteF ?_
          refine ⟨_, rfl, _, rfl, rfl, _, rfl, takeI hcc ?_⟩
          refine ⟨_, rfl, p, _, 0, _, rfl, rfl, SqT.of hp, atI_0, rfl, _, rfl, ?_⟩
          refine iteF ?_
          refine ⟨_, rfl, _, rfl, rfl, _, rfl, takeI hcc ?_⟩
          refine ⟨_, rfl, p, _, 0, _, rfl, rfl, SqT.of hp, atI_0, rfl, _, rfl, ?_⟩
          refine iteT ?_
          refine ⟨_, rfl, .inl ⟨rfl, _, SqL.of f3⟩, _, rfl, by show 2 ≤ sizeLine; decide, fun t1 ht1 => ?_⟩
          have r1 := same_new ht1 (.tup [iV i, S_ "setname"])
          refine ⟨_, rfl, p, _, 2, _, rfl, rfl, SqT.of (r1 _ _ hp), rfl, _, rfl, _, rfl, z, va, [], ar, kl, kn, rfl, hva.sx (SX.same r1), r1 _ _ hkl3, hsd.1, by omega, fun H5 p5 r5 h5 => ?_⟩
          refine ⟨t1, p5, [iV i, S_ "setname"], _, rfl, rfl, SqT.of (r5 _ _ upd_same), SqT.of h5, by show 2 + 2 ≤ sizeLine; decide, fun z => (by cases z), fun _ z => (by cases z), fun _ _ tq htq => ?_⟩
          have s5 := (r1.trans r5).trans (same_new htq (.tup ([iV i, S_ "setname"] ++ [iV (findN z (ar ++ [kn])).1, iV (findN z (ar ++ [kn])).2])))
          obtain ⟨a1, a2, a3⟩ := add _ (.ref tq) [iV i, S_ "setname", iV (findN z (ar ++ [kn])).1, iV (findN z (ar ++ [kn])).2] s5 ⟨tq, rfl, upd_same⟩
          refine ⟨fl, vs, .ref tq, rfl, rfl, s5 _ _ f3, by rw [sizeLine_eq]; omega, ?_⟩
          exact ⟨_, _, _, _, _, rfl, a1, upd_same, by rw [et]; exact a3⟩
        · rw [if_neg hcc, List.append_nil] at et
          refine ⟨_, rfl, _, rfl, rfl, _, rfl, skipI hcc (iteF ?_)⟩
          refine ⟨_, rfl, _, rfl, rfl, _, rfl, skipI hcc (iteF ?_)⟩
          refine ⟨_, rfl, _, rfl, rfl, _, rfl, skipI hcc (iteF ?_)⟩
          refine ⟨_, rfl, _, rfl, rfl, _, rfl, skipI hcc (iteF ?_)⟩
          exact ⟨_, _, _, _, _, rfl, s3, f3, by rw [et]; exact at3⟩
      | _ => exact ok.f.elim
  rintro σ H2 ⟨v4, v5, v6, v7, vs, rfl, s2, f2, at2⟩
  rw [hul, List.take_length] at at2
  exact ⟨_, rfl, kq H2 fl vs s2 hfl f2 at2⟩
end
end My
set_option Elab.async false
set_option linter.all false
set_option maxRecDepth 100000
set_option maxHeartbeats 4000000
namespace My
open PySem L2 SS
/-! ### the law's walk, as a list -/
theorem kn_one : ∀ (h : Nat) (n : Nd) (c : Int) (ar : List (List T)) (a : Nat) (hid f : List T), hN n ≤ h + 1 → SameW ar.flatten hid → (wk8 (h + 1) n c ar a).foldl orF f = wiS h hid f n := by
  intro h
  induction h with
  | zero =>
    intro n c ar a hid f hn sw
    have hp : parts n = [] := by
      cases e : parts n with
      | nil => rfl
      | cons q r =>
        have := (parts_h n q (by rw [e]; exact List.mem_cons_self)).1
        have := hN_pos q
        omega
    rw [wk8_succ, hp]
    show addN n ar.flatten f = wiH 0 (parts n) (hid ++ blkP n) (addN n hid f)
    exact sw.add n f
  | succ h ih =>
    intro n c ar a hid f hn sw
    rw [wk8_succ, List.foldl_cons]
    have e0 : orF f (n, c, ar) = addN n hid f := sw.add n f
    rw [e0]
    have sw2 : SameW (arI n ar).flatten (hid ++ blkP n) := by
      unfold arI
      by_cases c : isBlk n = true
      · rw [if_pos c, List.flatten_cons]
        exact sw.blk (blkP n)
      · rw [if_neg c]
        have : blkP n = [] := by
          cases n with
          | e x => cases x with
            | blk ps ss => exact absurd rfl c
            | _ => rfl
          | s x => rfl
        rw [this, List.append_nil]
        exact sw
    have gen : ∀ (qs : List Nd) (acc : List W8) (g : List T), (∀ q ∈ qs, hN q ≤ h + 1) → acc.foldl orF (addN n hid f) = g → (qs.foldl (fun acc q => acc ++ wk8 (h + 1) q (cdI n c a) (arI n ar) (a + 1 + acc.length)) acc).foldl orF (addN n hid f) = qs.foldl (wiS h (hid ++ blkP n)) g := fun qs => by
      induction qs with
      | nil => intro acc g _ e; exact e
      | cons q r ihq =>
        intro acc g hq e
        rw [List.foldl_cons, List.foldl_cons]
        refine ihq _ _ (fun x hx => hq x (List.mem_cons_of_mem _ hx)) ?_
        rw [List.foldl_append, e]
        exact ih q _ _ _ _ _ (hq q List.mem_cons_self) sw2
    show (wk8L (h + 1) (parts n) (cdI n c a) (arI n ar) (a + 1)).foldl orF (addN n hid f) = wiH (h + 1) (parts n) (hid ++ blkP n) (addN n hid f)
    rw [wiH_succ]
    exact gen (parts n) [] _ (fun q hq => by have := (parts_h n q hq).1; omega) rfl
theorem kn_list {h : Nat} {c : Int} {ar : List (List T)} {hid : List T} (sw : SameW ar.flatten hid) : ∀ (qs : List Nd) (a : Nat) (f : List T), (∀ q ∈ qs, hN q ≤ h + 1) → (wk8L (h + 1) qs c ar a).foldl orF f = wiL h qs hid f := by
  intro qs a f hq
  have gen : ∀ (qs : List Nd) (acc : List W8) (g : List T), (∀ q ∈ qs, hN q ≤ h + 1) → acc.foldl orF f = g → (qs.foldl (fun acc q => acc ++ wk8 (h + 1) q c ar (a + acc.length)) acc).foldl orF f = qs.foldl (wiS h hid) g := fun qs => by
    induction qs with
    | nil => intro acc g _ e; exact e
    | cons q r ihq =>
      intro acc g hq e
      rw [List.foldl_cons, List.foldl_cons]
      refine ihq _ _ (fun x hx => hq x (List.mem_cons_of_mem _ hx)) ?_
      rw [List.foldl_append, e]
      exact kn_one h q _ _ _ _ _ (hq q List.mem_cons_self) sw
  exact gen qs [] _ hq rfl
/-- the walk of a method -/
def wkM8 (m : Me) : List W8 := wk8L 40 (stl m.ss) (-1) [] 0
theorem kn_names8 {m : Me} (h : gdM m) : (wkM8 m).foldl orF m.ps = namesM m := by
  rw [← namesH_eq h]
  unfold wkM8 namesH
  rw [wiH_succ]
  refine kn_list (h := 39) (fun w => Iff.rfl) _ _ _ fun q hq => ?_
  have := stl_ho m.ss q hq
  have := h.o
  omega
/-- what is found from nothing, less what is given, behind the given -/
theorem or_given (g : List T) : ∀ (wk : List W8) (F : List T), g ++ (wk.foldl orF F).filter (fun w => !decide (w ∈ g)) = wk.foldl orF (g ++ F.filter fun w => !decide (w ∈ g))
  | [], F => rfl
  | t :: r, F => by
    rw [List.foldl_cons, List.foldl_cons, or_given g r (orF F t)]
    congr 1
    unfold orF addN
    cases nameN t.1 with
    | none => rfl
    | some w =>
      show g ++ List.filter _ (if w ∈ t.2.2.flatten ∨ w ∈ F then F else F ++ [w]) = if w ∈ t.2.2.flatten ∨ w ∈ g ++ F.filter (fun w => !decide (w ∈ g)) then _ else _
      by_cases hh : w ∈ t.2.2.flatten
      · rw [if_pos (.inl hh), if_pos (.inl hh)]
      · by_cases hF : w ∈ F
        · rw [if_pos (.inr hF), if_pos]
          refine .inr ?_
          by_cases hg : w ∈ g
          · exact List.mem_append_left _ hg
          · exact List.mem_append_right _ (List.mem_filter.mpr ⟨hF, by simpa using hg⟩)
        · rw [if_neg (fun z => z.elim hh hF), List.filter_append]
          by_cases hg : w ∈ g
          · rw [if_pos (.inr (List.mem_append_left _ hg))]
            have : List.filter (fun w => !decide (w ∈ g)) [w] = [] := List.filter_cons_of_neg (by simpa using hg)
            rw [this, List.append_nil]
          · rw [if_neg]
            · have : List.filter (fun w => !decide (w ∈ g)) [w] = [w] := List.filter_cons_of_pos (by simpa using hg)
              rw [this, List.append_assoc]
            · intro z
              rcases z with z | z
              · exact hh z
              · rcases List.mem_append.mp z with z | z
                · exact hg z
                · exact hF (List.mem_filter.mp z).1
theorem known_is {m : Me} (h : gdM m) : m.ps ++ ((wkM8 m).foldl orF []).filter (fun w => !decide (w ∈ m.ps)) = namesM m := by
  rw [or_given, ← kn_names8 h]
  simp
/-- node and code, as the program has them -/
theorem wk8_gone : ∀ (h : Nat) (n : Nd) (c : Int) (ar : List (List T)) (a : Nat), (wk8 h n c ar a).map (fun t => (t.1, t.2.1)) = goneH h n c a
  | 0, _, _, _, _ => rfl
  | h + 1, n, c, ar, a => by
    rw [wk8_succ, goneH_succ, List.map_cons]
    congr 1
    have gen : ∀ (qs : List Nd) (acc : List W8) (acc' : List (Nd × Int)), acc.map (fun t => (t.1, t.2.1)) = acc' → (qs.foldl (fun acc q => acc ++ wk8 h q (cdI n c a) (arI n ar) (a + 1 + acc.length)) acc).map (fun t => (t.1, t.2.1)) = qs.foldl (fun acc q => acc ++ goneH h q (cdI n c a) (a + 1 + acc.length)) acc' := fun qs => by
      induction qs with
      | nil => intro acc acc' e; exact e
      | cons q r ih =>
        intro acc acc' e
        rw [List.foldl_cons, List.foldl_cons]
        refine ih _ _ ?_
        rw [List.map_append, e, wk8_gone h q, ← e, List.length_map]
    exact gen (parts n) [] [] rfl
theorem wkM8_gone (m : Me) : (wkM8 m).map (fun t => (t.1, t.2.1)) = gM m := by
  have gen : ∀ (qs : List Nd) (acc : List W8) (acc' : List (Nd × Int)), acc.map (fun t => (t.1, t.2.1)) = acc' → (qs.foldl (fun acc q => acc ++ wk8 40 q (-1) [] (0 + acc.length)) acc).map (fun t => (t.1, t.2.1)) = qs.foldl (fun acc q => acc ++ goneH 40 q (-1) (0 + acc.length)) acc' := fun qs => by
    induction qs with
    | nil => intro acc acc' e; exact e
    | cons q r ih =>
      intro acc acc' e
      rw [List.foldl_cons, List.foldl_cons]
      refine ih _ _ ?_
      rw [List.map_append, e, wk8_gone, ← e, List.length_map]
  exact gen (stl m.ss) [] [] rfl
theorem sd_exl {sur : List (List T)} : ∀ (es : Exs), sdEs sur es → ∀ q ∈ exl es, sdN sur q
  | .nil, _, q, h => by cases h
  | .cons e r, g, q, h => by
    rcases List.mem_cons.mp h with rfl | h
    · exact g.1
    · exact sd_exl r g.2 q h
theorem sd_stl {sur : List (List T)} : ∀ (es : Sts), sdSs sur es → ∀ q ∈ stl es, sdN sur q
  | .nil, _, q, h => by cases h
  | .cons e r, g, q, h => by
    rcases List.mem_cons.mp h with rfl | h
    · exact g.1
    · exact sd_stl r g.2 q h
theorem sd_parts {ar : List (List T)} {z : List (List T)} (n : Nd) (h : sdN (ar ++ z) n) : ∀ q ∈ parts n, sdN (arI n ar ++ z) q := fun q hq => by
  cases n with
  | e x =>
    cases x with
    | send r m es =>
      rcases List.mem_cons.mp hq with rfl | hq
      · exact h.1
      · exact sd_exl es h.2 q hq
    | up m es => exact sd_exl es h q hq
    | lst es => exact sd_exl es h q hq
    | blk ps ss => exact sd_stl ss h.2.2 q hq
    | _ => cases hq
  | s x =>
    have one : ∀ {e : Ex}, q ∈ [Nd.e e] → sdE (ar ++ z) e → sdN (ar ++ z) q := fun {e} hq he => by
      have : q = .e e := by simpa using hq
      subst this
      exact he
    cases x with
    | set w e => exact one hq h.2
    | sfl w e => exact one hq h
    | pl w e => exact one hq h.2
    | iff e a b =>
      rcases List.mem_cons.mp hq with rfl | hq
      · exact h.1
      · rcases List.mem_append.mp hq with hq | hq
        · exact sd_stl a h.2.1 q hq
        · exact sd_stl b h.2.2 q hq
    | whl e a =>
      rcases List.mem_cons.mp hq with rfl | hq
      · exact h.1
      · exact sd_stl a h.2 q hq
    | tri a w b =>
      rcases List.mem_append.mp hq with hq | hq
      · exact sd_stl a h.2.1 q hq
      · exact sd_stl b h.2.2 q hq
theorem nn_part (n q : Nd) (h : q ∈ parts n) : nN q ≤ nN n := by
  obtain ⟨j, hj, e⟩ := List.getElem_of_mem h
  have := sum_take_le (parts n) (i := j) (q := q) (by rw [List.getElem?_eq_getElem hj, e])
  have := parts_n n
  omega
end My
set_option Elab.async false
set_option linter.all false
set_option maxRecDepth 100000
set_option maxHeartbeats 4000000
namespace My
open PySem L2 SS
def pickR (r : Rw) : Bool := match r[1]? with
  | some v => inV v [S_ "name", S_ "setname", S_ "block"]
  | none => false
/-! the rows of names and blocks of a code, in the law's order -/
def duE (sur : List (List T)) : Ex → Nat → List Rw
  | .nam w, a => [[iV a, S_ "name", iV (findN w sur).1, iV (findN w sur).2]]
  | .blk _ _, a => [[iV a, S_ "block", iV a]]
  | _, _ => []
mutual
def duS (sur : List (List T)) : St_ → Nat → List Rw
  | .set w e, a => [iV a, S_ "setname", iV (findN w sur).1, iV (findN w sur).2] :: duE sur e (a + 1)
  | .tri x w y, a => [iV a, S_ "setname", iV (findN w sur).1, iV (findN w sur).2] :: (duSs sur x (a + 1) ++ duSs sur y (a + 1 + nSs x))
  | _, _ => []
def duSs (sur : List (List T)) : Sts → Nat → List Rw
  | .nil, _ => []
  | .cons s r, a => duS sur s a ++ duSs sur r (a + nS s)
end
theorem pick_no {x : V} {s : Str} {r : List V} (h : inV (.str s) [S_ "name", S_ "setname", S_ "block"] = false) : pickR (x :: .str s :: r) = false := h
theorem pick_yes {x : V} {s : Str} {r : List V} (h : inV (.str s) [S_ "name", S_ "setname", S_ "block"] = true) : pickR (x :: .str s :: r) = true := h
theorem pick_E {sur : List (List T)} : ∀ (e : Ex) (a : Nat), fE e → (rwE sur e a).filter pickR = duE sur e a
  | .num n, a, _ => List.filter_cons_of_neg (by rw [pick_no (by decide +kernel)]; decide)
  | .nam w, a, _ => by
    show List.filter pickR [[iV a, S_ "name", iV (findN w sur).1, iV (findN w sur).2]] = _
    rw [List.filter_cons_of_pos (pick_yes (by decide +kernel))]
    rfl
  | .blk ps ss, a, _ => by
    show List.filter pickR [[iV a, S_ "block", iV a]] = _
    rw [List.filter_cons_of_pos (pick_yes (by decide +kernel))]
    rfl
theorem fil_no {r : Rw} {l : List Rw} (h : pickR r = false) : (r :: l).filter pickR = l.filter pickR := List.filter_cons_of_neg (by rw [h]; decide)
theorem fil_yes {r : Rw} {l : List Rw} (h : pickR r = true) : (r :: l).filter pickR = r :: l.filter pickR := List.filter_cons_of_pos h
mutual
theorem pick_S {sur : List (List T)} : ∀ (s : St_) (a o : Nat), fS s → ((rwS sur s a o).filter pickR).Perm (duS sur s a)
  | .set w e, a, o, h => by
    show (List.filter pickR ([[iV a, S_ "beat"]] ++ rwE sur e (a + 1) ++ [[iV a, S_ "setname", iV (findN w sur).1, iV (findN w sur).2]])).Perm _
    rw [List.filter_append, List.filter_append, fil_no (pick_no (by decide +kernel)), fil_yes (pick_yes (by decide +kernel)), pick_E e (a + 1) h]
    exact List.perm_append_comm
  | .tri x w y, a, o, h => by
    have hx := pick_Ss (sur := sur) x (a + 1) (o + 2) h.1
    have hy := pick_Ss (sur := sur) y (a + 1 + nSs x) (o + 5 + (rwSs sur x (a + 1) (o + 2)).length) h.2
    show (List.filter pickR ([[iV a, S_ "beat"], [iV a, S_ "try", iV (o + 4 + (rwSs sur x (a + 1) (o + 2)).length)]] ++ rwSs sur x (a + 1) (o + 2) ++ [[iV a, S_ "untry"], [iV a, S_ "jump", iV (o + 5 + (rwSs sur x (a + 1) (o + 2)).length + (rwSs sur y (a + 1 + nSs x) (o + 5 + (rwSs sur x (a + 1) (o + 2)).length)).length)], [iV a, S_ "setname", iV (findN w sur).1, iV (findN w sur).2]] ++ rwSs sur y (a + 1 + nSs x) (o + 5 + (rwSs sur x (a + 1) (o + 2)).length))).Perm _
    rw [List.filter_append, List.filter_append, List.filter_append, fil_no (pick_no (by decide +kernel)), fil_no (pick_no (by decide +kernel)), fil_no (pick_no (by decide +kernel)), fil_no (pick_no (by decide +kernel)), fil_yes (pick_yes (by decide +kernel))]
    show (([] ++ List.filter pickR (rwSs sur x (a + 1) (o + 2)) ++ [[iV a, S_ "setname", iV (findN w sur).1, iV (findN w sur).2]] ++ _) : List Rw).Perm _
    rw [List.nil_append, List.append_assoc]
    refine List.Perm.trans List.perm_middle ?_
    exact (hx.append hy).cons _
theorem pick_Ss {sur : List (List T)} : ∀ (ss : Sts) (a o : Nat), fSs ss → ((rwSs sur ss a o).filter pickR).Perm (duSs sur ss a)
  | .nil, a, o, _ => List.Perm.refl _
  | .cons s r, a, o, h => by
    show (List.filter pickR (rwS sur s a o ++ rwSs sur r (a + nS s) (o + (rwS sur s a o).length))).Perm _
    rw [List.filter_append]
    exact (pick_S s a o h.1).append (pick_Ss r _ _ h.2)
end
/-! sequences -/
def seq8 {β : Type} (F : Nd → Nat → List β) : List Nd → Nat → List β
  | [], _ => []
  | q :: r, a => F q a ++ seq8 F r (a + nN q)
theorem fold_seq8 {β : Type} (F : Nd → Nat → List β) (b : Nat) : ∀ (qs : List Nd) (acc : List β), (∀ q ∈ qs, ∀ a, (F q a).length = nN q) → qs.foldl (fun acc q => acc ++ F q (b + acc.length)) acc = acc ++ seq8 F qs (b + acc.length)
  | [], acc, _ => (List.append_nil _).symm
  | q :: r, acc, h => by
    rw [List.foldl_cons, fold_seq8 F b r _ fun x hx => h x (List.mem_cons_of_mem _ hx), List.length_append, h q List.mem_cons_self, List.append_assoc, ← Nat.add_assoc]
    rfl
theorem wk8L_seq {h : Nat} {c : Int} {ar : List (List T)} (qs : List Nd) (a : Nat) (hq : ∀ q ∈ qs, hN q ≤ h) : wk8L h qs c ar a = seq8 (fun q a => wk8 h q c ar a) qs a := by
  have := fold_seq8 (fun q a => wk8 h q c ar a) a qs [] fun q hq' b => wk8_len h q c ar b (hq q hq')
  unfold wk8L
  simpa using this
theorem wk8L_cons {h : Nat} {c : Int} {ar : List (List T)} {q : Nd} {r : List Nd} (a : Nat) (hq : ∀ x ∈ q :: r, hN x ≤ h) : wk8L h (q :: r) c ar a = wk8 h q c ar a ++ wk8L h r c ar (a + nN q) := by
  rw [wk8L_seq _ _ hq, wk8L_seq _ _ fun x hx => hq x (List.mem_cons_of_mem _ hx)]
  rfl
theorem wk8L_app {h : Nat} {c : Int} {ar : List (List T)} : ∀ (x y : List Nd) (a : Nat), (∀ q ∈ x ++ y, hN q ≤ h) → wk8L h (x ++ y) c ar a = wk8L h x c ar a ++ wk8L h y c ar (a + (x.map nN).sum)
  | [], y, a, _ => by show wk8L h y c ar a = [] ++ wk8L h y c ar (a + 0); rfl
  | q :: r, y, a, hq => by
    have hq' : ∀ z ∈ q :: (r ++ y), hN z ≤ h := hq
    rw [List.cons_append, wk8L_cons (r := r ++ y) a hq', wk8L_cons a fun z hz => hq z (by rcases List.mem_cons.mp hz with rfl | hz; exact List.mem_cons_self; exact List.mem_cons_of_mem _ (List.mem_append_left _ hz)), wk8L_app r y _ fun z hz => hq z (List.mem_cons_of_mem _ hz), List.append_assoc, List.map_cons, List.sum_cons, Nat.add_assoc]
/-- all codes: the one around, or one within -/
theorem wk8_codes : ∀ (h : Nat) (n : Nd) (c : Int) (ar : List (List T)) (a : Nat), hN n ≤ h → ∀ t ∈ wk8 h n c ar a, t.2.1 = c ∨ (((a : Nat) : Int) ≤ t.2.1 ∧ t.2.1 < ((a + nN n : Nat) : Int))
  | 0, _, _, _, _, _, t, ht => by cases ht
  | h + 1, n, c, ar, a, hh, t, ht => by
    rw [wk8_succ] at ht
    rcases List.mem_cons.mp ht with rfl | ht
    · exact .inl rfl
    have hq : ∀ q ∈ parts n, hN q ≤ h := fun q hq => by have := (parts_h n q hq).1; omega
    have hp := parts_n n
    have gen : ∀ (qs : List Nd) (c' : Int) (ar' : List (List T)) (b : Nat), (∀ q ∈ qs, hN q ≤ h) → ∀ t ∈ wk8L h qs c' ar' b, t.2.1 = c' ∨ (((b : Nat) : Int) ≤ t.2.1 ∧ t.2.1 < ((b + (qs.map nN).sum : Nat) : Int)) := fun qs => by
      induction qs with
      | nil => intro c' ar' b _ t ht; cases ht
      | cons q r ih =>
        intro c' ar' b hb t ht
        rw [wk8L_cons b hb] at ht
        rw [List.map_cons, List.sum_cons]
        rcases List.mem_append.mp ht with ht | ht
        · rcases wk8_codes h q c' ar' b (hb q List.mem_cons_self) t ht with h1 | ⟨h1, h2⟩
          · exact .inl h1
          · exact .inr ⟨h1, by omega⟩
        · rcases ih c' ar' _ (fun x hx => hb x (List.mem_cons_of_mem _ hx)) t ht with h1 | ⟨h1, h2⟩
          · exact .inl h1
          · exact .inr ⟨by omega, by omega⟩
    rcases gen (parts n) _ _ _ hq t ht with h1 | ⟨h1, h2⟩
    · unfold cdI at h1
      by_cases cb : isBlk n = true
      · rw [if_pos cb] at h1
        have := hN_pos n
        exact .inr ⟨by omega, by omega⟩
      · rw [if_neg cb] at h1
        exact .inl h1
    · exact .inr ⟨by omega, by omega⟩
theorem wk8L_codes {h : Nat} : ∀ (qs : List Nd) (c' : Int) (ar' : List (List T)) (b : Nat), (∀ q ∈ qs, hN q ≤ h) → ∀ t ∈ wk8L h qs c' ar' b, t.2.1 = c' ∨ (((b : Nat) : Int) ≤ t.2.1 ∧ t.2.1 < ((b + (qs.map nN).sum : Nat) : Int)) := fun qs => by
  induction qs with
  | nil => intro c' ar' b _ t ht; cases ht
  | cons q r ih =>
    intro c' ar' b hb t ht
    rw [wk8L_cons b hb] at ht
    rw [List.map_cons, List.sum_cons]
    rcases List.mem_append.mp ht with ht | ht
    · rcases wk8_codes h q c' ar' b (hb q List.mem_cons_self) t ht with h1 | ⟨h1, h2⟩
      · exact .inl h1
      · exact .inr ⟨h1, by omega⟩
    · rcases ih c' ar' _ (fun x hx => hb x (List.mem_cons_of_mem _ hx)) t ht with h1 | ⟨h1, h2⟩
      · exact .inl h1
      · exact .inr ⟨by omega, by omega⟩
theorem due8_no (kn : List T) (c : Int) : ∀ (x : List W8) (b : Nat), (∀ t ∈ x, t.2.1 ≠ c) → due8 kn c b x = []
  | [], _, _ => rfl
  | t :: r, b, h => by
    show (if t.2.1 = c then dueR kn b t else []) ++ due8 kn c (b + 1) r = []
    rw [if_neg (h t List.mem_cons_self), due8_no kn c r (b + 1) fun x hx => h x (List.mem_cons_of_mem _ hx)]
    rfl
end My
set_option Elab.async false
set_option linter.all false
set_option maxRecDepth 100000
set_option maxHeartbeats 4000000
namespace My
open PySem L2 SS
def duN (sur : List (List T)) : Nd → Nat → List Rw
  | .e x, a => duE sur x a
  | .s x, a => duS sur x a
theorem duSs_stl {kn : List T} {h : Nat} {c : Int} {ar : List (List T)} (one : ∀ (q : Nd) (a : Nat), hN q ≤ h → fN q → c < ((a : Nat) : Int) → due8 kn c a (wk8 h q c ar a) = duN (ar ++ [kn]) q a) : ∀ (ss : Sts) (a : Nat), (∀ q ∈ stl ss, hN q ≤ h) → fSs ss → c < ((a : Nat) : Int) → due8 kn c a (wk8L h (stl ss) c ar a) = duSs (ar ++ [kn]) ss a
  | .nil, a, _, _, _ => rfl
  | .cons s r, a, hq, hf, hc => by
    have hq' : ∀ q ∈ Nd.s s :: stl r, hN q ≤ h := hq
    show due8 kn c a (wk8L h (Nd.s s :: stl r) c ar a) = duS (ar ++ [kn]) s a ++ duSs (ar ++ [kn]) r (a + nS s)
    rw [wk8L_cons a hq', due8_app, wk8_len h (.s s) c ar a (hq' _ List.mem_cons_self), one (.s s) a (hq' _ List.mem_cons_self) hf.1 hc, duSs_stl one r _ (fun q hq => hq' q (List.mem_cons_of_mem _ hq)) hf.2 (by omega)]
    rfl
theorem due_own {kn : List T} : ∀ (h : Nat) (n : Nd) (c : Int) (ar : List (List T)) (a : Nat), hN n ≤ h → fN n → c < ((a : Nat) : Int) → due8 kn c a (wk8 h n c ar a) = duN (ar ++ [kn]) n a
  | 0, n, c, ar, a, hh, _, _ => by have := hN_pos n; omega
  | h + 1, n, c, ar, a, hh, hf, hc => by
    have hq : ∀ q ∈ parts n, hN q ≤ h := fun q hq => by have := (parts_h n q hq).1; omega
    rw [wk8_succ]
    show (if c = c then dueR kn a (n, c, ar) else []) ++ due8 kn c (a + 1) (wk8L h (parts n) (cdI n c a) (arI n ar) (a + 1)) = _
    rw [if_pos rfl]
    have gl := duSs_stl (kn := kn) (h := h) (c := c) (ar := ar) fun q a h1 h2 h3 => due_own h q c ar a h1 h2 h3
    cases n with
    | e x =>
      cases x with
      | num z => rfl
      | nam z => rfl
      | blk ps ss =>
        rw [due8_no kn c _ _ fun t ht => ?_]
        · rfl
        · rcases wk8L_codes (h := h) (parts (.e (.blk ps ss))) (cdI (.e (.blk ps ss)) c a) _ (a + 1) hq t ht with h1 | ⟨h1, _⟩
          · have e : cdI (.e (.blk ps ss)) c a = ((a : Nat) : Int) := rfl
            rw [e] at h1
            omega
          · omega
      | _ => exact hf.elim
    | s x =>
      cases x with
      | set z e =>
        have hq' : ∀ q ∈ [Nd.e e], hN q ≤ h := hq
        show [[iV a, S_ "setname", iV (findN z (ar ++ [kn])).1, iV (findN z (ar ++ [kn])).2]] ++ due8 kn c (a + 1) (wk8L h [Nd.e e] c ar (a + 1)) = [iV a, S_ "setname", iV (findN z (ar ++ [kn])).1, iV (findN z (ar ++ [kn])).2] :: duE (ar ++ [kn]) e (a + 1)
        rw [wk8L_cons (a + 1) hq']
        show _ ++ due8 kn c (a + 1) (wk8 h (Nd.e e) c ar (a + 1) ++ []) = _
        rw [List.append_nil, due_own h (.e e) c ar (a + 1) (hq' _ List.mem_cons_self) hf (by omega)]
        rfl
      | tri x z y =>
        have hq' : ∀ q ∈ stl x ++ stl y, hN q ≤ h := hq
        show [[iV a, S_ "setname", iV (findN z (ar ++ [kn])).1, iV (findN z (ar ++ [kn])).2]] ++ due8 kn c (a + 1) (wk8L h (stl x ++ stl y) c ar (a + 1)) = [iV a, S_ "setname", iV (findN z (ar ++ [kn])).1, iV (findN z (ar ++ [kn])).2] :: (duSs (ar ++ [kn]) x (a + 1) ++ duSs (ar ++ [kn]) y (a + 1 + nSs x))
        rw [wk8L_app _ _ _ hq', due8_app, gl x (a + 1) (fun q hq => hq' q (List.mem_append_left _ hq)) hf.1 (by omega), wk8L_len _ _ fun q hq => hq' q (List.mem_append_left _ hq), stl_n x, gl y (a + 1 + nSs x) (fun q hq => hq' q (List.mem_append_right _ hq)) hf.2 (by omega)]
        rfl
      | _ => exact hf.elim
theorem due_ownL {kn : List T} {h : Nat} {c : Int} {ar : List (List T)} (ss : Sts) (a : Nat) (hq : ∀ q ∈ stl ss, hN q ≤ h) (hf : fSs ss) (hc : c < ((a : Nat) : Int)) : due8 kn c a (wk8L h (stl ss) c ar a) = duSs (ar ++ [kn]) ss a :=
  duSs_stl (fun q a h1 h2 h3 => due_own h q c ar a h1 h2 h3) ss a hq hf hc
/-- of a block within: its own rows -/
theorem fN_parts : ∀ (n : Nd), fN n → ∀ q ∈ parts n, fN q := fun n hf q hq => by
  cases n with
  | e x =>
    cases x with
    | num z => cases hq
    | nam z => cases hq
    | blk ps ss => exact fN_stl ss hf q hq
    | _ => exact hf.elim
  | s x =>
    cases x with
    | set z e =>
      have : q = .e e := by simpa [parts] using hq
      subst this
      exact hf
    | tri x z y =>
      rcases List.mem_append.mp hq with hq | hq
      · exact fN_stl x hf.1 q hq
      · exact fN_stl y hf.2 q hq
    | _ => exact hf.elim
theorem blk_L {kn : List T} {h : Nat} (one : ∀ (q : Nd) (c : Int) (ar : List (List T)) (a j : Nat) (t : W8) (ps : List T) (ss : Sts), hN q ≤ h → fN q → c < ((a : Nat) : Int) → (wk8 h q c ar a)[j]? = some t → t.1 = .e (.blk ps ss) → due8 kn ((a + j : Nat) : Int) a (wk8 h q c ar a) = duSs (ps :: (t.2.2 ++ [kn])) ss (a + j + 1)) :
    ∀ (qs : List Nd) (c : Int) (ar : List (List T)) (a j : Nat) (t : W8) (ps : List T) (ss : Sts), (∀ q ∈ qs, hN q ≤ h) → (∀ q ∈ qs, fN q) → c < ((a : Nat) : Int) → (wk8L h qs c ar a)[j]? = some t → t.1 = .e (.blk ps ss) → due8 kn ((a + j : Nat) : Int) a (wk8L h qs c ar a) = duSs (ps :: (t.2.2 ++ [kn])) ss (a + j + 1)
  | [], c, ar, a, j, t, ps, ss, _, _, _, ht, _ => by cases ht
  | q :: r, c, ar, a, j, t, ps, ss, hq, hf, hc, ht, e => by
    have hq1 := hq q List.mem_cons_self
    have hqr : ∀ x ∈ r, hN x ≤ h := fun x hx => hq x (List.mem_cons_of_mem _ hx)
    have l := wk8_len h q c ar a hq1
    rw [wk8L_cons a hq] at ht ⊢
    rw [due8_app, l]
    by_cases cj : j < nN q
    · rw [List.getElem?_append_left (by omega)] at ht
      rw [one q c ar a j t ps ss hq1 (hf q List.mem_cons_self) hc ht e, due8_no kn _ _ _ fun z hz => ?_, List.append_nil]
      rcases wk8L_codes r c ar _ hqr z hz with h1 | ⟨h1, _⟩
      · omega
      · omega
    · rw [List.getElem?_append_right (by omega), l] at ht
      rw [due8_no kn _ _ _ fun z hz => ?_, List.nil_append]
      · have := blk_L one r c ar (a + nN q) (j - nN q) t ps ss hqr (fun x hx => hf x (List.mem_cons_of_mem _ hx)) (by omega) ht e
        have ej : a + nN q + (j - nN q) = a + j := by omega
        rw [ej] at this
        exact this
      · rcases wk8_codes h q c ar a hq1 z hz with h1 | ⟨_, h2⟩
        · omega
        · omega
theorem blk_1 {kn : List T} : ∀ (h : Nat) (n : Nd) (c : Int) (ar : List (List T)) (a j : Nat) (t : W8) (ps : List T) (ss : Sts), hN n ≤ h → fN n → c < ((a : Nat) : Int) → (wk8 h n c ar a)[j]? = some t → t.1 = .e (.blk ps ss) → due8 kn ((a + j : Nat) : Int) a (wk8 h n c ar a) = duSs (ps :: (t.2.2 ++ [kn])) ss (a + j + 1)
  | 0, n, c, ar, a, j, t, ps, ss, hh, _, _, _, _ => by have := hN_pos n; omega
  | h + 1, n, c, ar, a, j, t, ps, ss, hh, hf, hc, ht, e => by
    have hq : ∀ q ∈ parts n, hN q ≤ h := fun q hq => by have := (parts_h n q hq).1; omega
    rw [wk8_succ] at ht ⊢
    show (if c = ((a + j : Nat) : Int) then dueR kn a (n, c, ar) else []) ++ due8 kn ((a + j : Nat) : Int) (a + 1) (wk8L h (parts n) (cdI n c a) (arI n ar) (a + 1)) = _
    rw [if_neg (by omega), List.nil_append]
    cases j with
    | zero =>
      have et : (n, c, ar) = t := by simpa using ht
      subst et
      have en : n = .e (.blk ps ss) := e
      subst en
      exact due_ownL (kn := kn) (h := h) (c := ((a : Nat) : Int)) (ar := ps :: ar) ss (a + 1) hq hf (by omega)
    | succ j =>
      have ht' : (wk8L h (parts n) (cdI n c a) (arI n ar) (a + 1))[j]? = some t := by simpa using ht
      have hc' : cdI n c a < ((a + 1 : Nat) : Int) := by
        unfold cdI
        split <;> omega
      have := blk_L (kn := kn) (h := h) (fun q c ar a j t ps ss h1 h2 h3 h4 h5 => blk_1 h q c ar a j t ps ss h1 h2 h3 h4 h5) (parts n) (cdI n c a) (arI n ar) (a + 1) j t ps ss hq (fN_parts n hf) hc' ht' e
      have ej : a + 1 + j = a + (j + 1) := by omega
      rw [ej] at this
      exact this
theorem stl_408 {m : Me} (h : gdM m) : ∀ q ∈ stl m.ss, hN q ≤ 40 := fun q hq => by
  have := stl_ho m.ss q hq
  have := h.o
  omega
/-- the law's rows of a block's code -/
theorem due_blk {m : Me} (g : gdM m) (hf : fSs m.ss) {kn : List T} {i : Nat} {t : W8} {ps : List T} {ss : Sts} (ht : (wkM8 m)[i]? = some t) (e : t.1 = .e (.blk ps ss)) : due8 kn ((i : Nat) : Int) 0 (wkM8 m) = duSs (ps :: (t.2.2 ++ [kn])) ss (i + 1) := by
  have := blk_L (kn := kn) (h := 40) (fun q c ar a j t ps ss h1 h2 h3 h4 h5 => blk_1 40 q c ar a j t ps ss h1 h2 h3 h4 h5) (stl m.ss) (-1) [] 0 i t ps ss (stl_408 g) (fN_stl m.ss hf) (by omega) ht e
  rw [Nat.zero_add] at this
  exact this
theorem due_top {m : Me} (g : gdM m) (hf : fSs m.ss) {kn : List T} : due8 kn (-1) 0 (wkM8 m) = duSs [kn] m.ss 0 :=
  due_ownL (kn := kn) (h := 40) (c := -1) (ar := []) m.ss 0 (stl_408 g) hf (by omega)
end My
set_option Elab.async false
set_option linter.all false
set_option maxRecDepth 100000
set_option maxHeartbeats 8000000
namespace My
open PySem L2 SS
/-! ### the maker of rows -/
structure Mx where
  p : Addr
  l : Addr
  sv : Addr
abbrev mf (x : Mx) (n : Nat) : List (Str × V) := [("rows", .ref x.l), ("visible", .ref x.sv), ("number", .int (n : Nat))]
section
variable {x : Mx} {n : Nat}
theorem mf_rows : (mf x n).lookup ("rows" : Str) = some (.ref x.l) := by kernel_rfl
theorem mf_vis : (mf x n).lookup ("visible" : Str) = some (.ref x.sv) := by kernel_rfl
theorem mf_num : (mf x n).lookup ("number" : Str) = some (.int (n : Nat)) := by kernel_rfl
theorem mf_pnum (k : Nat) : putF "number" (.int (k : Nat)) (mf x n) = mf x k := by kernel_rfl
end
def MkA (C : Addr) (x : Mx) (H : Hp) (n : Nat) (us : List V) : Prop := ∃ dx, H x.p = some (.ins C dx (mf x n)) ∧ H x.l = some (.lst us)
/-- all stands but the maker and its list -/
def SM (x : Mx) (H H' : Hp) : Prop := ∀ b u, b ≠ x.p → b ≠ x.l → H b = some u → H' b = some u
theorem SM.refl {x : Mx} {H : Hp} : SM x H H := fun _ _ _ _ h => h
theorem SM.trans {x : Mx} {H H1 H2 : Hp} (a : SM x H H1) (b : SM x H1 H2) : SM x H H2 := fun q u n m h => b q u n m (a q u n m h)
theorem SM.same {x : Mx} {H H' : Hp} (s : Same H H') : SM x H H' := fun q u _ _ h => s q u h
theorem SM.tups {C : Addr} {x : Mx} {H H' : Hp} {n : Nat} {us : List V} (s : SM x H H') (h : MkA C x H n us) : Tups H H' := by
  obtain ⟨dx, h1, h2⟩ := h
  exact ⟨fun q ys e => s q _ (fun z => by rw [z, h1] at e; cases e) (fun z => by rw [z, h2] at e; cases e) e, fun q o u e => s q _ (fun z => by rw [z, h1] at e; cases e) (fun z => by rw [z, h2] at e; cases e) e⟩
theorem MkA.ne {C : Addr} {x : Mx} {H : Hp} {n : Nat} {us : List V} (h : MkA C x H n us) : x.p ≠ x.l := fun z => by
  obtain ⟨dx, h1, h2⟩ := h
  rw [z, h2] at h1; cases h1
theorem MkA.same {C : Addr} {x : Mx} {H H' : Hp} {n : Nat} {us : List V} (h : MkA C x H n us) (s : Same H H') : MkA C x H' n us := by
  obtain ⟨dx, h1, h2⟩ := h
  exact ⟨dx, s _ _ h1, s _ _ h2⟩
theorem MkA.lst {C : Addr} {x : Mx} {H : Hp} {n : Nat} {us vs : List V} (h : MkA C x H n us) : MkA C x (upd H x.l (.lst vs)) n vs ∧ SM x H (upd H x.l (.lst vs)) := by
  have ne := h.ne
  obtain ⟨dx, h1, h2⟩ := h
  exact ⟨⟨dx, by rw [upd_ne ne]; exact h1, upd_same⟩, fun b u _ nl hb => by rw [upd_ne nl]; exact hb⟩
theorem MkA.num {C dx : Addr} {x : Mx} {H : Hp} {n k : Nat} {us : List V} (h : MkA C x H n us) : MkA C x (upd H x.p (.ins C dx (mf x k))) k us ∧ SM x H (upd H x.p (.ins C dx (mf x k))) := by
  have ne := h.ne
  obtain ⟨_, h1, h2⟩ := h
  exact ⟨⟨dx, upd_same, by rw [upd_ne ne.symm]; exact h2⟩, fun b u np _ hb => by rw [upd_ne np]; exact hb⟩
/-- the scopes: a tuple of tuples of words -/
def AtSur (H : Hp) (sur : List (List T)) (v : V) : Prop := ∃ p us, v = .ref p ∧ H p = some (.tup us) ∧ AtL AtWb H sur us
theorem AtSur.on {H H' : Hp} {sur : List (List T)} {v : V} (t : Tups H H') (h : AtSur H sur v) : AtSur H' sur v := by
  obtain ⟨p, us, e, h1, h2⟩ := h
  exact ⟨p, us, e, t _ _ h1, AtL.on t (fun _ _ z => AtWb.on t z) h2⟩
theorem ixN_at {n j : Nat} (h : j < n) : ixN n ((j : Nat) : Int) = some j := by
  unfold ixN
  rw [if_pos (Int.natCast_nonneg j), if_pos (by omega)]
  rfl
structure TxM (K : PySem.W.Frag) (C : Addr) : Prop where
  cl : Cls K C
  fr : NoAttr K C "rows"
  fv : NoAttr K C "visible"
  fn : NoAttr K C "number"
section
variable {P : Program} {w : World} {K : PySem.W.Frag} {mg : Str → Option Value} {base : Heap} {C : Addr}
abbrev Mo (P : Program) (w : World) (K : PySem.W.Frag) (mg : Str → Option Value) (base : Heap) (C : Addr) (k : Nat) (m : Str) (sp : Sp) : Prop := Mm P w K mg base CX0 k C m sp
abbrev MoR (P : Program) (w : World) (K : PySem.W.Frag) (mg : Str → Option Value) (base : Heap) (C : Addr) (k : Nat) (m : Str) (sp : Sp) : Prop := Mr P w K mg base CX0 k C m sp
/-! __init__ -/
def spMi (C : Addr) : Sp := fun vs H Q _ => ∃ (p dx sv : Addr) (n : Nat), vs = [.ref p, .ref sv, .int (n : Nat)] ∧ H p = some (.ins C dx []) ∧ ∀ H' l, (∀ b u, b ≠ p → H b = some u → H' b = some u) → H l = none → MkA C ⟨p, l, sv⟩ H' n [] → Q .non H'
theorem scMi : FnScope ["self", "visible", "number"] ["self", "visible", "number"] (defScope s_RowMaker___init__) := ⟨rfl, rfl, rfl, by decide +kernel, rfl, by decide +kernel, by decide +kernel⟩
theorem m_init {f : Addr} {fd : FuncData} (T : TxM K C) (F : Fun K "__init__" "RowMaker.__init__" s_RowMaker___init__ f fd) : FnOk P w K mg base CX0 1 f fd ["self", "visible", "number"] (spMi C) := by
  refine F.ok scMi (fun vs H Q E h => ?_) (fun cdv A outer s H vs Q E hr h => ?_)
  · obtain ⟨p, dx, sv, n, rfl, _⟩ := h
    rfl
  obtain ⟨p, dx, sv, n, rfl, hp, kq⟩ := h
  refine ⟨_, pss_cons (ps_fld (pv 0) (pe_lst pa_nil) rfl) <|
    pss_cons (ps_fld (pv 0) (pv 1) rfl) <|
    pss_one (ps_fld (pv 0) (pv 2) rfl), ?_⟩
  refine ⟨Nat.zero_le _, fun l hl => ?_⟩
  have npl : p ≠ l := fun z => by rw [z, hl] at hp; cases hp
  have h1 : upd H l (.lst []) p = some (.ins C dx []) := by rw [upd_ne npl]; exact hp
  have l1 : upd H l (.lst []) l = some (.lst []) := upd_same
  have s1 := same_new hl (.lst [])
  generalize upd H l (.lst []) = H1 at h1 l1 s1 ⊢
  refine ⟨_, rfl, p, C, dx, _, rfl, h1, T.cl, T.fr, by show 0 < 1000; decide, ?_⟩
  refine ⟨_, rfl, _, rfl, p, C, dx, _, rfl, upd_same, T.cl, T.fv, by show 1 < 1000; decide, ?_⟩
  refine ⟨_, rfl, _, rfl, p, C, dx, _, rfl, upd_same, T.cl, T.fn, by show 2 < 1000; decide, ?_⟩
  refine kq _ l (fun b u nb hb => ?_) hl ⟨dx, ?_, ?_⟩
  · rw [upd_ne nb, upd_ne nb, upd_ne nb]
    exact s1 _ _ hb
  · rw [upd_same]
    kernel_rfl
  · show upd _ _ _ l = _
    rw [upd_ne npl.symm, upd_ne npl.symm, upd_ne npl.symm]
    exact l1
/-! put -/
def spMPu (C : Addr) : Sp := fun vs H Q _ => ∃ (x : Mx) (n : Nat) (us rest : List V), vs = .ref x.p :: rest ∧ rest.length ≤ 10 ∧ MkA C x H n us ∧ us.length ≤ 20000 ∧ ∀ H' q, SM x H H' → MkA C x H' n (us ++ [.ref q]) → H' q = some (.tup rest) → Q .non H'
theorem scPu : FnScope ["self", "row"] ["self", "row"] (defScope s_RowMaker_put) := ⟨rfl, rfl, rfl, by decide +kernel, rfl, by decide +kernel, by decide +kernel⟩
theorem m_put (T : TxM K C) (D : Dm K C "put" "RowMaker.put" s_RowMaker_put) : MoR P w K mg base C 1 "put" (spMPu C) := by
  obtain ⟨f, fd, F, hm⟩ := D.ex
  refine ⟨f, FnR.imp (fun_star (ps := ["self"]) (pv := "row") (sp := fun vs H Q _ => ∃ (x : Mx) (n : Nat) (us rest : List V) (q : Addr), vs = [.ref x.p, .ref q] ∧ H q = some (.tup rest) ∧ MkA C x H n us ∧ us.length ≤ 20000 ∧ ∀ H', SM x H H' → MkA C x H' n (us ++ [.ref q]) → H' q = some (.tup rest) → Q .non H') F scPu
    (fun kV doc pm an cdv ct => StX.bind_star1 (p1 := "self") (pv := "row") (B := fun us => bindArgs (PySem.W.fnOf _ _ _ _ _ .none kV doc pm an cdv ct) ⟨us, []⟩) (fun a => rfl) (fun a r rs => rfl)) (fun cdv A outer s H vs Q E hr h => ?_)) (fun vs H Q E h => ?_), hm⟩
  · obtain ⟨x, n, us, rest, q, rfl, hq, hmk, hl, kq⟩ := h
    refine ⟨_, pss_one (ps_expr (pe_bm PySem.F.plainAttrs_list PySem.F.slot_list_append PySem.F.type_list_append mt_append (pe_fld (pv 0) rfl) (pa_cons (pv 1) pa_nil))), ?_⟩
    have hmk0 := hmk
    obtain ⟨dx, h1, h2⟩ := hmk0
    refine ⟨_, rfl, x.p, C, dx, _, _, rfl, h1, T.cl, T.fr, mf_rows, .inl ⟨rfl, _, SqL.of h2⟩, _, rfl, x.l, us, _, rfl, rfl, h2, by rw [sizeLine_eq]; omega, ?_⟩
    obtain ⟨a1, a2⟩ := hmk.lst (vs := us ++ [.ref q])
    exact kq _ a2 a1 (by rw [upd_ne (ne_of hq h2 (by intro z; cases z))]; exact hq)
  · obtain ⟨x, n, us, rest, rfl, hr, hmk, hl, kq⟩ := h
    refine ⟨[.ref x.p], rest, rfl, rfl, by rw [sizeLine_eq]; omega, fun p hp => ?_⟩
    have s := same_new hp (.tup rest)
    exact ⟨x, n, us, rest, p, rfl, upd_same, hmk.same s, hl, fun H' s' m' h' => kq H' p (SM.trans (SM.same s) s') m' h'⟩
/-! leave_open, fill_in, next_number -/
def spLo (C : Addr) : Sp := fun vs H Q _ => ∃ (x : Mx) (n : Nat) (us : List V), vs = [.ref x.p] ∧ MkA C x H n us ∧ us.length ≤ 20000 ∧ ∀ H', SM x H H' → MkA C x H' n (us ++ [.non]) → Q (.int (us.length : Nat)) H'
theorem scLo : FnScope ["self"] ["self"] (defScope s_RowMaker_leave_open) := ⟨rfl, rfl, rfl, by decide +kernel, rfl, by decide +kernel, by decide +kernel⟩
theorem m_lo (b_len : mg "len" = none) (T : TxM K C) (D : Dm K C "leave_open" "RowMaker.leave_open" s_RowMaker_leave_open) : Mo P w K mg base C 1 "leave_open" (spLo C) := by
  obtain ⟨f, fd, F, hm⟩ := D.ex
  refine ⟨f, fd, ["self"], F.ok scLo (fun vs H Q E h => ?_) (fun cdv A outer s H vs Q E hr h => ?_), hm, F.binds (ps := ["self"]) fun _ _ _ _ _ _ us hl => match us, hl with | [_], _ => rfl⟩
  · obtain ⟨x, n, us, rfl, _⟩ := h
    rfl
  obtain ⟨x, n, us, rfl, hmk, hl, kq⟩ := h
  refine ⟨_, pss_cons (ps_expr (pe_bm PySem.F.plainAttrs_list PySem.F.slot_list_append PySem.F.type_list_append mt_append (pe_fld (pv 0) rfl) (pa_cons pe_non pa_nil))) <|
    pss_one (ps_ret (pe_op op_sub (pe_callB call_len_seq (by rfl) b_len PySem.boot_len (pa_cons (pe_fld (pv 0) rfl) pa_nil)) pe_int)), ?_⟩
  have hmk0 := hmk
  obtain ⟨dx, h1, h2⟩ := hmk0
  refine ⟨_, rfl, x.p, C, dx, _, _, rfl, h1, T.cl, T.fr, mf_rows, .inl ⟨rfl, _, SqL.of h2⟩, x.l, us, _, rfl, rfl, h2, by rw [sizeLine_eq]; omega, ?_⟩
  obtain ⟨a1, a2⟩ := hmk.lst (vs := us ++ [V.non])
  have a3 := a1
  obtain ⟨dx', g1, g2⟩ := a3
  refine ⟨_, rfl, x.p, C, dx', _, _, rfl, g1, T.cl, T.fr, mf_rows, x.l, _, rfl, .inl (SqL.of g2), _, _, rfl, rfl, ?_⟩
  have e : (((us ++ [V.non]).length : Nat) : Int) - 1 = ((us.length : Nat) : Int) := by rw [List.length_append]; show ((us.length + 1 : Nat) : Int) - 1 = _; omega
  show Q (V.int ((((us ++ [V.non]).length : Nat) : Int) - 1)) _
  rw [e]
  exact kq _ a2 a1
def spFi (C : Addr) : Sp := fun vs H Q _ => ∃ (x : Mx) (n a : Nat) (z : Str) (us vs' : List V) (y : V), vs = [.ref x.p, .int (us.length : Nat), .int (a : Nat), .str z] ∧ MkA C x H n (us ++ y :: vs') ∧ us.length + vs'.length ≤ 20000 ∧
  ∀ H' q, SM x H H' → MkA C x H' n (us ++ .ref q :: vs') → H' q = some (.tup [.int (a : Nat), .str z, .int ((us.length + 1 + vs'.length : Nat) : Int)]) → Q .non H'
theorem scFi : FnScope ["self", "at", "node", "word"] ["self", "at", "node", "word"] (defScope s_RowMaker_fill_in) := ⟨rfl, rfl, rfl, by decide +kernel, rfl, by decide +kernel, by decide +kernel⟩
theorem m_fi (b_len : mg "len" = none) (T : TxM K C) (D : Dm K C "fill_in" "RowMaker.fill_in" s_RowMaker_fill_in) : Mo P w K mg base C 1 "fill_in" (spFi C) := by
  obtain ⟨f, fd, F, hm⟩ := D.ex
  refine ⟨f, fd, ["self", "at", "node", "word"], F.ok scFi (fun vs H Q E h => ?_) (fun cdv A outer s H vs Q E hr h => ?_), hm, F.binds (ps := ["self", "at", "node", "word"]) fun _ _ _ _ _ _ us hl => match us, hl with | [_, _, _, _], _ => rfl⟩
  · obtain ⟨x, n, a, z, us, vs', y, rfl, _⟩ := h
    rfl
  obtain ⟨x, n, a, z, us, vs', y, rfl, hmk, hl, kq⟩ := h
  refine ⟨_, pss_one (ps_asg (pe_tup (pa_cons (pv 2) (pa_cons (pv 3) (pa_cons (pe_callB call_len_seq (by rfl) b_len PySem.boot_len (pa_cons (pe_fld (pv 0) rfl) pa_nil)) pa_nil)))) (pg_sub (pe_fld (pv 0) rfl) (pv 1) set_list)), ?_⟩
  have hmk0 := hmk
  obtain ⟨dx, h1, h2⟩ := hmk0
  have el : (us ++ y :: vs').length = us.length + 1 + vs'.length := by rw [List.length_append, List.length_cons]; omega
  refine ⟨_, rfl, _, rfl, _, rfl, x.p, C, dx, _, _, rfl, h1, T.cl, T.fr, mf_rows, x.l, _, rfl, .inl (SqL.of h2), by show 3 ≤ sizeLine; decide, fun q hq => ?_⟩
  have s1 := same_new hq (.tup [.int (a : Nat), .str z, .int ((us ++ y :: vs').length : Nat)])
  have q1 : upd H q (.tup [.int (a : Nat), .str z, .int ((us ++ y :: vs').length : Nat)]) q = some (.tup [.int (a : Nat), .str z, .int ((us ++ y :: vs').length : Nat)]) := upd_same
  have m1 := hmk.same s1
  generalize upd H q (.tup [.int (a : Nat), .str z, .int ((us ++ y :: vs').length : Nat)]) = H1 at s1 q1 m1 ⊢
  have m1' := m1
  obtain ⟨dx', g1, g2⟩ := m1'
  refine ⟨_, rfl, x.p, C, dx', _, _, rfl, g1, T.cl, T.fr, mf_rows, _, rfl, x.l, _, _, us.length, rfl, rfl, g2, ixN_at (by rw [el]; omega), ?_⟩
  obtain ⟨a1, a2⟩ := m1.lst (vs := us ++ V.ref q :: vs')
  have es : (us ++ y :: vs').set us.length (V.ref q) = us ++ V.ref q :: vs' := by simp
  rw [es]
  refine kq _ q ((SM.same s1).trans a2) a1 ?_
  rw [upd_ne (ne_of q1 g2 (by intro z; cases z)), q1, el]
def spNn (C : Addr) : Sp := fun vs H Q _ => ∃ (x : Mx) (n : Nat) (us : List V), vs = [.ref x.p] ∧ MkA C x H n us ∧ ∀ H', SM x H H' → MkA C x H' (n + 1) us → Q (.int (n : Nat)) H'
theorem scNn : FnScope ["self"] ["self"] (defScope s_RowMaker_next_number) := ⟨rfl, rfl, rfl, by decide +kernel, rfl, by decide +kernel, by decide +kernel⟩
theorem m_nn (T : TxM K C) (D : Dm K C "next_number" "RowMaker.next_number" s_RowMaker_next_number) : Mo P w K mg base C 1 "next_number" (spNn C) := by
  obtain ⟨f, fd, F, hm⟩ := D.ex
  refine ⟨f, fd, ["self"], F.ok scNn (fun vs H Q E h => ?_) (fun cdv A outer s H vs Q E hr h => ?_), hm, F.binds (ps := ["self"]) fun _ _ _ _ _ _ us hl => match us, hl with | [_], _ => rfl⟩
  · obtain ⟨x, n, us, rfl, _⟩ := h
    rfl
  obtain ⟨x, n, us, rfl, hmk, kq⟩ := h
  refine ⟨_, pss_cons (ps_fldaug (pv 0) pe_int in_add) <|
    pss_one (ps_ret (pe_op op_sub (pe_fld (pv 0) rfl) pe_int)), ?_⟩
  have hmk0 := hmk
  obtain ⟨dx, h1, h2⟩ := hmk0
  refine ⟨_, rfl, x.p, C, dx, _, _, rfl, h1, T.cl, T.fn, mf_num, _, _, rfl, rfl, dx, _, h1, by show 3 < 1000; decide, ?_⟩
  have e1 : ((n : Nat) : Int) + 1 = ((n + 1 : Nat) : Int) := by omega
  rw [e1, mf_pnum]
  obtain ⟨a1, a2⟩ := hmk.num (dx := dx) (k := n + 1)
  refine ⟨_, rfl, x.p, C, dx, _, _, rfl, upd_same, T.cl, T.fn, mf_num, _, _, rfl, rfl, ?_⟩
  have e2 : ((n + 1 : Nat) : Int) - 1 = ((n : Nat) : Int) := by omega
  show Q (V.int (((n + 1 : Nat) : Int) - 1)) _
  rw [e2]
  exact kq _ a2 a1
/-! found_name, put_of_name -/
def spFo : Sp := fun vs H Q _ => ∃ (sur : List (List T)) (v : V) (z : T), vs = [v, .str (mk z)] ∧ AtSur H sur v ∧ inSur z sur ∧ ∀ H' q, Same H H' → H' q = some (.tup [iV (findN z sur).1, iV (findN z sur).2]) → Q (.ref q) H'
theorem scFo : FnScope ["scopes", "word", "steps", "words"] ["scopes", "word"] (defScope s_found_name) := ⟨rfl, rfl, rfl, by decide +kernel, rfl, by decide +kernel, by decide +kernel⟩
theorem findN_at {z : T} : ∀ (sur : List (List T)) (i : Nat) (ps : List T), (∀ k < i, ∀ qs, sur[k]? = some qs → z ∉ qs) → sur[i]? = some ps → z ∈ ps → findN z sur = (i, ps.idxOf z)
  | [], i, ps, _, h, _ => by simp at h
  | qs :: r, 0, ps, _, h, hz => by
    obtain rfl : qs = ps := by simpa using h
    show (if z ∈ qs then _ else _) = _
    rw [if_pos hz]
  | qs :: r, i + 1, ps, hn, h, hz => by
    have h0 : z ∉ qs := hn 0 (by omega) qs rfl
    have ih := findN_at r i ps (fun k hk ws hw => hn (k + 1) (by omega) ws (by simpa using hw)) (by simpa using h) hz
    show (if z ∈ qs then _ else _) = _
    rw [if_neg h0, ih]
theorem c_fo (b_enumerate : mg "enumerate" = none) (D : Dn K mg "found_name" s_found_name) : C0 P w K mg base 1 "found_name" spFo := by
  obtain ⟨f, fd, F, hmm⟩ := D.ex
  refine ⟨f, fd, ["scopes", "word"], F.ok scFo (fun vs H Q E h => ?_) (fun cdv A outer s H vs Q E hr h => ?_), hmm, F.kp, F.binds (ps := ["scopes", "word"]) fun _ _ _ _ _ _ us hl => match us, hl with | [_, _], _ => rfl⟩
  · obtain ⟨sur, v, z, rfl, _⟩ := h
    rfl
  obtain ⟨sur, v, z, rfl, ⟨sp, us, rfl, hsp, hat⟩, hin, kq⟩ := h
  refine ⟨_, pss_cons (ps_for PassesOwn.never rfl (pi_enumT (by rfl) b_enumerate (pa_cons (pv 0) pa_nil)) (pg_tup (by rfl) (pgs_cons (pg_name (i := 2) scFo.nd rfl (Or.inl rfl)) (pgs_cons (pg_name (i := 3) scFo.nd rfl (Or.inl rfl)) pgs_nil)))
      (pss_one (ps_if (pt_cmpR op_in_seq (pv 1) (pv 3) (by rfl))
        (pss_one (ps_ret (pe_tup (pa_cons (pv 2) (pa_cons (pe_bmF PySem.F.plainAttrs_tuple PySem.F.slot_tuple_index PySem.F.type_tuple_index mt_tup_index (pv 3) (pa_cons (pv 1) pa_nil)) pa_nil)))))
        (pss_nil)))) <|
    pss_one (ps_ret pe_non), ?_⟩
  have hul := hat.len
  refine ⟨_, rfl, sp, us, rfl, SqT.of hsp, ?_⟩
  refine for_it walk_enumT (fun i σ H1 => ∃ (v2 v3 : Option V), σ = [some (.ref sp), some (.str (mk z)), v2, v3] ∧ Same H H1 ∧ ∀ k < i, ∀ qs, sur[k]? = some qs → z ∉ qs) ⟨none, none, rfl, Same.refl H, fun k hk => by omega⟩ (fun i σ H1 _ ⟨_, _, _, s1, _⟩ => SqT.of (s1 _ _ hsp)) ?_ ?_
  · rintro i y σ H1 H2 hi ⟨v2, v3, rfl, s1, hno⟩ ⟨T, u, rfl, hT, rfl, hu⟩
    have sT := same_new hT (.tup [.int (i : Nat), u])
    have fT : upd H1 T (.tup [.int (i : Nat), u]) T = some (.tup [.int (i : Nat), u]) := upd_same
    have s2 := s1.trans sT
    generalize upd H1 T (.tup [.int (i : Nat), u]) = H2 at sT fT s2 ⊢
    obtain ⟨ps, hps, q, rfl, hq⟩ := (AtL.on (same_tups s2) (fun _ _ h => AtWb.on (same_tups s2) h) hat).get hu
    refine ⟨T, _, rfl, SqT.of fT, rfl, _, _, rfl, _, _, rfl, rfl, ?_⟩
    refine ⟨_, rfl, _, rfl, q, _, rfl, .inr hq.sq, rfl, flat_ws _, _, rfl, ?_⟩
    rw [if_neg (by decide : ¬ false = true), in_ws]
    by_cases c : z ∈ ps
    · rw [decide_eq_true c]
      refine iteT ?_
      have hz := wsV_idx c
      refine ⟨_, rfl, _, rfl, ⟨q, _, rfl, hq⟩, _, rfl, q, ps.map mk, mk z, ps.idxOf z, rfl, rfl, ?_, ?_, ?_, by show 2 ≤ sizeLine; decide, fun tp htp => ?_⟩
      · have e : (ps.map mk).map V.str = wsV ps := by unfold wsV; rw [List.map_map]; rfl
        rw [e]
        exact hq.sq
      · have := hz.1
        unfold wsV at this
        rw [List.getElem?_map] at this ⊢
        cases e : ps[ps.idxOf z]? with
        | none => rw [e] at this; cases this
        | some y =>
          rw [e] at this
          have := V.str.inj (Option.some.inj this)
          exact congrArg some this
      · intro m hm h
        rw [List.getElem?_map] at h
        cases e : ps[m]? with
        | none => rw [e] at h; cases h
        | some y =>
          rw [e] at h
          have e2 := Option.some.inj h
          have e3 : y = z := by have := congrArg tl e2; simpa using this
          subst e3
          have := List.not_of_lt_findIdx (show m < ps.findIdx (· == y) from hm)
          have hm' : m < ps.length := (List.getElem?_eq_some_iff.mp e).1
          have e4 : ps[m] = y := (List.getElem?_eq_some_iff.mp e).2
          simp [e4] at this
      · have ef := findN_at sur i ps hno hps c
        refine kq _ tp (s2.trans (same_new htp _)) ?_
        rw [upd_same, ef]
    · rw [decide_eq_false c]
      refine iteF ?_
      refine ⟨_, _, rfl, s2, fun k hk qs hqs => ?_⟩
      by_cases e : k = i
      · subst e
        rw [hps] at hqs
        cases hqs
        exact c
      · exact hno k (by omega) qs hqs
  · rintro σ H1 ⟨v2, v3, rfl, s1, hno⟩
    exfalso
    obtain ⟨ns, hns, hz⟩ := hin
    obtain ⟨k, hk, e⟩ := List.getElem_of_mem hns
    exact hno k (by omega) ns (by rw [List.getElem?_eq_getElem hk, e]) hz
def spPn (C : Addr) : Sp := fun vs H Q _ => ∃ (x : Mx) (sur : List (List T)) (n a : Nat) (wd : Str) (z : T) (us : List V), vs = [.ref x.p, .int (a : Nat), .str wd, .str (mk z)] ∧ MkA C x H n us ∧ AtSur H sur (.ref x.sv) ∧ inSur z sur ∧ us.length ≤ 20000 ∧
  ∀ H' q, SM x H H' → MkA C x H' n (us ++ [.ref q]) → H' q = some (.tup [iV a, .str wd, iV (findN z sur).1, iV (findN z sur).2]) → Q .non H'
theorem scPn : FnScope ["self", "node", "word", "name", "steps", "number"] ["self", "node", "word", "name"] (defScope s_RowMaker_put_of_name) := ⟨rfl, rfl, rfl, by decide +kernel, rfl, by decide +kernel, by decide +kernel⟩
theorem m_pn (T : TxM K C) (D : Dm K C "put_of_name" "RowMaker.put_of_name" s_RowMaker_put_of_name) (FO : C0 P w K mg base 1 "found_name" spFo) (PU : MoR P w K mg base C 1 "put" (spMPu C)) : Mo P w K mg base C 2 "put_of_name" (spPn C) := by
  obtain ⟨f, fd, F, hm⟩ := D.ex
  refine ⟨f, fd, ["self", "node", "word", "name"], F.ok scPn (fun vs H Q E h => ?_) (fun cdv A outer s H vs Q E hr h => ?_), hm, F.binds (ps := ["self", "node", "word", "name"]) fun _ _ _ _ _ _ us hl => match us, hl with | [_, _, _, _], _ => rfl⟩
  · obtain ⟨x, sur, n, a, wd, z, us, rfl, _⟩ := h
    rfl
  obtain ⟨x, sur, n, a, wd, z, us, rfl, hmk, hsur, hin, hl, kq⟩ := h
  refine ⟨_, pss_cons (ps_asg (pe_cc FO hr (by omega) pass0 (pa_cons (pe_fld (pv 0) rfl) (pa_cons (pv 3) pa_nil))) (pg_tup (by rfl) (pgs_cons (pg_name (i := 4) scPn.nd rfl (Or.inl rfl)) (pgs_cons (pg_name (i := 5) scPn.nd rfl (Or.inl rfl)) pgs_nil)))) <|
    pss_one (ps_expr (pe_mr T.cl PU hr (by omega) pass0 (pv 0) (pa_cons (pv 1) (pa_cons (pv 2) (pa_cons (pv 4) (pa_cons (pv 5) pa_nil)))))), ?_⟩
  obtain ⟨dx, h1, h2⟩ := hmk
  refine ⟨_, rfl, x.p, C, dx, _, _, rfl, h1, T.cl, T.fv, mf_vis, _, rfl, sur, _, z, rfl, hsur, hin, fun H1 q s1 hq => ?_⟩
  refine ⟨q, _, rfl, SqT.of hq, rfl, _, _, rfl, _, _, rfl, rfl, ?_⟩
  have hmk1 : MkA C x H1 n us := ⟨dx, s1 _ _ h1, s1 _ _ h2⟩
  refine ⟨_, rfl, x.p, dx, _, rfl, s1 _ _ h1, rfl, _, rfl, _, rfl, _, rfl, _, rfl, x, n, us, _, rfl, by show 4 ≤ 10; decide, hmk1, hl, fun H2 q2 s2 m2 h2' => ?_⟩
  exact kq H2 q2 ((SM.same s1).trans s2) m2 h2'
/-! many_nodes -/
def spMn (h : Nat) : Sp := fun vs H Q _ => ∃ (n : Nd) (v : V), vs = [v] ∧ AtN H n v ∧ gdN n ∧ hN n ≤ h ∧ nN n ≤ 1100 ∧ ∀ H', Same H H' → Q (.int (nN n : Nat)) H'
theorem scMn : FnScope ["node", "part"] ["node"] (defScope s_many_nodes) := ⟨rfl, rfl, rfl, by decide +kernel, rfl, by decide +kernel, by decide +kernel⟩
theorem c_mn0 (k : Nat) (D : Dn K mg "many_nodes" s_many_nodes) : C0 P w K mg base (k + 1) "many_nodes" (spMn 0) := by
  obtain ⟨f, fd, F, m⟩ := D.ex
  have no : ∀ vs H Q E, spMn 0 vs H Q E → False := fun vs H Q E h => by
    obtain ⟨n, _, _, _, _, h, _⟩ := h
    have := hN_pos n
    omega
  exact ⟨f, fd, ["node"], F.ok scMn (fun vs H Q E h => (no _ _ _ _ h).elim) (fun cdv A outer s H vs Q E hr h => (no _ _ _ _ h).elim), m, F.kp, F.binds (ps := ["node"]) fun _ _ _ _ _ _ us hl => match us, hl with | [_], _ => rfl⟩
theorem c_mn {h k : Nat} (hk : 1 ≤ k) (b_sum : mg "sum" = none) (D : Dn K mg "many_nodes" s_many_nodes) (PP : C0 P w K mg base 1 "parts_of" spPt) (MN : C0 P w K mg base k "many_nodes" (spMn h)) : C0 P w K mg base (k + 1) "many_nodes" (spMn (h + 1)) := by
  obtain ⟨f, fd, F, m⟩ := D.ex
  refine ⟨f, fd, ["node"], F.ok scMn (fun vs H Q E h => ?_) (fun cdv A outer s H vs Q E hr h => ?_), m, F.kp, F.binds (ps := ["node"]) fun _ _ _ _ _ _ us hl => match us, hl with | [_], _ => rfl⟩
  · obtain ⟨n, v, rfl, _⟩ := h
    rfl
  obtain ⟨n, v, rfl, hat, hgd, hh, hn, kq⟩ := h
  refine ⟨_, pss_one (ps_ret (pe_op op_add pe_int (pe_callB (cr_sum rfl) (by rfl) b_sum (by decide +kernel) (pa_cons (pe_lc (own := [("part", 1)]) (g := (gName 1)) (tt := tYes) rfl scMn.nd (pi_tup (pe_cc PP hr (by omega) pass0 (pa_cons (pv 0) pa_nil))) (blkOk_by (own := [("part", 1)]) (N := ["node", "part"]) (sc := defScope s_many_nodes) (by decide +kernel)) (fun _ _ _ _ _ => (pg_name (i := 1) scMn.nd rfl (Or.inl rfl))) (fun _ _ _ _ _ => pts_nil) (fun _ _ _ _ _ => (pe_cc MN hr (by omega) pass0 (pa_cons (pv 1) pa_nil)))) pa_nil)))), ?_⟩
  refine ⟨_, rfl, n, v, rfl, hat, hgd, hn, fun H1 a us s1 h1 at1 => ?_⟩
  refine ⟨a, rfl, ⟨us, SqT.of h1⟩, fun D0 hD0 => ?_⟩
  have hpn := parts_n n
  refine lc_tup (K := K) (a := a) (xs := us) (fun i H7 => Same H1 H7 ∧ H7 D0 = some (.lst ((((parts n).take i).map fun q => ((nN q : Nat) : Int)).map V.int))) ⟨same_new hD0 _, upd_same⟩ (fun i H7 _ h => SqT.of (h.1 _ _ h1)) ?_ ?_
  · rintro i u H7 hu ⟨s7, f7⟩
    obtain ⟨q, hq1, hq2⟩ := (AtL.on (same_tups s7) (fun _ _ h => AtN.on (same_tups s7) h) at1).get hu
    have hm : q ∈ parts n := List.mem_of_getElem? hq1
    have h1' := (parts_h n q hm).1
    have h2' := sum_take_le (parts n) hq1
    have hi : i < (parts n).length := (List.getElem?_eq_some_iff.mp hq1).1
    have hpl : (parts n).length ≤ ((parts n).map nN).sum := by
      have := stN_len ((parts n).map fun q => (q, 0))
      rw [stN_map, List.length_map] at this
      exact this
    refine ⟨rfl, ?_⟩
    unfold tYes
    refine iteT ?_
    refine ⟨_, rfl, q, u, rfl, hq2, parts_gd n hgd q hm, by omega, by omega, fun H8 s8 => ?_⟩
    refine ⟨_, s8 _ _ f7, by rw [List.length_map, List.length_map, List.length_take, sizeLine_eq]; omega, fun b o hb => ?_, ?_⟩
    · rw [upd_ne (ne_of_none hb hD0)]
      exact s8 _ _ (s7 _ _ hb)
    · rw [upd_same, List.take_add_one, hq1, List.map_append, List.map_append]
      rfl
  rintro H7 ⟨s7, f7⟩
  have hul := at1.len
  rw [hul, List.take_length] at f7
  refine ⟨D0, (parts n).map fun q => ((nN q : Nat) : Int), rfl, SqL.of f7, _, _, rfl, rfl, ?_⟩
  have es : ∀ qs : List Nd, (qs.map fun q => ((nN q : Nat) : Int)).sum = (((qs.map nN).sum : Nat) : Int) := fun qs => by
    induction qs with
    | nil => rfl
    | cons q r ih => rw [List.map_cons, List.sum_cons, ih, List.map_cons, List.sum_cons]; omega
  show Q (V.int (1 + ((parts n).map fun q => ((nN q : Nat) : Int)).sum)) H7
  rw [es, show (1 : Int) + ((((parts n).map nN).sum : Nat) : Int) = ((nN n : Nat) : Int) by omega]
  exact kq H7 (s1.trans s7)
theorem knotMn (b_sum : mg "sum" = none) (D : Dn K mg "many_nodes" s_many_nodes) (PP : C0 P w K mg base 1 "parts_of" spPt) : ∀ h : Nat, C0 P w K mg base (h + 1) "many_nodes" (spMn h)
  | 0 => c_mn0 0 D
  | h + 1 => c_mn (by omega) b_sum D PP (knotMn b_sum D PP h)
end
end My
set_option Elab.async false
set_option linter.all false
set_option maxRecDepth 100000
set_option maxHeartbeats 8000000
namespace My
open PySem L2 SS
section
variable {P : Program} {w : World} {K : PySem.W.Frag} {mg : Str → Option Value} {base : Heap} {C : Addr}
mutual
theorem rwE_le {sur : List (List T)} : ∀ (e : Ex) (a : Nat), (rwE sur e a).length ≤ nE e
  | .num _, _ => Nat.le_refl _
  | .txt _, _ => Nat.le_refl _
  | .tru _, _ => Nat.le_refl _
  | .non, _ => Nat.le_refl _
  | .slf, _ => Nat.le_refl _
  | .nam _, _ => Nat.le_refl _
  | .fld _, _ => Nat.le_refl _
  | .new _, _ => Nat.le_refl _
  | .send r m es, a => by
    show (rwE sur r (a + 1) ++ rwEs sur es (a + 1 + nE r) ++ [_]).length ≤ 1 + nE r + nEs es
    rw [List.length_append, List.length_append]
    have h1 := rwE_le (sur := sur) r (a + 1)
    have h2 := rwEs_le (sur := sur) es (a + 1 + nE r)
    show _ + _ + 1 ≤ _
    omega
  | .up m es, a => by
    show (rwEs sur es (a + 1) ++ [_]).length ≤ 1 + nEs es
    rw [List.length_append]
    have h2 := rwEs_le (sur := sur) es (a + 1)
    show _ + 1 ≤ _
    omega
  | .lst es, a => by
    show (rwEs sur es (a + 1) ++ [_]).length ≤ 1 + nEs es
    rw [List.length_append]
    have h2 := rwEs_le (sur := sur) es (a + 1)
    show _ + 1 ≤ _
    omega
  | .blk ps ss, a => by show 1 ≤ 1 + nSs ss; omega
theorem rwEs_le {sur : List (List T)} : ∀ (es : Exs) (a : Nat), (rwEs sur es a).length ≤ nEs es
  | .nil, _ => Nat.le_refl _
  | .cons e r, a => by
    show (rwE sur e a ++ rwEs sur r (a + nE e)).length ≤ nE e + nEs r
    rw [List.length_append]
    have h1 := rwE_le (sur := sur) e a
    have h2 := rwEs_le (sur := sur) r (a + nE e)
    omega
end
def spEr (C : Addr) (d : Nat) : Sp := fun vs H Q _ => ∃ (x : Mx) (sur : List (List T)) (e : Ex) (v : V) (n : Nat) (us : List V), vs = [.ref x.p, v] ∧ MkA C x H n us ∧ AtSur H sur (.ref x.sv) ∧ AtE H e v ∧ gdE e ∧ sdE sur e ∧ oE e < d ∧ oE e ≤ 18 ∧ nE e ≤ 1100 ∧ us.length + 5 * nE e ≤ 15600 ∧ n + nE e ≤ 100000 ∧
  ∀ H' us1, SM x H H' → MkA C x H' (n + nE e) (us ++ us1) → AtL AtRw H' (rwE sur e n) us1 → Q .non H'
def spEsr (C : Addr) (d : Nat) : Sp := fun vs H Q _ => ∃ (x : Mx) (sur : List (List T)) (es : Exs) (q : Addr) (xs : List V) (n : Nat) (us : List V), vs = [.ref x.p, .ref q] ∧ H q = some (.tup xs) ∧ MkA C x H n us ∧ AtSur H sur (.ref x.sv) ∧ AtEs H es xs ∧ gdEs es ∧ sdEs sur es ∧ oEs es < d ∧ oEs es ≤ 18 ∧ nEs es ≤ 1100 ∧ us.length + 5 * nEs es ≤ 15600 ∧ n + nEs es ≤ 100000 ∧
  ∀ H' us1, SM x H H' → MkA C x H' (n + nEs es) (us ++ us1) → AtL AtRw H' (rwEs sur es n) us1 → Q .non H'
theorem scAe : FnScope ["self", "nodes", "node"] ["self", "nodes"] (defScope s_RowMaker_all_expression_rows) := ⟨rfl, rfl, rfl, by decide +kernel, rfl, by decide +kernel, by decide +kernel⟩
theorem scEr : FnScope ["self", "node", "number", "sort"] ["self", "node"] (defScope s_RowMaker_expression_rows) := ⟨rfl, rfl, rfl, by decide +kernel, rfl, by decide +kernel, by decide +kernel⟩
theorem scSe : FnScope ["self", "number", "node", "message", "worths"] ["self", "number", "node"] (defScope s_RowMaker_send_rows) := ⟨rfl, rfl, rfl, by decide +kernel, rfl, by decide +kernel, by decide +kernel⟩
theorem m_er0 (k : Nat) (D : Dm K C "expression_rows" "RowMaker.expression_rows" s_RowMaker_expression_rows) : Mo P w K mg base C (k + 1) "expression_rows" (spEr C 0) := by
  obtain ⟨f, fd, F, m⟩ := D.ex
  have no : ∀ vs H Q E, spEr C 0 vs H Q E → False := fun vs H Q E h => by
    obtain ⟨_, _, _, _, _, _, _, _, _, _, _, _, h, _⟩ := h
    omega
  exact ⟨f, fd, ["self", "node"], F.ok scEr (fun vs H Q E h => (no _ _ _ _ h).elim) (fun cdv A outer s H vs Q E hr h => (no _ _ _ _ h).elim), m, F.binds (ps := ["self", "node"]) fun _ _ _ _ _ _ us hl => match us, hl with | [_, _], _ => rfl⟩
/-- es taken one by one -/
theorem Exs.split_at : ∀ (es : Exs) {H : Hp} {vs : List V} {i : Nat} {v : V}, AtEs H es vs → vs[i]? = some v → ∃ e, AtE H e v ∧ es.take (i + 1) = (es.take i).snoc e ∧ nEs (es.take i) + nE e ≤ nEs es ∧ oE e ≤ oEs es ∧ (gdEs es → gdE e) ∧ ∀ sur, sdEs sur es → sdE sur e
  | .nil, H, vs, i, v, h, hv => by
    have h' : vs = [] := h
    subst h'
    cases i <;> cases hv
  | .cons e r, H, vs, 0, v, ⟨u, us, e1, h1, h2⟩, hv => by
    subst e1
    cases hv
    exact ⟨e, h1, by cases r <;> rfl, by show 0 + nE e ≤ nE e + nEs r; omega, by show oE e ≤ max (oE e) (oEs r); omega, fun g => g.1, fun sur g => g.1⟩
  | .cons e r, H, vs, i + 1, v, ⟨u, us, e1, h1, h2⟩, hv => by
    subst e1
    obtain ⟨x, g1, g2, g3, g4, g5, g6⟩ := Exs.split_at r (i := i) h2 hv
    exact ⟨x, g1, by show Exs.cons e (r.take (i + 1)) = Exs.cons e ((r.take i).snoc x); rw [g2], by show nE e + nEs (r.take i) + nE x ≤ nE e + nEs r; omega, by show oE x ≤ max (oE e) (oEs r); omega, fun g => g5 g.2, fun sur g => g6 sur g.2⟩
theorem nEs_snoc (es : Exs) (e : Ex) : nEs (es.snoc e) = nEs es + nE e := (Exs.snoc_n es e).1
theorem AtL.appL {α : Type} {R : Hp → α → V → Prop} {H : Hp} : ∀ {xs ys : List α} {us vs : List V}, AtL R H xs us → AtL R H ys vs → AtL R H (xs ++ ys) (us ++ vs)
  | [], ys, us, vs, h, k => by
    have h' : us = [] := h
    subst h'
    exact k
  | x :: r, ys, us, vs, ⟨u, us', e, h1, h2⟩, k => by
    subst e
    exact ⟨u, _, rfl, h1, AtL.appL h2 k⟩
theorem SM.rw {x : Mx} {C : Addr} {H H' : Hp} {n : Nat} {us us1 : List V} {rows : List Rw} (s : SM x H H') (m : MkA C x H n us) (h : AtL AtRw H rows us1) : AtL AtRw H' rows us1 := AtL.on (s.tups m) (fun _ _ z => AtRw.on (s.tups m) z) h
theorem rw_one {H : Hp} {q : Addr} {r : Rw} (h : H q = some (.tup r)) : AtL AtRw H [r] [.ref q] := ⟨.ref q, [], rfl, ⟨q, rfl, h⟩, rfl⟩
theorem m_ae {d k : Nat} (T : TxM K C) (D : Dm K C "all_expression_rows" "RowMaker.all_expression_rows" s_RowMaker_all_expression_rows) (ER : Mo P w K mg base C k "expression_rows" (spEr C d)) : Mo P w K mg base C (k + 1) "all_expression_rows" (spEsr C d) := by
  obtain ⟨f, fd, F, hm⟩ := D.ex
  refine ⟨f, fd, ["self", "nodes"], F.ok scAe (fun vs H Q E h => ?_) (fun cdv A outer s H vs Q E hr h => ?_), hm, F.binds (ps := ["self", "nodes"]) fun _ _ _ _ _ _ us hl => match us, hl with | [_, _], _ => rfl⟩
  · obtain ⟨x, sur, es, q, xs, n, us, rfl, _⟩ := h
    rfl
  obtain ⟨x, sur, es, q, xs, n, us, rfl, hq, hmk, hsur, hat, hgd, hsd, ho, ho18, hn, hl, hnn, kq⟩ := h
  refine ⟨_, pss_one (ps_for PassesOwn.never rfl (pi_tup (pv 1)) (pg_name (i := 2) scAe.nd rfl (Or.inl rfl))
      (pss_one (ps_expr (pe_mm T.cl ER hr (by omega) pass0 (pv 0) (pa_cons (pv 2) pa_nil))))), ?_⟩
  refine ⟨_, rfl, q, rfl, ⟨xs, SqT.of hq⟩, ?_⟩
  have hxl := hat.len
  refine for_tup (xs := xs) (fun i σ H1 => ∃ (v2 : Option V) (us1 : List V), σ = [some (.ref x.p), some (.ref q), v2] ∧ SM x H H1 ∧ MkA C x H1 (n + nEs (es.take i)) (us ++ us1) ∧ AtL AtRw H1 (rwEs sur (es.take i) n) us1)
    ⟨none, [], rfl, SM.refl, by have e : es.take 0 = .nil := by cases es <;> rfl
                                rw [e, List.append_nil]; exact hmk, by have e : es.take 0 = .nil := by cases es <;> rfl
                                                                       rw [e]; rfl⟩ (fun i σ H1 _ ⟨_, _, _, s1, _⟩ => SqT.of (s1.tups hmk _ _ hq)) ?_ ?_
  · rintro i u σ H1 hu ⟨v2, us1, rfl, s1, m1, at1⟩
    have t1 := s1.tups hmk
    obtain ⟨e, g1, g2, g3, g4, g5, g6⟩ := Exs.split_at es (hat.on_ t1) hu
    have hul := at1.len
    have hle := rwEs_le (sur := sur) (es.take i) n
    have m1' := m1
    obtain ⟨dx, p1, p2⟩ := m1'
    refine ⟨_, rfl, x.p, dx, _, rfl, p1, rfl, _, rfl, x, sur, e, u, _, _, rfl, m1, hsur.on t1, g1, g5 hgd, g6 sur hsd, by omega, by omega, by omega, by rw [List.length_append]; omega, by omega, fun H2 us2 s2 m2 at2 => ?_⟩
    refine ⟨_, us1 ++ us2, rfl, s1.trans s2, ?_, ?_⟩
    · rw [g2, nEs_snoc, ← List.append_assoc, ← Nat.add_assoc]
      exact m2
    · rw [g2, rwEs_snoc]
      exact (s2.rw m1 at1).appL at2
  · rintro σ H1 ⟨v2, us1, rfl, s1, m1, at1⟩
    have e : es.take xs.length = es := es.take_all hat
    rw [e] at m1 at1
    exact kq H1 us1 s1 m1 at1
/-- node, a send or an up, whose number is told already: n is the number behind it -/
def spSe (C : Addr) (d : Nat) : Sp := fun vs H Q _ => ∃ (x : Mx) (sur : List (List T)) (e : Ex) (v : V) (a : Nat) (us : List V), vs = [.ref x.p, .int (a : Nat), v] ∧ ((∃ r m es, e = .send r m es) ∨ ∃ m es, e = .up m es) ∧ MkA C x H (a + 1) us ∧ AtSur H sur (.ref x.sv) ∧ AtE H e v ∧ gdE e ∧ sdE sur e ∧ oE e < d + 1 ∧ oE e ≤ 18 ∧ nE e ≤ 1100 ∧ us.length + 5 * nE e ≤ 15600 ∧ a + nE e ≤ 100000 ∧
  ∀ H' us1, SM x H H' → MkA C x H' (a + nE e) (us ++ us1) → AtL AtRw H' (rwE sur e a) us1 → Q .non H'
theorem cut_m2 (zs : List V) (x y : V) : cutV (zs ++ [x, y]) (some (-2)) none = [x, y] := by
  have e : (zs ++ [x, y]).length = zs.length + 2 := by simp
  unfold cutV
  rw [HT.sIx_none]
  have h : HT.sIx (zs ++ [x, y]).length 0 (some (-2)) = zs.length := by
    rw [e]
    show HT.sIx (zs.length + 2) 0 (some (-2)) = _
    unfold HT.sIx
    simp only
    rw [if_pos (by decide)]
    omega
  rw [h, e, List.drop_left, show zs.length + 2 - zs.length = 2 by omega]
  rfl
theorem m_se {d k : Nat} (hk : 1 ≤ k) (b_len : mg "len" = none) (T : TxM K C) (D : Dm K C "send_rows" "RowMaker.send_rows" s_RowMaker_send_rows) (PU : MoR P w K mg base C 1 "put" (spMPu C)) (ER : Mo P w K mg base C k "expression_rows" (spEr C d)) (AE : Mo P w K mg base C (k + 1) "all_expression_rows" (spEsr C d)) : Mo P w K mg base C (k + 2) "send_rows" (spSe C d) := by
  obtain ⟨f, fd, F, hm⟩ := D.ex
  refine ⟨f, fd, ["self", "number", "node"], F.ok scSe (fun vs H Q E h => ?_) (fun cdv A outer s H vs Q E hr h => ?_), hm, F.binds (ps := ["self", "number", "node"]) fun _ _ _ _ _ _ us hl => match us, hl with | [_, _, _], _ => rfl⟩
  · obtain ⟨x, sur, e, v, a, us, rfl, _⟩ := h
    rfl
  obtain ⟨x, sur, e, v, a, us, rfl, hcase, hmk, hsur, hat, hgd, hsd, ho, ho18, hn, hl, ha, kq⟩ := h
  refine ⟨_, pss_cons (ps_asg (pe_slice sl_tup (pv 2) (po_some (pe_un un_neg pe_int)) po_none) (pg_tup (by rfl) (pgs_cons (pg_name (i := 3) scSe.nd rfl (Or.inl rfl)) (pgs_cons (pg_name (i := 4) scSe.nd rfl (Or.inl rfl)) pgs_nil)))) <|
    pss_cons (ps_if (pt_cmpR op_eq (pe_ix (r := rIxT K) ix_tup (pv 2) pe_int (fun _ _ => rfl)) pe_str (nomark _))
      (pss_one (ps_expr (pe_mm T.cl ER hr (by omega) pass0 (pv 0) (pa_cons (pe_ix (r := rIxT K) ix_tup (pv 2) pe_int (fun _ _ => rfl)) pa_nil))))
      (pss_nil)) <|
    pss_cons (ps_expr (pe_mm T.cl AE hr (by omega) pass0 (pv 0) (pa_cons (pv 4) pa_nil))) <|
    pss_one (ps_expr (pe_mr T.cl PU hr (by omega) pass0 (pv 0) (pa_cons (pv 1) (pa_cons (pe_ix (r := rIxT K) ix_tup (pv 2) pe_int (fun _ _ => rfl)) (pa_cons (pv 3) (pa_cons (pe_callB call_len_seq (by rfl) b_len PySem.boot_len (pa_cons (pv 4) pa_nil)) pa_nil)))))), ?_⟩
  rcases hcase with ⟨r, m, es, rfl⟩ | ⟨m, es, rfl⟩
  · have hat0 := hat
    obtain ⟨p, vr, q, xs, rfl, hp, hq, hr0, hes⟩ := hat0
    have hne : nE (.send r m es) = 1 + nE r + nEs es := rfl
    have hoe : oE (.send r m es) = 1 + max (oE r) (oEs es) := rfl
    refine ⟨_, rfl, 2, rfl, _, rfl, p, _, rfl, SqT.of hp, fun z => absurd (show HT.sIx 4 0 (some (-2)) = 0 from z.1) (by decide +kernel), fun c0 hc0 => ?_⟩
    have ecut : cutV [S_ "send", vr, .str (mk m), .ref q] (some (-2)) none = [.str (mk m), .ref q] := cut_m2 [S_ "send", vr] (.str (mk m)) (.ref q)
    rw [ecut]
    have s0 := same_new hc0 (.tup [.str (mk m), .ref q])
    have f0 : upd H c0 (.tup [.str (mk m), .ref q]) c0 = some (.tup [.str (mk m), .ref q]) := upd_same
    generalize upd H c0 (.tup [.str (mk m), .ref q]) = H0 at s0 f0 ⊢
    refine ⟨c0, _, rfl, SqT.of f0, rfl, _, _, rfl, _, _, rfl, rfl, ?_⟩
    have m0 := hmk.same s0
    have t0 := same_tups s0
    have m0' := m0
    obtain ⟨dx, p1, p2⟩ := m0'
    refine ⟨_, rfl, p, _, _, _, rfl, rfl, SqT.of (s0 _ _ hp), atI_0, rfl, _, rfl, ?_⟩
    refine ite2 (fun _ => ?_) (fun c => absurd (by decide +kernel) c)
    refine ⟨_, rfl, x.p, dx, _, rfl, p1, rfl, _, rfl, p, _, _, _, rfl, rfl, SqT.of (s0 _ _ hp), atI_nat (j := 1) rfl, x, sur, r, vr, _, us, rfl, m0, hsur.on t0, hr0.on_ t0, hgd.1, hsd.1, by omega, by omega, by omega, by omega, by omega, fun H1 us1 s1 m1 at1 => ?_⟩
    have t1 := t0.trans (s1.tups m0)
    have m1' := m1
    obtain ⟨dx1, q1, q2⟩ := m1'
    have hu1 := at1.len
    have hr1 := rwE_le (sur := sur) r (a + 1)
    refine ⟨_, rfl, x.p, dx1, _, rfl, q1, rfl, _, rfl, x, sur, es, q, xs, _, _, rfl, t1 _ _ hq, m1, hsur.on t1, hes.on_ t1, hgd.2, hsd.2, by omega, by omega, by omega, by rw [List.length_append]; omega, by omega, fun H2 us2 s2 m2 at2 => ?_⟩
    have t2 := t1.trans (s2.tups m1)
    have m2' := m2
    obtain ⟨dx2, r1, r2⟩ := m2'
    have hu2 := at2.len
    have hr2 := rwEs_le (sur := sur) es (a + 1 + nE r)
    refine ⟨_, rfl, x.p, dx2, _, rfl, r1, rfl, _, rfl, _, rfl, p, _, _, _, rfl, rfl, SqT.of (t2 _ _ hp), atI_0, _, rfl, _, rfl, q, _, rfl, .inr (SqT.of (t2 _ _ hq)), x, _, _, _, rfl, by show 4 ≤ 10; decide, m2, by rw [List.length_append, List.length_append]; omega, fun H3 q3 s3 m3 h3 => ?_⟩
    refine kq H3 (us1 ++ us2 ++ [.ref q3]) ((SM.same s0).trans (s1.trans (s2.trans s3))) ?_ ?_
    · rw [hne, ← List.append_assoc, ← List.append_assoc]
      have e : a + (1 + nE r + nEs es) = a + 1 + nE r + nEs es := by omega
      rw [e]
      exact m3
    · rw [hes.len] at h3
      exact (s3.rw m2 ((s2.rw m1 at1).appL at2)).appL (rw_one h3)
  · have hat0 := hat
    obtain ⟨p, q, xs, rfl, hp, hq, hes⟩ := hat0
    have hne : nE (.up m es) = 1 + nEs es := rfl
    have hoe : oE (.up m es) = 1 + oEs es := rfl
    refine ⟨_, rfl, 2, rfl, _, rfl, p, _, rfl, SqT.of hp, fun z => absurd (show HT.sIx 3 0 (some (-2)) = 0 from z.1) (by decide +kernel), fun c0 hc0 => ?_⟩
    have ecut : cutV [S_ "up", .str (mk m), .ref q] (some (-2)) none = [.str (mk m), .ref q] := cut_m2 [S_ "up"] (.str (mk m)) (.ref q)
    rw [ecut]
    have s0 := same_new hc0 (.tup [.str (mk m), .ref q])
    have f0 : upd H c0 (.tup [.str (mk m), .ref q]) c0 = some (.tup [.str (mk m), .ref q]) := upd_same
    generalize upd H c0 (.tup [.str (mk m), .ref q]) = H0 at s0 f0 ⊢
    refine ⟨c0, _, rfl, SqT.of f0, rfl, _, _, rfl, _, _, rfl, rfl, ?_⟩
    have m0 := hmk.same s0
    have t0 := same_tups s0
    have m0' := m0
    obtain ⟨dx, p1, p2⟩ := m0'
    refine ⟨_, rfl, p, _, _, _, rfl, rfl, SqT.of (s0 _ _ hp), atI_0, rfl, _, rfl, ?_⟩
    refine ite2 (fun c => absurd c (by decide +kernel)) (fun _ => ?_)
    refine ⟨_, rfl, x.p, dx, _, rfl, p1, rfl, _, rfl, x, sur, es, q, xs, _, us, rfl, t0 _ _ hq, m0, hsur.on t0, hes.on_ t0, hgd, hsd, by omega, by omega, by omega, by omega, by omega, fun H2 us2 s2 m2 at2 => ?_⟩
    have t2 := t0.trans (s2.tups m0)
    have m2' := m2
    obtain ⟨dx2, r1, r2⟩ := m2'
    have hu2 := at2.len
    have hr2 := rwEs_le (sur := sur) es (a + 1)
    refine ⟨_, rfl, x.p, dx2, _, rfl, r1, rfl, _, rfl, _, rfl, p, _, _, _, rfl, rfl, SqT.of (t2 _ _ hp), atI_0, _, rfl, _, rfl, q, _, rfl, .inr (SqT.of (t2 _ _ hq)), x, _, _, _, rfl, by show 4 ≤ 10; decide, m2, by rw [List.length_append]; omega, fun H3 q3 s3 m3 h3 => ?_⟩
    refine kq H3 (us2 ++ [.ref q3]) ((SM.same s0).trans (s2.trans s3)) ?_ ?_
    · rw [hne, ← List.append_assoc]
      have e : a + (1 + nEs es) = a + 1 + nEs es := by omega
      rw [e]
      exact m3
    · rw [hes.len] at h3
      exact (s3.rw m2 at2).appL (rw_one h3)
end
end My
set_option Elab.async false
set_option linter.all false
set_option maxRecDepth 100000
set_option maxHeartbeats 8000000
namespace My
open PySem L2 SS
theorem in_testTi {K : PySem.W.Frag} {i : Nat} {σ : L2.St} {H : Hp} {Qb : Bool → Hp → Prop} {z : Str} {zs : List V} {t : TA} (hσ : σ[i]? = some (some (V.str z))) (ht : ∀ H Q, Q zs H → t σ H Q) (hl : zs.length ≤ sizeLine) (hf : zs.all flatV = true) {b : Bool} (hb : inV (.str z) zs = b) (k : ∀ H', Same H H' → Qb b H') : tTest (tOp (rIn K false) (tVar i) (tTup t)) σ H Qb := by
  refine ⟨_, hσ, ht _ _ ⟨hl, fun L hL => ⟨L, _, rfl, .inr (SqT.of upd_same), rfl, hf, _, rfl, ?_⟩⟩⟩
  show Qb (inV (.str z) zs) _
  rw [hb]
  exact k _ (same_new hL _)
theorem hE_le (e : Ex) : hN (.e e) ≤ 2 * oE e + 2 := by show 2 * oE e + 1 ≤ _; omega
section
variable {P : Program} {w : World} {K : PySem.W.Frag} {mg : Str → Option Value} {base : Heap} {C : Addr}
theorem m_er {d k : Nat} (hk : 50 ≤ k) (T : TxM K C) (D : Dm K C "expression_rows" "RowMaker.expression_rows" s_RowMaker_expression_rows) (b_len : mg "len" = none) (NN : Mo P w K mg base C 1 "next_number" (spNn C)) (PU : MoR P w K mg base C 1 "put" (spMPu C)) (PN : Mo P w K mg base C 2 "put_of_name" (spPn C)) (MN : C0 P w K mg base 42 "many_nodes" (spMn 41))
    (AE : Mo P w K mg base C (k + 1) "all_expression_rows" (spEsr C d)) (SE : Mo P w K mg base C (k + 2) "send_rows" (spSe C d)) : Mo P w K mg base C (k + 3) "expression_rows" (spEr C (d + 1)) := by
  obtain ⟨f, fd, F, hm⟩ := D.ex
  refine ⟨f, fd, ["self", "node"], F.ok scEr (fun vs H Q E h => ?_) (fun cdv A outer s H vs Q E hr h => ?_), hm, F.binds (ps := ["self", "node"]) fun _ _ _ _ _ _ us hl => match us, hl with | [_, _], _ => rfl⟩
  · obtain ⟨x, sur, e, v, n, us, rfl, _⟩ := h
    rfl
  obtain ⟨x, sur, e, v, n, us, rfl, hmk, hsur, hat, hgd, hsd, ho, ho18, hn, hl, hnn, kq⟩ := h
  refine ⟨_, pss_cons (ps_set (i := 2) scEr.nd rfl (Or.inl rfl) (pe_mm0 T.cl NN hr (by omega) pass0 (pv 0))) <|
    pss_cons (ps_set (i := 3) scEr.nd rfl (Or.inl rfl) (pe_ix (r := rIxT K) ix_tup (pv 1) pe_int (fun _ _ => rfl))) <|
    pss_one (ps_if (pt_cmpR op_in_seq (pv 3) (pe_tup (pa_cons pe_str (pa_cons pe_str (pa_cons pe_str pa_nil)))) (by rfl))
      (pss_one (ps_expr (pe_mr T.cl PU hr (by omega) pass0 (pv 0) (pa_cons (pv 2) (pa_cons pe_str (pa_cons (pe_ix (r := rIxT K) ix_tup (pv 1) pe_int (fun _ _ => rfl)) pa_nil))))))
      (pss_one (ps_if (pt_cmpR op_eq (pv 3) pe_str (nomark _))
        (pss_one (ps_expr (pe_mr T.cl PU hr (by omega) pass0 (pv 0) (pa_cons (pv 2) (pa_cons pe_str (pa_cons pe_non pa_nil))))))
        (pss_one (ps_if (pt_cmpR op_eq (pv 3) pe_str (nomark _))
          (pss_one (ps_expr (pe_mr T.cl PU hr (by omega) pass0 (pv 0) (pa_cons (pv 2) (pa_cons pe_str pa_nil)))))
          (pss_one (ps_if (pt_cmpR op_eq (pv 3) pe_str (nomark _))
            (pss_one (ps_expr (pe_mm T.cl PN hr (by omega) pass0 (pv 0) (pa_cons (pv 2) (pa_cons pe_str (pa_cons (pe_ix (r := rIxT K) ix_tup (pv 1) pe_int (fun _ _ => rfl)) pa_nil))))))
            (pss_one (ps_if (pt_cmpR op_in_seq (pv 3) (pe_tup (pa_cons pe_str (pa_cons pe_str pa_nil))) (by rfl))
              (pss_one (ps_expr (pe_mr T.cl PU hr (by omega) pass0 (pv 0) (pa_cons (pv 2) (pa_cons (pv 3) (pa_cons (pe_ix (r := rIxT K) ix_tup (pv 1) pe_int (fun _ _ => rfl)) pa_nil))))))
              (pss_one (ps_if (pt_cmpR op_eq (pv 3) pe_str (nomark _))
                (pss_cons (ps_expr (pe_mr T.cl PU hr (by omega) pass0 (pv 0) (pa_cons (pv 2) (pa_cons pe_str (pa_cons (pv 2) pa_nil))))) <|
                pss_one (ps_fldaug (pv 0) (pe_op op_sub (pe_cc MN hr (by omega) pass0 (pa_cons (pv 1) pa_nil)) pe_int) in_add))
                (pss_one (ps_if (pt_cmpR op_eq (pv 3) pe_str (nomark _))
                  (pss_cons (ps_expr (pe_mm T.cl AE hr (by omega) pass0 (pv 0) (pa_cons (pe_ix (r := rIxT K) ix_tup (pv 1) pe_int (fun _ _ => rfl)) pa_nil))) <|
                  pss_one (ps_expr (pe_mr T.cl PU hr (by omega) pass0 (pv 0) (pa_cons (pv 2) (pa_cons pe_str (pa_cons (pe_callB call_len_seq (by rfl) b_len PySem.boot_len (pa_cons (pe_ix (r := rIxT K) ix_tup (pv 1) pe_int (fun _ _ => rfl)) pa_nil)) pa_nil))))))
                  (pss_one (ps_expr (pe_mm T.cl SE hr (by omega) pass0 (pv 0) (pa_cons (pv 2) (pa_cons (pv 1) pa_nil)))))))))))))))))), ?_⟩
  have hmk' := hmk
  obtain ⟨dx0, a1, a2⟩ := hmk'
  refine ⟨_, rfl, x.p, dx0, _, rfl, a1, rfl, x, n, us, rfl, hmk, fun H1 s1 m1 => ?_⟩
  have t1 := s1.tups hmk
  have hsur1 := hsur.on t1
  have hat1 := hat.on_ t1
  have kq1 : ∀ H' us1, SM x H1 H' → MkA C x H' (n + nE e) (us ++ us1) → AtL AtRw H' (rwE sur e n) us1 → Q .non H' := fun H' us1 s m a => kq H' us1 (s1.trans s) m a
  have fin : ∀ (Hk : Hp) (rest : List V), Same H1 Hk → rest.length ≤ 10 → rwE sur e n = [rest] → nE e = 1 → spMPu C (.ref x.p :: rest) Hk (fun _ H' => Q .non H') E := fun Hk rest s hr10 er en => by
    refine ⟨x, n + 1, us, rest, rfl, hr10, m1.same s, by omega, fun H' q s' m' h' => ?_⟩
    refine kq1 H' [.ref q] ((SM.same s).trans s') ?_ ?_
    · rw [en]; exact m'
    · rw [er]; exact rw_one h'
  clear a1 a2 hmk kq hat hsur
  cases e with
  | num z0 =>
    obtain ⟨p, rfl, hp⟩ := hat1
    refine ⟨_, rfl, p, _, _, _, rfl, rfl, SqT.of hp, atI_0, ?_⟩
    refine in_testTi (i := 3) (zs := [V.str (Str.ofString "number"), V.str (Str.ofString "text"), V.str (Str.ofString "truth")]) rfl (fun _ _ q => q) (by show 3 ≤ sizeLine; decide) rfl (b := true) (by decide +kernel) fun I1 w1 => ?_
    refine iteT ?_
    obtain ⟨dx, p1, _⟩ := m1.same ((Same.refl _).trans w1)
    refine ⟨_, rfl, x.p, dx, _, rfl, p1, rfl, _, rfl, _, rfl, p, _, _, _, rfl, rfl, SqT.of (((Same.refl _).trans w1) _ _ hp), atI_nat (j := 1) rfl, ?_⟩
    exact fin I1 _ ((Same.refl _).trans w1) (by show 3 ≤ 10; decide) rfl rfl
  | txt z0 =>
    obtain ⟨p, rfl, hp⟩ := hat1
    refine ⟨_, rfl, p, _, _, _, rfl, rfl, SqT.of hp, atI_0, ?_⟩
    refine in_testTi (i := 3) (zs := [V.str (Str.ofString "number"), V.str (Str.ofString "text"), V.str (Str.ofString "truth")]) rfl (fun _ _ q => q) (by show 3 ≤ sizeLine; decide) rfl (b := true) (by decide +kernel) fun I1 w1 => ?_
    refine iteT ?_
    obtain ⟨dx, p1, _⟩ := m1.same ((Same.refl _).trans w1)
    refine ⟨_, rfl, x.p, dx, _, rfl, p1, rfl, _, rfl, _, rfl, p, _, _, _, rfl, rfl, SqT.of (((Same.refl _).trans w1) _ _ hp), atI_nat (j := 1) rfl, ?_⟩
    exact fin I1 _ ((Same.refl _).trans w1) (by show 3 ≤ 10; decide) rfl rfl
  | tru z0 =>
    obtain ⟨p, rfl, hp⟩ := hat1
    refine ⟨_, rfl, p, _, _, _, rfl, rfl, SqT.of hp, atI_0, ?_⟩
    refine in_testTi (i := 3) (zs := [V.str (Str.ofString "number"), V.str (Str.ofString "text"), V.str (Str.ofString "truth")]) rfl (fun _ _ q => q) (by show 3 ≤ sizeLine; decide) rfl (b := true) (by decide +kernel) fun I1 w1 => ?_
    refine iteT ?_
    obtain ⟨dx, p1, _⟩ := m1.same ((Same.refl _).trans w1)
    refine ⟨_, rfl, x.p, dx, _, rfl, p1, rfl, _, rfl, _, rfl, p, _, _, _, rfl, rfl, SqT.of (((Same.refl _).trans w1) _ _ hp), atI_nat (j := 1) rfl, ?_⟩
    exact fin I1 _ ((Same.refl _).trans w1) (by show 3 ≤ 10; decide) rfl rfl
  | non =>
    obtain ⟨p, rfl, hp⟩ := hat1
    refine ⟨_, rfl, p, _, _, _, rfl, rfl, SqT.of hp, atI_0, ?_⟩
    refine in_testTi (i := 3) (zs := [V.str (Str.ofString "number"), V.str (Str.ofString "text"), V.str (Str.ofString "truth")]) rfl (fun _ _ q => q) (by show 3 ≤ sizeLine; decide) rfl (b := false) (by decide +kernel) fun I1 w1 => ?_
    refine iteF ?_
    refine ⟨_, rfl, rfl, _, rfl, ?_⟩
    refine ite2 (fun _ => ?_) (fun c => absurd (by decide +kernel) c)
    obtain ⟨dx, p1, _⟩ := m1.same ((Same.refl _).trans w1)
    refine ⟨_, rfl, x.p, dx, _, rfl, p1, rfl, _, rfl, ?_⟩
    exact fin I1 _ ((Same.refl _).trans w1) (by show 3 ≤ 10; decide) rfl rfl
  | slf =>
    obtain ⟨p, rfl, hp⟩ := hat1
    refine ⟨_, rfl, p, _, _, _, rfl, rfl, SqT.of hp, atI_0, ?_⟩
    refine in_testTi (i := 3) (zs := [V.str (Str.ofString "number"), V.str (Str.ofString "text"), V.str (Str.ofString "truth")]) rfl (fun _ _ q => q) (by show 3 ≤ sizeLine; decide) rfl (b := false) (by decide +kernel) fun I1 w1 => ?_
    refine iteF ?_
    refine ⟨_, rfl, rfl, _, rfl, ?_⟩
    refine ite2 (fun c => absurd c (by decide +kernel)) (fun _ => ?_)
    refine ⟨_, rfl, rfl, _, rfl, ?_⟩
    refine ite2 (fun _ => ?_) (fun c => absurd (by decide +kernel) c)
    obtain ⟨dx, p1, _⟩ := m1.same ((Same.refl _).trans w1)
    refine ⟨_, rfl, x.p, dx, _, rfl, p1, rfl, _, rfl, ?_⟩
    exact fin I1 _ ((Same.refl _).trans w1) (by show 2 ≤ 10; decide) rfl rfl
  | nam z0 =>
    obtain ⟨p, rfl, hp⟩ := hat1
    refine ⟨_, rfl, p, _, _, _, rfl, rfl, SqT.of hp, atI_0, ?_⟩
    refine in_testTi (i := 3) (zs := [V.str (Str.ofString "number"), V.str (Str.ofString "text"), V.str (Str.ofString "truth")]) rfl (fun _ _ q => q) (by show 3 ≤ sizeLine; decide) rfl (b := false) (by decide +kernel) fun I1 w1 => ?_
    refine iteF ?_
    refine ⟨_, rfl, rfl, _, rfl, ?_⟩
    refine ite2 (fun c => absurd c (by decide +kernel)) (fun _ => ?_)
    refine ⟨_, rfl, rfl, _, rfl, ?_⟩
    refine ite2 (fun c => absurd c (by decide +kernel)) (fun _ => ?_)
    refine ⟨_, rfl, rfl, _, rfl, ?_⟩
    refine ite2 (fun _ => ?_) (fun c => absurd (by decide +kernel) c)
    have mk_ := m1.same ((Same.refl _).trans w1)
    have mk2 := mk_
    obtain ⟨dx, p1, _⟩ := mk2
    refine ⟨_, rfl, x.p, dx, _, rfl, p1, rfl, _, rfl, _, rfl, p, _, _, _, rfl, rfl, SqT.of (((Same.refl _).trans w1) _ _ hp), atI_nat (j := 1) rfl, ?_⟩
    refine ⟨x, sur, n + 1, n, _, z0, us, rfl, mk_, hsur1.on (same_tups ((Same.refl _).trans w1)), hsd, by omega, fun H2 q2 s2 m2 h2 => ?_⟩
    exact kq1 H2 [.ref q2] ((SM.same ((Same.refl _).trans w1)).trans s2) m2 (rw_one h2)
  | fld z0 =>
    obtain ⟨p, rfl, hp⟩ := hat1
    refine ⟨_, rfl, p, _, _, _, rfl, rfl, SqT.of hp, atI_0, ?_⟩
    refine in_testTi (i := 3) (zs := [V.str (Str.ofString "number"), V.str (Str.ofString "text"), V.str (Str.ofString "truth")]) rfl (fun _ _ q => q) (by show 3 ≤ sizeLine; decide) rfl (b := false) (by decide +kernel) fun I1 w1 => ?_
    refine iteF ?_
    refine ⟨_, rfl, rfl, _, rfl, ?_⟩
    refine ite2 (fun c => absurd c (by decide +kernel)) (fun _ => ?_)
    refine ⟨_, rfl, rfl, _, rfl, ?_⟩
    refine ite2 (fun c => absurd c (by decide +kernel)) (fun _ => ?_)
    refine ⟨_, rfl, rfl, _, rfl, ?_⟩
    refine ite2 (fun c => absurd c (by decide +kernel)) (fun _ => ?_)
    refine in_testTi (i := 3) (zs := [V.str (Str.ofString "field"), V.str (Str.ofString "new")]) rfl (fun _ _ q => q) (by show 2 ≤ sizeLine; decide) rfl (b := true) (by decide +kernel) fun I2 w2 => ?_
    refine iteT ?_
    obtain ⟨dx, p1, _⟩ := m1.same (((Same.refl _).trans w1).trans w2)
    refine ⟨_, rfl, x.p, dx, _, rfl, p1, rfl, _, rfl, _, rfl, _, rfl, p, _, _, _, rfl, rfl, SqT.of ((((Same.refl _).trans w1).trans w2) _ _ hp), atI_nat (j := 1) rfl, ?_⟩
    exact fin I2 _ (((Same.refl _).trans w1).trans w2) (by show 3 ≤ 10; decide) rfl rfl
  | new z0 =>
    obtain ⟨p, rfl, hp⟩ := hat1
    refine ⟨_, rfl, p, _, _, _, rfl, rfl, SqT.of hp, atI_0, ?_⟩
    refine in_testTi (i := 3) (zs := [V.str (Str.ofString "number"), V.str (Str.ofString "text"), V.str (Str.ofString "truth")]) rfl (fun _ _ q => q) (by show 3 ≤ sizeLine; decide) rfl (b := false) (by decide +kernel) fun I1 w1 => ?_
    refine iteF ?_
    refine ⟨_, rfl, rfl, _, rfl, ?_⟩
    refine ite2 (fun c => absurd c (by decide +kernel)) (fun _ => ?_)
    refine ⟨_, rfl, rfl, _, rfl, ?_⟩
    refine ite2 (fun c => absurd c (by decide +kernel)) (fun _ => ?_)
    refine ⟨_, rfl, rfl, _, rfl, ?_⟩
    refine ite2 (fun c => absurd c (by decide +kernel)) (fun _ => ?_)
    refine in_testTi (i := 3) (zs := [V.str (Str.ofString "field"), V.str (Str.ofString "new")]) rfl (fun _ _ q => q) (by show 2 ≤ sizeLine; decide) rfl (b := true) (by decide +kernel) fun I2 w2 => ?_
    refine iteT ?_
    obtain ⟨dx, p1, _⟩ := m1.same (((Same.refl _).trans w1).trans w2)
    refine ⟨_, rfl, x.p, dx, _, rfl, p1, rfl, _, rfl, _, rfl, _, rfl, p, _, _, _, rfl, rfl, SqT.of ((((Same.refl _).trans w1).trans w2) _ _ hp), atI_nat (j := 1) rfl, ?_⟩
    exact fin I2 _ (((Same.refl _).trans w1).trans w2) (by show 3 ≤ 10; decide) rfl rfl
  | send r m es =>
    have hat2 := hat1
    obtain ⟨p, vr, q, xs, rfl, hp, hq, hr0, hes⟩ := hat2
    refine ⟨_, rfl, p, _, _, _, rfl, rfl, SqT.of hp, atI_0, ?_⟩
    refine in_testTi (i := 3) (zs := [V.str (Str.ofString "number"), V.str (Str.ofString "text"), V.str (Str.ofString "truth")]) rfl (fun _ _ q => q) (by show 3 ≤ sizeLine; decide) rfl (b := false) (by decide +kernel) fun I1 w1 => ?_
    refine iteF ?_
    refine ⟨_, rfl, rfl, _, rfl, ?_⟩
    refine ite2 (fun c => absurd c (by decide +kernel)) (fun _ => ?_)
    refine ⟨_, rfl, rfl, _, rfl, ?_⟩
    refine ite2 (fun c => absurd c (by decide +kernel)) (fun _ => ?_)
    refine ⟨_, rfl, rfl, _, rfl, ?_⟩
    refine ite2 (fun c => absurd c (by decide +kernel)) (fun _ => ?_)
    refine in_testTi (i := 3) (zs := [V.str (Str.ofString "field"), V.str (Str.ofString "new")]) rfl (fun _ _ q => q) (by show 2 ≤ sizeLine; decide) rfl (b := false) (by decide +kernel) fun I2 w2 => ?_
    refine iteF ?_
    refine ⟨_, rfl, rfl, _, rfl, ?_⟩
    refine ite2 (fun c => absurd c (by decide +kernel)) (fun _ => ?_)
    refine ⟨_, rfl, rfl, _, rfl, ?_⟩
    refine ite2 (fun c => absurd c (by decide +kernel)) (fun _ => ?_)
    have mk_ := m1.same (((Same.refl _).trans w1).trans w2)
    have mk2 := mk_
    obtain ⟨dx, p1, _⟩ := mk2
    refine ⟨_, rfl, x.p, dx, _, rfl, p1, rfl, _, rfl, _, rfl, ?_⟩
    exact ⟨x, sur, _, _, n, us, rfl, .inl ⟨r, m, es, rfl⟩, mk_, hsur1.on (same_tups (((Same.refl _).trans w1).trans w2)), hat1.on_ (same_tups (((Same.refl _).trans w1).trans w2)), hgd, hsd, ho, ho18, hn, hl, hnn, fun H2 us2 s2 m2 a2 => kq1 H2 us2 ((SM.same (((Same.refl _).trans w1).trans w2)).trans s2) m2 a2⟩
  | up m es =>
    have hat2 := hat1
    obtain ⟨p, q, xs, rfl, hp, hq, hes⟩ := hat2
    refine ⟨_, rfl, p, _, _, _, rfl, rfl, SqT.of hp, atI_0, ?_⟩
    refine in_testTi (i := 3) (zs := [V.str (Str.ofString "number"), V.str (Str.ofString "text"), V.str (Str.ofString "truth")]) rfl (fun _ _ q => q) (by show 3 ≤ sizeLine; decide) rfl (b := false) (by decide +kernel) fun I1 w1 => ?_
    refine iteF ?_
    refine ⟨_, rfl, rfl, _, rfl, ?_⟩
    refine ite2 (fun c => absurd c (by decide +kernel)) (fun _ => ?_)
    refine ⟨_, rfl, rfl, _, rfl, ?_⟩
    refine ite2 (fun c => absurd c (by decide +kernel)) (fun _ => ?_)
    refine ⟨_, rfl, rfl, _, rfl, ?_⟩
    refine ite2 (fun c => absurd c (by decide +kernel)) (fun _ => ?_)
    refine in_testTi (i := 3) (zs := [V.str (Str.ofString "field"), V.str (Str.ofString "new")]) rfl (fun _ _ q => q) (by show 2 ≤ sizeLine; decide) rfl (b := false) (by decide +kernel) fun I2 w2 => ?_
    refine iteF ?_
    refine ⟨_, rfl, rfl, _, rfl, ?_⟩
    refine ite2 (fun c => absurd c (by decide +kernel)) (fun _ => ?_)
    refine ⟨_, rfl, rfl, _, rfl, ?_⟩
    refine ite2 (fun c => absurd c (by decide +kernel)) (fun _ => ?_)
    have mk_ := m1.same (((Same.refl _).trans w1).trans w2)
    have mk2 := mk_
    obtain ⟨dx, p1, _⟩ := mk2
    refine ⟨_, rfl, x.p, dx, _, rfl, p1, rfl, _, rfl, _, rfl, ?_⟩
    exact ⟨x, sur, _, _, n, us, rfl, .inr ⟨m, es, rfl⟩, mk_, hsur1.on (same_tups (((Same.refl _).trans w1).trans w2)), hat1.on_ (same_tups (((Same.refl _).trans w1).trans w2)), hgd, hsd, ho, ho18, hn, hl, hnn, fun H2 us2 s2 m2 a2 => kq1 H2 us2 ((SM.same (((Same.refl _).trans w1).trans w2)).trans s2) m2 a2⟩
  | lst es =>
    obtain ⟨p, q, xs, rfl, hp, hq, hes⟩ := hat1
    have hne : nE (.lst es) = 1 + nEs es := rfl
    have hoe : oE (.lst es) = 1 + oEs es := rfl
    refine ⟨_, rfl, p, _, _, _, rfl, rfl, SqT.of hp, atI_0, ?_⟩
    refine in_testTi (i := 3) (zs := [V.str (Str.ofString "number"), V.str (Str.ofString "text"), V.str (Str.ofString "truth")]) rfl (fun _ _ q => q) (by show 3 ≤ sizeLine; decide) rfl (b := false) (by decide +kernel) fun I1 w1 => ?_
    refine iteF ?_
    refine ⟨_, rfl, rfl, _, rfl, ?_⟩
    refine ite2 (fun c => absurd c (by decide +kernel)) (fun _ => ?_)
    refine ⟨_, rfl, rfl, _, rfl, ?_⟩
    refine ite2 (fun c => absurd c (by decide +kernel)) (fun _ => ?_)
    refine ⟨_, rfl, rfl, _, rfl, ?_⟩
    refine ite2 (fun c => absurd c (by decide +kernel)) (fun _ => ?_)
    refine in_testTi (i := 3) (zs := [V.str (Str.ofString "field"), V.str (Str.ofString "new")]) rfl (fun _ _ q => q) (by show 2 ≤ sizeLine; decide) rfl (b := false) (by decide +kernel) fun I2 w2 => ?_
    refine iteF ?_
    refine ⟨_, rfl, rfl, _, rfl, ?_⟩
    refine ite2 (fun c => absurd c (by decide +kernel)) (fun _ => ?_)
    refine ⟨_, rfl, rfl, _, rfl, ?_⟩
    refine ite2 (fun _ => ?_) (fun c => absurd (by decide +kernel) c)
    have mk_ := m1.same (((Same.refl _).trans w1).trans w2)
    have mk2 := mk_
    have tt := same_tups (((Same.refl _).trans w1).trans w2)
    obtain ⟨dx, p1, _⟩ := mk2
    refine ⟨_, rfl, x.p, dx, _, rfl, p1, rfl, _, rfl, p, _, _, _, rfl, rfl, SqT.of (tt _ _ hp), atI_nat (j := 1) rfl, x, sur, es, q, xs, n + 1, us, rfl, tt _ _ hq, mk_, hsur1.on tt, hes.on_ tt, hgd, hsd, by omega, by omega, by omega, by omega, by omega, fun H2 us2 s2 m2 at2 => ?_⟩
    have t2 := tt.trans (s2.tups mk_)
    have m2' := m2
    obtain ⟨dx2, r1, r2⟩ := m2'
    have hu2 := at2.len
    have hr2 := rwEs_le (sur := sur) es (n + 1)
    refine ⟨_, rfl, x.p, dx2, _, rfl, r1, rfl, _, rfl, _, rfl, p, _, _, _, rfl, rfl, SqT.of (t2 _ _ hp), atI_nat (j := 1) rfl, q, _, rfl, .inr (SqT.of (t2 _ _ hq)), x, _, _, _, rfl, by show 3 ≤ 10; decide, m2, by rw [List.length_append]; omega, fun H3 q3 s3 m3 h3 => ?_⟩
    refine kq1 H3 (us2 ++ [.ref q3]) ((SM.same (((Same.refl _).trans w1).trans w2)).trans (s2.trans s3)) ?_ ?_
    · rw [hne, ← List.append_assoc]
      have e : n + (1 + nEs es) = n + 1 + nEs es := by omega
      rw [e]
      exact m3
    · rw [hes.len] at h3
      exact (s3.rw m2 at2).appL (rw_one h3)
  | blk ps ss =>
    have hat2 := hat1
    obtain ⟨p, vw, q, xs, rfl, hp, hq, hw, hss⟩ := hat2
    refine ⟨_, rfl, p, _, _, _, rfl, rfl, SqT.of hp, atI_0, ?_⟩
    refine in_testTi (i := 3) (zs := [V.str (Str.ofString "number"), V.str (Str.ofString "text"), V.str (Str.ofString "truth")]) rfl (fun _ _ q => q) (by show 3 ≤ sizeLine; decide) rfl (b := false) (by decide +kernel) fun I1 w1 => ?_
    refine iteF ?_
    refine ⟨_, rfl, rfl, _, rfl, ?_⟩
    refine ite2 (fun c => absurd c (by decide +kernel)) (fun _ => ?_)
    refine ⟨_, rfl, rfl, _, rfl, ?_⟩
    refine ite2 (fun c => absurd c (by decide +kernel)) (fun _ => ?_)
    refine ⟨_, rfl, rfl, _, rfl, ?_⟩
    refine ite2 (fun c => absurd c (by decide +kernel)) (fun _ => ?_)
    refine in_testTi (i := 3) (zs := [V.str (Str.ofString "field"), V.str (Str.ofString "new")]) rfl (fun _ _ q => q) (by show 2 ≤ sizeLine; decide) rfl (b := false) (by decide +kernel) fun I2 w2 => ?_
    refine iteF ?_
    refine ⟨_, rfl, rfl, _, rfl, ?_⟩
    refine ite2 (fun _ => ?_) (fun c => absurd (by decide +kernel) c)
    have mk_ := m1.same (((Same.refl _).trans w1).trans w2)
    have mk2 := mk_
    have tt := same_tups (((Same.refl _).trans w1).trans w2)
    obtain ⟨dx, p1, _⟩ := mk2
    refine ⟨_, rfl, x.p, dx, _, rfl, p1, rfl, _, rfl, _, rfl, x, n + 1, us, _, rfl, by show 3 ≤ 10; decide, mk_, by omega, fun H2 q2 s2 m2 h2 => ?_⟩
    have m2' := m2
    obtain ⟨dx2, r1, r2⟩ := m2'
    have t2 := tt.trans (s2.tups mk_)
    have hh := hE_le (.blk ps ss)
    refine ⟨_, rfl, x.p, C, dx2, _, _, rfl, r1, T.cl, T.fn, mf_num, _, rfl, .e (.blk ps ss), _, rfl, hat1.on_ t2, hgd, by omega, hn, fun H3 s3 => ?_⟩
    refine ⟨_, _, rfl, rfl, _, _, rfl, rfl, dx2, _, s3 _ _ r1, by show 3 < 1000; decide, ?_⟩
    have m3 := m2.same s3
    obtain ⟨b1, b2⟩ := m3.num (dx := dx2) (k := n + nE (.blk ps ss))
    have en : nN (.e (.blk ps ss)) = nE (.blk ps ss) := rfl
    have hpos : 1 ≤ nE (.blk ps ss) := by show 1 ≤ 1 + nSs ss; omega
    have e1 : (((n + 1 : Nat) : Int) + (((nN (.e (.blk ps ss)) : Nat) : Int) - 1)) = ((n + nE (.blk ps ss) : Nat) : Int) := by rw [en]; omega
    show Q .non (upd H3 x.p (.ins C dx2 (putF "number" (.int (((n + 1 : Nat) : Int) + (((nN (.e (.blk ps ss)) : Nat) : Int) - 1))) (mf x (n + 1)))))
    rw [e1, mf_pnum]
    exact kq1 _ [.ref q2] ((SM.same (((Same.refl _).trans w1).trans w2)).trans (s2.trans ((SM.same s3).trans b2))) b1 (b2.rw m3 ((SM.same s3).rw m2 (rw_one h2)))
theorem knotE (T : TxM K C) (b_len : mg "len" = none) (DE : Dm K C "expression_rows" "RowMaker.expression_rows" s_RowMaker_expression_rows) (DA : Dm K C "all_expression_rows" "RowMaker.all_expression_rows" s_RowMaker_all_expression_rows) (DS : Dm K C "send_rows" "RowMaker.send_rows" s_RowMaker_send_rows)
    (NN : Mo P w K mg base C 1 "next_number" (spNn C)) (PU : MoR P w K mg base C 1 "put" (spMPu C)) (PN : Mo P w K mg base C 2 "put_of_name" (spPn C)) (MN : C0 P w K mg base 42 "many_nodes" (spMn 41)) : ∀ d : Nat, Mo P w K mg base C (51 + 3 * d) "expression_rows" (spEr C d)
  | 0 => m_er0 50 DE
  | d + 1 => by
    have ih := knotE T b_len DE DA DS NN PU PN MN d
    have AE := m_ae T DA ih
    have SE := m_se (by omega) b_len T DS PU ih AE
    have := m_er (by omega) T DE b_len NN PU PN MN AE SE
    have e : 51 + 3 * (d + 1) = 51 + 3 * d + 3 := by omega
    rw [e]
    exact this
end
end My
set_option Elab.async false
set_option linter.all false
set_option maxRecDepth 100000
set_option maxHeartbeats 8000000
namespace My
open PySem L2 SS
section
variable {P : Program} {w : World} {K : PySem.W.Frag} {mg : Str → Option Value} {base : Heap} {C : Addr}
theorem nE_pos (e : Ex) : 1 ≤ nE e := by cases e <;> simp only [nE] <;> omega
mutual
theorem rwS_le {sur : List (List T)} : ∀ (s : St_) (a o : Nat), (rwS sur s a o).length ≤ 5 * nS s
  | .set w e, a, o => by
    show ([[iV a, S_ "beat"]] ++ rwE sur e (a + 1) ++ [_]).length ≤ 5 * (1 + nE e)
    have := rwE_le (sur := sur) e (a + 1)
    rw [List.length_append, List.length_append]; show 1 + _ + 1 ≤ _; omega
  | .sfl w e, a, o => by
    show ([[iV a, S_ "beat"]] ++ rwE sur e (a + 1) ++ [_]).length ≤ 5 * (1 + nE e)
    have := rwE_le (sur := sur) e (a + 1)
    rw [List.length_append, List.length_append]; show 1 + _ + 1 ≤ _; omega
  | .pl w e, a, o => by
    show ([[iV a, S_ "beat"]] ++ rwE sur e (a + 1) ++ [_]).length ≤ 5 * (1 + nE e)
    have := rwE_le (sur := sur) e (a + 1)
    rw [List.length_append, List.length_append]; show 1 + _ + 1 ≤ _; omega
  | .iff e x y, a, o => by
    show ([[iV a, S_ "beat"]] ++ rwE sur e (a + 1) ++ [_] ++ rwSs sur x (a + 1 + nE e) (o + 2 + (rwE sur e (a + 1)).length) ++ [_] ++ rwSs sur y (a + 1 + nE e + nSs x) (o + 3 + (rwE sur e (a + 1)).length + (rwSs sur x (a + 1 + nE e) (o + 2 + (rwE sur e (a + 1)).length)).length)).length ≤ 5 * (1 + nE e + nSs x + nSs y)
    have h1 := rwE_le (sur := sur) e (a + 1)
    have h2 := rwSs_le (sur := sur) x (a + 1 + nE e) (o + 2 + (rwE sur e (a + 1)).length)
    have h3 := rwSs_le (sur := sur) y (a + 1 + nE e + nSs x) (o + 3 + (rwE sur e (a + 1)).length + (rwSs sur x (a + 1 + nE e) (o + 2 + (rwE sur e (a + 1)).length)).length)
    simp only [List.length_append, List.length_cons, List.length_nil]
    omega
  | .whl e x, a, o => by
    show ([[iV a, S_ "beat"]] ++ rwE sur e (a + 1) ++ [_] ++ rwSs sur x (a + 1 + nE e) (o + 2 + (rwE sur e (a + 1)).length) ++ [_]).length ≤ 5 * (1 + nE e + nSs x)
    have h1 := rwE_le (sur := sur) e (a + 1)
    have h2 := rwSs_le (sur := sur) x (a + 1 + nE e) (o + 2 + (rwE sur e (a + 1)).length)
    simp only [List.length_append, List.length_cons, List.length_nil]
    omega
  | .tri x w y, a, o => by
    show ([_, _] ++ rwSs sur x (a + 1) (o + 2) ++ [_, _, _] ++ rwSs sur y (a + 1 + nSs x) (o + 5 + (rwSs sur x (a + 1) (o + 2)).length)).length ≤ 5 * (1 + nSs x + nSs y)
    have h2 := rwSs_le (sur := sur) x (a + 1) (o + 2)
    have h3 := rwSs_le (sur := sur) y (a + 1 + nSs x) (o + 5 + (rwSs sur x (a + 1) (o + 2)).length)
    simp only [List.length_append, List.length_cons, List.length_nil]
    omega
theorem rwSs_le {sur : List (List T)} : ∀ (ss : Sts) (a o : Nat), (rwSs sur ss a o).length ≤ 5 * nSs ss
  | .nil, _, _ => Nat.zero_le _
  | .cons s r, a, o => by
    show (rwS sur s a o ++ rwSs sur r (a + nS s) (o + (rwS sur s a o).length)).length ≤ 5 * (nS s + nSs r)
    have h1 := rwS_le (sur := sur) s a o
    have h2 := rwSs_le (sur := sur) r (a + nS s) (o + (rwS sur s a o).length)
    rw [List.length_append]
    omega
end
/-- behind the beat, which is the last row -/
def spSr (C : Addr) (ok : St_ → Prop) (d : Nat) : Sp := fun vs H Q _ => ∃ (x : Mx) (sur : List (List T)) (s : St_) (v : V) (a o : Nat) (us : List V), vs = [.ref x.p, .int (a : Nat), v] ∧ ok s ∧ us.length = o + 1 ∧ MkA C x H (a + 1) us ∧ AtSur H sur (.ref x.sv) ∧ AtS H s v ∧ gdS s ∧ sdS sur s ∧ oS s < d ∧ oS s ≤ 18 ∧ nS s ≤ 1100 ∧ us.length + 5 * nS s ≤ 15501 ∧ a + nS s ≤ 100000 ∧
  ∀ H' us1, SM x H H' → MkA C x H' (a + nS s) (us ++ us1) → AtL AtRw H' (rwS sur s a o).tail us1 → Q .non H'
def spSsr (C : Addr) (d : Nat) : Sp := fun vs H Q _ => ∃ (x : Mx) (sur : List (List T)) (ss : Sts) (q : Addr) (xs : List V) (a : Nat) (us : List V), vs = [.ref x.p, .ref q] ∧ H q = some (.tup xs) ∧ MkA C x H a us ∧ AtSur H sur (.ref x.sv) ∧ AtSs H ss xs ∧ gdSs ss ∧ sdSs sur ss ∧ oSs ss < d ∧ oSs ss ≤ 18 ∧ nSs ss ≤ 1100 ∧ us.length + 5 * nSs ss ≤ 15500 ∧ a + nSs ss ≤ 100000 ∧
  ∀ H' us1, SM x H H' → MkA C x H' (a + nSs ss) (us ++ us1) → AtL AtRw H' (rwSs sur ss a us.length) us1 → Q .non H'
theorem scAs : FnScope ["self", "nodes", "node", "number"] ["self", "nodes"] (defScope s_RowMaker_all_statement_rows) := ⟨rfl, rfl, rfl, by decide +kernel, rfl, by decide +kernel, by decide +kernel⟩
theorem scSr : FnScope ["self", "number", "node", "sort"] ["self", "number", "node"] (defScope s_RowMaker_statement_rows) := ⟨rfl, rfl, rfl, by decide +kernel, rfl, by decide +kernel, by decide +kernel⟩
theorem scIr : FnScope ["self", "number", "node", "_", "test", "first", "second", "unless", "jump"] ["self", "number", "node"] (defScope s_RowMaker_if_rows) := ⟨rfl, rfl, rfl, by decide +kernel, rfl, by decide +kernel, by decide +kernel⟩
theorem scWr : FnScope ["self", "number", "node", "_", "test", "statements", "beat", "unless"] ["self", "number", "node"] (defScope s_RowMaker_while_rows) := ⟨rfl, rfl, rfl, by decide +kernel, rfl, by decide +kernel, by decide +kernel⟩
theorem scTr : FnScope ["self", "number", "node", "_", "first", "word", "second", "start", "jump"] ["self", "number", "node"] (defScope s_RowMaker_try_rows) := ⟨rfl, rfl, rfl, by decide +kernel, rfl, by decide +kernel, by decide +kernel⟩
theorem m_as0 (k : Nat) (D : Dm K C "all_statement_rows" "RowMaker.all_statement_rows" s_RowMaker_all_statement_rows) : Mo P w K mg base C (k + 1) "all_statement_rows" (spSsr C 0) := by
  obtain ⟨f, fd, F, m⟩ := D.ex
  have no : ∀ vs H Q E, spSsr C 0 vs H Q E → False := fun vs H Q E h => by
    obtain ⟨_, _, _, _, _, _, _, _, _, _, _, _, _, _, h, _⟩ := h
    omega
  exact ⟨f, fd, ["self", "nodes"], F.ok scAs (fun vs H Q E h => (no _ _ _ _ h).elim) (fun cdv A outer s H vs Q E hr h => (no _ _ _ _ h).elim), m, F.binds (ps := ["self", "nodes"]) fun _ _ _ _ _ _ us hl => match us, hl with | [_, _], _ => rfl⟩
def isIf : St_ → Prop
  | .iff _ _ _ => True
  | _ => False
def isWhl : St_ → Prop
  | .whl _ _ => True
  | _ => False
def isTri : St_ → Prop
  | .tri _ _ _ => True
  | _ => False
/-- the two rows lists put together -/
theorem MkA.as {x : Mx} {H : Hp} {n n' : Nat} {us us' : List V} (h : MkA C x H n us) (e : us = us') (e2 : n = n') : MkA C x H n' us' := by subst e; subst e2; exact h
theorem m_ir {d k : Nat} (hk : 108 ≤ k) (T : TxM K C) (D : Dm K C "if_rows" "RowMaker.if_rows" s_RowMaker_if_rows) (LO : Mo P w K mg base C 1 "leave_open" (spLo C)) (FI : Mo P w K mg base C 1 "fill_in" (spFi C)) (ER : Mo P w K mg base C 108 "expression_rows" (spEr C 19)) (AS : Mo P w K mg base C k "all_statement_rows" (spSsr C d)) : Mo P w K mg base C (k + 1) "if_rows" (spSr C isIf (d + 1)) := by
  obtain ⟨f, fd, F, hm⟩ := D.ex
  refine ⟨f, fd, ["self", "number", "node"], F.ok scIr (fun vs H Q E h => ?_) (fun cdv A outer s H vs Q E hr h => ?_), hm, F.binds (ps := ["self", "number", "node"]) fun _ _ _ _ _ _ us hl => match us, hl with | [_, _, _], _ => rfl⟩
  · obtain ⟨x, sur, s, v, a, o, us, rfl, _⟩ := h
    rfl
  obtain ⟨x, sur, s, v, a, o, us, rfl, hok, huo, hmk, hsur, hat, hgd, hsd, ho, ho18, hn, hl, ha, kq⟩ := h
  cases s with
  | iff e sx sy =>
    refine ⟨_, pss_cons (ps_asg (pv 2) (pg_tup (by rfl) (pgs_cons (pg_name (i := 3) scIr.nd rfl (Or.inl rfl)) (pgs_cons (pg_name (i := 4) scIr.nd rfl (Or.inl rfl)) (pgs_cons (pg_name (i := 5) scIr.nd rfl (Or.inl rfl)) (pgs_cons (pg_name (i := 6) scIr.nd rfl (Or.inl rfl)) pgs_nil)))))) <|
      pss_cons (ps_expr (pe_mm T.cl ER hr (by omega) pass0 (pv 0) (pa_cons (pv 4) pa_nil))) <|
      pss_cons (ps_set (i := 7) scIr.nd rfl (Or.inl rfl) (pe_mm0 T.cl LO hr (by omega) pass0 (pv 0))) <|
      pss_cons (ps_expr (pe_mm T.cl AS hr (by omega) pass0 (pv 0) (pa_cons (pv 5) pa_nil))) <|
      pss_cons (ps_set (i := 8) scIr.nd rfl (Or.inl rfl) (pe_mm0 T.cl LO hr (by omega) pass0 (pv 0))) <|
      pss_cons (ps_expr (pe_mm T.cl FI hr (by omega) pass0 (pv 0) (pa_cons (pv 7) (pa_cons (pv 1) (pa_cons pe_str pa_nil))))) <|
      pss_cons (ps_expr (pe_mm T.cl AS hr (by omega) pass0 (pv 0) (pa_cons (pv 6) pa_nil))) <|
      pss_one (ps_expr (pe_mm T.cl FI hr (by omega) pass0 (pv 0) (pa_cons (pv 8) (pa_cons (pv 1) (pa_cons pe_str pa_nil))))), ?_⟩
    obtain ⟨p, ve, q, xs, r, ys, rfl, hp, hq, hr_, he, hx, hy⟩ := hat
    have hne : nS (.iff e sx sy) = 1 + nE e + nSs sx + nSs sy := rfl
    have hoe : oS (.iff e sx sy) = 1 + max (oE e) (max (oSs sx) (oSs sy)) := rfl
    have eR : (rwS sur (.iff e sx sy) a o).tail = rwE sur e (a + 1) ++ [[iV a, S_ "unless", iV (o + 3 + (rwE sur e (a + 1)).length + (rwSs sur sx (a + 1 + nE e) (o + 2 + (rwE sur e (a + 1)).length)).length)]] ++ rwSs sur sx (a + 1 + nE e) (o + 2 + (rwE sur e (a + 1)).length)
      ++ [[iV a, S_ "jump", iV (o + 3 + (rwE sur e (a + 1)).length + (rwSs sur sx (a + 1 + nE e) (o + 2 + (rwE sur e (a + 1)).length)).length + (rwSs sur sy (a + 1 + nE e + nSs sx) (o + 3 + (rwE sur e (a + 1)).length + (rwSs sur sx (a + 1 + nE e) (o + 2 + (rwE sur e (a + 1)).length)).length)).length)]] ++ rwSs sur sy (a + 1 + nE e + nSs sx) (o + 3 + (rwE sur e (a + 1)).length + (rwSs sur sx (a + 1 + nE e) (o + 2 + (rwE sur e (a + 1)).length)).length) := rfl
    rw [eR] at kq
    clear eR
    refine ⟨_, rfl, p, _, rfl, SqT.of hp, rfl, _, _, rfl, _, _, rfl, _, _, rfl, _, _, rfl, rfl, ?_⟩
    obtain ⟨dx, p1, _⟩ := id hmk
    have bE := rwE_le (sur := sur) e (a + 1)
    refine ⟨_, rfl, x.p, dx, _, rfl, p1, rfl, _, rfl, x, sur, e, ve, a + 1, us, rfl, hmk, hsur, he, hgd.1, hsd.1, by omega, by omega, by omega, by omega, by omega, fun H1 u1 s1 m1 at1 => ?_⟩
    have t1 := s1.tups hmk
    have hu1 := at1.len
    generalize rwE sur e (a + 1) = RE at at1 hu1 bE kq
    obtain ⟨dx1, p1', _⟩ := id m1
    refine ⟨_, rfl, x.p, dx1, _, rfl, p1', rfl, x, _, _, rfl, m1, by rw [List.length_append]; omega, fun H2 s2 m2 => ?_⟩
    have t2 := t1.trans (s2.tups m1)
    obtain ⟨dx2, p2', _⟩ := id m2
    have e2 : (us ++ u1 ++ [V.non]).length = o + 2 + RE.length := by rw [List.length_append, List.length_append, hu1, huo]; show o + 1 + _ + 1 = _; omega
    have bX := rwSs_le (sur := sur) sx (a + 1 + nE e) (o + 2 + RE.length)
    refine ⟨_, rfl, x.p, dx2, _, rfl, p2', rfl, _, rfl, x, sur, sx, q, xs, _, _, rfl, t2 _ _ hq, m2, hsur.on t2, hx.on_ t2, hgd.2.1, hsd.2.1, by omega, by omega, by omega, by rw [e2]; omega, by omega, fun H3 u3 s3 m3 at3 => ?_⟩
    rw [e2] at at3
    have t3 := t2.trans (s3.tups m2)
    have hu3 := at3.len
    generalize rwSs sur sx (a + 1 + nE e) (o + 2 + RE.length) = RX at at3 hu3 bX kq
    obtain ⟨dx3, p3', _⟩ := id m3
    refine ⟨_, rfl, x.p, dx3, _, rfl, p3', rfl, x, _, _, rfl, m3, by rw [List.length_append, e2]; omega, fun H4 s4 m4 => ?_⟩
    have t4 := t3.trans (s4.tups m3)
    have m4' : MkA C x H4 (a + 1 + nE e + nSs sx) ((us ++ u1) ++ V.non :: (u3 ++ [V.non])) := m4.as (by simp) rfl
    obtain ⟨dx4, p4', _⟩ := id m4
    have elo : ((us ++ u1).length : Int) = (((us ++ u1).length : Nat) : Int) := rfl
    refine ⟨_, rfl, x.p, dx4, _, rfl, p4', rfl, _, rfl, _, rfl, x, _, a, _, us ++ u1, u3 ++ [V.non], V.non, rfl, m4', by rw [List.length_append, List.length_append]; show _ + (_ + 1) ≤ _; omega, fun H5 q5 s5 m5 h5 => ?_⟩
    have t5 := t4.trans (s5.tups m4')
    obtain ⟨dx5, p5', _⟩ := id m5
    have e5 : (us ++ u1 ++ V.ref q5 :: (u3 ++ [V.non])).length = o + 3 + RE.length + RX.length := by simp only [List.length_append, List.length_cons, List.length_nil]; omega
    have bY := rwSs_le (sur := sur) sy (a + 1 + nE e + nSs sx) (o + 3 + RE.length + RX.length)
    refine ⟨_, rfl, x.p, dx5, _, rfl, p5', rfl, _, rfl, x, sur, sy, r, ys, _, _, rfl, t5 _ _ hr_, m5, hsur.on t5, hy.on_ t5, hgd.2.2, hsd.2.2, by omega, by omega, by omega, by rw [e5]; omega, by omega, fun H6 u6 s6 m6 at6 => ?_⟩
    rw [e5] at at6
    have hu6 := at6.len
    generalize rwSs sur sy (a + 1 + nE e + nSs sx) (o + 3 + RE.length + RX.length) = RY at at6 hu6 bY kq
    have m6' : MkA C x H6 (a + 1 + nE e + nSs sx + nSs sy) ((us ++ u1 ++ V.ref q5 :: u3) ++ V.non :: u6) := m6.as (by simp) rfl
    obtain ⟨dx6, p6', _⟩ := id m6
    have e6 : (us ++ u1 ++ [V.non] ++ u3).length = (us ++ u1 ++ V.ref q5 :: u3).length := by simp
    refine ⟨_, rfl, x.p, dx6, _, rfl, p6', rfl, _, rfl, _, rfl, x, _, a, "jump", us ++ u1 ++ V.ref q5 :: u3, u6, V.non, by rw [e6]; rfl, m6', by simp only [List.length_append, List.length_cons]; omega, fun H7 q7 s7 m7 h7 => ?_⟩
    have z5 : (us ++ u1).length + 1 + (u3 ++ [V.non]).length = o + 3 + RE.length + RX.length := by simp only [List.length_append, List.length_cons, List.length_nil]; omega
    have z7 : (us ++ u1 ++ V.ref q5 :: u3).length + 1 + u6.length = o + 3 + RE.length + RX.length + RY.length := by simp only [List.length_append, List.length_cons]; omega
    rw [z5] at h5
    rw [z7] at h7
    refine kq H7 (u1 ++ [.ref q5] ++ u3 ++ [.ref q7] ++ u6) (s1.trans (s2.trans (s3.trans (s4.trans (s5.trans (s6.trans s7)))))) (m7.as (by simp) (by omega)) ?_
    have tz6 := s7.tups m6'
    have tz5 := (s6.tups m5).trans tz6
    have tz4 := (s5.tups m4').trans tz5
    have tz3 := (s4.tups m3).trans tz4
    have tz2 := (s3.tups m2).trans tz3
    have tz1 := (s2.tups m1).trans tz2
    have c1 := AtL.on tz1 (fun _ _ z => AtRw.on tz1 z) at1
    have c3 := AtL.on tz3 (fun _ _ z => AtRw.on tz3 z) at3
    have c6 := AtL.on tz6 (fun _ _ z => AtRw.on tz6 z) at6
    exact (((c1.appL (rw_one (tz5 _ _ h5))).appL c3).appL (rw_one h7)).appL c6
  | _ => exact hok.elim
theorem m_wr {d k : Nat} (hk : 108 ≤ k) (b_len : mg "len" = none) (T : TxM K C) (D : Dm K C "while_rows" "RowMaker.while_rows" s_RowMaker_while_rows) (PU : MoR P w K mg base C 1 "put" (spMPu C)) (LO : Mo P w K mg base C 1 "leave_open" (spLo C)) (FI : Mo P w K mg base C 1 "fill_in" (spFi C)) (ER : Mo P w K mg base C 108 "expression_rows" (spEr C 19)) (AS : Mo P w K mg base C k "all_statement_rows" (spSsr C d)) : Mo P w K mg base C (k + 1) "while_rows" (spSr C isWhl (d + 1)) := by
  obtain ⟨f, fd, F, hm⟩ := D.ex
  refine ⟨f, fd, ["self", "number", "node"], F.ok scWr (fun vs H Q E h => ?_) (fun cdv A outer s H vs Q E hr h => ?_), hm, F.binds (ps := ["self", "number", "node"]) fun _ _ _ _ _ _ us hl => match us, hl with | [_, _, _], _ => rfl⟩
  · obtain ⟨x, sur, s, v, a, o, us, rfl, _⟩ := h
    rfl
  obtain ⟨x, sur, s, v, a, o, us, rfl, hok, huo, hmk, hsur, hat, hgd, hsd, ho, ho18, hn, hl, ha, kq⟩ := h
  cases s with
  | whl e sx =>
    refine ⟨_, pss_cons (ps_asg (pv 2) (pg_tup (by rfl) (pgs_cons (pg_name (i := 3) scWr.nd rfl (Or.inl rfl)) (pgs_cons (pg_name (i := 4) scWr.nd rfl (Or.inl rfl)) (pgs_cons (pg_name (i := 5) scWr.nd rfl (Or.inl rfl)) pgs_nil))))) <|
      pss_cons (ps_set (i := 6) scWr.nd rfl (Or.inl rfl) (pe_op op_sub (pe_callB call_len_seq (by rfl) b_len PySem.boot_len (pa_cons (pe_fld (pv 0) rfl) pa_nil)) pe_int)) <|
      pss_cons (ps_expr (pe_mm T.cl ER hr (by omega) pass0 (pv 0) (pa_cons (pv 4) pa_nil))) <|
      pss_cons (ps_set (i := 7) scWr.nd rfl (Or.inl rfl) (pe_mm0 T.cl LO hr (by omega) pass0 (pv 0))) <|
      pss_cons (ps_expr (pe_mm T.cl AS hr (by omega) pass0 (pv 0) (pa_cons (pv 5) pa_nil))) <|
      pss_cons (ps_expr (pe_mr T.cl PU hr (by omega) pass0 (pv 0) (pa_cons (pv 1) (pa_cons pe_str (pa_cons (pv 6) pa_nil))))) <|
      pss_one (ps_expr (pe_mm T.cl FI hr (by omega) pass0 (pv 0) (pa_cons (pv 7) (pa_cons (pv 1) (pa_cons pe_str pa_nil))))), ?_⟩
    obtain ⟨p, ve, q, xs, rfl, hp, hq, he, hx⟩ := hat
    have hne : nS (.whl e sx) = 1 + nE e + nSs sx := rfl
    have hoe : oS (.whl e sx) = 1 + max (oE e) (oSs sx) := rfl
    have eR : (rwS sur (.whl e sx) a o).tail = rwE sur e (a + 1) ++ [[iV a, S_ "unless", iV (o + 3 + (rwE sur e (a + 1)).length + (rwSs sur sx (a + 1 + nE e) (o + 2 + (rwE sur e (a + 1)).length)).length)]] ++ rwSs sur sx (a + 1 + nE e) (o + 2 + (rwE sur e (a + 1)).length) ++ [[iV a, S_ "jump", iV o]] := rfl
    rw [eR] at kq
    clear eR
    refine ⟨_, rfl, p, _, rfl, SqT.of hp, rfl, _, _, rfl, _, _, rfl, _, _, rfl, rfl, ?_⟩
    obtain ⟨dx, p1, l1⟩ := id hmk
    refine ⟨_, rfl, x.p, C, dx, _, _, rfl, p1, T.cl, T.fr, mf_rows, x.l, _, rfl, .inl (SqL.of l1), _, _, rfl, rfl, ?_⟩
    have e0 : (((us.length : Nat) : Int) - 1) = ((o : Nat) : Int) := by omega
    show tSeq _ _ _ [some (V.ref x.p), some (V.int ((a : Nat) : Int)), some (V.ref p), some _, some ve, some (V.ref q), some (V.int (((us.length : Nat) : Int) - 1)), none] H
    rw [e0]
    have bE := rwE_le (sur := sur) e (a + 1)
    refine ⟨_, rfl, x.p, dx, _, rfl, p1, rfl, _, rfl, x, sur, e, ve, a + 1, us, rfl, hmk, hsur, he, hgd.1, hsd.1, by omega, by omega, by omega, by omega, by omega, fun H1 u1 s1 m1 at1 => ?_⟩
    have t1 := s1.tups hmk
    have hu1 := at1.len
    generalize rwE sur e (a + 1) = RE at at1 hu1 bE kq
    obtain ⟨dx1, p1', _⟩ := id m1
    refine ⟨_, rfl, x.p, dx1, _, rfl, p1', rfl, x, _, _, rfl, m1, by rw [List.length_append]; omega, fun H2 s2 m2 => ?_⟩
    have t2 := t1.trans (s2.tups m1)
    obtain ⟨dx2, p2', _⟩ := id m2
    have e2 : (us ++ u1 ++ [V.non]).length = o + 2 + RE.length := by rw [List.length_append, List.length_append, hu1, huo]; show o + 1 + _ + 1 = _; omega
    have bX := rwSs_le (sur := sur) sx (a + 1 + nE e) (o + 2 + RE.length)
    refine ⟨_, rfl, x.p, dx2, _, rfl, p2', rfl, _, rfl, x, sur, sx, q, xs, _, _, rfl, t2 _ _ hq, m2, hsur.on t2, hx.on_ t2, hgd.2, hsd.2, by omega, by omega, by omega, by rw [e2]; omega, by omega, fun H3 u3 s3 m3 at3 => ?_⟩
    rw [e2] at at3
    have t3 := t2.trans (s3.tups m2)
    have hu3 := at3.len
    generalize rwSs sur sx (a + 1 + nE e) (o + 2 + RE.length) = RX at at3 hu3 bX kq
    obtain ⟨dx3, p3', _⟩ := id m3
    refine ⟨_, rfl, x.p, dx3, _, rfl, p3', rfl, _, rfl, _, rfl, x, _, _, _, rfl, by show 3 ≤ 10; decide, m3, by rw [List.length_append, e2]; omega, fun H4 q4 s4 m4 h4 => ?_⟩
    have t4 := t3.trans (s4.tups m3)
    have m4' : MkA C x H4 (a + 1 + nE e + nSs sx) ((us ++ u1) ++ V.non :: (u3 ++ [.ref q4])) := m4.as (by simp) rfl
    obtain ⟨dx4, p4', _⟩ := id m4
    refine ⟨_, rfl, x.p, dx4, _, rfl, p4', rfl, _, rfl, _, rfl, x, _, a, _, us ++ u1, u3 ++ [.ref q4], V.non, rfl, m4', by rw [List.length_append, List.length_append]; show _ + (_ + 1) ≤ _; omega, fun H5 q5 s5 m5 h5 => ?_⟩
    have z5 : (us ++ u1).length + 1 + (u3 ++ [V.ref q4]).length = o + 3 + RE.length + RX.length := by simp only [List.length_append, List.length_cons, List.length_nil]; omega
    rw [z5] at h5
    refine kq H5 (u1 ++ [.ref q5] ++ u3 ++ [.ref q4]) (s1.trans (s2.trans (s3.trans (s4.trans s5)))) (m5.as (by simp) (by omega)) ?_
    have tz4 := s5.tups m4'
    have tz3 := (s4.tups m3).trans tz4
    have tz2 := (s3.tups m2).trans tz3
    have tz1 := (s2.tups m1).trans tz2
    have c1 := AtL.on tz1 (fun _ _ z => AtRw.on tz1 z) at1
    have c3 := AtL.on tz3 (fun _ _ z => AtRw.on tz3 z) at3
    exact ((c1.appL (rw_one h5)).appL c3).appL (rw_one (tz4 _ _ h4))
  | _ => exact hok.elim
theorem m_tr {d k : Nat} (hk : 108 ≤ k) (T : TxM K C) (D : Dm K C "try_rows" "RowMaker.try_rows" s_RowMaker_try_rows) (PU : MoR P w K mg base C 1 "put" (spMPu C)) (PN : Mo P w K mg base C 2 "put_of_name" (spPn C)) (LO : Mo P w K mg base C 1 "leave_open" (spLo C)) (FI : Mo P w K mg base C 1 "fill_in" (spFi C)) (AS : Mo P w K mg base C k "all_statement_rows" (spSsr C d)) : Mo P w K mg base C (k + 1) "try_rows" (spSr C isTri (d + 1)) := by
  obtain ⟨f, fd, F, hm⟩ := D.ex
  refine ⟨f, fd, ["self", "number", "node"], F.ok scTr (fun vs H Q E h => ?_) (fun cdv A outer s H vs Q E hr h => ?_), hm, F.binds (ps := ["self", "number", "node"]) fun _ _ _ _ _ _ us hl => match us, hl with | [_, _, _], _ => rfl⟩
  · obtain ⟨x, sur, s, v, a, o, us, rfl, _⟩ := h
    rfl
  obtain ⟨x, sur, s, v, a, o, us, rfl, hok, huo, hmk, hsur, hat, hgd, hsd, ho, ho18, hn, hl, ha, kq⟩ := h
  cases s with
  | tri sx z sy =>
    refine ⟨_, pss_cons (ps_asg (pv 2) (pg_tup (by rfl) (pgs_cons (pg_name (i := 3) scTr.nd rfl (Or.inl rfl)) (pgs_cons (pg_name (i := 4) scTr.nd rfl (Or.inl rfl)) (pgs_cons (pg_name (i := 5) scTr.nd rfl (Or.inl rfl)) (pgs_cons (pg_name (i := 6) scTr.nd rfl (Or.inl rfl)) pgs_nil)))))) <|
      pss_cons (ps_set (i := 7) scTr.nd rfl (Or.inl rfl) (pe_mm0 T.cl LO hr (by omega) pass0 (pv 0))) <|
      pss_cons (ps_expr (pe_mm T.cl AS hr (by omega) pass0 (pv 0) (pa_cons (pv 4) pa_nil))) <|
      pss_cons (ps_expr (pe_mr T.cl PU hr (by omega) pass0 (pv 0) (pa_cons (pv 1) (pa_cons pe_str pa_nil)))) <|
      pss_cons (ps_set (i := 8) scTr.nd rfl (Or.inl rfl) (pe_mm0 T.cl LO hr (by omega) pass0 (pv 0))) <|
      pss_cons (ps_expr (pe_mm T.cl FI hr (by omega) pass0 (pv 0) (pa_cons (pv 7) (pa_cons (pv 1) (pa_cons pe_str pa_nil))))) <|
      pss_cons (ps_expr (pe_mm T.cl PN hr (by omega) pass0 (pv 0) (pa_cons (pv 1) (pa_cons pe_str (pa_cons (pv 5) pa_nil))))) <|
      pss_cons (ps_expr (pe_mm T.cl AS hr (by omega) pass0 (pv 0) (pa_cons (pv 6) pa_nil))) <|
      pss_one (ps_expr (pe_mm T.cl FI hr (by omega) pass0 (pv 0) (pa_cons (pv 8) (pa_cons (pv 1) (pa_cons pe_str pa_nil))))), ?_⟩
    obtain ⟨p, q, xs, r, ys, rfl, hp, hq, hr_, hx, hy⟩ := hat
    have hne : nS (.tri sx z sy) = 1 + nSs sx + nSs sy := rfl
    have hoe : oS (.tri sx z sy) = 1 + max (oSs sx) (oSs sy) := rfl
    have eR : (rwS sur (.tri sx z sy) a o).tail = [[iV a, S_ "try", iV (o + 4 + (rwSs sur sx (a + 1) (o + 2)).length)]] ++ rwSs sur sx (a + 1) (o + 2) ++ [[iV a, S_ "untry"], [iV a, S_ "jump", iV (o + 5 + (rwSs sur sx (a + 1) (o + 2)).length + (rwSs sur sy (a + 1 + nSs sx) (o + 5 + (rwSs sur sx (a + 1) (o + 2)).length)).length)], [iV a, S_ "setname", iV (findN z sur).1, iV (findN z sur).2]] ++ rwSs sur sy (a + 1 + nSs sx) (o + 5 + (rwSs sur sx (a + 1) (o + 2)).length) := rfl
    rw [eR] at kq
    clear eR
    refine ⟨_, rfl, p, _, rfl, SqT.of hp, rfl, _, _, rfl, _, _, rfl, _, _, rfl, _, _, rfl, rfl, ?_⟩
    obtain ⟨dx, p1, l1⟩ := id hmk
    refine ⟨_, rfl, x.p, dx, _, rfl, p1, rfl, x, _, _, rfl, hmk, by omega, fun H2 s2 m2 => ?_⟩
    have t2 := s2.tups hmk
    obtain ⟨dx2, p2', _⟩ := id m2
    have e2 : (us ++ [V.non]).length = o + 2 := by rw [List.length_append, huo]; rfl
    have bX := rwSs_le (sur := sur) sx (a + 1) (o + 2)
    refine ⟨_, rfl, x.p, dx2, _, rfl, p2', rfl, _, rfl, x, sur, sx, q, xs, _, _, rfl, t2 _ _ hq, m2, hsur.on t2, hx.on_ t2, hgd.1, hsd.2.1, by omega, by omega, by omega, by rw [e2]; omega, by omega, fun H3 u3 s3 m3 at3 => ?_⟩
    rw [e2] at at3
    have t3 := t2.trans (s3.tups m2)
    have hu3 := at3.len
    generalize rwSs sur sx (a + 1) (o + 2) = RX at at3 hu3 bX kq
    obtain ⟨dx3, p3', _⟩ := id m3
    refine ⟨_, rfl, x.p, dx3, _, rfl, p3', rfl, _, rfl, x, _, _, _, rfl, by show 2 ≤ 10; decide, m3, by rw [List.length_append, e2]; omega, fun H4 q4 s4 m4 h4 => ?_⟩
    have t4 := t3.trans (s4.tups m3)
    obtain ⟨dx4, p4', _⟩ := id m4
    refine ⟨_, rfl, x.p, dx4, _, rfl, p4', rfl, x, _, _, rfl, m4, by simp only [List.length_append, List.length_cons, List.length_nil]; omega, fun H5 s5 m5 => ?_⟩
    have t5 := t4.trans (s5.tups m4)
    have m5' : MkA C x H5 (a + 1 + nSs sx) (us ++ V.non :: (u3 ++ [.ref q4, V.non])) := m5.as (by simp) rfl
    obtain ⟨dx5, p5', _⟩ := id m5
    refine ⟨_, rfl, x.p, dx5, _, rfl, p5', rfl, _, rfl, _, rfl, x, _, a, _, us, u3 ++ [.ref q4, V.non], V.non, rfl, m5', by simp only [List.length_append, List.length_cons, List.length_nil]; omega, fun H6 q6 s6 m6 h6 => ?_⟩
    have t6 := t5.trans (s6.tups m5')
    obtain ⟨dx6, p6', _⟩ := id m6
    refine ⟨_, rfl, x.p, dx6, _, rfl, p6', rfl, _, rfl, _, rfl, x, sur, _, a, _, z, _, rfl, m6, hsur.on t6, hsd.1, by simp only [List.length_append, List.length_cons, List.length_nil]; omega, fun H7 q7 s7 m7 h7 => ?_⟩
    have t7 := t6.trans (s7.tups m6)
    obtain ⟨dx7, p7', _⟩ := id m7
    have e7 : (us ++ V.ref q6 :: (u3 ++ [V.ref q4, V.non]) ++ [V.ref q7]).length = o + 5 + RX.length := by simp only [List.length_append, List.length_cons, List.length_nil]; omega
    have bY := rwSs_le (sur := sur) sy (a + 1 + nSs sx) (o + 5 + RX.length)
    refine ⟨_, rfl, x.p, dx7, _, rfl, p7', rfl, _, rfl, x, sur, sy, r, ys, _, _, rfl, t7 _ _ hr_, m7, hsur.on t7, hy.on_ t7, hgd.2, hsd.2.2, by omega, by omega, by omega, by rw [e7]; omega, by omega, fun H8 u8 s8 m8 at8 => ?_⟩
    rw [e7] at at8
    have hu8 := at8.len
    generalize rwSs sur sy (a + 1 + nSs sx) (o + 5 + RX.length) = RY at at8 hu8 bY kq
    have m8' : MkA C x H8 (a + 1 + nSs sx + nSs sy) ((us ++ V.ref q6 :: (u3 ++ [.ref q4])) ++ V.non :: (.ref q7 :: u8)) := m8.as (by simp) rfl
    obtain ⟨dx8, p8', _⟩ := id m8
    have e8 : (us ++ [V.non] ++ u3 ++ [V.ref q4]).length = (us ++ V.ref q6 :: (u3 ++ [V.ref q4])).length := by simp
    refine ⟨_, rfl, x.p, dx8, _, rfl, p8', rfl, _, rfl, _, rfl, x, _, a, "jump", us ++ V.ref q6 :: (u3 ++ [.ref q4]), .ref q7 :: u8, V.non, by rw [e8]; rfl, m8', by simp only [List.length_append, List.length_cons, List.length_nil]; omega, fun H9 q9 s9 m9 h9 => ?_⟩
    have z6 : us.length + 1 + (u3 ++ [V.ref q4, V.non]).length = o + 4 + RX.length := by simp only [List.length_append, List.length_cons, List.length_nil]; omega
    have z9 : (us ++ V.ref q6 :: (u3 ++ [V.ref q4])).length + 1 + (V.ref q7 :: u8).length = o + 5 + RX.length + RY.length := by simp only [List.length_append, List.length_cons, List.length_nil]; omega
    rw [z6] at h6
    rw [z9] at h9
    refine kq H9 ([.ref q6] ++ u3 ++ [.ref q4, .ref q9, .ref q7] ++ u8) (s2.trans (s3.trans (s4.trans (s5.trans (s6.trans (s7.trans (s8.trans s9))))))) (m9.as (by simp) (by omega)) ?_
    have tz8 := s9.tups m8'
    have tz7 := (s8.tups m7).trans tz8
    have tz6 := (s7.tups m6).trans tz7
    have tz5 := (s6.tups m5').trans tz6
    have tz4 := (s5.tups m4).trans tz5
    have tz3 := (s4.tups m3).trans tz4
    have c3 := AtL.on tz3 (fun _ _ z => AtRw.on tz3 z) at3
    have c8 := AtL.on tz8 (fun _ _ z => AtRw.on tz8 z) at8
    have c4 : AtL AtRw H9 [[iV a, S_ "untry"], [iV a, S_ "jump", iV (o + 5 + RX.length + RY.length)], [iV a, S_ "setname", iV (findN z sur).1, iV (findN z sur).2]] [.ref q4, .ref q9, .ref q7] := ⟨_, _, rfl, ⟨q4, rfl, tz4 _ _ h4⟩, _, _, rfl, ⟨q9, rfl, h9⟩, _, _, rfl, ⟨q7, rfl, tz7 _ _ h7⟩, rfl⟩
    exact (((rw_one (tz6 _ _ h6)).appL c3).appL c4).appL c8
  | _ => exact hok.elim
end
end My
set_option Elab.async false
set_option linter.all false
set_option maxRecDepth 100000
set_option maxHeartbeats 8000000
namespace My
open PySem L2 SS
section
variable {P : Program} {w : World} {K : PySem.W.Frag} {mg : Str → Option Value} {base : Heap} {C : Addr}
theorem rwS_cons {sur : List (List T)} (s : St_) (a o : Nat) : rwS sur s a o = [iV a, S_ "beat"] :: (rwS sur s a o).tail := by cases s <;> rfl
theorem mk_ofS (s : String) : V.str (mk (tk s)) = S_ s := by rw [mk_tl]
theorem m_sr {d k : Nat} (hk : 108 ≤ k) (T : TxM K C) (D : Dm K C "statement_rows" "RowMaker.statement_rows" s_RowMaker_statement_rows) (PU : MoR P w K mg base C 1 "put" (spMPu C)) (PN : Mo P w K mg base C 2 "put_of_name" (spPn C)) (ER : Mo P w K mg base C 108 "expression_rows" (spEr C 19))
    (IR : Mo P w K mg base C (k + 1) "if_rows" (spSr C isIf (d + 1))) (WR : Mo P w K mg base C (k + 1) "while_rows" (spSr C isWhl (d + 1))) (TR : Mo P w K mg base C (k + 1) "try_rows" (spSr C isTri (d + 1))) : Mo P w K mg base C (k + 2) "statement_rows" (spSr C (fun _ => True) (d + 1)) := by
  obtain ⟨f, fd, F, hm⟩ := D.ex
  refine ⟨f, fd, ["self", "number", "node"], F.ok scSr (fun vs H Q E h => ?_) (fun cdv A outer s H vs Q E hr h => ?_), hm, F.binds (ps := ["self", "number", "node"]) fun _ _ _ _ _ _ us hl => match us, hl with | [_, _, _], _ => rfl⟩
  · obtain ⟨x, sur, s, v, a, o, us, rfl, _⟩ := h
    rfl
  obtain ⟨x, sur, s, v, a, o, us, rfl, _, huo, hmk, hsur, hat, hgd, hsd, ho, ho18, hn, hl, ha, kq⟩ := h
  refine ⟨_, pss_cons (ps_set (i := 3) scSr.nd rfl (Or.inl rfl) (pe_ix (r := rIxT K) ix_tup (pv 2) pe_int (fun _ _ => rfl))) <|
    pss_one (ps_if (pt_cmpR op_eq (pv 3) pe_str (nomark _))
      (pss_one (ps_expr (pe_mm T.cl IR hr (by omega) pass0 (pv 0) (pa_cons (pv 1) (pa_cons (pv 2) pa_nil)))))
      (pss_one (ps_if (pt_cmpR op_eq (pv 3) pe_str (nomark _))
        (pss_one (ps_expr (pe_mm T.cl WR hr (by omega) pass0 (pv 0) (pa_cons (pv 1) (pa_cons (pv 2) pa_nil)))))
        (pss_one (ps_if (pt_cmpR op_eq (pv 3) pe_str (nomark _))
          (pss_one (ps_expr (pe_mm T.cl TR hr (by omega) pass0 (pv 0) (pa_cons (pv 1) (pa_cons (pv 2) pa_nil)))))
          (pss_cons (ps_expr (pe_mm T.cl ER hr (by omega) pass0 (pv 0) (pa_cons (pe_ix (r := rIxT K) ix_tup (pv 2) (pe_un un_neg pe_int) (fun _ _ => rfl)) pa_nil))) <|
          pss_one (ps_if (pt_cmpR op_eq (pv 3) pe_str (nomark _))
            (pss_one (ps_expr (pe_mm T.cl PN hr (by omega) pass0 (pv 0) (pa_cons (pv 1) (pa_cons pe_str (pa_cons (pe_ix (r := rIxT K) ix_tup (pv 2) pe_int (fun _ _ => rfl)) pa_nil))))))
            (pss_one (ps_if (pt_cmpR op_eq (pv 3) pe_str (nomark _))
              (pss_one (ps_expr (pe_mr T.cl PU hr (by omega) pass0 (pv 0) (pa_cons (pv 1) (pa_cons pe_str (pa_cons (pe_ix (r := rIxT K) ix_tup (pv 2) pe_int (fun _ _ => rfl)) pa_nil))))))
              (pss_one (ps_expr (pe_mr T.cl PU hr (by omega) pass0 (pv 0) (pa_cons (pv 1) (pa_cons (pe_ifExp (pt_cmpR op_eq (pv 3) pe_str (nomark _)) pe_str (pv 3)) pa_nil)))))))))))))), ?_⟩
  obtain ⟨dx, p1, _⟩ := id hmk
  have kfin : ∀ (e : Ex) (R : Rw), (rwS sur s a o).tail = rwE sur e (a + 1) ++ [R] → nS s = 1 + nE e → ∀ H1 u1, SM x H H1 → MkA C x H1 (a + 1 + nE e) (us ++ u1) → AtL AtRw H1 (rwE sur e (a + 1)) u1 →
      u1.length ≤ nE e ∧ ∀ H' q, SM x H1 H' → MkA C x H' (a + 1 + nE e) (us ++ u1 ++ [.ref q]) → H' q = some (.tup R) → Q .non H' := fun e R er en H1 u1 s1 m1 at1 => by
    have hu1 := at1.len
    have bE := rwE_le (sur := sur) e (a + 1)
    refine ⟨by omega, fun H' q s' m' h' => ?_⟩
    refine kq H' (u1 ++ [.ref q]) (s1.trans s') (m'.as (by simp) (by omega)) ?_
    rw [er]
    exact (s'.rw m1 at1).appL (rw_one h')
  have low : ∀ us1 : List V, us1.length ≤ 1100 → (us ++ us1).length ≤ 20000 := fun us1 h => by rw [List.length_append]; omega
  cases s with
  | iff e sx sy =>
    have hat2 := hat
    obtain ⟨p, ve, q, xs, r, ys, rfl, hp, hq, hr_, he, hx, hy⟩ := hat2
    refine ⟨_, rfl, p, _, _, _, rfl, rfl, SqT.of hp, atI_0, ?_⟩
    refine ⟨_, rfl, rfl, _, rfl, ?_⟩
    refine ite2 (fun _ => ?_) (fun c => absurd (by decide +kernel) c)
    exact ⟨_, rfl, x.p, dx, _, rfl, p1, rfl, _, rfl, _, rfl, x, sur, .iff e sx sy, _, a, o, us, rfl, trivial, huo, hmk, hsur, hat, hgd, hsd, ho, ho18, hn, hl, ha, kq⟩
  | whl e sx =>
    have hat2 := hat
    obtain ⟨p, ve, q, xs, rfl, hp, hq, he, hx⟩ := hat2
    refine ⟨_, rfl, p, _, _, _, rfl, rfl, SqT.of hp, atI_0, ?_⟩
    refine ⟨_, rfl, rfl, _, rfl, ?_⟩
    refine ite2 (fun c => absurd c (by decide +kernel)) (fun _ => ?_)
    refine ⟨_, rfl, rfl, _, rfl, ?_⟩
    refine ite2 (fun _ => ?_) (fun c => absurd (by decide +kernel) c)
    exact ⟨_, rfl, x.p, dx, _, rfl, p1, rfl, _, rfl, _, rfl, x, sur, .whl e sx, _, a, o, us, rfl, trivial, huo, hmk, hsur, hat, hgd, hsd, ho, ho18, hn, hl, ha, kq⟩
  | tri sx z sy =>
    have hat2 := hat
    obtain ⟨p, q, xs, r, ys, rfl, hp, hq, hr_, hx, hy⟩ := hat2
    refine ⟨_, rfl, p, _, _, _, rfl, rfl, SqT.of hp, atI_0, ?_⟩
    refine ⟨_, rfl, rfl, _, rfl, ?_⟩
    refine ite2 (fun c => absurd c (by decide +kernel)) (fun _ => ?_)
    refine ⟨_, rfl, rfl, _, rfl, ?_⟩
    refine ite2 (fun c => absurd c (by decide +kernel)) (fun _ => ?_)
    refine ⟨_, rfl, rfl, _, rfl, ?_⟩
    refine ite2 (fun _ => ?_) (fun c => absurd (by decide +kernel) c)
    exact ⟨_, rfl, x.p, dx, _, rfl, p1, rfl, _, rfl, _, rfl, x, sur, .tri sx z sy, _, a, o, us, rfl, trivial, huo, hmk, hsur, hat, hgd, hsd, ho, ho18, hn, hl, ha, kq⟩
  | set z e =>
    obtain ⟨p, ve, rfl, hp, he⟩ := hat
    refine ⟨_, rfl, p, _, _, _, rfl, rfl, SqT.of hp, atI_0, ?_⟩
    refine ⟨_, rfl, rfl, _, rfl, ?_⟩
    refine ite2 (fun c => absurd c (by decide +kernel)) (fun _ => ?_)
    refine ⟨_, rfl, rfl, _, rfl, ?_⟩
    refine ite2 (fun c => absurd c (by decide +kernel)) (fun _ => ?_)
    refine ⟨_, rfl, rfl, _, rfl, ?_⟩
    refine ite2 (fun c => absurd c (by decide +kernel)) (fun _ => ?_)
    refine ⟨_, rfl, x.p, dx, _, rfl, p1, rfl, _, rfl, 1, rfl, p, _, _, _, rfl, rfl, SqT.of hp, atI_m1 [S_ "set"] (.str (mk z)) ve, ?_⟩
    have hn0 : 1 + nE e ≤ 1100 := hn
    have ho0 : oE e ≤ 18 := ho18
    have hl0 : us.length + 5 * (1 + nE e) ≤ 15501 := hl
    have ha0 : a + (1 + nE e) ≤ 100000 := ha
    refine ⟨x, sur, e, ve, a + 1, us, rfl, hmk, hsur, he, hgd, hsd.2, by omega, by omega, by omega, by omega, by omega, fun H1 u1 s1 m1 at1 => ?_⟩
    obtain ⟨b1, kk⟩ := kfin e _ rfl rfl H1 u1 s1 m1 at1
    have t1 := s1.tups hmk
    obtain ⟨dx1, p1', _⟩ := id m1
    have hn1 : nE e ≤ 1100 := by have : 1 + nE e ≤ 1100 := hn; omega
    refine ⟨_, rfl, rfl, _, rfl, ?_⟩
    refine ite2 (fun _ => ?_) (fun c => absurd (by decide +kernel) c)
    exact ⟨_, rfl, x.p, dx1, _, rfl, p1', rfl, _, rfl, _, rfl, p, _, _, _, rfl, rfl, SqT.of (t1 _ _ hp), atI_nat (j := 1) rfl, x, sur, _, a, _, z, _, rfl, m1, hsur.on t1, hsd.1, low u1 (by omega), fun H2 q2 s2 m2 h2 => kk H2 q2 s2 m2 h2⟩
  | sfl z e =>
    obtain ⟨p, ve, rfl, hp, he⟩ := hat
    refine ⟨_, rfl, p, _, _, _, rfl, rfl, SqT.of hp, atI_0, ?_⟩
    refine ⟨_, rfl, rfl, _, rfl, ?_⟩
    refine ite2 (fun c => absurd c (by decide +kernel)) (fun _ => ?_)
    refine ⟨_, rfl, rfl, _, rfl, ?_⟩
    refine ite2 (fun c => absurd c (by decide +kernel)) (fun _ => ?_)
    refine ⟨_, rfl, rfl, _, rfl, ?_⟩
    refine ite2 (fun c => absurd c (by decide +kernel)) (fun _ => ?_)
    refine ⟨_, rfl, x.p, dx, _, rfl, p1, rfl, _, rfl, 1, rfl, p, _, _, _, rfl, rfl, SqT.of hp, atI_m1 [S_ "setfield"] (.str (mk z)) ve, ?_⟩
    have hn0 : 1 + nE e ≤ 1100 := hn
    have ho0 : oE e ≤ 18 := ho18
    have hl0 : us.length + 5 * (1 + nE e) ≤ 15501 := hl
    have ha0 : a + (1 + nE e) ≤ 100000 := ha
    refine ⟨x, sur, e, ve, a + 1, us, rfl, hmk, hsur, he, hgd, hsd, by omega, by omega, by omega, by omega, by omega, fun H1 u1 s1 m1 at1 => ?_⟩
    obtain ⟨b1, kk⟩ := kfin e _ rfl rfl H1 u1 s1 m1 at1
    have t1 := s1.tups hmk
    obtain ⟨dx1, p1', _⟩ := id m1
    have hn1 : nE e ≤ 1100 := by have : 1 + nE e ≤ 1100 := hn; omega
    refine ⟨_, rfl, rfl, _, rfl, ?_⟩
    refine ite2 (fun c => absurd c (by decide +kernel)) (fun _ => ?_)
    refine ⟨_, rfl, rfl, _, rfl, ?_⟩
    refine ite2 (fun _ => ?_) (fun c => absurd (by decide +kernel) c)
    exact ⟨_, rfl, x.p, dx1, _, rfl, p1', rfl, _, rfl, _, rfl, p, _, _, _, rfl, rfl, SqT.of (t1 _ _ hp), atI_nat (j := 1) rfl, x, _, _, _, rfl, by show 3 ≤ 10; decide, m1, low u1 (by omega), fun H2 q2 s2 m2 h2 => kk H2 q2 s2 m2 h2⟩
  | pl z e =>
    obtain ⟨p, ve, rfl, hp, he⟩ := hat
    have hz : isPl z = true := hgd.1
    have hn1 : nE e ≤ 1100 := by have : 1 + nE e ≤ 1100 := hn; omega
    have hne : ∀ w ∈ (["if", "while", "try", "set", "setfield"] : List String), decide (V.str (mk z) = S_ w) = false := fun w hw => by
      simp only [List.mem_cons, List.not_mem_nil, or_false] at hw
      rcases pl_cases hz with h | h | h | h <;> subst h <;> rw [mk_tl] <;> rcases hw with h | h | h | h | h <;> subst h <;> decide +kernel
    refine ⟨_, rfl, p, _, _, _, rfl, rfl, SqT.of hp, atI_0, ?_⟩
    refine ⟨_, rfl, rfl, _, rfl, ?_⟩
    rw [hne "if" (by decide)]
    refine iteF ?_
    refine ⟨_, rfl, rfl, _, rfl, ?_⟩
    rw [hne "while" (by decide)]
    refine iteF ?_
    refine ⟨_, rfl, rfl, _, rfl, ?_⟩
    rw [hne "try" (by decide)]
    refine iteF ?_
    refine ⟨_, rfl, x.p, dx, _, rfl, p1, rfl, _, rfl, 1, rfl, p, _, _, _, rfl, rfl, SqT.of hp, atI_m1 [] (.str (mk z)) ve, ?_⟩
    have hn0 : 1 + nE e ≤ 1100 := hn
    have ho0 : oE e ≤ 18 := ho18
    have hl0 : us.length + 5 * (1 + nE e) ≤ 15501 := hl
    have ha0 : a + (1 + nE e) ≤ 100000 := ha
    refine ⟨x, sur, e, ve, a + 1, us, rfl, hmk, hsur, he, hgd.2, hsd.2, by omega, by omega, by omega, by omega, by omega, fun H1 u1 s1 m1 at1 => ?_⟩
    obtain ⟨b1, kk⟩ := kfin e _ rfl rfl H1 u1 s1 m1 at1
    have t1 := s1.tups hmk
    obtain ⟨dx1, p1', _⟩ := id m1
    refine ⟨_, rfl, rfl, _, rfl, ?_⟩
    rw [hne "set" (by decide)]
    refine iteF ?_
    refine ⟨_, rfl, rfl, _, rfl, ?_⟩
    rw [hne "setfield" (by decide)]
    refine iteF ?_
    have ed : decide (V.str (mk z) = S_ "do") = decide (z = tk "do") := by
      rcases pl_cases hz with h | h | h | h <;> subst h <;> rw [mk_tl] <;> decide +kernel
    refine ⟨_, rfl, x.p, dx1, _, rfl, p1', rfl, _, rfl, ?_⟩
    refine tif_val (x := .str (mk (plW z))) (decide (z = tk "do")) (fun Q' q' => ⟨_, rfl, rfl, _, rfl, by rw [ed]; exact q'⟩) (fun hb Q' q' => by
        have e1 : plW z = tk "drop" := if_pos (of_decide_eq_true hb)
        rw [e1, mk_ofS] at q'
        exact q') (fun hb Q' q' => ⟨_, rfl, by
        have e1 : plW z = z := if_neg (of_decide_eq_false hb)
        rw [e1] at q'
        exact q'⟩) ?_
    exact ⟨x, _, _, _, rfl, by show 2 ≤ 10; decide, m1, low u1 (by omega), fun H2 q2 s2 m2 h2 => kk H2 q2 s2 m2 h2⟩
/-- statements taken one by one -/
def Sts.tk_ : Nat → Sts → Sts
  | 0, _ => .nil
  | _ + 1, .nil => .nil
  | n + 1, .cons e r => .cons e (r.tk_ n)
theorem Sts.split_at : ∀ (es : Sts) {H : Hp} {vs : List V} {i : Nat} {v : V}, AtSs H es vs → vs[i]? = some v → ∃ e, AtS H e v ∧ es.tk_ (i + 1) = (es.tk_ i).snoc e ∧ nSs (es.tk_ i) + nS e ≤ nSs es ∧ oS e ≤ oSs es ∧ (gdSs es → gdS e) ∧ ∀ sur, sdSs sur es → sdS sur e
  | .nil, H, vs, i, v, h, hv => by
    have h' : vs = [] := h
    subst h'
    cases i <;> cases hv
  | .cons e r, H, vs, 0, v, ⟨u, us, e1, h1, h2⟩, hv => by
    subst e1
    cases hv
    exact ⟨e, h1, by cases r <;> rfl, by show 0 + nS e ≤ nS e + nSs r; omega, by show oS e ≤ max (oS e) (oSs r); omega, fun g => g.1, fun sur g => g.1⟩
  | .cons e r, H, vs, i + 1, v, ⟨u, us, e1, h1, h2⟩, hv => by
    subst e1
    obtain ⟨x, g1, g2, g3, g4, g5, g6⟩ := Sts.split_at r (i := i) h2 hv
    exact ⟨x, g1, by show Sts.cons e (r.tk_ (i + 1)) = Sts.cons e ((r.tk_ i).snoc x); rw [g2], by show nS e + nSs (r.tk_ i) + nS x ≤ nS e + nSs r; omega, by show oS x ≤ max (oS e) (oSs r); omega, fun g => g5 g.2, fun sur g => g6 sur g.2⟩
theorem Sts.tk_all : ∀ (es : Sts) {vs : List V} {H : Hp}, AtSs H es vs → es.tk_ vs.length = es
  | .nil, vs, H, h => by
    have h' : vs = [] := h
    subst h'
    rfl
  | .cons e r, vs, H, ⟨u, us, e1, h1, h2⟩ => by
    subst e1
    show Sts.cons e (r.tk_ us.length) = _
    rw [Sts.tk_all r h2]
theorem nSs_snoc (es : Sts) (e : St_) : nSs (es.snoc e) = nSs es + nS e := (Sts.snoc_n es e).1
theorem rwSs_snocX {sur : List (List T)} : ∀ (ss : Sts) (s : St_) (a o : Nat), rwSs sur (ss.snoc s) a o = rwSs sur ss a o ++ rwS sur s (a + nSs ss) (o + (rwSs sur ss a o).length)
  | .nil, s, a, o => by
    show rwS sur s a o ++ [] = [] ++ rwS sur s (a + 0) (o + 0)
    rw [List.append_nil, List.nil_append, Nat.add_zero, Nat.add_zero]
  | .cons x r, s, a, o => by
    show rwS sur x a o ++ rwSs sur (r.snoc s) (a + nS x) (o + (rwS sur x a o).length) = (rwS sur x a o ++ rwSs sur r (a + nS x) (o + (rwS sur x a o).length)) ++ rwS sur s (a + (nS x + nSs r)) (o + (rwS sur x a o ++ rwSs sur r (a + nS x) (o + (rwS sur x a o).length)).length)
    rw [rwSs_snocX r s, List.append_assoc, List.length_append, Nat.add_assoc, Nat.add_assoc]
theorem m_as {d k : Nat} (hk : 1 ≤ k) (T : TxM K C) (D : Dm K C "all_statement_rows" "RowMaker.all_statement_rows" s_RowMaker_all_statement_rows) (NN : Mo P w K mg base C 1 "next_number" (spNn C)) (PU : MoR P w K mg base C 1 "put" (spMPu C)) (SR : Mo P w K mg base C k "statement_rows" (spSr C (fun _ => True) d)) : Mo P w K mg base C (k + 1) "all_statement_rows" (spSsr C d) := by
  obtain ⟨f, fd, F, hm⟩ := D.ex
  refine ⟨f, fd, ["self", "nodes"], F.ok scAs (fun vs H Q E h => ?_) (fun cdv A outer s H vs Q E hr h => ?_), hm, F.binds (ps := ["self", "nodes"]) fun _ _ _ _ _ _ us hl => match us, hl with | [_, _], _ => rfl⟩
  · obtain ⟨x, sur, ss, q, xs, a, us, rfl, _⟩ := h
    rfl
  obtain ⟨x, sur, ss, q, xs, a, us, rfl, hq, hmk, hsur, hat, hgd, hsd, ho, ho18, hn, hl, hnn, kq⟩ := h
  refine ⟨_, pss_one (ps_for PassesOwn.never rfl (pi_tup (pv 1)) (pg_name (i := 2) scAs.nd rfl (Or.inl rfl))
      (pss_cons (ps_set (i := 3) scAs.nd rfl (Or.inl rfl) (pe_mm0 T.cl NN hr (by omega) pass0 (pv 0))) <|
      pss_cons (ps_expr (pe_mr T.cl PU hr (by omega) pass0 (pv 0) (pa_cons (pv 3) (pa_cons pe_str pa_nil)))) <|
      pss_one (ps_expr (pe_mm T.cl SR hr (by omega) pass0 (pv 0) (pa_cons (pv 3) (pa_cons (pv 2) pa_nil)))))), ?_⟩
  refine ⟨_, rfl, q, rfl, ⟨xs, SqT.of hq⟩, ?_⟩
  have hxl := hat.len
  refine for_tup (xs := xs) (fun i σ H1 => ∃ (v2 v3 : Option V) (us1 : List V), σ = [some (.ref x.p), some (.ref q), v2, v3] ∧ SM x H H1 ∧ MkA C x H1 (a + nSs (ss.tk_ i)) (us ++ us1) ∧ AtL AtRw H1 (rwSs sur (ss.tk_ i) a us.length) us1)
    ⟨none, none, [], rfl, SM.refl, by have e : ss.tk_ 0 = .nil := by cases ss <;> rfl
                                      rw [e, List.append_nil]; exact hmk, by have e : ss.tk_ 0 = .nil := by cases ss <;> rfl
                                                                             rw [e]; rfl⟩ (fun i σ H1 _ ⟨_, _, _, _, s1, _⟩ => SqT.of (s1.tups hmk _ _ hq)) ?_ ?_
  · rintro i u σ H1 hu ⟨v2, v3, us1, rfl, s1, m1, at1⟩
    have t1 := s1.tups hmk
    obtain ⟨s, g1, g2, g3, g4, g5, g6⟩ := Sts.split_at ss (hat.on_ t1) hu
    have hul := at1.len
    have hle := rwSs_le (sur := sur) (ss.tk_ i) a us.length
    have hpos : 1 ≤ nS s := by cases s <;> simp only [nS] <;> omega
    obtain ⟨dx, p1, p2⟩ := id m1
    refine ⟨_, rfl, x.p, dx, _, rfl, p1, rfl, x, _, _, rfl, m1, fun H2 s2 m2 => ?_⟩
    have t2 := t1.trans (s2.tups m1)
    obtain ⟨dx2, p3, p4⟩ := id m2
    refine ⟨_, rfl, x.p, dx2, _, rfl, p3, rfl, _, rfl, x, _, _, _, rfl, by show 2 ≤ 10; decide, m2, by rw [List.length_append]; omega, fun H3 q3 s3 m3 h3 => ?_⟩
    have t3 := t2.trans (s3.tups m2)
    obtain ⟨dx3, p5, p6⟩ := id m3
    have eo : (us ++ us1 ++ [V.ref q3]).length = us.length + (rwSs sur (ss.tk_ i) a us.length).length + 1 := by rw [List.length_append, List.length_append, hul]; rfl
    refine ⟨_, rfl, x.p, dx3, _, rfl, p5, rfl, _, rfl, _, rfl, x, sur, s, u, a + nSs (ss.tk_ i), us.length + (rwSs sur (ss.tk_ i) a us.length).length, us ++ us1 ++ [.ref q3], rfl, trivial, eo, m3, hsur.on t3, ((g1.on_ (s2.tups m1)).on_ (s3.tups m2)), g5 hgd, g6 sur hsd, by omega, by omega, by omega, by rw [eo]; omega, by omega, fun H4 us4 s4 m4 at4 => ?_⟩
    refine ⟨_, _, us1 ++ ([.ref q3] ++ us4), rfl, s1.trans (s2.trans (s3.trans s4)), m4.as (by simp) (by rw [g2, nSs_snoc]; omega), ?_⟩
    rw [g2, rwSs_snocX, rwS_cons]
    have tz := (s2.tups m1).trans ((s3.tups m2).trans (s4.tups m3))
    exact (AtL.on tz (fun _ _ z => AtRw.on tz z) at1).appL ((rw_one (s4.tups m3 _ _ h3)).appL at4)
  · rintro σ H1 ⟨v2, v3, us1, rfl, s1, m1, at1⟩
    have e : ss.tk_ xs.length = ss := ss.tk_all hat
    rw [e] at m1 at1
    exact kq H1 us1 s1 m1 at1
structure RowMs (K : PySem.W.Frag) (C : Addr) : Prop where
  pu : Dm K C "put" "RowMaker.put" s_RowMaker_put
  pn : Dm K C "put_of_name" "RowMaker.put_of_name" s_RowMaker_put_of_name
  lo : Dm K C "leave_open" "RowMaker.leave_open" s_RowMaker_leave_open
  fi : Dm K C "fill_in" "RowMaker.fill_in" s_RowMaker_fill_in
  nn : Dm K C "next_number" "RowMaker.next_number" s_RowMaker_next_number
  as_ : Dm K C "all_statement_rows" "RowMaker.all_statement_rows" s_RowMaker_all_statement_rows
  sr : Dm K C "statement_rows" "RowMaker.statement_rows" s_RowMaker_statement_rows
  ir : Dm K C "if_rows" "RowMaker.if_rows" s_RowMaker_if_rows
  wr : Dm K C "while_rows" "RowMaker.while_rows" s_RowMaker_while_rows
  tr : Dm K C "try_rows" "RowMaker.try_rows" s_RowMaker_try_rows
  ae : Dm K C "all_expression_rows" "RowMaker.all_expression_rows" s_RowMaker_all_expression_rows
  er : Dm K C "expression_rows" "RowMaker.expression_rows" s_RowMaker_expression_rows
  se : Dm K C "send_rows" "RowMaker.send_rows" s_RowMaker_send_rows
theorem knotS (T : TxM K C) (b_len : mg "len" = none) (M : RowMs K C) (NN : Mo P w K mg base C 1 "next_number" (spNn C)) (PU : MoR P w K mg base C 1 "put" (spMPu C)) (PN : Mo P w K mg base C 2 "put_of_name" (spPn C)) (LO : Mo P w K mg base C 1 "leave_open" (spLo C)) (FI : Mo P w K mg base C 1 "fill_in" (spFi C)) (ER : Mo P w K mg base C 108 "expression_rows" (spEr C 19)) : ∀ d : Nat, Mo P w K mg base C (109 + 3 * d) "all_statement_rows" (spSsr C d)
  | 0 => m_as0 108 M.as_
  | d + 1 => by
    have ih := knotS T b_len M NN PU PN LO FI ER d
    have IR := m_ir (by omega) T M.ir LO FI ER ih
    have WR := m_wr (by omega) b_len T M.wr PU LO FI ER ih
    have TR := m_tr (by omega) T M.tr PU PN LO FI ih
    have SR := m_sr (by omega) T M.sr PU PN ER IR WR TR
    have := m_as (by omega) T M.as_ NN PU SR
    have e : 109 + 3 * (d + 1) = 109 + 3 * d + 2 + 1 := by omega
    rw [e]
    exact this
end
end My
set_option Elab.async false
set_option linter.all false
set_option maxRecDepth 100000
set_option maxHeartbeats 8000000
namespace My
open PySem L2 SS
/-- the scopes of a code: its parameters, those of the blocks around, the method's names -/
inductive SurOf (g : List (Nd × Int)) (ns : List T) : Int → List (List T) → Prop
  | top : SurOf g ns (-1) [ns]
  | blk {i : Nat} {ps : List T} {ss : Sts} {c : Int} {sur : List (List T)} : g[i]? = some (.e (.blk ps ss), c) → c < ((i : Nat) : Int) → SurOf g ns c sur → SurOf g ns ((i : Nat) : Int) (ps :: sur)
theorem SurOf.ge {g : List (Nd × Int)} {ns : List T} {c : Int} {sur : List (List T)} (h : SurOf g ns c sur) : -1 ≤ c := by cases h <;> omega
theorem SurOf.len {g : List (Nd × Int)} {ns : List T} {c : Int} {sur : List (List T)} (h : SurOf g ns c sur) : sur.length ≤ (c + 2).toNat := by
  induction h with
  | top => exact Nat.le_refl 1
  | @blk i ps ss c sur _ hc hs ih =>
    have := hs.ge
    rw [List.length_cons]
    omega
section
variable {P : Program} {w : World} {K : PySem.W.Frag} {mg : Str → Option Value} {base : Heap} {C : Addr}
def spSc : Sp := fun vs H Q _ => ∃ (m : Me) (v : V) (c : Int) (sur : List (List T)), vs = [v, .int c] ∧ AtM H m v ∧ gdM m ∧ nSs m.ss ≤ 1100 ∧ SurOf (gM m) (namesM m) c sur ∧ c ≤ 1100 ∧ ∀ H' u, Same H H' → AtSur H' sur u → Q u H'
theorem scSc : FnScope ["method", "code", "nodes", "scopes", "_", "parameters", "around"] ["method", "code"] (defScope s_scopes_of) := ⟨rfl, rfl, rfl, by decide +kernel, rfl, by decide +kernel, by decide +kernel⟩
theorem c_sc (gMC : GI mg "METHOD_CODE" (-1)) (D : Dn K mg "scopes_of" s_scopes_of) (NC : C0 P w K mg base 2 "nodes_with_codes" spNc) (NM : C0 P w K mg base 3 "names_of" spNm) : C0 P w K mg base 4 "scopes_of" spSc := by
  obtain ⟨f, fd, F, hmm⟩ := D.ex
  refine ⟨f, fd, ["method", "code"], F.ok scSc (fun vs H Q E h => ?_) (fun cdv A outer s H vs Q E hr h => ?_), hmm, F.kp, F.binds (ps := ["method", "code"]) fun _ _ _ _ _ _ us hl => match us, hl with | [_, _], _ => rfl⟩
  · obtain ⟨m, v, c, sur, rfl, _⟩ := h
    rfl
  obtain ⟨m, v, c, sur, rfl, hat, hok, hns, hsur, hc1, kq⟩ := h
  refine ⟨_, pss_cons (ps_set (i := 2) scSc.nd rfl (Or.inl rfl) (pe_cc NC hr (by omega) pass0 (pa_cons (pv 0) pa_nil))) <|
    pss_cons (ps_set (i := 3) scSc.nd rfl (Or.inl rfl) (pe_lst pa_nil)) <|
    pss_cons (ps_while PassesOwn.never (pt_cmpR op_ne (pv 1) (pe_gi gMC) (nomark _))
      (pss_cons (ps_asg (pe_ix (r := rIxL K) ix_list (pv 2) (pv 1) (fun _ _ => rfl)) (pg_tup (by rfl) (pgs_cons (pg_tup (by rfl) (pgs_cons (pg_name (i := 4) scSc.nd rfl (Or.inl rfl)) (pgs_cons (pg_name (i := 5) scSc.nd rfl (Or.inl rfl)) (pgs_cons (pg_name (i := 4) scSc.nd rfl (Or.inl rfl)) pgs_nil)))) (pgs_cons (pg_name (i := 6) scSc.nd rfl (Or.inl rfl)) pgs_nil)))) <|
      pss_cons (ps_expr (pe_bm PySem.F.plainAttrs_list PySem.F.slot_list_append PySem.F.type_list_append mt_append (pv 3) (pa_cons (pv 5) pa_nil))) <|
      pss_one (ps_set (i := 1) scSc.nd rfl (Or.inl rfl) (pv 6)))) <|
    pss_one (ps_ret (pe_tup (StX.pa_star (pv 3) (pa_cons (pe_cc NM hr (by omega) pass0 (pa_cons (pv 0) pa_nil)) pa_nil)))), ?_⟩
  refine ⟨_, rfl, m, v, rfl, hat, hok, hns, fun H1 ln us s1 hln at1 => ?_⟩
  refine ⟨Nat.zero_le _, fun ls hls => ?_⟩
  have hne : ln ≠ ls := fun e => by rw [e, hls] at hln; cases hln
  have hl0 := hsur.len
  refine ⟨fun k σ Hn => ∃ (c' : Int) (d s' : List (List T)) (vs : List V) (v4 v5 v6 : Option V), σ = [some v, some (.int c'), some (.ref ln), some (.ref ls), v4, v5, v6] ∧ k = (c' + 1).toNat ∧ Same H1 Hn ∧ Hn ls = some (.lst vs) ∧ AtL AtWb Hn d vs ∧ sur = d ++ s' ∧ SurOf (gM m) (namesM m) c' s', ⟨_, c, [], sur, [], none, none, none, rfl, rfl, same_new hls _, upd_same, rfl, rfl, hsur⟩, ?_⟩
  rintro k σ Hn ⟨c', d, s', vs, v4, v5, v6, rfl, rfl, sn, fn, atd, esur, hs'⟩
  have hvl := atd.len
  have hdl : d.length ≤ 1102 := by have : sur.length = d.length + s'.length := by rw [esur, List.length_append]
                                   omega
  refine ⟨_, rfl, rfl, _, rfl, ?_⟩
  cases hs' with
  | top =>
    refine ite2 (fun c => absurd c (by decide)) (fun _ => ?_)
    have hatn : AtM Hn m v := (hat.on (same_tups s1)).on (same_tups sn)
    refine ⟨_, rfl, ls, vs, rfl, .inr (SqL.of fn), _, rfl, m, v, rfl, hatn, hok, hns, fun H2 np s2 hnp => ?_⟩
    refine ⟨by rw [List.length_append, sizeLine_eq]; show vs.length + 1 ≤ _; omega, fun tp htp => ?_⟩
    have s3 := same_new htp (.tup (vs ++ [.ref np]))
    refine kq _ _ ((((s1.trans sn).trans s2)).trans s3) ⟨tp, _, rfl, upd_same, ?_⟩
    rw [esur]
    have tt := (same_tups s2).trans (same_tups s3)
    rw [namesH_eq hok] at hnp
    obtain ⟨ob, hnp, hd⟩ := hnp
    exact (AtL.on tt (fun _ _ z => AtWb.on tt z) atd).snoc ⟨np, rfl, ob, s3 _ _ hnp, hd⟩
  | @blk i ps ss c2 sur2 hgi hlt hs2 =>
    have hne1 : ¬ ((i : Nat) : Int) = -1 := by omega
    refine ite2 (fun _ => ?_) (fun c => absurd (by simpa using hne1) c)
    have hlnn := sn _ _ hln
    obtain ⟨u, hu, px, vn, rfl, hx2, hx3⟩ := (AtL.on (same_tups sn) (fun _ _ z => AtR.on (same_tups sn) z) at1).get' hgi
    obtain ⟨pb, vw, q, xs, rfl, hpb, hq, hw, hss⟩ := hx3
    refine ⟨fun σ' H' => ∃ (c' : Int) (d s' : List (List T)) (vs : List V) (v4 v5 v6 : Option V), σ' = [some v, some (.int c'), some (.ref ln), some (.ref ls), v4, v5, v6] ∧ c' < ((i : Nat) : Int) ∧ Same H1 H' ∧ H' ls = some (.lst vs) ∧ AtL AtWb H' d vs ∧ sur = d ++ s' ∧ SurOf (gM m) (namesM m) c' s', fun σ' H' h => ?_, ?_⟩
    · obtain ⟨c', d, s', vs, v4, v5, v6, h1, h2, h3, h4, h5, h6, h7⟩ := h
      exact ⟨(c' + 1).toNat, by omega, c', d, s', vs, v4, v5, v6, h1, rfl, h3, h4, h5, h6, h7⟩
    refine ⟨_, rfl, _, rfl, ln, us, _, _, rfl, rfl, SqL.of hlnn, atI_nat hu, px, _, rfl, SqT.of hx2, rfl, _, _, rfl, ?_⟩
    refine ⟨pb, _, rfl, SqT.of hpb, rfl, _, _, rfl, _, _, rfl, _, _, rfl, rfl, _, _, rfl, rfl, ?_⟩
    obtain ⟨pw, rfl, hpw⟩ := hw
    refine ⟨_, rfl, .inl ⟨rfl, _, SqL.of fn⟩, _, rfl, ls, vs, _, rfl, rfl, fn, by rw [hvl, sizeLine_eq]; omega, ?_⟩
    have tt := tups_lst (ys := vs ++ [.ref pw]) fn
    refine ⟨_, rfl, c2, d ++ [ps], sur2, vs ++ [.ref pw], _, _, _, rfl, hlt, fun b o hb => ?_, upd_same, ?_, by rw [esur]; simp, hs2⟩
    · rw [upd_ne (ne_of_none hb hls)]
      exact sn _ _ hb
    · exact (AtL.on tt (fun _ _ z => AtWb.on tt z) atd).snoc (AtWb.on tt ⟨pw, rfl, hpw⟩)
def spRoG : Sp := fun vs H Q _ => ∃ (m : Me) (v : V) (c : Int) (n : Nat) (ps : List T) (ss : Sts) (sur : List (List T)), vs = [v, .int c] ∧ c + 1 = ((n : Nat) : Int) ∧ AtM H m v ∧ gdM m ∧ nSs m.ss ≤ 1100 ∧ CodeOf m c ps ss ∧ SurOf (gM m) (namesM m) c sur ∧ n ≤ 1100 ∧ gdSs ss ∧ sdSs sur ss ∧ oSs ss ≤ 18 ∧ nSs ss ≤ 1100 ∧
  ∀ (H' : Hp) (p : Addr) (us : List V), Same H H' → H' p = some (.tup us) → AtL AtRw H' (rwSs sur ss n 0 ++ [[V.int (-1), S_ "push", .non], [V.int (-1), S_ "return"]]) us → Q (.ref p) H'
theorem scRo : FnScope ["method", "node", "maker"] ["method", "node"] (defScope s_rows_of) := ⟨rfl, rfl, rfl, by decide +kernel, rfl, by decide +kernel, by decide +kernel⟩
theorem c_roG {fI : Addr} {fdI : FuncData} (b_tuple : mg "tuple" = none) (gMC : GI mg "METHOD_CODE" (-1)) (D : Dn K mg "rows_of" s_rows_of) (T : TxM K C) (mC : mg "RowMaker" = some (.ref C)) (MK_ : Mk K C fI) (FI_ : Fun K "__init__" "RowMaker.__init__" s_RowMaker___init__ fI fdI)
    (PU : MoR P w K mg base C 1 "put" (spMPu C)) (AS : Mo P w K mg base C 166 "all_statement_rows" (spSsr C 19)) (SC : C0 P w K mg base 4 "scopes_of" spSc) (BO : C0 P w K mg base 5 "body_of" spBd) : C0 P w K mg base 167 "rows_of" spRoG := by
  obtain ⟨f, fd, F, hmm⟩ := D.ex
  have GI_ := m_init (P := P) (w := w) (mg := mg) (base := base) T FI_
  have bI := FI_.binds (ps := ["self", "visible", "number"]) fun _ _ _ _ _ _ us hl => match us, hl with | [_, _, _], _ => rfl
  refine ⟨f, fd, ["method", "node"], F.ok scRo (fun vs H Q E h => ?_) (fun cdv A outer s H vs Q E hr h => ?_), hmm, F.kp, F.binds (ps := ["method", "node"]) fun _ _ _ _ _ _ us hl => match us, hl with | [_, _], _ => rfl⟩
  · obtain ⟨m, v, c, n, ps, ss, sur, rfl, _⟩ := h
    rfl
  obtain ⟨m, v, c, n, ps, ss, sur, rfl, hcn, hat, hok, hns, hcode, hsur, hn, hgd, hsd, ho, hs, kq⟩ := h
  refine ⟨_, pss_cons (ps_set (i := 2) scRo.nd rfl (Or.inl rfl) (pe_make MK_ GI_ (hr.mono (by decide)) rfl mC bI .nil pass0 (pa_cons (pe_cc SC hr (by omega) pass0 (pa_cons (pv 0) (pa_cons (pv 1) pa_nil))) (pa_cons (pe_op op_add (pv 1) pe_int) pa_nil)))) <|
    pss_cons (ps_expr (pe_mm T.cl AS hr (by omega) pass0 (pv 2) (pa_cons (pe_cc BO hr (by omega) pass0 (pa_cons (pv 0) (pa_cons (pv 1) pa_nil))) pa_nil))) <|
    pss_cons (ps_expr (pe_mr T.cl PU hr (by omega) pass0 (pv 2) (pa_cons (pe_gi gMC) (pa_cons pe_str (pa_cons pe_non pa_nil))))) <|
    pss_cons (ps_expr (pe_mr T.cl PU hr (by omega) pass0 (pv 2) (pa_cons (pe_gi gMC) (pa_cons pe_str pa_nil)))) <|
    pss_one (ps_ret (pe_callTy call_tuple_of (by rfl) b_tuple (by decide +kernel) (pa_cons (pe_fld (pv 2) rfl) pa_nil))), ?_⟩
  refine ⟨_, rfl, _, rfl, m, v, c, sur, rfl, hat, hok, hns, hsur, by omega, fun H1 u s1 hu => ?_⟩
  obtain ⟨sp, us0, rfl, hsp, hats⟩ := hu
  refine ⟨_, rfl, _, _, rfl, rfl, fun x dx hx hdx hne => ?_⟩
  have e0 : c + 1 = ((n : Nat) : Int) := hcn
  refine ⟨x, dx, sp, n, by show [V.ref x, V.ref sp, V.int (c + 1)] = _; rw [e0], upd_same, fun H2 l k2 hl hmk => ⟨rfl, ?_⟩⟩
  have s2 : Same H1 H2 := fun b o hb => by
    have nx : b ≠ x := fun z => by rw [z, hx] at hb; cases hb
    have nd : b ≠ dx := fun z => by rw [z, hdx] at hb; cases hb
    exact k2 b o nx (by rw [upd_ne nx, upd_ne nd]; exact hb)
  have n1 : H1 x = none := hx
  have nl : H1 l = none := by
    have nx : l ≠ x := fun z => by rw [z, upd_same] at hl; cases hl
    rw [upd_ne nx] at hl
    by_cases c : l = dx
    · rw [c]; exact hdx
    · rw [upd_ne c] at hl; exact hl
  have s02 := s1.trans s2
  have hat2 : AtM H2 m v := hat.on (same_tups s02)
  obtain ⟨dx2, p1, p2⟩ := id hmk
  refine ⟨_, rfl, x, dx2, _, rfl, p1, rfl, _, rfl, _, rfl, m, v, c, ps, ss, rfl, hat2, hok, hns, hcode, fun H3 q xs s3 hq hss => ?_⟩
  have hmk3 := hmk.same s3
  obtain ⟨dx3, p3, p4⟩ := id hmk3
  have hsur3 : AtSur H3 sur (.ref sp) := AtSur.on ((same_tups s2).trans (same_tups s3)) ⟨sp, us0, rfl, hsp, hats⟩
  refine ⟨⟨x, l, sp⟩, sur, ss, q, xs, n, [], rfl, hq, hmk3, hsur3, hss, hgd, hsd, by omega, ho, hs, by show 0 + _ ≤ _; omega, by omega, fun H4 us4 s4 m4 at4 => ?_⟩
  obtain ⟨dx4, p5, p6⟩ := id m4
  have hu4 := at4.len
  have hle := rwSs_le (sur := sur) ss n 0
  refine ⟨_, rfl, x, dx4, _, rfl, p5, rfl, ⟨x, l, sp⟩, _, _, _, rfl, by show 3 ≤ 10; decide, m4, by rw [List.nil_append]; show us4.length ≤ _; have e : us4.length = (rwSs sur ss n 0).length := hu4; omega, fun H5 q5 s5 m5 h5 => ?_⟩
  obtain ⟨dx5, p7, p8⟩ := id m5
  refine ⟨_, rfl, x, dx5, _, rfl, p7, rfl, ⟨x, l, sp⟩, _, _, _, rfl, by show 2 ≤ 10; decide, m5, by rw [List.nil_append, List.length_append]; have e : us4.length = (rwSs sur ss n 0).length := hu4; show us4.length + 1 ≤ _; omega, fun H6 q6 s6 m6 h6 => ?_⟩
  obtain ⟨dx6, p9, p10⟩ := id m6
  refine ⟨_, rfl, x, C, dx6, _, _, rfl, p9, T.cl, T.fr, mf_rows, l, _, rfl, .inl ⟨SqL.of p10, fun tp htp => ?_⟩⟩
  have s7 := same_new htp (.tup (([] ++ us4) ++ [V.ref q5] ++ [V.ref q6]))
  have fin : Same H (upd H6 tp (.tup (([] ++ us4) ++ [V.ref q5] ++ [V.ref q6]))) := fun b o hb => by
    have h1 := s1 _ _ hb
    have nx : b ≠ x := fun z => by rw [z, n1] at h1; cases h1
    have nlb : b ≠ l := fun z => by rw [z, nl] at h1; cases h1
    exact s7 _ _ (s6 b o nx nlb (s5 b o nx nlb (s4 b o nx nlb (s3 _ _ (s2 _ _ h1)))))
  refine kq _ tp _ fin upd_same ?_
  have tz6 := same_tups s7
  have tz5 := (s6.tups m5).trans tz6
  have tz4 := (s5.tups m4).trans tz5
  have c4 := AtL.on tz4 (fun _ _ z => AtRw.on tz4 z) at4
  have c5 : AtL AtRw _ [[V.int (-1), S_ "push", .non], [V.int (-1), S_ "return"]] [V.ref q5, V.ref q6] := ⟨_, _, rfl, ⟨q5, rfl, tz5 _ _ h5⟩, _, _, rfl, ⟨q6, rfl, tz6 _ _ h6⟩, rfl⟩
  have := c4.appL c5
  simpa using this
theorem gdE_sd {sur : List (List T)} : True := trivial
mutual
theorem sd_gdE {sur : List (List T)} : ∀ e : Ex, sdE sur e → gdE e
  | .num _, _ => trivial
  | .txt _, _ => trivial
  | .tru _, _ => trivial
  | .non, _ => trivial
  | .slf, _ => trivial
  | .nam _, _ => trivial
  | .fld _, _ => trivial
  | .new _, _ => trivial
  | .send r m es, h => ⟨sd_gdE r h.1, sd_gdEs es h.2⟩
  | .up m es, h => sd_gdEs es h
  | .lst es, h => sd_gdEs es h
  | .blk ps ss, h => ⟨by have := h.2.1; omega, sd_gdSs ss h.2.2⟩
theorem sd_gdEs {sur : List (List T)} : ∀ e : Exs, sdEs sur e → gdEs e
  | .nil, _ => trivial
  | .cons e r, h => ⟨sd_gdE e h.1, sd_gdEs r h.2⟩
theorem sd_gdS {sur : List (List T)} : ∀ e : St_, sdS sur e → gdS e
  | .set w e, h => sd_gdE e h.2
  | .sfl w e, h => sd_gdE e h
  | .pl k e, h => ⟨h.1, sd_gdE e h.2⟩
  | .iff e a b, h => ⟨sd_gdE e h.1, sd_gdSs a h.2.1, sd_gdSs b h.2.2⟩
  | .whl e a, h => ⟨sd_gdE e h.1, sd_gdSs a h.2⟩
  | .tri a w b, h => ⟨sd_gdSs a h.2.1, sd_gdSs b h.2.2⟩
theorem sd_gdSs {sur : List (List T)} : ∀ e : Sts, sdSs sur e → gdSs e
  | .nil, _ => trivial
  | .cons e r, h => ⟨sd_gdS e h.1, sd_gdSs r h.2⟩
end
theorem okR.gd {m : Me} (h : okR m) : gdM m := ⟨by have := h.pl; omega, sd_gdSs m.ss h.ss, by have := h.o; omega⟩
/-- of the method itself, as the laws want it -/
theorem c_ro {k : Nat} (G : C0 P w K mg base k "rows_of" spRoG) : C0 P w K mg base k "rows_of" spRo := by
  obtain ⟨f, fd, ps, F, r⟩ := G.ex
  refine ⟨f, fd, ps, F.imp ?_, r⟩
  rintro vs H Q E ⟨m, v, rfl, hat, hok, kq⟩
  have gd := hok.gd
  exact ⟨m, v, -1, 0, m.ps, m.ss, [namesM m], rfl, rfl, hat, gd, by have := hok.n; omega, .inl ⟨rfl, rfl, rfl⟩, .top, by decide, gd.ss, hok.ss, gd.o, by have := hok.n; omega, kq⟩
end
end My
set_option Elab.async false
set_option linter.all false
set_option maxRecDepth 100000
set_option maxHeartbeats 4000000
namespace My
open PySem L2 SS
/-- what is asked of a node of the walk -/
structure WN (ns : List T) (t : W8) : Prop where
  ok : W8ok t
  sd : sdN (t.2.2 ++ [ns]) t.1
  hl : t.2.2.length + hN t.1 ≤ 30
  n : nN t.1 ≤ 1000
theorem ok_L {ns : List T} {h : Nat} (one : ∀ (q : Nd) (c : Int) (ar : List (List T)) (a : Nat), hN q ≤ h → WN ns (q, c, ar) → ∀ t ∈ wk8 h q c ar a, WN ns t) : ∀ (qs : List Nd) (c : Int) (ar : List (List T)) (a : Nat), (∀ q ∈ qs, hN q ≤ h ∧ WN ns (q, c, ar)) → ∀ t ∈ wk8L h qs c ar a, WN ns t
  | [], _, _, _, _, t, ht => by cases ht
  | q :: r, c, ar, a, hq, t, ht => by
    rw [wk8L_cons a fun x hx => (hq x hx).1] at ht
    rcases List.mem_append.mp ht with ht | ht
    · exact one q c ar a (hq q List.mem_cons_self).1 (hq q List.mem_cons_self).2 t ht
    · exact ok_L one r c ar _ (fun x hx => hq x (List.mem_cons_of_mem _ hx)) t ht
theorem ok_1 {ns : List T} : ∀ (h : Nat) (n : Nd) (c : Int) (ar : List (List T)) (a : Nat), hN n ≤ h → WN ns (n, c, ar) → ∀ t ∈ wk8 h n c ar a, WN ns t
  | 0, n, c, ar, a, hh, _, t, ht => by cases ht
  | h + 1, n, c, ar, a, hh, ok, t, ht => by
    rw [wk8_succ] at ht
    rcases List.mem_cons.mp ht with rfl | ht
    · exact ok
    refine ok_L (fun q c ar a h1 h2 => ok_1 h q c ar a h1 h2) (parts n) _ _ _ (fun q hq => ?_) t ht
    have h1 := (parts_h n q hq).1
    have h2 := ok.hl
    have h3 : (arI n ar).length ≤ ar.length + 1 := by
      unfold arI
      split
      · rw [List.length_cons]; exact Nat.le_refl _
      · omega
    have h4 : ar.length + hN n ≤ 30 := h2
    have hp := hN_pos q
    have hl' : (arI n ar).length + hN q ≤ 30 := by omega
    refine ⟨by omega, ⟨⟨parts_gd n ok.ok.gd q hq, fN_parts n ok.ok.f q hq, by show (arI n ar).length ≤ 100; omega⟩, sd_parts n ok.sd q hq, hl', Nat.le_trans (nn_part n q hq) ok.n⟩⟩
theorem sur_L {g : List (Nd × Int)} {ns : List T} {h : Nat} (one : ∀ (q : Nd) (c : Int) (ar : List (List T)) (a j : Nat) (t : W8), hN q ≤ h → (∀ j t, (wk8 h q c ar a)[j]? = some t → g[a + j]? = some (t.1, t.2.1)) → SurOf g ns c (ar ++ [ns]) → c < ((a : Nat) : Int) → (wk8 h q c ar a)[j]? = some t → SurOf g ns t.2.1 (t.2.2 ++ [ns]) ∧ t.2.1 < ((a + j : Nat) : Int)) :
    ∀ (qs : List Nd) (c : Int) (ar : List (List T)) (a j : Nat) (t : W8), (∀ q ∈ qs, hN q ≤ h) → (∀ j t, (wk8L h qs c ar a)[j]? = some t → g[a + j]? = some (t.1, t.2.1)) → SurOf g ns c (ar ++ [ns]) → c < ((a : Nat) : Int) → (wk8L h qs c ar a)[j]? = some t → SurOf g ns t.2.1 (t.2.2 ++ [ns]) ∧ t.2.1 < ((a + j : Nat) : Int)
  | [], c, ar, a, j, t, _, _, _, _, ht => by cases ht
  | q :: r, c, ar, a, j, t, hq, sg, su, hc, ht => by
    have hq1 := hq q List.mem_cons_self
    have hqr : ∀ x ∈ r, hN x ≤ h := fun x hx => hq x (List.mem_cons_of_mem _ hx)
    have l := wk8_len h q c ar a hq1
    rw [wk8L_cons a hq] at ht sg
    by_cases cj : j < nN q
    · rw [List.getElem?_append_left (by omega)] at ht
      exact one q c ar a j t hq1 (fun j' t' h' => sg j' t' (by rw [List.getElem?_append_left (by have := (List.getElem?_eq_some_iff.mp h').1; omega)]; exact h')) su hc ht
    · rw [List.getElem?_append_right (by omega), l] at ht
      have := sur_L one r c ar (a + nN q) (j - nN q) t hqr (fun j' t' h' => by
        have := sg (nN q + j') t' (by rw [List.getElem?_append_right (by omega), l, Nat.add_sub_cancel_left]; exact h')
        rw [Nat.add_assoc]
        exact this) su (by omega) ht
      have ej : a + nN q + (j - nN q) = a + j := by omega
      rw [ej] at this
      exact this
theorem sur_1 {g : List (Nd × Int)} {ns : List T} : ∀ (h : Nat) (n : Nd) (c : Int) (ar : List (List T)) (a j : Nat) (t : W8), hN n ≤ h → (∀ j t, (wk8 h n c ar a)[j]? = some t → g[a + j]? = some (t.1, t.2.1)) → SurOf g ns c (ar ++ [ns]) → c < ((a : Nat) : Int) → (wk8 h n c ar a)[j]? = some t → SurOf g ns t.2.1 (t.2.2 ++ [ns]) ∧ t.2.1 < ((a + j : Nat) : Int)
  | 0, n, c, ar, a, j, t, hh, _, _, _, _ => by have := hN_pos n; omega
  | h + 1, n, c, ar, a, j, t, hh, sg, su, hc, ht => by
    have hq : ∀ q ∈ parts n, hN q ≤ h := fun q hq => by have := (parts_h n q hq).1; omega
    rw [wk8_succ] at ht sg
    cases j with
    | zero =>
      have et : (n, c, ar) = t := by simpa using ht
      subst et
      exact ⟨su, by show c < _; omega⟩
    | succ j =>
      have ht' : (wk8L h (parts n) (cdI n c a) (arI n ar) (a + 1))[j]? = some t := by simpa using ht
      have g0 : g[a]? = some (n, c) := sg 0 (n, c, ar) rfl
      have hc' : cdI n c a < ((a + 1 : Nat) : Int) := by
        unfold cdI
        split <;> omega
      have su' : SurOf g ns (cdI n c a) (arI n ar ++ [ns]) := by
        unfold cdI arI
        by_cases cb : isBlk n = true
        · rw [if_pos cb, if_pos cb]
          obtain ⟨ps, ss, rfl⟩ := blk_of cb
          exact .blk g0 hc su
        · rw [if_neg cb, if_neg cb]
          exact su
      have := sur_L (fun q c ar a j t h1 h2 h3 h4 h5 => sur_1 h q c ar a j t h1 h2 h3 h4 h5) (parts n) _ _ (a + 1) j t hq (fun j' t' h' => by
        have := sg (j' + 1) t' (by simpa using h')
        have e : a + 1 + j' = a + (j' + 1) := by omega
        rw [e]
        exact this) su' hc' ht'
      have ej : a + 1 + j = a + (j + 1) := by omega
      rw [ej] at this
      exact this
theorem wkM8_at {m : Me} {i : Nat} {t : W8} (h : (wkM8 m)[i]? = some t) : (gM m)[i]? = some (t.1, t.2.1) := by
  rw [← wkM8_gone, List.getElem?_map, h]
  rfl
theorem wkM8_len (m : Me) : (wkM8 m).length = (gM m).length := by rw [← wkM8_gone, List.length_map]
theorem sur_M {m : Me} (g : gdM m) {i : Nat} {t : W8} (h : (wkM8 m)[i]? = some t) : SurOf (gM m) (namesM m) t.2.1 (t.2.2 ++ [namesM m]) ∧ t.2.1 < ((i : Nat) : Int) := by
  have := sur_L (g := gM m) (ns := namesM m) (h := 40) (fun q c ar a j t h1 h2 h3 h4 h5 => sur_1 40 q c ar a j t h1 h2 h3 h4 h5) (stl m.ss) (-1) [] 0 i t (stl_408 g) (fun j t h => by rw [Nat.zero_add]; exact wkM8_at h) .top (by omega) h
  rw [Nat.zero_add] at this
  exact this
structure Dr8 (m : Me) : Prop where
  gd : gdM m
  sd : sdSs [namesM m] m.ss
  n : nSs m.ss ≤ 160
  o : oSs m.ss ≤ 12
  f : fSs m.ss
theorem ok_M {m : Me} (d : Dr8 m) : ∀ t ∈ wkM8 m, WN (namesM m) t := by
  refine ok_L (fun q c ar a h1 h2 => ok_1 40 q c ar a h1 h2) (stl m.ss) (-1) [] 0 fun q hq => ⟨stl_408 d.gd q hq, ⟨⟨stl_gd m.ss d.gd.ss q hq, fN_stl m.ss d.f q hq, by show 0 ≤ 100; decide⟩, sd_stl m.ss d.sd q hq, ?_, ?_⟩⟩
  · have := stl_408 d.gd q hq
    have h5 := stl_ho m.ss q hq
    have h6 := d.o
    show 0 + hN q ≤ 30
    omega
  · obtain ⟨j, hj, e⟩ := List.getElem_of_mem hq
    have h1 := sum_take_le (stl m.ss) (i := j) (q := q) (by rw [List.getElem?_eq_getElem hj, e])
    have h2 := stl_n m.ss
    have h3 := d.n
    show nN q ≤ 1000
    omega
end My
set_option Elab.async false
set_option linter.all false
set_option maxRecDepth 100000
set_option maxHeartbeats 4000000
namespace My
open PySem L2 SS
section
variable {K : PySem.W.Frag} {H : Hp}
theorem eqS_ws {n : Nat} : ∀ ps : List T, All2 (EqS K H n) (wsV ps) (wsV ps)
  | [] => .nil
  | p :: r => .cons (.flat rfl) (eqS_ws r)
theorem eqS_r2 {n : Nat} {a : V} {x y : V} (fa : flatV a = true) (h : EqS K H n x y) : All2 (EqS K H n) [a, x] [a, y] := .cons (.flat fa) (.cons h .nil)
theorem eqS_wb {n : Nat} {ps : List T} {v w : V} (h1 : AtWb H ps v) (h2 : AtWb H ps w) : EqS K H (n + 1) v w := by
  obtain ⟨p, rfl, a⟩ := h1
  obtain ⟨q, rfl, b⟩ := h2
  exact .tup a.sq b.sq (eqS_ws ps)
mutual
theorem eqS_E : ∀ (e : Ex) (n : Nat) (v w : V), 3 * oE e + 2 ≤ n → AtE H e v → AtE H e w → EqS K H n v w
  | .num _, n, v, w, h, a, b => by
    obtain ⟨n, rfl⟩ : ∃ m, n = m + 1 := ⟨n - 1, by omega⟩
    obtain ⟨p, rfl, hp⟩ := a
    obtain ⟨q, rfl, hq⟩ := b
    exact .tup (.of hp) (.of hq) (eqS_r2 rfl (.flat rfl))
  | .txt _, n, v, w, h, a, b => by
    obtain ⟨n, rfl⟩ : ∃ m, n = m + 1 := ⟨n - 1, by omega⟩
    obtain ⟨p, rfl, hp⟩ := a
    obtain ⟨q, rfl, hq⟩ := b
    exact .tup (.of hp) (.of hq) (eqS_r2 rfl (.flat rfl))
  | .tru _, n, v, w, h, a, b => by
    obtain ⟨n, rfl⟩ : ∃ m, n = m + 1 := ⟨n - 1, by omega⟩
    obtain ⟨p, rfl, hp⟩ := a
    obtain ⟨q, rfl, hq⟩ := b
    exact .tup (.of hp) (.of hq) (eqS_r2 rfl (.flat rfl))
  | .nam _, n, v, w, h, a, b => by
    obtain ⟨n, rfl⟩ : ∃ m, n = m + 1 := ⟨n - 1, by omega⟩
    obtain ⟨p, rfl, hp⟩ := a
    obtain ⟨q, rfl, hq⟩ := b
    exact .tup (.of hp) (.of hq) (eqS_r2 rfl (.flat rfl))
  | .fld _, n, v, w, h, a, b => by
    obtain ⟨n, rfl⟩ : ∃ m, n = m + 1 := ⟨n - 1, by omega⟩
    obtain ⟨p, rfl, hp⟩ := a
    obtain ⟨q, rfl, hq⟩ := b
    exact .tup (.of hp) (.of hq) (eqS_r2 rfl (.flat rfl))
  | .new _, n, v, w, h, a, b => by
    obtain ⟨n, rfl⟩ : ∃ m, n = m + 1 := ⟨n - 1, by omega⟩
    obtain ⟨p, rfl, hp⟩ := a
    obtain ⟨q, rfl, hq⟩ := b
    exact .tup (.of hp) (.of hq) (eqS_r2 rfl (.flat rfl))
  | .non, n, v, w, h, a, b => by
    obtain ⟨n, rfl⟩ : ∃ m, n = m + 1 := ⟨n - 1, by omega⟩
    obtain ⟨p, rfl, hp⟩ := a
    obtain ⟨q, rfl, hq⟩ := b
    exact .tup (.of hp) (.of hq) (.cons (.flat rfl) .nil)
  | .slf, n, v, w, h, a, b => by
    obtain ⟨n, rfl⟩ : ∃ m, n = m + 1 := ⟨n - 1, by omega⟩
    obtain ⟨p, rfl, hp⟩ := a
    obtain ⟨q, rfl, hq⟩ := b
    exact .tup (.of hp) (.of hq) (.cons (.flat rfl) .nil)
  | .send r m es, n, v, w, h, a, b => by
    have hm : 3 * (1 + max (oE r) (oEs es)) + 2 ≤ n := h
    obtain ⟨n, rfl⟩ : ∃ m, n = m + 2 := ⟨n - 2, by omega⟩
    obtain ⟨p, vr, q, xs, rfl, hp, hq, h1, h2⟩ := a
    obtain ⟨p', vr', q', xs', rfl, hp', hq', h1', h2'⟩ := b
    exact .tup (.of hp) (.of hp') (.cons (.flat rfl) (.cons (eqS_E r _ _ _ (by omega) h1 h1') (.cons (.flat rfl) (.cons (.tup (.of hq) (.of hq') (eqS_Es es _ _ _ (by omega) h2 h2')) .nil))))
  | .up m es, n, v, w, h, a, b => by
    have hm : 3 * (1 + oEs es) + 2 ≤ n := h
    obtain ⟨n, rfl⟩ : ∃ m, n = m + 2 := ⟨n - 2, by omega⟩
    obtain ⟨p, q, xs, rfl, hp, hq, h2⟩ := a
    obtain ⟨p', q', xs', rfl, hp', hq', h2'⟩ := b
    exact .tup (.of hp) (.of hp') (.cons (.flat rfl) (.cons (.flat rfl) (.cons (.tup (.of hq) (.of hq') (eqS_Es es _ _ _ (by omega) h2 h2')) .nil)))
  | .lst es, n, v, w, h, a, b => by
    have hm : 3 * (1 + oEs es) + 2 ≤ n := h
    obtain ⟨n, rfl⟩ : ∃ m, n = m + 2 := ⟨n - 2, by omega⟩
    obtain ⟨p, q, xs, rfl, hp, hq, h2⟩ := a
    obtain ⟨p', q', xs', rfl, hp', hq', h2'⟩ := b
    exact .tup (.of hp) (.of hp') (eqS_r2 rfl (.tup (.of hq) (.of hq') (eqS_Es es _ _ _ (by omega) h2 h2')))
  | .blk ps ss, n, v, w, h, a, b => by
    have hm : 3 * (1 + oSs ss) + 2 ≤ n := h
    obtain ⟨n, rfl⟩ : ∃ m, n = m + 2 := ⟨n - 2, by omega⟩
    obtain ⟨p, vw, q, xs, rfl, hp, hq, h1, h2⟩ := a
    obtain ⟨p', vw', q', xs', rfl, hp', hq', h1', h2'⟩ := b
    exact .tup (.of hp) (.of hp') (.cons (.flat rfl) (.cons (eqS_wb h1 h1') (.cons (.tup (.of hq) (.of hq') (eqS_Ss ss _ _ _ (by omega) h2 h2')) .nil)))
theorem eqS_Es : ∀ (es : Exs) (n : Nat) (us vs : List V), 3 * oEs es + 2 ≤ n → AtEs H es us → AtEs H es vs → All2 (EqS K H n) us vs
  | .nil, n, us, vs, h, a, b => by
    have a' : us = [] := a
    have b' : vs = [] := b
    subst a'
    subst b'
    exact .nil
  | .cons e r, n, us, vs, h, a, b => by
    have hm : 3 * max (oE e) (oEs r) + 2 ≤ n := h
    obtain ⟨v, xs, rfl, h1, h2⟩ := a
    obtain ⟨w, ys, rfl, k1, k2⟩ := b
    exact .cons (eqS_E e _ _ _ (by omega) h1 k1) (eqS_Es r _ _ _ (by omega) h2 k2)
theorem eqS_S : ∀ (s : St_) (n : Nat) (v w : V), 3 * oS s + 3 ≤ n → AtS H s v → AtS H s w → EqS K H n v w
  | .set z e, n, v, w, h, a, b => by
    have hm : 3 * oE e + 3 ≤ n := h
    obtain ⟨n, rfl⟩ : ∃ m, n = m + 1 := ⟨n - 1, by omega⟩
    obtain ⟨p, ve, rfl, hp, h1⟩ := a
    obtain ⟨p', ve', rfl, hp', h1'⟩ := b
    exact .tup (.of hp) (.of hp') (.cons (.flat rfl) (.cons (.flat rfl) (.cons (eqS_E e _ _ _ (by omega) h1 h1') .nil)))
  | .sfl z e, n, v, w, h, a, b => by
    have hm : 3 * oE e + 3 ≤ n := h
    obtain ⟨n, rfl⟩ : ∃ m, n = m + 1 := ⟨n - 1, by omega⟩
    obtain ⟨p, ve, rfl, hp, h1⟩ := a
    obtain ⟨p', ve', rfl, hp', h1'⟩ := b
    exact .tup (.of hp) (.of hp') (.cons (.flat rfl) (.cons (.flat rfl) (.cons (eqS_E e _ _ _ (by omega) h1 h1') .nil)))
  | .pl z e, n, v, w, h, a, b => by
    have hm : 3 * oE e + 3 ≤ n := h
    obtain ⟨n, rfl⟩ : ∃ m, n = m + 1 := ⟨n - 1, by omega⟩
    obtain ⟨p, ve, rfl, hp, h1⟩ := a
    obtain ⟨p', ve', rfl, hp', h1'⟩ := b
    exact .tup (.of hp) (.of hp') (.cons (.flat rfl) (.cons (eqS_E e _ _ _ (by omega) h1 h1') .nil))
  | .iff e x y, n, v, w, h, a, b => by
    have hm : 3 * (1 + max (oE e) (max (oSs x) (oSs y))) + 3 ≤ n := h
    obtain ⟨n, rfl⟩ : ∃ m, n = m + 2 := ⟨n - 2, by omega⟩
    obtain ⟨p, ve, q, xs, r, ys, rfl, hp, hq, hr, h1, h2, h3⟩ := a
    obtain ⟨p', ve', q', xs', r', ys', rfl, hp', hq', hr', h1', h2', h3'⟩ := b
    exact .tup (.of hp) (.of hp') (.cons (.flat rfl) (.cons (eqS_E e _ _ _ (by omega) h1 h1') (.cons (.tup (.of hq) (.of hq') (eqS_Ss x _ _ _ (by omega) h2 h2')) (.cons (.tup (.of hr) (.of hr') (eqS_Ss y _ _ _ (by omega) h3 h3')) .nil))))
  | .whl e x, n, v, w, h, a, b => by
    have hm : 3 * (1 + max (oE e) (oSs x)) + 3 ≤ n := h
    obtain ⟨n, rfl⟩ : ∃ m, n = m + 2 := ⟨n - 2, by omega⟩
    obtain ⟨p, ve, q, xs, rfl, hp, hq, h1, h2⟩ := a
    obtain ⟨p', ve', q', xs', rfl, hp', hq', h1', h2'⟩ := b
    exact .tup (.of hp) (.of hp') (.cons (.flat rfl) (.cons (eqS_E e _ _ _ (by omega) h1 h1') (.cons (.tup (.of hq) (.of hq') (eqS_Ss x _ _ _ (by omega) h2 h2')) .nil)))
  | .tri x z y, n, v, w, h, a, b => by
    have hm : 3 * (1 + max (oSs x) (oSs y)) + 3 ≤ n := h
    obtain ⟨n, rfl⟩ : ∃ m, n = m + 2 := ⟨n - 2, by omega⟩
    obtain ⟨p, q, xs, r, ys, rfl, hp, hq, hr, h2, h3⟩ := a
    obtain ⟨p', q', xs', r', ys', rfl, hp', hq', hr', h2', h3'⟩ := b
    exact .tup (.of hp) (.of hp') (.cons (.flat rfl) (.cons (.tup (.of hq) (.of hq') (eqS_Ss x _ _ _ (by omega) h2 h2')) (.cons (.flat rfl) (.cons (.tup (.of hr) (.of hr') (eqS_Ss y _ _ _ (by omega) h3 h3')) .nil))))
theorem eqS_Ss : ∀ (es : Sts) (n : Nat) (us vs : List V), 3 * oSs es + 3 ≤ n → AtSs H es us → AtSs H es vs → All2 (EqS K H n) us vs
  | .nil, n, us, vs, h, a, b => by
    have a' : us = [] := a
    have b' : vs = [] := b
    subst a'
    subst b'
    exact .nil
  | .cons e r, n, us, vs, h, a, b => by
    have hm : 3 * max (oS e) (oSs r) + 3 ≤ n := h
    obtain ⟨v, xs, rfl, h1, h2⟩ := a
    obtain ⟨w, ys, rfl, k1, k2⟩ := b
    exact .cons (eqS_S e _ _ _ (by omega) h1 k1) (eqS_Ss r _ _ _ (by omega) h2 k2)
end
def dpN : Nd → Nat
  | .e x => 3 * oE x + 3
  | .s x => 3 * oS x + 3
theorem eqS_N {n : Nat} {m : Nd} {v w : V} (h : dpN m ≤ n) (a : AtN H m v) (b : AtN H m w) : EqS K H n v w := by
  cases m with
  | e x => exact eqS_E x n v w (by have h' : 3 * oE x + 3 ≤ n := h; omega) a b
  | s x => exact eqS_S x n v w (h) a b
theorem eqS_Ns {n : Nat} : ∀ (ns : List Nd) (us vs : List V), (∀ m ∈ ns, dpN m ≤ n) → AtL AtN H ns us → AtL AtN H ns vs → All2 (EqS K H n) us vs
  | [], us, vs, h, a, b => by
    have a' : us = [] := a
    have b' : vs = [] := b
    subst a'
    subst b'
    exact .nil
  | m :: r, us, vs, h, ⟨v, xs, e1, h1, h2⟩, ⟨w, ys, e2, k1, k2⟩ => by
    subst e1
    subst e2
    exact .cons (eqS_N (h m List.mem_cons_self) h1 k1) (eqS_Ns r xs ys (fun x hx => h x (List.mem_cons_of_mem _ hx)) h2 k2)
end
end My
set_option Elab.async false
set_option linter.all false
set_option maxRecDepth 100000
set_option maxHeartbeats 8000000
namespace My
open PySem L2 SS
abbrev sPm : Stmt := s_parameters_of
section
variable {P : Program} {w : World} {K : PySem.W.Frag} {mg : Str → Option Value} {base : Heap}
theorem scPm : FnScope ["method", "node"] ["method", "node"] (defScope sPm) := ⟨rfl, rfl, rfl, by decide +kernel, rfl, by decide +kernel, by decide +kernel⟩
theorem c_pm (D : Dn K mg "parameters_of" sPm) (CT : C0 P w K mg base 4 "code_tree" spCt) : C0 P w K mg base 5 "parameters_of" spPm := by
  obtain ⟨f, fd, F, hmm⟩ := D.ex
  refine ⟨f, fd, ["method", "node"], F.ok scPm (fun vs H Q E h => ?_) (fun cdv A outer s H vs Q E hr h => ?_), hmm, F.kp, F.binds (ps := ["method", "node"]) fun _ _ _ _ _ _ us hl => match us, hl with | [_, _], _ => rfl⟩
  · obtain ⟨n, v, c, ps, ss, rfl, _⟩ := h
    rfl
  obtain ⟨m, v, c, ps, ss, rfl, hat, hok, hns, hc, kq⟩ := h
  refine ⟨_, pss_one (ps_ret (pe_ix (r := rIxT K) ix_tup (pe_cc CT hr (by decide) pass0 (pa_cons (pv 0) (pa_cons (pv 1) pa_nil))) (pe_un un_neg pe_int) (fun _ _ => rfl))), ?_⟩
  refine ⟨_, rfl, _, rfl, m, _, c, ps, ss, rfl, hat, hok, hns, hc, fun H1 p zs vw q xs s1 h1 h2 hw hs _ _ => ?_⟩
  exact ⟨2, rfl, p, _, -2, vw, rfl, rfl, SqT.of h1, atI_m2 zs _ _, kq H1 vw s1 hw⟩
end
end My
set_option Elab.async false
set_option linter.all false
set_option maxRecDepth 100000
set_option maxHeartbeats 8000000
namespace My
open PySem L2 SS
abbrev sWn : Stmt := s_code_within
section
variable {P : Program} {w : World} {K : PySem.W.Frag} {mg : Str → Option Value} {base : Heap}
theorem scWn : FnScope ["method", "node", "_", "code"] ["method", "node"] (defScope sWn) := ⟨rfl, rfl, rfl, by decide +kernel, rfl, by decide +kernel, by decide +kernel⟩
theorem c_wn (D : Dn K mg "code_within" sWn) (NC : C0 P w K mg base 2 "nodes_with_codes" spNc) : C0 P w K mg base 3 "code_within" spWi := by
  obtain ⟨f, fd, F, hmm⟩ := D.ex
  refine ⟨f, fd, ["method", "node"], F.ok scWn (fun vs H Q E h => ?_) (fun cdv A outer s H vs Q E hr h => ?_), hmm, F.kp, F.binds (ps := ["method", "node"]) fun _ _ _ _ _ _ us hl => match us, hl with | [_, _], _ => rfl⟩
  · obtain ⟨n, v, i, q, rfl, _⟩ := h
    rfl
  obtain ⟨m, v, i, q, rfl, hat, hok, hns, hgi, kq⟩ := h
  refine ⟨_, pss_cons (ps_asg (pe_ix (r := rIxL K) ix_list (pe_cc NC hr (by decide) pass0 (pa_cons (pv 0) pa_nil)) (pv 1) (fun _ _ => rfl)) (pg_tup (by rfl) (pgs_cons (pg_name (i := 2) scWn.nd rfl (Or.inl rfl)) (pgs_cons (pg_name (i := 3) scWn.nd rfl (Or.inl rfl)) pgs_nil)))) <|
    pss_one (ps_ret (pv 3)), ?_⟩
  refine ⟨_, rfl, m, _, rfl, hat, hok, hns, fun H1 a us s1 h1 at1 => ?_⟩
  obtain ⟨u, hu, px, vn, rfl, hx2, hx3⟩ := at1.get' hgi
  refine ⟨_, rfl, a, us, _, _, rfl, rfl, SqL.of h1, atI_nat hu, px, _, rfl, SqT.of hx2, rfl, _, _, rfl, _, _, rfl, rfl, _, rfl, kq H1 s1⟩
end
end My
set_option Elab.async false
set_option linter.all false
set_option maxRecDepth 100000
set_option maxHeartbeats 8000000
namespace My
open PySem L2 SS
section
variable {P : Program} {w : World} {K : PySem.W.Frag} {mg : Str → Option Value} {base : Heap}
theorem ndM_wk (m : Me) : ndM m = (wkM8 m).map (·.1) := by
  unfold ndM
  rw [← wkM8_gone, List.map_map]
  rfl
theorem dp_le {m : Me} (d : Dr8 m) : ∀ n ∈ (wkM8 m).map (·.1), dpN n ≤ 45 := fun n hn => by
  obtain ⟨t, ht, rfl⟩ := List.mem_map.mp hn
  have h := (ok_M d t ht).hl
  generalize t.1 = n at h ⊢
  cases n with
  | e x => have h' : _ + (2 * oE x + 1) ≤ 30 := h; show 3 * oE x + 3 ≤ 45; omega
  | s x => have h' : _ + (2 * oS x + 2) ≤ 30 := h; show 3 * oS x + 3 ≤ 45; omega
theorem eqS_ints {K : PySem.W.Frag} {H : Hp} {n : Nat} : ∀ xs : List Int, All2 (EqS K H n) (xs.map V.int) (xs.map V.int)
  | [] => .nil
  | x :: r => .cons (.flat rfl) (eqS_ints r)
def spTo : Sp := fun vs H Q _ => ∃ (m : Me) (v : V) (rl kl : Addr) (us : List V), vs = [v, .ref rl, .ref kl] ∧ AtM H m v ∧ Dr8 m ∧ H rl = some (.lst us) ∧ AtL (At8 []) H (wkM8 m) us ∧ H kl = some (.lst (wsV (namesM m))) ∧ ∀ H', Same H H' → Q (.bl true) H'
theorem scTo : FnScope ["_law_method", "_law_row", "_law_known", "_law_at", "_law_due_here", "_law_code", "_law_part", "_law_around"] ["_law_method", "_law_row", "_law_known"] (defScope s__law_told) := ⟨rfl, rfl, rfl, by decide +kernel, rfl, by decide +kernel, by decide +kernel⟩
theorem c_to (b_len : mg "len" = none) (b_range : mg "range" = none) (b_list : mg "list" = none) (b_tuple : mg "tuple" = none) (NM : C0 P w K mg base 3 "names_of" spNm) (ND : C0 P w K mg base 3 "nodes_of" spNd) (WI : C0 P w K mg base 3 "code_within" spWi) (CO : C0 P w K mg base 4 "codes_of" spCo) (PM : C0 P w K mg base 5 "parameters_of" spPm) (BD : C0 P w K mg base 5 "body_of" spBd) (D : Dn K mg "_law_told" s__law_told) : C0 P w K mg base 6 "_law_told" spTo := by
  obtain ⟨f, fd, F, m⟩ := D.ex
  refine ⟨f, fd, ["_law_method", "_law_row", "_law_known"], F.ok scTo (fun vs H Q E h => ?_) (fun cdv A outer s H vs Q E hr h => ?_), m, F.kp, F.binds (ps := ["_law_method", "_law_row", "_law_known"]) fun _ _ _ _ _ _ us hl => match us, hl with | [_, _, _], _ => rfl⟩
  · obtain ⟨m, v, rl, kl, us, rfl, _⟩ := h
    rfl
  obtain ⟨m, v, rl, kl, us, rfl, hm, d, hrl, hat, hkl, kq⟩ := h
  refine ⟨_, pss_cons (ps_if (PW.pt (pw_or (pt_cmpR (op_neS hr.units) (pe_cc NM hr (by omega) pass0 (pa_cons (pv 0) pa_nil)) (pe_callTy call_tuple_of (by rfl) b_tuple (by decide +kernel) (pa_cons (pv 2) pa_nil)) (nomark _)) (pw_or1 (pt_cmpR (op_neS hr.units) (pe_cc ND hr (by omega) pass0 (pa_cons (pv 0) pa_nil)) (pe_callTy call_tuple_of (by rfl) b_tuple (by decide +kernel) (pa_cons (pe_lc (own := [("_law_part", 6), ("_law_code", 5), ("_law_around", 7)]) (g := (gTup K 3 (gCons (gName 6) (gCons (gName 5) (gCons (gName 7) gNil))))) (tt := tYes) rfl scTo.nd (pi_list (pv 1)) (blkOk_by (own := [("_law_part", 6), ("_law_code", 5), ("_law_around", 7)]) (N := ["_law_method", "_law_row", "_law_known", "_law_at", "_law_due_here", "_law_code", "_law_part", "_law_around"]) (sc := defScope s__law_told) (by decide +kernel)) (fun _ _ _ _ _ => (pg_tup (by rfl) (pgs_cons (pg_name (i := 6) scTo.nd rfl (Or.inl rfl)) (pgs_cons (pg_name (i := 5) scTo.nd rfl (Or.inl rfl)) (pgs_cons (pg_name (i := 7) scTo.nd rfl (Or.inl rfl)) pgs_nil))))) (fun _ _ _ _ _ => pts_nil) (fun _ _ _ _ _ => (pv 6))) pa_nil)) (nomark _)))))
      (pss_one (ps_ret pe_bl))
      (pss_nil)) <|
    pss_cons (ps_for PassesOwn.never rfl (pi_range1 rfl b_range (pa_cons (pe_callB call_len_seq (by rfl) b_len PySem.boot_len (pa_cons (pv 1) pa_nil)) pa_nil)) (pg_name (i := 3) scTo.nd rfl (Or.inl rfl))
      (pss_one (ps_if (pt_cmpR op_ne (pe_cc WI hr (by omega) pass0 (pa_cons (pv 0) (pa_cons (pv 3) pa_nil))) (pe_ix (r := rIxT K) ix_tup (pe_ix (r := rIxL K) ix_list (pv 1) (pv 3) (fun _ _ => rfl)) pe_int (fun _ _ => rfl)) (nomark _))
        (pss_one (ps_ret pe_bl))
        (pss_nil)))) <|
    pss_cons (ps_set (i := 4) scTo.nd rfl (Or.inl rfl) (pe_op op_cat (pe_lst (pa_cons (pe_un un_neg pe_int) pa_nil)) (pe_lc (own := [("_law_at", 3)]) (g := (gName 3)) rfl scTo.nd (pi_range1 rfl b_range (pa_cons (pe_callB call_len_seq (by rfl) b_len PySem.boot_len (pa_cons (pv 1) pa_nil)) pa_nil)) (blkOk_by (own := [("_law_at", 3)]) (N := ["_law_method", "_law_row", "_law_known", "_law_at", "_law_due_here", "_law_code", "_law_part", "_law_around"]) (sc := defScope s__law_told) (by decide +kernel)) (fun _ _ _ _ _ => (pg_name (i := 3) scTo.nd rfl (Or.inl rfl))) (fun _ _ _ _ _ => pts_one (pt_cmpR op_eq (pe_ix (r := rIxT K) ix_tup (pe_ix (r := rIxT K) ix_tup (pe_ix (r := rIxL K) ix_list (pv 1) (pv 3) (fun _ _ => rfl)) pe_int (fun _ _ => rfl)) pe_int (fun _ _ => rfl)) pe_str (nomark _))) (fun _ _ _ _ _ => (pv 3))))) <|
    pss_cons (ps_if (pt_cmpR (op_neS hr.units) (pe_callTy call_list_of (by rfl) b_list (by decide +kernel) (pa_cons (pe_cc CO hr (by omega) pass0 (pa_cons (pv 0) pa_nil)) pa_nil)) (pv 4) (nomark _))
      (pss_one (ps_ret pe_bl))
      (pss_nil)) <|
    pss_cons (ps_for PassesOwn.never rfl (pi_list (pv 4)) (pg_name (i := 5) scTo.nd rfl (Or.inl rfl))
      (pss_cons (ps_set (i := 6) scTo.nd rfl (Or.inl rfl) (pe_tup (pa_cons pe_str (pa_cons (pe_ix (r := rIxT K) ix_tup (pv 0) pe_int (fun _ _ => rfl)) (pa_cons (pe_ix (r := rIxT K) ix_tup (pv 0) pe_int (fun _ _ => rfl)) pa_nil))))) <|
      C8.pss_cut (ps_if (pt_cmpR op_ge (pv 5) pe_int (nomark _))
        (pss_one (ps_set (i := 6) scTo.nd rfl (Or.inl rfl) (pe_ix (r := rIxT K) ix_tup (pe_ix (r := rIxL K) ix_list (pv 1) (pv 5) (fun _ _ => rfl)) pe_int (fun _ _ => rfl))))
        (pss_nil)) <|
      pss_one (ps_if (PW.pt (pw_or (pt_cmpR (op_neS hr.units) (pe_cc PM hr (by omega) pass0 (pa_cons (pv 0) (pa_cons (pv 5) pa_nil))) (pe_ix (r := rIxT K) ix_tup (pv 6) pe_int (fun _ _ => rfl)) (nomark _)) (pw_or1 (pt_cmpR (op_neS hr.units) (pe_cc BD hr (by omega) pass0 (pa_cons (pv 0) (pa_cons (pv 5) pa_nil))) (pe_ix (r := rIxT K) ix_tup (pv 6) pe_int (fun _ _ => rfl)) (nomark _)))))
        (pss_one (ps_ret pe_bl))
        (pss_nil)))) <|
    pss_one (ps_ret pe_bl), ?_⟩
  have gd := d.gd
  have hn : nSs m.ss ≤ 1100 := by have := d.n; omega
  refine ⟨_, rfl, m, v, rfl, hm, gd, hn, fun H1 p1 s1 hp1 => ?_⟩
  rw [namesH_eq gd] at hp1
  refine ⟨_, rfl, kl, _, rfl, .inl ⟨SqL.of (s1 _ _ hkl), fun tp htp => ?_⟩⟩
  have s2 := same_new htp (.tup (wsV (namesM m)))
  have f2 : upd H1 tp (.tup (wsV (namesM m))) tp = some (.tup (wsV (namesM m))) := upd_same
  have s02 := s1.trans s2
  have hp2 : FrzT (upd H1 tp (.tup (wsV (namesM m)))) p1 (wsV (namesM m)) := by
    obtain ⟨ob, h, k⟩ := hp1
    exact ⟨ob, s2 _ _ h, k⟩
  generalize upd H1 tp (.tup (wsV (namesM m))) = H2 at f2 s02 hp2 ⊢
  refine ⟨⟨0, p1, tp, _, _, by decide, rfl, rfl, .inl ⟨hp2.sq, SqT.of f2⟩, eqS_ws _⟩, _, rfl, ?_⟩
  refine ite2 (fun c => absurd c (by decide)) (fun _ => ?_)
  /- the nodes -/
  have hwl : (wkM8 m).length ≤ 160 := by
    have e1 : (wkM8 m).length = ((stl m.ss).map nN).sum := wk8L_len (h := 40) (c := -1) (ar := []) (stl m.ss) 0 (stl_408 gd)
    have e2 := stl_n m.ss
    have e3 := d.n
    omega
  have hm2 := hm.on (same_tups s02)
  refine ⟨_, rfl, m, v, rfl, hm2, gd, hn, fun H3 p3 us3 s3 hp3 hu3 => ?_⟩
  have s03 := s02.trans s3
  have rl3 := s03 _ _ hrl
  have at3 : AtL (At8 []) H3 (wkM8 m) us := AtL.onR (fun _ _ z => At8.sx (SX.same s03) (same_tups s03) z) hat
  have hul := hat.len
  rw [ndM_wk] at hu3
  refine ⟨_, rfl, rl, rfl, ⟨_, SqL.of rl3⟩, fun D0 hD0 => ?_⟩
  refine lc_list (xs := us) (fun i H' => ∃ vs, Same H3 H' ∧ H' D0 = some (.lst vs) ∧ AtL AtN H3 (((wkM8 m).take i).map (·.1)) vs ∧ vs.length ≤ i) ⟨[], same_new hD0 _, upd_same, rfl, Nat.le_refl _⟩ (fun i H' _ ⟨vs, s', _⟩ => SqL.of (s' _ _ rl3)) ?_ ?_
  · rintro i u H4 hu ⟨vs, s4, f4, at4, l4⟩
    obtain ⟨t, ht, pt, vn, va, rfl, hpt, hvn, hva⟩ := at3.get hu
    refine ⟨pt, _, rfl, SqT.of (s4 _ _ hpt), rfl, _, _, rfl, _, _, rfl, _, _, rfl, rfl, ?_⟩
    refine ⟨rfl, ?_⟩
    unfold tYes
    refine iteT ?_
    have hi := (List.getElem?_eq_some_iff.mp ht).1
    refine ⟨_, rfl, vs, f4, by rw [sizeLine_eq]; omega, vs ++ [vn], fun b o hb => by rw [upd_ne (ne_of_none hb hD0)]; exact s4 _ _ hb, upd_same, ?_, by rw [List.length_append]; show vs.length + 1 ≤ _; omega⟩
    rw [List.take_add_one, ht, List.map_append]
    exact at4.snoc hvn
  rintro H4 ⟨vs, s4, f4, at4, l4⟩
  rw [hul, List.take_length] at at4
  refine ⟨D0, vs, rfl, .inl ⟨SqL.of f4, fun tq htq => ?_⟩⟩
  have s5 := s4.trans (same_new htq (.tup vs))
  have f5 : upd H4 tq (.tup vs) tq = some (.tup vs) := upd_same
  have at5 := AtL.onR (fun _ _ z => AtN.on (same_tups s5) z) at4
  have hu5 := AtL.onR (fun _ _ z => AtN.on (same_tups s5) z) hu3
  have hp5 := s5 _ _ hp3
  have s05 := s03.trans s5
  generalize upd H4 tq (.tup vs) = H5 at f5 at5 hu5 hp5 s05 ⊢
  refine ⟨⟨45, p3, tq, _, _, by decide, rfl, rfl, .inl ⟨SqT.of hp5, SqT.of f5⟩, eqS_Ns _ _ _ (dp_le d) hu5 at5⟩, _, rfl, ?_⟩
  refine ite2 (fun c => absurd c (by decide)) (fun _ => ?_)
  clear at4 at3 hu3 hp2 f2 s4 f4 hD0 s5 s3
  /- code_within -/
  have rl5 := s05 _ _ hrl
  refine ⟨_, rfl, rl, us, rfl, .inl (SqL.of rl5), _, rfl, by omega, by omega, ?_⟩
  refine for_range (lo := 0) (n := (((us.length : Nat) : Int)).toNat) (fun i σ H' => ∃ (v3 : Option V), σ = [some v, some (.ref rl), some (.ref kl), v3, none, none, none, none] ∧ Same H H') ⟨_, rfl, s05⟩ ?_ ?_
  · rintro i σ H6 hi ⟨v3, rfl, s6⟩
    have hi' : i < us.length := by omega
    have hu : us[i]? = some us[i] := List.getElem?_eq_getElem hi'
    obtain ⟨t, ht, pt, vn, va, e, hpt, hvn, hva⟩ := hat.get hu
    have ei : (0 : Int) + ((i : Nat) : Int) = ((i : Nat) : Int) := by omega
    refine ⟨_, rfl, _, rfl, m, v, i, (t.1, t.2.1), by show [v, V.int (0 + ((i : Nat) : Int))] = _; rw [ei], hm.on (same_tups s6), gd, hn, wkM8_at ht, fun H7 s7 => ?_⟩
    have s67 := s6.trans s7
    refine ⟨_, rfl, _, rfl, rl, us, _, _, rfl, rfl, SqL.of (s67 _ _ hrl), by rw [ei]; exact atI_nat hu, pt, _, 1, _, e, rfl, SqT.of (s67 _ _ hpt), rfl, rfl, _, rfl, ?_⟩
    refine ite2 (fun c => absurd c (by simp)) (fun _ => ?_)
    exact ⟨_, rfl, s67⟩
  rintro σ H6 ⟨v3, rfl, s6⟩
  /- the codes -/
  have rl6 := s6 _ _ hrl
  refine ⟨_, rfl, by show 1 ≤ sizeLine; decide, fun l1 hl1 => ?_⟩
  have s7 := same_new hl1 (.lst [V.int (-1)])
  have f7 : upd H6 l1 (.lst [V.int (-1)]) l1 = some (.lst [V.int (-1)]) := upd_same
  generalize upd H6 l1 (.lst [V.int (-1)]) = H7 at s7 f7 ⊢
  have s07 := s6.trans s7
  refine ⟨_, rfl, rl, us, rfl, .inl (SqL.of (s07 _ _ hrl)), _, rfl, by omega, by omega, fun D1 hD1 => ?_⟩
  refine lc_range (lo := 0) (n := (((us.length : Nat) : Int)).toNat) (fun i H' => Same H7 H' ∧ H' D1 = some (.lst (natI (blkI (gM m) i)))) ⟨same_new hD1 _, upd_same⟩ ?_ ?_
  · rintro i H8 hi ⟨s8, f8⟩
    have hi' : i < us.length := by omega
    have hu : us[i]? = some us[i] := List.getElem?_eq_getElem hi'
    obtain ⟨t, ht, pt, vn, va, e, hpt, hvn, hva⟩ := hat.get hu
    have ei : (0 : Int) + ((i : Nat) : Int) = ((i : Nat) : Int) := by omega
    have s08 := s07.trans s8
    have ok := ok_M d t (List.mem_of_getElem? ht)
    obtain ⟨pz, z, rest, rfl, hpz, hz⟩ := blk_word (AtN.on (same_tups s08) hvn) ok.ok.gd
    refine ⟨rfl, ?_⟩
    refine ⟨_, rfl, _, rfl, rl, us, _, _, rfl, rfl, SqL.of (s08 _ _ hrl), by rw [ei]; exact atI_nat hu, pt, _, 0, _, e, rfl, SqT.of (s08 _ _ hpt), atI_0, pz, _, 0, _, rfl, rfl, SqT.of hpz, atI_0, rfl, _, rfl, ?_⟩
    rw [hz]
    have eb := blkI_succ (gM m) i (wkM8_at ht)
    have hbl : (natI (blkI (gM m) i)).length ≤ i := by unfold natI; rw [List.length_map, List.length_map]; exact blkI_len _ _
    by_cases c : isBlk t.1 = true
    · rw [c]
      refine iteT ?_
      refine ⟨_, rfl, _, f8, by rw [sizeLine_eq]; omega, fun b o hb => by rw [upd_ne (ne_of_none hb hD1)]; exact s8 _ _ hb, ?_⟩
      rw [upd_same, eb, if_pos c, ei]
      unfold natI
      rw [List.map_append, List.map_append]
      rfl
    · have c' : isBlk t.1 = false := by simpa using c
      rw [c']
      refine iteF ?_
      exact ⟨s8, by rw [eb, if_neg c, List.append_nil]; exact f8⟩
  rintro H8 ⟨s8, f8⟩
  have eul : (((us.length : Nat) : Int)).toNat = (gM m).length := by rw [hul, wkM8_len]; omega
  rw [eul] at f8
  have hbl : (natI (blks (gM m))).length ≤ 160 := by unfold natI; rw [List.length_map, List.length_map]; have h1 := blkI_len (gM m) (gM m).length; have h2 := wkM8_len m; exact Nat.le_trans h1 (by omega)
  have f8' : H8 D1 = some (.lst (natI (blks (gM m)))) := f8
  refine ⟨l1, D1, _, _, rfl, rfl, s8 _ _ f7, f8', by rw [sizeLine_eq]; show 1 + _ ≤ _; omega, fun dl hdl => ?_⟩
  have s9 := same_new hdl (.lst ([V.int (-1)] ++ natI (blks (gM m))))
  have f9 : upd H8 dl (.lst ([V.int (-1)] ++ natI (blks (gM m)))) dl = some (.lst ([V.int (-1)] ++ natI (blks (gM m)))) := upd_same
  generalize upd H8 dl (.lst ([V.int (-1)] ++ natI (blks (gM m)))) = H9 at s9 f9 ⊢
  have s09 := (s07.trans s8).trans s9
  refine ⟨_, rfl, m, v, rfl, hm.on (same_tups s09), gd, hn, fun H10 pc s10 hpc => ⟨pc, _, rfl, .inr (SqT.of hpc), fun lc hlc => ⟨_, rfl, ?_⟩⟩⟩
  have s11 := same_new hlc (.lst ((-1 :: (blks (gM m)).map fun (i : Nat) => ((i : Nat) : Int)).map V.int))
  have f11 : upd H10 lc (.lst ((-1 :: (blks (gM m)).map fun (i : Nat) => ((i : Nat) : Int)).map V.int)) lc = some (.lst ((-1 :: (blks (gM m)).map fun (i : Nat) => ((i : Nat) : Int)).map V.int)) := upd_same
  have s011 := (s09.trans s10).trans s11
  have f9' := s11 _ _ (s10 _ _ f9)
  generalize upd H10 lc (.lst ((-1 :: (blks (gM m)).map fun (i : Nat) => ((i : Nat) : Int)).map V.int)) = H11 at f11 s011 f9' ⊢
  have hcs : [V.int (-1)] ++ natI (blks (gM m)) = (-1 :: (blks (gM m)).map fun (i : Nat) => ((i : Nat) : Int)).map V.int := rfl
  rw [hcs] at f9'
  refine ⟨⟨0, lc, dl, _, _, by decide, rfl, rfl, .inr ⟨SqL.of f11, SqL.of f9'⟩, eqS_ints _⟩, _, rfl, ?_⟩
  refine ite2 (fun c => absurd c (by decide)) (fun _ => ?_)
  refine ⟨_, rfl, dl, rfl, ⟨_, SqL.of f9'⟩, ?_⟩
  refine for_list (xs := (-1 :: (blks (gM m)).map fun (i : Nat) => ((i : Nat) : Int)).map V.int) (fun i σ H' => ∃ (v3 v5 v6 : Option V), σ = [some v, some (.ref rl), some (.ref kl), v3, some (.ref dl), v5, v6, none] ∧ Same H11 H') ⟨_, _, _, rfl, Same.refl _⟩ (fun i σ H' _ ⟨_, _, _, _, s'⟩ => SqL.of (s' _ _ f9')) ?_ ?_
  · rintro i u σ H12 hu ⟨v3, v5, v6, rfl, s12⟩
    have hum := List.mem_of_getElem? hu
    obtain ⟨c, hc, rfl⟩ := List.mem_map.mp hum
    have hm12 := hm.on (same_tups (s011.trans s12))
    obtain ⟨p4, vw, q4, xs4, rfl, h4, ⟨pw, rfl, hpw⟩, h5, h6⟩ := id hm12
    refine ⟨_, rfl, p4, _, 2, _, rfl, rfl, SqT.of h4, rfl, _, rfl, p4, _, 3, _, rfl, rfl, SqT.of h4, rfl, by show 3 ≤ sizeLine; decide, fun tb htb => ?_⟩
    have s13 := same_new htb (.tup [S_ "block", V.ref pw, V.ref q4])
    have f13 : upd H12 tb (.tup [S_ "block", V.ref pw, V.ref q4]) tb = some (.tup [S_ "block", V.ref pw, V.ref q4]) := upd_same
    generalize upd H12 tb (.tup [S_ "block", V.ref pw, V.ref q4]) = H13 at s13 f13 ⊢
    have s013 := (s011.trans s12).trans s13
    have hcase : ∃ (ps : List T) (ss : Sts), CodeOf m c ps ss ∧ oSs ss ≤ 14 ∧ ((c = -1 ∧ ps = m.ps ∧ ss = m.ss) ∨ (0 ≤ c ∧ ∃ (k : Nat) (t : W8), c = ((k : Nat) : Int) ∧ (wkM8 m)[k]? = some t ∧ t.1 = .e (.blk ps ss))) := by
      rcases List.mem_cons.mp hc with rfl | hc
      · exact ⟨m.ps, m.ss, .inl ⟨rfl, rfl, rfl⟩, by have := d.o; omega, .inl ⟨rfl, rfl, rfl⟩⟩
      · obtain ⟨k, hk, rfl⟩ := List.mem_map.mp hc
        have hk2 := (List.mem_filter.mp hk).2
        have hkl := List.mem_range.mp (List.mem_filter.mp hk).1
        rw [← wkM8_len] at hkl
        have ht : (wkM8 m)[k]? = some (wkM8 m)[k] := List.getElem?_eq_getElem hkl
        have hg := wkM8_at ht
        rw [hg] at hk2
        obtain ⟨ps, ss, e⟩ := blk_of (show isBlk ((wkM8 m)[k]).1 = true from hk2)
        have hh := (ok_M d _ (List.getElem_mem hkl)).hl
        rw [e] at hg hh
        have hh' : _ + (2 * (1 + oSs ss) + 1) ≤ 30 := hh
        exact ⟨ps, ss, .inr ⟨k, _, rfl, hg⟩, by omega, .inr ⟨by omega, k, _, rfl, ht, e⟩⟩
    obtain ⟨ps, ss, hco, ho, hcs2⟩ := hcase
    refine ⟨fun σ H' => ∃ (pp pv qv : Addr) (xs : List V), σ = [some (.ref p4), some (.ref rl), some (.ref kl), v3, some (.ref dl), some (.int c), some (.ref pp), none] ∧ H' = H13 ∧ H13 pp = some (.tup [S_ "block", .ref pv, .ref qv]) ∧ SqT K H13 pv (wsV ps) ∧ H13 qv = some (.tup xs) ∧ AtSs H13 ss xs, ?_, ?_⟩
    · refine ⟨_, rfl, _, _, rfl, rfl, _, rfl, ?_⟩
      rcases hcs2 with ⟨rfl, rfl, rfl⟩ | ⟨h0, k, t, rfl, ht, e⟩
      · refine ite2 (fun c => absurd (of_decide_eq_true c : (0 : Int) ≤ -1) (by decide)) (fun _ => ?_)
        exact ⟨tb, pw, q4, xs4, rfl, rfl, f13, SqT.of (s13 _ _ hpw), s13 _ _ h5, h6.on_ (same_tups s13)⟩
      · refine ite2 (fun _ => ?_) (fun c => absurd (decide_eq_true h0) c)
        obtain ⟨u2, hu2, pt, vn, va, rfl, hpt, hvn, hva⟩ := hat.get' ht
        have hvn13 := AtN.on (same_tups s013) hvn
        rw [e] at hvn13
        obtain ⟨p7, vw7, q7, xs7, rfl, h7, h8, ⟨pw7, rfl, hw7⟩, h9⟩ := hvn13
        refine ⟨_, rfl, _, rfl, rl, us, _, _, rfl, rfl, SqL.of (s013 _ _ hrl), atI_nat hu2, pt, _, 0, _, rfl, rfl, SqT.of (s013 _ _ hpt), atI_0, ?_⟩
        exact ⟨p7, pw7, q7, xs7, rfl, rfl, h7, hw7.sq, h8, h9⟩
    rintro σ H14 ⟨pp, pv, qv, xs, rfl, rfl, k1, k2, k3, k4⟩
    have hm13 := hm12.on (same_tups s13)
    refine ⟨_, rfl, _, rfl, m, .ref p4, c, ps, ss, rfl, hm13, gd, hn, hco, fun H15 v' s15 hv' => ?_⟩
    obtain ⟨p', rfl, hp'⟩ := hv'
    have k2' : SqT K H15 pv (wsV ps) := by
      rcases k2 with h | h
      · exact .inl (by rcases h with h | ⟨ob, h⟩; exact .inl (s15 _ _ h); exact .inr ⟨ob, s15 _ _ h⟩)
      · exact .inr h
    refine ⟨_, rfl, pp, _, 1, _, rfl, rfl, SqT.of (s15 _ _ k1), rfl, ⟨0, p', pv, _, _, by decide, rfl, rfl, .inl ⟨.inl hp', k2'⟩, eqS_ws _⟩, _, rfl, ?_⟩
    refine ite2 (fun c => absurd c (by decide)) (fun _ => ?_)
    refine ⟨_, rfl, _, rfl, m, .ref p4, c, ps, ss, rfl, hm13.on (same_tups s15), gd, hn, hco, fun H16 pb xb s16 hpb hxb => ?_⟩
    have s1516 := s15.trans s16
    refine ⟨_, rfl, pp, _, 2, _, rfl, rfl, SqT.of (s1516 _ _ k1), rfl, ⟨45, pb, qv, _, _, by decide, rfl, rfl, .inl ⟨SqT.of hpb, SqT.of (s1516 _ _ k3)⟩, eqS_Ss ss _ _ _ (by omega) hxb (k4.on_ (same_tups s1516))⟩, _, rfl, ?_⟩
    refine ite2 (fun c => absurd c (by decide)) (fun _ => ?_)
    exact ⟨_, _, _, rfl, (s12.trans s13).trans s1516⟩
  · rintro σ H12 ⟨v3, v5, v6, rfl, s12⟩
    exact kq H12 (s011.trans s12)
end
end My
set_option Elab.async false
set_option linter.all false
set_option maxRecDepth 100000
set_option maxHeartbeats 4000000
/-! sorted of tuples whose first items are ints, all unlike -/
namespace My
open PySem PySem.Spec PyProof.Rows
def IsTf (h : Heap) (v : Value) (x : Int) : Prop := ∃ (a : Addr) (o : Obj) (t : Tok) (rest : List Value) (n : Nat), v = .ref a ∧ h.get? a = some o ∧ o.cls = .type "tuple" ∧ o.data = .seq (Value.int x t :: rest).toArray n
theorem IsTf.keeps {h h' : Heap} {v : Value} {x : Int} (p : IsTf h v x) (k : ∀ b o, h.get? b = some o → o.cls = .type "tuple" → h'.get? b = some o) : IsTf h' v x := by
  obtain ⟨a, o, t, rest, n, e, ho, hc, hd⟩ := p
  exact ⟨a, o, t, rest, n, e, k _ _ ho hc, hc, hd⟩
section
variable {prog : Program} {w : World} {A : Around} {E : Value → Shared → Prop} {s : Shared}
theorem tf_firsts {h : Heap} {k : Value → Int} : ∀ {vs : List Value}, (∀ v ∈ vs, IsTf h v (k v)) → ∃ fs : List Value, PySem.W.KatTups h vs fs ∧ fs.length = vs.length ∧ ∀ f ∈ fs, ∃ x t, f = Value.int x t
  | [], _ => ⟨[], PySem.W.KatTups.nil, rfl, fun _ hm => by simp at hm⟩
  | v :: vs, hp => by
    obtain ⟨fs, h1, h2, h3⟩ := tf_firsts (vs := vs) fun v' hm => hp v' (List.mem_cons_of_mem _ hm)
    obtain ⟨a, o, t, rest, n, e, ho, hc, hd⟩ := hp v (List.mem_cons_self ..)
    generalize hx : k v = x at hd
    subst e
    refine ⟨.int x t :: fs, PySem.W.KatTups.cons ho hc hd (by simp) h1, by rw [List.length_cons, List.length_cons, h2], fun f hm => ?_⟩
    rcases List.mem_cons.mp hm with rfl | hm
    · exact ⟨x, t, rfl⟩
    · exact h3 f hm
theorem swo_int (k : Value → Int) : SrtO.Swo fun v u => decide (k v < k u) := by
  refine ⟨fun x y h => ?_, fun x y z h1 h2 => ?_⟩
  · have a := of_decide_eq_true h
    exact decide_eq_false (by omega)
  · have a := of_decide_eq_false h1
    have b := of_decide_eq_false h2
    exact decide_eq_false (by omega)
theorem kat_self {b fin : Bool} {Q : Bool → Shared → Prop} (h : Q fin s) : ∀ (xs : List Value) (i : Nat), PySem.W.KatLex prog w A b fin Q (xs.zip xs) i s
  | [], i => PySem.W.kat_nil h
  | x :: r, i => PySem.W.kat_cons (SeqAt.EqAt.same x prog w _ _ (PySem.W.kat_yes (kat_self h r (i + 1))))
theorem tf_cmp {vs : List Value} {k : Value → Int} (hp : ∀ v ∈ vs, IsTf s.heap v (k v)) (hi : ∀ v ∈ vs, ∀ u ∈ vs, k v = k u → v = u) : SrtO.Cmp prog w A s (tuples' true) (fun p => p.1 ∈ vs) (SrtO.lt2 fun v u => decide (k v < k u)) := by
  intro p q hm hm'
  have h1 := hp _ hm
  have h2 := hp _ hm'
  have h3 := hi _ hm _ hm'
  show wpAny (model prog w) A (keyLt' (tuples' true) p.1 q.1) (fun r s' => s' = s ∧ r = decide (k p.1 < k q.1)) (fun _ _ => False) s
  generalize k p.1 = x at h1 h3 ⊢
  generalize k q.1 = x' at h2 h3 ⊢
  obtain ⟨a, o, t, rest, n, e, ho, hc, hd⟩ := h1
  obtain ⟨a', o', t', rest', n', e', ho', hc', hd'⟩ := h2
  rw [e, e'] at h3 ⊢
  refine PySem.W.kat_lt ho hd ho' hd' ?_
  by_cases ex : x = x'
  · have ea : a = a' := by have := h3 ex; cases this; rfl
    subst ea
    rw [ho] at ho'
    cases ho'
    rw [hd] at hd'
    have exs : (Value.int x t :: rest).toArray = (Value.int x' t' :: rest').toArray := by injection hd'
    rw [← exs]
    have e3 : decide ((Value.int x t :: rest).toArray.size < (Value.int x t :: rest).toArray.size) = false := decide_eq_false (Nat.lt_irrefl _)
    rw [e3]
    exact kat_self ⟨rfl, (decide_eq_false (by omega)).symm⟩ _ 0
  · show PySem.W.KatLex prog w A true _ _ ((Value.int x t, Value.int x' t') :: rest.zip rest') 0 s
    refine PySem.W.kat_cons (SeqAt.EqAt.int_int x t x' t' prog w _ _ ?_)
    refine PySem.W.kat_go (fun e1 => ?_) (fun e1 => ?_)
    · exact absurd (by simpa using e1) ex
    · exact PySem.W.kat_no (oneLt_int ⟨rfl, rfl⟩)
theorem tf_sortable {a : Addr} {vs : List Value} {k : Value → Int} (h0 : 0 < vs.length) (hp : ∀ v ∈ vs, IsTf s.heap v (k v)) (hi : ∀ v ∈ vs, ∀ u ∈ vs, k v = k u → v = u) (ha : ∀ o, s.heap.get? a = some o → o.cls ≠ .type "tuple") : SrtO.SortableO prog w A s a vs fun v u => decide (k v < k u) := by
  intro h' keep
  have hp' : ∀ v ∈ vs, IsTf h' v (k v) := fun v hm => (hp v hm).keeps fun b o e c => keep b o (fun z => by subst z; exact ha o e c) e
  obtain ⟨fs, h1, h2, h3⟩ := tf_firsts hp'
  refine ⟨tuples' true, fun Q E hq => ?_, tf_cmp hp' hi⟩
  refine PySem.W.kat_kind (T := .type "int") h1 (by omega) (fun f hm => ?_) (by rfl) ?_
  · obtain ⟨x, t, rfl⟩ := h3 f hm
    exact PySem.W.Looks.now
  · have e : (Value.type "int" != Value.type "tuple") = true := by first | decide +kernel | rfl | decide
    rw [e]
    exact hq
theorem sorted_tf {l : Addr} {vs : List Value} {k : Value → Int} {Q : Value → Shared → Prop} (hl : s.heap.IsList l vs.toArray) (hz : vs.length ≤ sizeLine) (hp : ∀ v ∈ vs, IsTf s.heap v (k v)) (hi : ∀ v ∈ vs, ∀ u ∈ vs, k v = k u → v = u)
    (h : ∀ (h' : Heap) (d : Addr) (out : List Value), SrtO.Srtd (fun v u => decide (k v < k u)) out → SrtO.Stb (fun v u => decide (k v < k u)) out vs → (∀ b o, s.heap.get? b = some o → h'.get? b = some o) → s.heap.objs.size ≤ d → (∃ n, h'.get? d = some (seqObj "list" out.toArray n)) → Q (.ref d) { s with heap := h' }) :
    wpAny (model prog w) A (call (.builtin "sorted") [.ref l]) Q E s := by
  refine SrtO.sorted_ord (swo_int k) hl hz (fun h2 h₁ a ha kk => ?_) fun out hs hb => ?_
  · refine tf_sortable (s := { s with heap := h₁ }) (by omega) (fun v hm => (hp v hm).keeps fun b o e _ => (kk b o e).2) hi fun o e => ?_
    have e' : some o = some (seqObj "list" vs.toArray 0) := e.symm.trans ha
    cases e'
    intro c
    exact absurd (Value.type.inj c) (by decide)
  · exact h _ _ out hs hb (fun b o e => sortedAll_old e) (Nat.le_succ _) (sortedAll_at s.heap vs out.toArray)
end
end My
namespace L2
open PySem PySem.Spec PyProof.Rows
/-- sorted(xs), xs a list of tuples, an int first, no two alike: a new list, rising -/
def rSortedF (K : PySem.W.Frag) : List V → Hp → VK → Prop := fun vs H Q => ∃ (a : Addr) (xs : List V) (k : V → Int), vs = [V.ref a] ∧ SqL K H a xs ∧ (∀ x ∈ xs, ∃ t rest, x = V.ref t ∧ H t = some (.tup (.int (k x) :: rest))) ∧ (∀ x ∈ xs, ∀ y ∈ xs, k x = k y → x = y) ∧
  ∀ ys p, ys.Perm xs → ys.Pairwise (fun x y => k x ≤ k y) → H p = none → Q (.ref p) (upd H p (.lst ys))
section
variable {X : Cx}
theorem cr_sortedF : CallR X (.builtin "sorted") (rSortedF X.K) := by
  intro pins s σ H vs us Q I r h
  obtain ⟨a, xs, k, rfl, hs, hx, hi, q⟩ := h
  obtain ⟨its, rv, hl, hz⟩ := I.list hs
  obtain ⟨u, rfl, ru⟩ := vals1 r
  obtain rfl : u = Value.ref a := ru
  obtain ⟨e1, e2⟩ := refs_back rv fun x m => by
    obtain ⟨t, _, e, _⟩ := hx x m
    exact ⟨t, e⟩
  refine My.sorted_tf (k := fun u => k (backV u)) hl.isList (by rw [← rv.length]; exact hz) (fun v hv => ?_) (fun v hv u hu e => ?_) fun h' d out h1 h2 kp hd hn => ?_
  · obtain ⟨t, rfl⟩ := e2 v hv
    have hm : V.ref t ∈ xs := by rw [e1]; exact List.mem_map.mpr ⟨_, hv, rfl⟩
    obtain ⟨t', rest, e, ht⟩ := hx _ hm
    cases e
    obtain ⟨_, its2, r2, o, ho, hc, n, hd⟩ := I.hok _ _ ht
    cases r2 with
    | cons ri rr =>
      obtain ⟨t1, rfl⟩ := ri
      exact ⟨t, o, t1, _, n, rfl, ho, hc, hd⟩
  · obtain ⟨t, rfl⟩ := e2 v hv
    obtain ⟨t', rfl⟩ := e2 u hu
    have hm : V.ref t ∈ xs := by rw [e1]; exact List.mem_map.mpr ⟨_, hv, rfl⟩
    have hm' : V.ref t' ∈ xs := by rw [e1]; exact List.mem_map.mpr ⟨_, hu, rfl⟩
    have := hi _ hm _ hm' e
    cases this
    rfl
  · have h3 : ∀ u ∈ out, ∃ a, u = Value.ref a := fun u hu => e2 u (h2.perm.mem_iff.mp hu)
    obtain ⟨n, hn⟩ := hn
    have hb : (out.map backV).Perm xs := by
      rw [e1]
      exact h2.perm.map backV
    refine ⟨.ref d, upd H d (.lst (out.map backV)), I.laid (t' := s.toks) kp hd ⟨?_, out, n, vals_back h3, hn⟩, rfl, q _ d hb (List.pairwise_map.mpr ?_) (I.hok.fresh hd)⟩
    · rw [hb.length_eq]
      exact hz
    · have := h1
      unfold SrtO.Srtd at this
      exact this.imp fun {x y} h => by have := of_decide_eq_false h; omega
end
end L2
set_option Elab.async false
set_option linter.all false
set_option maxRecDepth 100000
set_option maxHeartbeats 4000000
namespace My
open PySem L2 SS
def keyR (r : Rw) : Int := match r with
  | .int n :: _ => n
  | _ => 0
def keyV (H : Hp) (x : V) : Int := match x with
  | .ref p => match H p with
    | some (.tup r) => keyR r
    | _ => 0
  | _ => 0
theorem key_at {H : Hp} {r : Rw} {v : V} (h : AtRw H r v) : keyV H v = keyR r := by
  obtain ⟨p, rfl, h⟩ := h
  unfold keyV
  simp only [h]
theorem key_map {H : Hp} : ∀ {R : List Rw} {vs : List V}, AtL AtRw H R vs → vs.map (keyV H) = R.map keyR
  | [], vs, h => by
    have h' : vs = [] := h
    subst h'
    rfl
  | r :: R, vs, ⟨v, us, e, h1, h2⟩ => by
    subst e
    rw [List.map_cons, List.map_cons, key_at h1, key_map h2]
theorem atl_perm {H : Hp} {ys vs : List V} (p : ys.Perm vs) : ∀ {R : List Rw}, AtL AtRw H R vs → ∃ R', R'.Perm R ∧ AtL AtRw H R' ys := by
  induction p with
  | nil => intro R h; exact ⟨R, List.Perm.refl _, h⟩
  | @cons x l1 l2 _ ih =>
    intro R h
    cases R with
    | nil => cases h
    | cons r R =>
      obtain ⟨v, us, e, h1, h2⟩ := h
      cases e
      obtain ⟨R', p', h'⟩ := ih h2
      exact ⟨r :: R', p'.cons _, _, _, rfl, h1, h'⟩
  | @swap x y l =>
    intro R h
    cases R with
    | nil => cases h
    | cons r R =>
      obtain ⟨v, us, e, h1, h2⟩ := h
      cases e
      cases R with
      | nil => cases h2
      | cons r' R =>
        obtain ⟨v', us', e', h1', h2'⟩ := h2
        cases e'
        exact ⟨r' :: r :: R, List.Perm.swap _ _ _, _, _, rfl, h1', _, _, rfl, h1, h2'⟩
  | trans _ _ ih1 ih2 =>
    intro R h
    obtain ⟨R1, p1, h1⟩ := ih2 h
    obtain ⟨R2, p2, h2⟩ := ih1 h1
    exact ⟨R2, p2.trans p1, h2⟩
theorem map_inj {α : Type} {f : α → Int} : ∀ {l : List α}, (l.map f).Nodup → ∀ x ∈ l, ∀ y ∈ l, f x = f y → x = y
  | [], _, x, hx, _, _, _ => by cases hx
  | z :: r, nd, x, hx, y, hy, e => by
    rw [List.map_cons, List.nodup_cons] at nd
    rcases List.mem_cons.mp hx with rfl | hx
    · rcases List.mem_cons.mp hy with rfl | hy
      · rfl
      · exact absurd (List.mem_map.mpr ⟨y, hy, e.symm⟩) nd.1
    · rcases List.mem_cons.mp hy with ey | hy
      · exact absurd (List.mem_map.mpr ⟨x, hx, by rw [e, ey]⟩) nd.1
      · exact map_inj nd.2 x hx y hy e
theorem perm_sorted {α : Type} {f : α → Int} : ∀ {l m : List α}, l.Perm m → l.Pairwise (fun x y => f x ≤ f y) → m.Pairwise (fun x y => f x ≤ f y) → (m.map f).Nodup → l = m
  | [], m, p, _, _, _ => p.nil_eq
  | x :: l, m, p, h1, h2, nd => by
    cases m with
    | nil => exact absurd p.length_eq (by simp)
    | cons y m =>
      have hxm : x ∈ y :: m := p.mem_iff.mp List.mem_cons_self
      have hyl : y ∈ x :: l := p.mem_iff.mpr List.mem_cons_self
      have a1 : f y ≤ f x := by
        rcases List.mem_cons.mp hxm with e | h
        · rw [e]; exact Int.le_refl _
        · exact (List.pairwise_cons.mp h2).1 x h
      have a2 : f x ≤ f y := by
        rcases List.mem_cons.mp hyl with e | h
        · rw [e]; exact Int.le_refl _
        · exact (List.pairwise_cons.mp h1).1 y h
      have e : x = y := map_inj nd x hxm y List.mem_cons_self (by omega)
      subst e
      rw [perm_sorted p.cons_inv (List.pairwise_cons.mp h1).2 (List.pairwise_cons.mp h2).2 (by rw [List.map_cons, List.nodup_cons] at nd; exact nd.2)]
/-- the law's rows: an int first, flat, and no number twice -/
def okRw (r : Rw) : Prop := (∃ n rest, r = .int n :: rest) ∧ ∀ v ∈ r, flatV v = true
theorem dueR_ok (kn : List T) (a : Nat) (t : W8) : ∀ r ∈ dueR kn a t, okRw r ∧ keyR r = ((a : Nat) : Int) := fun r hr => by
  have two : ∀ {x y z : V} {s : String}, r ∈ [[iV a, S_ s, x, y]] → flatV x = true → flatV y = true → okRw r ∧ keyR r = ((a : Nat) : Int) := fun {x y z s} h fx fy => by
    have e : r = [iV a, S_ s, x, y] := by simpa using h
    subst e
    refine ⟨⟨⟨_, _, rfl⟩, fun v hv => ?_⟩, rfl⟩
    simp only [List.mem_cons, List.not_mem_nil, or_false] at hv
    rcases hv with rfl | rfl | rfl | rfl
    · rfl
    · rfl
    · exact fx
    · exact fy
  unfold dueR at hr
  split at hr
  · have e : r = [iV a, S_ "block", iV a] := by simpa using hr
    subst e
    refine ⟨⟨⟨_, _, rfl⟩, fun v hv => ?_⟩, rfl⟩
    simp only [List.mem_cons, List.not_mem_nil, or_false] at hv
    rcases hv with rfl | rfl | rfl <;> rfl
  · exact two (z := .non) hr rfl rfl
  · exact two (z := .non) hr rfl rfl
  · exact two (z := .non) hr rfl rfl
  · cases hr
theorem due8_keys (kn : List T) (c : Int) : ∀ (x : List W8) (a : Nat), (∀ r ∈ due8 kn c a x, okRw r ∧ ((a : Nat) : Int) ≤ keyR r) ∧ ((due8 kn c a x).map keyR).Nodup
  | [], _ => ⟨fun _ h => (by cases h), List.nodup_nil⟩
  | t :: r, a => by
    obtain ⟨h1, h2⟩ := due8_keys kn c r (a + 1)
    have e : due8 kn c a (t :: r) = (if t.2.1 = c then dueR kn a t else []) ++ due8 kn c (a + 1) r := rfl
    rw [e]
    have h3 : ∀ z ∈ (if t.2.1 = c then dueR kn a t else []), okRw z ∧ keyR z = ((a : Nat) : Int) := fun z hz => by
      split at hz
      · exact dueR_ok kn a t z hz
      · cases hz
    have h4 : (if t.2.1 = c then dueR kn a t else []).length ≤ 1 := by
      split
      · exact dueR_len kn a t
      · exact Nat.zero_le _
    generalize (if t.2.1 = c then dueR kn a t else []) = D at h3 h4 ⊢
    refine ⟨fun z hz => ?_, ?_⟩
    · rcases List.mem_append.mp hz with hz | hz
      · exact ⟨(h3 z hz).1, by rw [(h3 z hz).2]; exact Int.le_refl _⟩
      · exact ⟨(h1 z hz).1, by have := (h1 z hz).2; omega⟩
    · match D, h3, h4 with
      | [], _, _ => exact h2
      | [d], h3, _ =>
        show (keyR d :: (due8 kn c (a + 1) r).map keyR).Nodup
        refine List.nodup_cons.mpr ⟨fun hm => ?_, h2⟩
        obtain ⟨z, hz, e⟩ := List.mem_map.mp hm
        have q1 := (h1 z hz).2
        have q2 := (h3 d List.mem_cons_self).2
        omega
      | _ :: _ :: _, _, h4 => exact absurd h4 (by simp)
theorem eqS_rows {K : PySem.W.Frag} {H : Hp} : ∀ {R : List Rw} {us vs : List V}, (∀ r ∈ R, ∀ v ∈ r, flatV v = true) → AtL AtRw H R us → AtL AtRw H R vs → All2 (EqS K H 1) us vs
  | [], us, vs, _, h, k => by
    have h' : us = [] := h
    have k' : vs = [] := k
    subst h'
    subst k'
    exact .nil
  | r :: R, us, vs, f, ⟨v, xs, e1, ⟨p, e3, h1⟩, h2⟩, ⟨w, ys, e2, ⟨q, e4, k1⟩, k2⟩ => by
    subst e1
    subst e2
    subst e3
    subst e4
    refine .cons (.tup (.of h1) (.of k1) ?_) (eqS_rows (fun x hx => f x (List.mem_cons_of_mem _ hx)) h2 k2)
    have flat : ∀ (l : List V), (∀ v ∈ l, flatV v = true) → All2 (EqS K H 0) l l := fun l => by
      induction l with
      | nil => intro _; exact .nil
      | cons x l ih => intro hf; exact .cons ⟨rfl, hf x List.mem_cons_self⟩ (ih fun y hy => hf y (List.mem_cons_of_mem _ hy))
    exact flat r (f r List.mem_cons_self)
/-- what stands twice, put in order, is equal -/
theorem sorted_eq {K : PySem.W.Frag} {H : Hp} {R1 R2 : List Rw} {vs1 vs2 ys1 ys2 : List V} (h1 : AtL AtRw H R1 vs1) (h2 : AtL AtRw H R2 vs2) (pr : R1.Perm R2) (nd : (R2.map keyR).Nodup) (fl : ∀ r ∈ R2, ∀ v ∈ r, flatV v = true) (p1 : ys1.Perm vs1) (p2 : ys2.Perm vs2) (s1 : ys1.Pairwise fun x y => keyV H x ≤ keyV H y) (s2 : ys2.Pairwise fun x y => keyV H x ≤ keyV H y) : All2 (EqS K H 1) ys1 ys2 := by
  obtain ⟨A, pa, ha⟩ := atl_perm p1 h1
  obtain ⟨B, pb, hb⟩ := atl_perm p2 h2
  have sA : A.Pairwise fun x y => keyR x ≤ keyR y := by
    have := List.pairwise_map.mpr s1
    rw [key_map ha] at this
    exact List.pairwise_map.mp this
  have sB : B.Pairwise fun x y => keyR x ≤ keyR y := by
    have := List.pairwise_map.mpr s2
    rw [key_map hb] at this
    exact List.pairwise_map.mp this
  have ndB : (B.map keyR).Nodup := (pb.map keyR).nodup_iff.mpr nd
  have e : A = B := perm_sorted ((pa.trans pr).trans pb.symm) sA sB ndB
  subst e
  exact eqS_rows (fun r hr => fl r (pb.mem_iff.mp hr)) ha hb
/-- each row says what it is -/
def frm (r : Rw) : Prop := ∃ (x : V) (z : Str) (rest : List V), r = x :: .str z :: rest
theorem frm_1 {R : List Rw} {r : Rw} {x : V} {z : Str} {l : List V} (h : r ∈ (x :: .str z :: l) :: R) (k : r ∈ R → frm r) : frm r := by
  rcases List.mem_cons.mp h with rfl | h
  · exact ⟨_, _, _, rfl⟩
  · exact k h
theorem frm_E {sur : List (List T)} : ∀ (e : Ex) (a : Nat), fE e → ∀ r ∈ rwE sur e a, frm r
  | .num n, a, _, r, h => frm_1 h fun h => (by cases h)
  | .nam w, a, _, r, h => frm_1 h fun h => (by cases h)
  | .blk ps ss, a, _, r, h => frm_1 h fun h => (by cases h)
mutual
theorem frm_S {sur : List (List T)} : ∀ (s : St_) (a o : Nat), fS s → ∀ r ∈ rwS sur s a o, frm r
  | .set w e, a, o, f, r, h => by
    have h' : r ∈ [[iV a, S_ "beat"]] ++ rwE sur e (a + 1) ++ [[iV a, S_ "setname", iV (findN w sur).1, iV (findN w sur).2]] := h
    rcases List.mem_append.mp h' with h | h
    · rcases List.mem_append.mp h with h | h
      · exact frm_1 h fun h => (by cases h)
      · exact frm_E e _ f r h
    · exact frm_1 h fun h => (by cases h)
  | .tri x w y, a, o, f, r, h => by
    have h' : r ∈ [[iV a, S_ "beat"], [iV a, S_ "try", iV (o + 4 + (rwSs sur x (a + 1) (o + 2)).length)]] ++ rwSs sur x (a + 1) (o + 2) ++ [[iV a, S_ "untry"], [iV a, S_ "jump", iV (o + 5 + (rwSs sur x (a + 1) (o + 2)).length + (rwSs sur y (a + 1 + nSs x) (o + 5 + (rwSs sur x (a + 1) (o + 2)).length)).length)], [iV a, S_ "setname", iV (findN w sur).1, iV (findN w sur).2]] ++ rwSs sur y (a + 1 + nSs x) (o + 5 + (rwSs sur x (a + 1) (o + 2)).length) := h
    rcases List.mem_append.mp h' with h | h
    · rcases List.mem_append.mp h with h | h
      · rcases List.mem_append.mp h with h | h
        · exact frm_1 h fun h => frm_1 h fun h => (by cases h)
        · exact frm_Ss x _ _ f.1 r h
      · exact frm_1 h fun h => frm_1 h fun h => frm_1 h fun h => (by cases h)
    · exact frm_Ss y _ _ f.2 r h
theorem frm_Ss {sur : List (List T)} : ∀ (ss : Sts) (a o : Nat), fSs ss → ∀ r ∈ rwSs sur ss a o, frm r
  | .nil, a, o, _, r, h => by cases h
  | .cons s q, a, o, f, r, h => by
    rcases List.mem_append.mp (show r ∈ rwS sur s a o ++ rwSs sur q (a + nS s) (o + (rwS sur s a o).length) from h) with h | h
    · exact frm_S s _ _ f.1 r h
    · exact frm_Ss q _ _ f.2 r h
end
abbrev tail8 : List Rw := [[V.int (-1), S_ "push", .non], [V.int (-1), S_ "return"]]
theorem pick_all {sur : List (List T)} (ss : Sts) (a : Nat) (f : fSs ss) : ((rwSs sur ss a 0 ++ tail8).filter pickR).Perm (duSs sur ss a) := by
  rw [List.filter_append, fil_no (pick_no (by decide +kernel)), fil_no (pick_no (by decide +kernel))]
  show (_ ++ []).Perm _
  rw [List.append_nil]
  exact pick_Ss ss a 0 f
theorem frm_all {sur : List (List T)} (ss : Sts) (a : Nat) (f : fSs ss) : ∀ r ∈ rwSs sur ss a 0 ++ tail8, frm r := fun r h => by
  rcases List.mem_append.mp h with h | h
  · exact frm_Ss ss a 0 f r h
  · exact frm_1 h fun h => frm_1 h fun h => (by cases h)
/-- a code of the method, as rows_of and the law see it -/
structure Cd8 (m : Me) (c : Int) (n : Nat) (ps : List T) (ss : Sts) (sur : List (List T)) : Prop where
  cn : c + 1 = ((n : Nat) : Int)
  code : CodeOf m c ps ss
  su : SurOf (gM m) (namesM m) c sur
  n1 : n ≤ 1100
  sd : sdSs sur ss
  o : oSs ss ≤ 18
  ns : nSs ss ≤ 1000
  f : fSs ss
  due : due8 (namesM m) c 0 (wkM8 m) = duSs sur ss n
theorem cd8_all {m : Me} (d : Dr8 m) (hl : (wkM8 m).length ≤ 160) : ∀ c ∈ (-1 :: (blks (gM m)).map fun (i : Nat) => ((i : Nat) : Int)), ∃ n ps ss sur, Cd8 m c n ps ss sur := fun c hc => by
  rcases List.mem_cons.mp hc with rfl | hc
  · exact ⟨0, m.ps, m.ss, [namesM m], rfl, .inl ⟨rfl, rfl, rfl⟩, .top, by decide, d.sd, by have := d.o; omega, by have := d.n; omega, d.f, due_top d.gd d.f⟩
  · obtain ⟨k, hk, rfl⟩ := List.mem_map.mp hc
    have hk2 := (List.mem_filter.mp hk).2
    have hkl := List.mem_range.mp (List.mem_filter.mp hk).1
    rw [← wkM8_len] at hkl
    have ht : (wkM8 m)[k]? = some (wkM8 m)[k] := List.getElem?_eq_getElem hkl
    have hg := wkM8_at ht
    rw [hg] at hk2
    obtain ⟨ps, ss, e⟩ := blk_of (show isBlk ((wkM8 m)[k]).1 = true from hk2)
    have ok := ok_M d _ (List.getElem_mem hkl)
    have hh := ok.hl
    have hn := ok.n
    have hsd := ok.sd
    have hf := ok.ok.f
    obtain ⟨su, sc⟩ := sur_M d.gd ht
    have hdue := due_blk d.gd d.f (kn := namesM m) ht e
    rw [e] at hg hh hn hsd hf
    have hh' : _ + (2 * (1 + oSs ss) + 1) ≤ 30 := hh
    have hn' : 1 + nSs ss ≤ 1000 := hn
    exact ⟨k + 1, ps, ss, ps :: ((wkM8 m)[k].2.2 ++ [namesM m]), by omega, .inr ⟨k, _, rfl, hg⟩, .blk hg sc su, by omega, hsd.2.2, by omega, by omega, hf, hdue⟩
theorem atl_mem {H : Hp} {F : List Rw} {vs : List V} (h : AtL AtRw H F vs) {x : V} (hx : x ∈ vs) : ∃ r ∈ F, AtRw H r x := by
  obtain ⟨j, hj, e⟩ := List.getElem_of_mem hx
  obtain ⟨r, h1, h2⟩ := h.get (show vs[j]? = some x by rw [List.getElem?_eq_getElem hj, e])
  exact ⟨r, List.mem_of_getElem? h1, h2⟩
theorem key_facts {H : Hp} {F : List Rw} {vs : List V} (h : AtL AtRw H F vs) (ok : ∀ r ∈ F, okRw r) (nd : (F.map keyR).Nodup) : (∀ x ∈ vs, ∃ (t : Addr) (rest : List V), x = V.ref t ∧ H t = some (.tup (.int (keyV H x) :: rest))) ∧ (∀ x ∈ vs, ∀ y ∈ vs, keyV H x = keyV H y → x = y) := by
  refine ⟨fun x hx => ?_, map_inj (by rw [key_map h]; exact nd)⟩
  obtain ⟨r, hr, hx⟩ := atl_mem h hx
  obtain ⟨⟨n, rest, rfl⟩, _⟩ := ok r hr
  have e := key_at hx
  obtain ⟨p, rfl, hp⟩ := hx
  rw [e]
  exact ⟨p, rest, rfl, hp⟩
theorem key_pw {H H' : Hp} (s : Same H H') {F : List Rw} {vs ys : List V} (h : AtL AtRw H F vs) (p : ys.Perm vs) (pw : ys.Pairwise fun x y => keyV H x ≤ keyV H y) : ys.Pairwise fun x y => keyV H' x ≤ keyV H' y := by
  have key : ∀ x ∈ ys, keyV H' x = keyV H x := fun x hx => by
    obtain ⟨r, _, hr⟩ := atl_mem h (p.mem_iff.mp hx)
    rw [key_at hr, key_at (hr.on (same_tups s))]
  have e : ys.map (keyV H') = ys.map (keyV H) := List.map_congr_left key
  have := List.pairwise_map.mpr pw
  rw [← e] at this
  exact List.pairwise_map.mp this
end My
set_option Elab.async false
set_option linter.all false
set_option maxRecDepth 100000
set_option maxHeartbeats 8000000
namespace My
open PySem L2 SS
theorem mem_addW8 {w : T} : ∀ (ws acc : List T), w ∈ addW acc ws ↔ w ∈ acc ∨ w ∈ ws
  | [], acc => by show w ∈ acc ↔ _; simp
  | z :: r, acc => by
    have e : addW acc (z :: r) = addW (if z ∈ acc then acc else acc ++ [z]) r := rfl
    rw [e, mem_addW8 r]
    by_cases c : z ∈ acc
    · rw [if_pos c, List.mem_cons]
      constructor
      · rintro (h | h)
        · exact .inl h
        · exact .inr (.inr h)
      · rintro (h | h | h)
        · exact .inl h
        · rw [h]; exact .inl c
        · exact .inr h
    · rw [if_neg c, List.mem_append, List.mem_cons, List.mem_cons]
      constructor
      · rintro ((h | h | h) | h)
        · exact .inl h
        · exact .inr (.inl h)
        · cases h
        · exact .inr (.inr h)
      · rintro (h | h | h)
        · exact .inl (.inl h)
        · exact .inl (.inr (.inl h))
        · exact .inr h
section
variable {P : Program} {w : World} {K : PySem.W.Frag} {mg : Str → Option Value} {base : Heap}
def spLaw (K : PySem.W.Frag) : Sp := fun vs H Q _ => ∃ (a : Addr) (ns : List Int), vs = [.ref a] ∧ SqL K H a (ns.map V.int) ∧ ns.length ≤ 63 ∧ ∀ H', Q (.bl true) H'
theorem scLw : FnScope ["_law_script", "_law_deck_here", "_law_words_here", "_law_given", "_law_statements_here", "_law_method", "_law_row", "_law_at", "_law_part", "_law_known", "_law_code", "_law_found", "_law_word_here", "_law_line"] ["_law_script"] (defScope s_law) := ⟨rfl, rfl, rfl, by decide +kernel, rfl, by decide +kernel, by decide +kernel⟩
abbrev ttPk (K : PySem.W.Frag) (i : Nat) : TT := tTest (tOp (rIn K false) (tOp (rIxT K) (tVar i) (tC (V.int 1))) (tLst (tCons (tC (V.str (Str.ofString "name"))) (tCons (tC (V.str (Str.ofString "setname"))) (tCons (tC (V.str (Str.ofString "block"))) tNil)))))
theorem ok_law {f : Addr} {fd : FuncData} (F : Fun K "law" "law" s_law f fd) (b_tuple : mg "tuple" = none) (b_list : mg "list" = none) (b_sorted : mg "sorted" = none)
    (DK : C0 P w K mg base 1 "_law_deck" (spDk K)) (WS : C0 P w K mg base 3 "_law_words" spWs) (DR : C0 P w K mg base 1 "_law_draw" spDr) (ST : C0 P w K mg base 40 "_law_statements" (spSs8 12)) (WK : C0 P w K mg base 42 "_law_walk" (spW8 40)) (OR : C0 P w K mg base 2 "_law_order" spOr) (TO : C0 P w K mg base 6 "_law_told" spTo)
    (CO : C0 P w K mg base 4 "codes_of" spCo) (RO : C0 P w K mg base 167 "rows_of" spRoG) (DU : C0 P w K mg base 2 "_law_due" spDu) :
    FnOk P w K mg base CX0 230 f fd ["_law_script"] (spLaw K) := by
  refine F.ok scLw (fun vs H Q E h => ?_) (fun cdv A outer s H vs Q E hr h => ?_)
  · obtain ⟨a, ns, rfl, _⟩ := h
    rfl
  obtain ⟨a, ns, rfl, hS, hns, kq⟩ := h
  refine ⟨_, pss_cons (ps_set (i := 1) scLw.nd rfl (Or.inl rfl) (pe_cc DK hr (by omega) pass0 (pa_cons (pv 0) pa_nil))) <|
    pss_cons (ps_set (i := 2) scLw.nd rfl (Or.inl rfl) (pe_cc WS hr (by omega) pass0 (pa_cons (pv 1) (pa_cons pe_int pa_nil)))) <|
    pss_cons (ps_set (i := 3) scLw.nd rfl (Or.inr rfl) (pe_slice sl_list (pv 2) po_none (po_some (pe_cc DR hr (by omega) pass0 (pa_cons (pv 1) (pa_cons pe_int pa_nil)))))) <|
    pss_cons (ps_set (i := 4) scLw.nd rfl (Or.inl rfl) (pe_cc ST hr (by omega) pass0 (pa_cons (pv 1) (pa_cons (pv 2) (pa_cons (pe_callTy call_list_of (by rfl) b_list (by decide +kernel) (pa_cons (pv 3) pa_nil)) (pa_cons (pe_lst (pa_cons pe_int (pa_cons (pe_cc DR hr (by omega) pass0 (pa_cons (pv 1) (pa_cons pe_int pa_nil))) (pa_cons pe_int pa_nil)))) (pa_cons (pe_lst pa_nil) pa_nil))))))) <|
    pss_cons (ps_set (i := 5) scLw.nd rfl (Or.inl rfl) (pe_tup (pa_cons pe_str (pa_cons (pe_ix (r := rIxL K) ix_list (pv 2) pe_int (fun _ _ => rfl)) (pa_cons (pe_callTy call_tuple_of (by rfl) b_tuple (by decide +kernel) (pa_cons (pv 3) pa_nil)) (pa_cons (pv 4) pa_nil)))))) <|
    pss_cons (ps_set (i := 6) scLw.nd rfl (Or.inl rfl) (pe_lst pa_nil)) <|
    pss_cons (ps_set (i := 7) scLw.nd rfl (Or.inl rfl) pe_int) <|
    pss_cons (ps_for PassesOwn.never rfl (pi_tup (pv 4)) (pg_name (i := 8) scLw.nd rfl (Or.inl rfl))
      (pss_one (ps_set (i := 7) scLw.nd rfl (Or.inl rfl) (pe_cc WK hr (by omega) pass0 (pa_cons (pv 8) (pa_cons (pv 7) (pa_cons (pe_tup (pa_cons (pe_un un_neg pe_int) (pa_cons (pe_lst pa_nil) pa_nil))) (pa_cons (pv 6) pa_nil)))))))) <|
    pss_cons (ps_set (i := 9) scLw.nd rfl (Or.inl rfl) (pe_op op_cat (pv 3) (pe_lc (own := [("_law_word_here", 12)]) (g := (gName 12)) (tt := (tTest (tOp (rIn K true) (tVar 12) (tVar 3)))) rfl scLw.nd (pi_list (pe_cc OR hr (by omega) pass0 (pa_cons (pv 6) pa_nil))) (blkOk_by (own := [("_law_word_here", 12)]) (N := ["_law_script", "_law_deck_here", "_law_words_here", "_law_given", "_law_statements_here", "_law_method", "_law_row", "_law_at", "_law_part", "_law_known", "_law_code", "_law_found", "_law_word_here", "_law_line"]) (sc := defScope s_law) (by decide +kernel)) (fun _ _ _ _ _ => (pg_name (i := 12) scLw.nd rfl (Or.inl rfl))) (fun _ _ _ _ _ => pts_one (pt_cmpR op_notIn_seq (pv 12) (pv 3) (by rfl))) (fun _ _ _ _ _ => (pv 12))))) <|
    pss_cons (ps_if (pt_not (pt_val (pe_cc TO hr (by omega) pass0 (pa_cons (pv 5) (pa_cons (pv 6) (pa_cons (pv 9) pa_nil))))))
      (pss_one (ps_ret pe_bl))
      (pss_nil)) <|
    pss_cons (ps_for PassesOwn.never rfl (pi_tup (pe_cc CO hr (by omega) pass0 (pa_cons (pv 5) pa_nil))) (pg_name (i := 10) scLw.nd rfl (Or.inl rfl))
      (pss_cons (ps_setLc (i := 11) (own := [("_law_line", 13)]) (g := (gName 13)) (tt := (ttPk K 13)) (by rfl) scLw.nd rfl rfl (sw_true rfl rfl rfl (by decide +kernel)) (pi_tup (pe_cc RO hr (by omega) pass0 (pa_cons (pv 5) (pa_cons (pv 10) pa_nil)))) (blkOk_by (own := [("_law_line", 13)]) (N := ["_law_script", "_law_deck_here", "_law_words_here", "_law_given", "_law_statements_here", "_law_method", "_law_row", "_law_at", "_law_part", "_law_known", "_law_code", "_law_found", "_law_word_here", "_law_line"]) (sc := defScope s_law) (by decide +kernel)) (fun _ _ _ _ _ => (pg_name (i := 13) scLw.nd rfl (Or.inl rfl))) (fun _ _ _ _ _ => pts_one (pt_cmpR op_in_seq (pe_ix (r := rIxT K) ix_tup (pv 13) pe_int (fun _ _ => rfl)) (pe_lst (pa_cons pe_str (pa_cons pe_str (pa_cons pe_str pa_nil)))) (by rfl))) (fun _ _ _ _ _ => (pv 13))) <|
      pss_one (ps_if (pt_cmpR (op_neS hr.units) (pe_callB cr_sortedF (by rfl) b_sorted PyProof.Rows.boot_sorted (pa_cons (pv 11) pa_nil)) (pe_callB cr_sortedF (by rfl) b_sorted PyProof.Rows.boot_sorted (pa_cons (pe_cc DU hr (by omega) pass0 (pa_cons (pv 6) (pa_cons (pv 10) (pa_cons (pv 9) pa_nil)))) pa_nil)) (nomark _))
        (pss_one (ps_ret pe_bl))
        (pss_nil)))) <|
    pss_one (ps_ret pe_bl), ?_⟩
  refine ⟨_, rfl, a, ns, rfl, hS, hns, fun H1 p l xs s1 hp hl d1 => ?_⟩
  refine ⟨_, rfl, p, l, 0, xs, 6, rfl, by decide, d1, by decide, fun ws wl H2 a2 xs2 s2 d2 a21 a22 hwl hw l7 wn lo sh => ?_⟩
  refine ⟨_, rfl, _, rfl, p, l, a2, xs2, 4, rfl, by decide, by decide, d2, by omega, fun n H3 xs3 s3 fr3 d3 n0 n4 => ?_⟩
  obtain ⟨g, rfl⟩ : ∃ g : Nat, n = (g : Nat) := ⟨n.toNat, by omega⟩
  have nwl := d1.ne hwl
  have hw3 := s3 _ _ nwl.1 nwl.2 hw
  refine ⟨_, rfl, wl, _, rfl, SqL.of hw3, fun r1 hr1 => ?_⟩
  rw [cut_ws]
  have hksub : ∀ w ∈ ws.take g, w ∈ ws := fun w h => List.mem_of_mem_take h
  have hkl : (ws.take g).length ≤ 3 := by rw [List.length_take]; omega
  generalize ws.take g = ks at hksub hkl ⊢
  have t1 := same_new hr1 (.lst (wsV ks))
  have g1 : upd H3 r1 (.lst (wsV ks)) r1 = some (.lst (wsV ks)) := upd_same
  have n1 := d3.ne hr1
  generalize upd H3 r1 (.lst (wsV ks)) = H4 at t1 g1 ⊢
  refine ⟨_, rfl, _, rfl, _, rfl, r1, _, rfl, .inl (SqL.of g1), fun kl hkl0 => ?_⟩
  have d4 := d3.same t1
  have w4 := t1 _ _ hw3
  have n2 := d4.ne hkl0
  have n2w : wl ≠ kl := fun z => by rw [← z, w4] at hkl0; cases hkl0
  have n2r : r1 ≠ kl := fun z => by rw [← z, g1] at hkl0; cases hkl0
  have t2 := same_new hkl0 (.lst (wsV ks))
  have g2 : upd H4 kl (.lst (wsV ks)) kl = some (.lst (wsV ks)) := upd_same
  generalize upd H4 kl (.lst (wsV ks)) = H5 at t2 g2 ⊢
  have d5 := d4.same t2
  refine ⟨_, rfl, p, l, a2 + 1, xs3, 5, rfl, by decide, by decide, d5, by omega, fun no H6 xs6 s6 fr6 d6 no0 no5 => ⟨by show 3 ≤ sizeLine; decide, fun ll hll => ⟨by show 0 ≤ sizeLine; decide, fun el hel => ?_⟩⟩⟩
  obtain ⟨o, rfl⟩ : ∃ g : Nat, no = (g : Nat) := ⟨no.toNat, by omega⟩
  have w6 := s6 _ _ nwl.1 nwl.2 (t2 _ _ w4)
  have r6 := s6 _ _ n1.1 n1.2 (t2 _ _ g1)
  have k6 := s6 _ _ n2.1 n2.2 g2
  have n3 := d6.ne hll
  have n3w : wl ≠ ll := fun z => by rw [← z, w6] at hll; cases hll
  have n3r : r1 ≠ ll := fun z => by rw [← z, r6] at hll; cases hll
  have n3k : kl ≠ ll := fun z => by rw [← z, k6] at hll; cases hll
  have t3 := same_new hll (.lst [V.int 40, V.int (o : Nat), V.int 12])
  have g3 : upd H6 ll (.lst [V.int 40, V.int (o : Nat), V.int 12]) ll = some (.lst [V.int 40, V.int (o : Nat), V.int 12]) := upd_same
  generalize upd H6 ll (.lst [V.int 40, V.int (o : Nat), V.int 12]) = H7 at t3 g3 hel ⊢
  have d7 := d6.same t3
  have n4' := d7.ne hel
  have n4k : kl ≠ el := fun z => by rw [← z, t3 _ _ k6] at hel; cases hel
  have n4l : ll ≠ el := fun z => by rw [← z, g3] at hel; cases hel
  have t4 := same_new hel (.lst [])
  have g4 : upd H7 el (.lst []) el = some (.lst []) := upd_same
  generalize upd H7 el (.lst []) = H8 at t4 g4 ⊢
  have ev : V58 H8 p l wl ll kl ws (a2 + 1 + 1) xs6 40 o 12 ks := ⟨d7.same t4, t4 _ _ (t3 _ _ w6), l7, wn, lo, sh, hksub, t4 _ _ g3, t4 _ _ (t3 _ _ k6), by simp [nwl.1, nwl.2, n3w, n2w], by simp [n3.1, n3.2], by simp [n2.1, n2.2, n3k]⟩
  have r8 : H8 r1 = some (.lst (wsV ks)) := t4 _ _ (t3 _ _ r6)
  have nr : r1 ∉ [p, l, ll, kl] := by simp [n1.1, n1.2, n3r, n2r]
  have nel : el ∉ [p, l, ll, kl] := by simp [n4'.1, n4'.2, Ne.symm n4l, Ne.symm n4k]
  refine ⟨p, l, wl, ll, kl, ws, a2 + 1 + 1, xs6, 40, o, 12, ks, [], .ref el, rfl, by decide, ev, ⟨el, [], rfl, nel, g4, rfl⟩, ⟨fun _ h => (by cases h), by decide, by omega, by omega, by omega⟩, fun ss q us H9 a9 xs9 b9 ks9 sx9 ev9 _ _ hq hat gs => ?_⟩
  have wl9 := ev9.w
  have r9 := sx9 _ _ nr r8
  obtain ⟨w5, hw5⟩ : ∃ w5, ws[5]? = some w5 := ⟨ws[5], List.getElem?_eq_getElem (by omega)⟩
  have hw5' : L2.atI (wsV ws) 5 = some (.str (mk w5)) := by
    refine atI_nat (j := 5) ?_
    unfold wsV
    rw [List.getElem?_map, hw5]
    rfl
  have dm : Dr8 ⟨w5, ks, ss⟩ := by
    have hsd : sdSs [namesM ⟨w5, ks, ss⟩] ss := gs.sd _ fun w hw => by
      unfold namesM
      exact (mem_addW8 _ _).mpr (gs.new w hw)
    have h1 := gs.n
    have h2 := gs.o
    exact ⟨⟨by show ks.length ≤ 10; omega, sd_gdSs ss hsd, by show oSs ss ≤ 18; omega⟩, hsd, by show nSs ss ≤ 160; omega, h2, gs.f⟩
  clear ev ev9 sx9 gs d7 t4 t3 t2 d6 d5
  refine ⟨_, rfl, wl, _, 5, _, rfl, rfl, SqL.of wl9, hw5', _, rfl, r1, _, rfl, .inl ⟨SqL.of r9, fun tp htp => ?_⟩⟩
  have s9 := same_new htp (.tup (wsV ks))
  have f9 : upd H9 tp (.tup (wsV ks)) tp = some (.tup (wsV ks)) := upd_same
  have rA := s9 _ _ r9
  have qA := s9 _ _ hq
  have hatA := hat.on_ (same_tups s9)
  generalize upd H9 tp (.tup (wsV ks)) = HA at s9 f9 rA qA hatA ⊢
  refine ⟨_, rfl, by show 4 ≤ sizeLine; decide, fun tm htm => ?_⟩
  have s10 := same_new htm (.tup [S_ "method", V.str (mk w5), V.ref tp, V.ref q])
  have hm : AtM (upd HA tm (.tup [S_ "method", V.str (mk w5), V.ref tp, V.ref q])) ⟨w5, ks, ss⟩ (.ref tm) := ⟨tm, _, q, us, rfl, upd_same, ⟨tp, rfl, s10 _ _ f9⟩, s10 _ _ qA, hatA.on_ (same_tups s10)⟩
  have r10 := s10 _ _ rA
  have q10 := s10 _ _ qA
  have hat10 := hatA.on_ (same_tups s10)
  generalize upd HA tm (.tup [S_ "method", V.str (mk w5), V.ref tp, V.ref q]) = H10 at hm r10 q10 hat10 ⊢
  have dgd := dm.gd
  have hn160 : nSs ss ≤ 160 := dm.n
  refine ⟨by show 0 ≤ sizeLine; decide, fun rl hrl => ?_⟩
  have s11 := same_new hrl (.lst [])
  have f11 : upd H10 rl (.lst []) rl = some (.lst []) := upd_same
  have hm11 := hm.on (same_tups s11)
  have r11 := s11 _ _ r10
  have q11 := s11 _ _ q10
  have hat11 := hat10.on_ (same_tups s11)
  generalize upd H10 rl (.lst []) = H11 at s11 f11 hm11 r11 q11 hat11 ⊢
  refine ⟨_, rfl, q, rfl, ⟨_, SqT.of q11⟩, ?_⟩
  have haty := atl_stl hat11
  have hyl := haty.len
  have hstn := stl_n ss
  refine for_tup (xs := us) (fun i σ H' => ∃ (us1 : List V) (v8 : Option V), σ = [some (.ref a), some (.ref p), some (.ref wl), some (.ref r1), some (.ref q), some (.ref tm), some (.ref rl), some (.int (((((stl ss).take i).map nN).sum : Nat) : Int)), v8, none, none, none, none, none] ∧ SX [rl] H11 H' ∧ H' rl = some (.lst us1) ∧ AtL (At8 [rl]) H' (wk8L 40 ((stl ss).take i) (-1) [] 0) us1 ∧ us1.length = (((stl ss).take i).map nN).sum)
    ⟨[], none, rfl, SX.refl, f11, rfl, rfl⟩ (fun i σ H' _ ⟨us1, v8, _, s', f', _, _⟩ => SqT.of ((sx_tups8 s' f11) _ _ q11)) ?_ ?_
  · rintro i u σ H12 hu ⟨us1, v8, rfl, s12, f12, at12, l12⟩
    have t12 := sx_tups8 s12 f11
    obtain ⟨x, hx, hxa⟩ := haty.get hu
    have hxm := List.mem_of_getElem? hx
    have hle := sum_take_le (stl ss) hx
    have h40 := stl_408 dgd x hxm
    have et : (stl ss).take (i + 1) = (stl ss).take i ++ [x] := by rw [List.take_add_one, hx]; rfl
    have hsum : (((stl ss).take (i + 1)).map nN).sum = (((stl ss).take i).map nN).sum + nN x := by rw [et, List.map_append, List.sum_append]; simp
    have hwl := wk8L_len (h := 40) (c := -1) (ar := []) ((stl ss).take i) 0 fun q hq => stl_408 dgd q (List.mem_of_mem_take hq)
    refine ⟨_, rfl, _, rfl, _, rfl, by show 0 ≤ sizeLine; decide, fun e2 he2 => ⟨by show 2 ≤ sizeLine; decide, fun pl hpl => ?_⟩⟩
    have s13 := same_new he2 (.lst [])
    have f13 : upd H12 e2 (.lst []) e2 = some (.lst []) := upd_same
    have ne2 : e2 ∉ [rl] := by
      simp only [List.mem_cons, List.not_mem_nil, or_false]
      exact fun z => by rw [z, f12] at he2; cases he2
    generalize upd H12 e2 (.lst []) = H13 at s13 f13 hpl ⊢
    have s14 := same_new hpl (.tup [V.int (-1), V.ref e2])
    have f14 : upd H13 pl (.tup [V.int (-1), V.ref e2]) pl = some (.tup [V.int (-1), V.ref e2]) := upd_same
    generalize upd H13 pl (.tup [V.int (-1), V.ref e2]) = H14 at s14 f14 ⊢
    have s24 := s13.trans s14
    refine ⟨_, rfl, x, u, (((stl ss).take i).map nN).sum, pl, -1, [], .ref e2, rl, _, rfl, f14, (hxa.on t12).on (same_tups s24), stl_gd ss dgd.ss x hxm, fN_stl ss dm.f x hxm, h40, by omega, ⟨e2, [], rfl, ne2, s14 _ _ f13, rfl⟩, by decide, s24 _ _ f12, by omega, fun H15 us2 s15 f15 at15 l15 => ?_⟩
    have s34 : SX [rl] H12 H15 := (SX.same s24).trans s15
    refine ⟨us1 ++ us2, some u, ?_, s12.trans s34, f15, ?_, by rw [List.length_append, l12, l15, hsum]⟩
    · rw [hsum]
      rfl
    · rw [et, wk8L_snoc, hwl, Nat.zero_add]
      have t15 := sx_tups8 s34 f12
      exact atl_app (AtL.onR (fun _ _ z => At8.sx s34 t15 z) at12) at15
  rintro σ H12 ⟨us1, v8, rfl, s12, f12, at12, l12⟩
  rw [hyl, List.take_length] at at12 l12
  rw [hyl, List.take_length]
  have t12 := sx_tups8 s12 f11
  have hm12 := hm11.on t12
  have nrl : r1 ∉ [rl] := by
    simp only [List.mem_cons, List.not_mem_nil, or_false]
    exact fun z => by rw [← z, r10] at hrl; cases hrl
  have r12 := s12 _ _ nrl r11
  have at0 : AtL (At8 []) H12 (wkM8 ⟨w5, ks, ss⟩) us1 := AtL.impR (fun _ _ ⟨p, vn, va, e, h1, h2, h3⟩ => ⟨p, vn, va, e, h1, h2, h3.mono fun _ _ _ => by simp⟩) at12
  have okM := ok_M dm
  have lwk : (wkM8 ⟨w5, ks, ss⟩).length ≤ 160 := by
    have e := at0.len
    rw [l12, hstn] at e
    omega
  clear at12 hat10 hat11 haty
  refine ⟨_, rfl, _, rfl, rl, us1, wkM8 ⟨w5, ks, ss⟩, rfl, f12, at0, fun t ht => (okM t ht).ok, by omega, fun H13 oq s13 hoq hoq2 => ?_⟩
  generalize hord : (wkM8 ⟨w5, ks, ss⟩).foldl orF [] = ord at hoq2
  have hol : ord.length ≤ 160 := by
    rw [← hord]
    have h1 := or_len (wkM8 ⟨w5, ks, ss⟩) []
    have h0 : ([] : List T).length = 0 := rfl
    omega
  have r13 := s13 _ _ r12
  refine ⟨oq, rfl, ⟨_, SqL.of hoq2⟩, fun D0 hD0 => ?_⟩
  refine lc_list (xs := wsV ord) (fun i H' => Same H13 H' ∧ H' D0 = some (.lst (wsV ((ord.take i).filter fun w => !decide (w ∈ ks))))) ⟨same_new hD0 _, upd_same⟩ (fun i H' _ ⟨s', _⟩ => SqL.of (s' _ _ hoq2)) ?_ ?_
  · rintro i u H14 hu ⟨s14, f14⟩
    unfold wsV at hu
    rw [List.getElem?_map] at hu
    cases hw : ord[i]? with
    | none => rw [hw] at hu; cases hu
    | some wd =>
    rw [hw] at hu
    cases hu
    refine ⟨rfl, ?_⟩
    refine ⟨_, rfl, _, rfl, r1, wsV ks, rfl, .inl (SqL.of (s14 _ _ r13)), rfl, flat_ws ks, _, rfl, ?_⟩
    rw [in_ws]
    have hl : ((ord.take i).filter fun w => !decide (w ∈ ks)).length ≤ i := Nat.le_trans (List.length_filter_le _ _) (List.length_take_le _ _)
    have hi := (List.getElem?_eq_some_iff.mp hw).1
    have et : (ord.take (i + 1)).filter (fun w => !decide (w ∈ ks)) = (ord.take i).filter (fun w => !decide (w ∈ ks)) ++ (if wd ∈ ks then [] else [wd]) := by
      rw [List.take_add_one, hw, List.filter_append]
      by_cases c : wd ∈ ks
      · rw [if_pos c]
        congr 1
        show List.filter _ [wd] = []
        exact List.filter_cons_of_neg (by simpa using c)
      · rw [if_neg c]
        congr 1
        show List.filter _ [wd] = [wd]
        exact List.filter_cons_of_pos (by simpa using c)
    refine ite2 (fun c => ?_) (fun c => ?_)
    · have c' : wd ∉ ks := by simpa using c
      rw [if_neg c'] at et
      refine ⟨_, rfl, _, f14, by rw [wsV_len, sizeLine_eq]; omega, fun b o hb => by rw [upd_ne (ne_of_none hb hD0)]; exact s14 _ _ hb, ?_⟩
      rw [upd_same, et]
      unfold wsV
      rw [List.map_append]
      rfl
    · have c' : wd ∈ ks := by simpa using c
      rw [if_pos c', List.append_nil] at et
      exact ⟨s14, by rw [et]; exact f14⟩
  rintro H14 ⟨s14, f14⟩
  rw [wsV_len, List.take_length] at f14
  have hfl : (ord.filter fun w => !decide (w ∈ ks)).length ≤ 160 := Nat.le_trans (List.length_filter_le _ _) hol
  refine ⟨r1, D0, _, _, rfl, rfl, s14 _ _ r13, f14, by rw [wsV_len, wsV_len, sizeLine_eq]; omega, fun kn hkn0 => ?_⟩
  have ekn : wsV ks ++ wsV (ord.filter fun w => !decide (w ∈ ks)) = wsV (namesM ⟨w5, ks, ss⟩) := by
    have h := known_is (m := ⟨w5, ks, ss⟩) dgd
    rw [hord] at h
    rw [← h]
    unfold wsV
    rw [List.map_append]
  rw [ekn]
  have s15 := same_new hkn0 (.lst (wsV (namesM ⟨w5, ks, ss⟩)))
  have hkn : upd H14 kn (.lst (wsV (namesM ⟨w5, ks, ss⟩))) kn = some (.lst (wsV (namesM ⟨w5, ks, ss⟩))) := upd_same
  have s25 := (s13.trans s14).trans s15
  generalize upd H14 kn (.lst (wsV (namesM ⟨w5, ks, ss⟩))) = H15 at hkn s25 ⊢
  have hm15 := hm12.on (same_tups s25)
  have rl15 := s25 _ _ f12
  have at15 : AtL (At8 []) H15 (wkM8 ⟨w5, ks, ss⟩) us1 := AtL.onR (fun _ _ z => At8.sx (SX.same s25) (same_tups s25) z) at0
  refine ⟨_, rfl, _, rfl, _, rfl, ⟨w5, ks, ss⟩, .ref tm, rl, kn, us1, rfl, hm15, dm, rl15, at15, hkn, fun H16 s16 => ⟨_, rfl, ?_⟩⟩
  refine iteF ?_
  have hm16 := hm15.on (same_tups s16)
  have rl16 := s16 _ _ rl15
  have kn16 := s16 _ _ hkn
  have at16 : AtL (At8 []) H16 (wkM8 ⟨w5, ks, ss⟩) us1 := AtL.onR (fun _ _ z => At8.sx (SX.same s16) (same_tups s16) z) at15
  clear at15 hm15 at0 hm12 hm11 hm
  have hns : nSs ss ≤ 1100 := by omega
  have hcd := cd8_all dm lwk
  refine ⟨_, rfl, ⟨w5, ks, ss⟩, .ref tm, rfl, hm16, dgd, hns, fun H17 pc s17 hpc => ?_⟩
  refine ⟨pc, rfl, ⟨_, SqT.of hpc⟩, ?_⟩
  refine for_tup (xs := (-1 :: (blks (gM ⟨w5, ks, ss⟩)).map fun (i : Nat) => ((i : Nat) : Int)).map V.int) (fun i σ H' => ∃ (v8 v10 v11 : Option V), σ = [some (.ref a), some (.ref p), some (.ref wl), some (.ref r1), some (.ref q), some (.ref tm), some (.ref rl), some (.int ((((stl ss).map nN).sum : Nat) : Int)), v8, some (.ref kn), v10, v11, none, none] ∧ Same H17 H') ⟨_, _, _, rfl, Same.refl _⟩ (fun i σ H' _ ⟨_, _, _, _, s'⟩ => SqT.of (s' _ _ hpc)) ?_ ?_
  · rintro i u σ H18 hu ⟨v8, v10, v11, rfl, s18⟩
    obtain ⟨c, hc, rfl⟩ := List.mem_map.mp (List.mem_of_getElem? hu)
    obtain ⟨n, ps, sc, sur, cd⟩ := hcd c hc
    have s618 := s17.trans s18
    refine ⟨_, rfl, _, rfl, ⟨w5, ks, ss⟩, .ref tm, c, n, ps, sc, sur, rfl, cd.cn, hm16.on (same_tups s618), dgd, hns, cd.code, cd.su, cd.n1, sd_gdSs sc cd.sd, cd.sd, cd.o, by have := cd.ns; omega, fun H19 pr ur s19 hpr har => ?_⟩
    have hfrm := frm_all (sur := sur) sc n cd.f
    have hpick := pick_all (sur := sur) sc n cd.f
    have har : AtL AtRw H19 (rwSs sur sc n 0 ++ tail8) ur := har
    have hrl2 := har.len
    have hrle : (rwSs sur sc n 0 ++ tail8).length ≤ 5002 := by
      have h1 := rwSs_le (sur := sur) sc n 0
      have h2 := cd.ns
      rw [List.length_append]
      show _ + 2 ≤ 5002
      omega
    obtain ⟨hdk, hdn⟩ := due8_keys (namesM ⟨w5, ks, ss⟩) c (wkM8 ⟨w5, ks, ss⟩) 0
    rw [← cd.due] at hpick
    have hdl := due8_len (namesM ⟨w5, ks, ss⟩) c (wkM8 ⟨w5, ks, ss⟩) 0
    generalize hDD : due8 (namesM ⟨w5, ks, ss⟩) c 0 (wkM8 ⟨w5, ks, ss⟩) = DD at hpick hdk hdn hdl
    generalize rwSs sur sc n 0 ++ tail8 = RR at hfrm hpick har hrl2 hrle
    refine ⟨pr, rfl, ⟨_, SqT.of hpr⟩, fun D1 hD1 => ?_⟩
    refine lc_tup (xs := ur) (fun j H' => ∃ vs, Same H19 H' ∧ H' D1 = some (.lst vs) ∧ AtL AtRw H19 ((RR.take j).filter pickR) vs ∧ vs.length ≤ j) ⟨[], same_new hD1 _, upd_same, rfl, Nat.le_refl _⟩ (fun j H' _ ⟨vs, s', _⟩ => SqT.of (s' _ _ hpr)) ?_ ?_
    · rintro j x H20 hx ⟨vs, s20, f20, at20, l20⟩
      obtain ⟨r, hr, pp, rfl, hpp⟩ := har.get hx
      obtain ⟨x0, z, rest, rfl⟩ := hfrm r (List.mem_of_getElem? hr)
      have hj := (List.getElem?_eq_some_iff.mp hx).1
      refine ⟨rfl, ?_⟩
      refine ⟨_, rfl, pp, _, 1, _, rfl, rfl, SqT.of (s20 _ _ hpp), atI_nat (j := 1) rfl, (by show 3 ≤ sizeLine; decide), fun L hL => ?_⟩
      have s21 := same_new hL (.lst [S_ "name", S_ "setname", S_ "block"])
      have gL : upd H20 L (.lst [S_ "name", S_ "setname", S_ "block"]) L = some (.lst [S_ "name", S_ "setname", S_ "block"]) := upd_same
      have f21 := s21 _ _ f20
      have s22 := s20.trans s21
      generalize upd H20 L (.lst [S_ "name", S_ "setname", S_ "block"]) = H21 at s21 gL f21 s22 ⊢
      refine ⟨L, _, rfl, .inl (SqL.of gL), rfl, rfl, _, rfl, ?_⟩
      have ep : pickR (x0 :: .str z :: rest) = inV (.str z) [S_ "name", S_ "setname", S_ "block"] := rfl
      have et : (RR.take (j + 1)).filter pickR = (RR.take j).filter pickR ++ (if pickR (x0 :: .str z :: rest) = true then [x0 :: .str z :: rest] else []) := by
        rw [List.take_add_one, hr, List.filter_append]
        congr 1
        by_cases c : pickR (x0 :: .str z :: rest) = true
        · rw [if_pos c]
          exact List.filter_cons_of_pos c
        · rw [if_neg c]
          exact List.filter_cons_of_neg c
      rw [ep] at et
      refine ite2 (fun c => ?_) (fun c => ?_)
      · have c' : inV (.str z) [S_ "name", S_ "setname", S_ "block"] = true := c
        rw [if_pos c'] at et
        refine ⟨_, rfl, vs, f21, by rw [sizeLine_eq]; omega, vs ++ [.ref pp], fun b o hb => by rw [upd_ne (ne_of_none hb hD1)]; exact s22 _ _ hb, upd_same, ?_, by rw [List.length_append]; show vs.length + 1 ≤ _; omega⟩
        rw [et]
        exact at20.snoc ⟨pp, rfl, hpp⟩
      · have c' : ¬ inV (.str z) [S_ "name", S_ "setname", S_ "block"] = true := c
        rw [if_neg c', List.append_nil] at et
        exact ⟨vs, s22, f21, by rw [et]; exact at20, by omega⟩
    rintro H20 ⟨vs, s20, f20, at20, l20⟩
    rw [hrl2, List.take_length] at at20
    have at20 : AtL AtRw H20 (RR.filter pickR) vs := AtL.onR (fun _ _ z => AtRw.on (same_tups s20) z) at20
    have okF : ∀ r ∈ RR.filter pickR, okRw r := fun r hr => (hdk r (hpick.mem_iff.mp hr)).1
    have ndF : ((RR.filter pickR).map keyR).Nodup := (hpick.map keyR).nodup_iff.mpr hdn
    obtain ⟨k1, k2⟩ := key_facts at20 okF ndF
    have s620 := (s618.trans s19).trans s20
    refine ⟨_, rfl, D1, vs, keyV H20, rfl, SqL.of f20, k1, k2, fun ys1 p1 hp1 hs1 hn1 => ?_⟩
    have s21 := same_new hn1 (.lst ys1)
    have f21 : upd H20 p1 (.lst ys1) p1 = some (.lst ys1) := upd_same
    generalize upd H20 p1 (.lst ys1) = H21 at s21 f21 ⊢
    have s621 := s620.trans s21
    have at21 : AtL (At8 []) H21 (wkM8 ⟨w5, ks, ss⟩) us1 := AtL.onR (fun _ _ z => At8.sx (SX.same s621) (same_tups s621) z) at16
    refine ⟨_, rfl, _, rfl, _, rfl, rl, us1, wkM8 ⟨w5, ks, ss⟩, c, kn, namesM ⟨w5, ks, ss⟩, rfl, s621 _ _ rl16, at21, fun t ht => ⟨(okM t ht).ok, (okM t ht).sd⟩, by omega, s621 _ _ kn16, fun H22 q2 vs2 s22 hq2n hq2 hat2 => ?_⟩
    rw [hDD] at hat2
    obtain ⟨k3, k4⟩ := key_facts hat2 (fun r hr => (hdk r hr).1) hdn
    refine ⟨q2, vs2, keyV H22, rfl, SqL.of hq2, k3, k4, fun ys2 p2 hp2 hs2 hn2 => ?_⟩
    have s23 := same_new hn2 (.lst ys2)
    have s203 := (s21.trans s22).trans s23
    refine ⟨⟨1, p1, p2, ys1, ys2, by decide, rfl, rfl, .inr ⟨SqL.of (s23 _ _ (s22 _ _ f21)), SqL.of upd_same⟩, ?_⟩, _, rfl, ?_⟩
    · exact sorted_eq (AtL.onR (fun _ _ z => AtRw.on (same_tups s203) z) at20) (AtL.onR (fun _ _ z => AtRw.on (same_tups s23) z) hat2) hpick hdn (fun r hr => (hdk r hr).1.2) hp1 hp2 (key_pw s203 at20 hp1 hs1) (key_pw s23 hat2 hp2 hs2)
    refine iteF ?_
    exact ⟨_, _, _, rfl, ((s18.trans s19).trans s20).trans s203⟩
  rintro σ H18 ⟨v8, v10, v11, rfl, s18⟩
  exact kq H18
end
end My
set_option Elab.async false
set_option linter.all false
set_option maxRecDepth 100000
set_option maxHeartbeats 4000000
namespace My
open PySem L2 SS
section
variable {P : Program} {w : World} {K : PySem.W.Frag} {mg : Str → Option Value} {base : Heap}
theorem Fz.ts (Z : Fz K mg) : TxS K mg := ⟨Z.b_len, Z.b_all, Z.b_min, Z.b_tuple, Z.b_int, Z.b_str, Z.b_enumerate⟩
theorem Fz.pp (Z : Fz K mg) : C0 P w K mg base 1 "parts_of" spPt := c_pt Z.D_parts_of
theorem Fz.nc (Z : Fz K mg) : C0 P w K mg base 2 "nodes_with_codes" spNc := c_nc Z.ts Z.g_METHOD_CODE Z.D_nodes_with_codes Z.pp
theorem Fz.nm (Z : Fz K mg) : C0 P w K mg base 3 "names_of" spNm :=
  c_nm Z.D_names_of Z.nc (c_na Z.ts Z.b_list Z.D_names_among (c_sw Z.D_set_word) (c_ip Z.g_METHOD_CODE Z.D_is_parameter))
/-- rows_of, of each code of each method -/
theorem Fz.ro (Z : Fz K mg) : C0 P w K mg base 167 "rows_of" spRoG := by
  have T : TxM K Z.R_RowMaker := ⟨Z.cl_RowMaker, Z.na_RowMaker_rows, Z.na_RowMaker_visible, Z.na_RowMaker_number⟩
  obtain ⟨fI, fdI, MK_, FI_⟩ := Z.I_RowMaker
  have NO := c_no (P := P) (w := w) (base := base) Z.ts Z.D_nodes_of Z.nc
  have BO := c_bd (P := P) (w := w) (base := base) Z.D_body_of (c_ct Z.g_METHOD_CODE Z.D_code_tree NO)
  have SC := c_sc (P := P) (w := w) (base := base) Z.g_METHOD_CODE Z.D_scopes_of Z.nc Z.nm
  have FO := c_fo (P := P) (w := w) (base := base) Z.b_enumerate Z.D_found_name
  have PU := m_put (P := P) (w := w) (mg := mg) (base := base) T Z.M_RowMaker_put
  have PN := m_pn (P := P) (w := w) (base := base) T Z.M_RowMaker_put_of_name FO PU
  have LO := m_lo (P := P) (w := w) (base := base) Z.b_len T Z.M_RowMaker_leave_open
  have FI := m_fi (P := P) (w := w) (base := base) Z.b_len T Z.M_RowMaker_fill_in
  have NN := m_nn (P := P) (w := w) (mg := mg) (base := base) T Z.M_RowMaker_next_number
  have MN := knotMn (P := P) (w := w) (base := base) Z.b_sum Z.D_many_nodes Z.pp 41
  have ER := knotE T Z.b_len Z.M_RowMaker_expression_rows Z.M_RowMaker_all_expression_rows Z.M_RowMaker_send_rows NN PU PN MN 19
  have AS := knotS T Z.b_len ⟨Z.M_RowMaker_put, Z.M_RowMaker_put_of_name, Z.M_RowMaker_leave_open, Z.M_RowMaker_fill_in, Z.M_RowMaker_next_number, Z.M_RowMaker_all_statement_rows, Z.M_RowMaker_statement_rows, Z.M_RowMaker_if_rows, Z.M_RowMaker_while_rows, Z.M_RowMaker_try_rows, Z.M_RowMaker_all_expression_rows, Z.M_RowMaker_expression_rows, Z.M_RowMaker_send_rows⟩ NN PU PN LO FI ER 19
  exact c_roG Z.b_tuple Z.g_METHOD_CODE Z.D_rows_of T Z.m_RowMaker MK_ FI_ PU AS SC BO
end
end My
set_option Elab.async false
set_option linter.all false
set_option maxRecDepth 100000
set_option maxHeartbeats 8000000
namespace My
open PySem L2 SS
abbrev sCo : Stmt := s_codes_of
section
variable {P : Program} {w : World} {K : PySem.W.Frag} {mg : Str → Option Value} {base : Heap}
theorem scCo : FnScope ["method", "blocks", "number", "node"] ["method"] (defScope sCo) := ⟨rfl, rfl, rfl, by decide +kernel, rfl, by decide +kernel, by decide +kernel⟩
theorem c_co (TS : TxS K mg) (gMC : GI mg "METHOD_CODE" (-1)) (D : Dn K mg "codes_of" sCo) (NO : C0 P w K mg base 3 "nodes_of" spNd) : C0 P w K mg base 4 "codes_of" spCo := by
  obtain ⟨f, fd, F, hmm⟩ := D.ex
  refine ⟨f, fd, ["method"], F.ok scCo (fun vs H Q E h => ?_) (fun cdv A outer s H vs Q E hr h => ?_), hmm, F.kp, F.binds (ps := ["method"]) fun _ _ _ _ _ _ us hl => match us, hl with | [_], _ => rfl⟩
  · obtain ⟨n, v, rfl, _⟩ := h
    rfl
  obtain ⟨m, v, rfl, hat, hok, hns, kq⟩ := h
  refine ⟨_, pss_cons (ps_setLc (i := 1) (own := [("number", 2), ("node", 3)]) (g := gTup K 2 (gCons (gName 2) (gCons (gName 3) gNil))) (by rfl) scCo.nd rfl rfl (sw_true rfl rfl rfl (by decide +kernel)) (pi_enumT (by rfl) TS.enum (pa_cons (pe_cc NO hr (by decide) pass0 (pa_cons (pv 0) pa_nil)) pa_nil))
        (blkOk_by (own := [("number", 2), ("node", 3)]) (N := ["method", "blocks", "number", "node"]) (sc := defScope sCo) (by decide +kernel))
        (fun _ _ _ _ _ => pg_tup (by rfl) (pgs_cons (pg_name (i := 2) scCo.nd rfl (Or.inl rfl)) (pgs_cons (pg_name (i := 3) scCo.nd rfl (Or.inl rfl)) pgs_nil))) (fun _ _ _ _ _ => pts_one (pt_cmpR op_eq (pe_ix (r := rIxT K) ix_tup (pv 3) pe_int (fun _ _ => rfl)) pe_str (nomark _))) (fun _ _ _ _ _ => pv 2)) <|
    pss_one (ps_ret (pe_tup (pa_cons (pe_gi gMC) (StX.pa_star (pv 1) pa_nil)))), ?_⟩
  have hgl := gM_len hok
  refine ⟨_, rfl, m, _, rfl, hat, hok, hns, fun H1 a us s1 h1 at1 => ?_⟩
  have hul : us.length = (ndM m).length := at1.len
  have hndl := ndM_len hok
  refine ⟨a, us, rfl, SqT.of h1, fun D1 hD1 => ?_⟩
  refine lc_it walk_enumT (fun i H11 => Same H1 H11 ∧ H11 D1 = some (.lst (natI (blkI (gM m) i)))) ⟨same_new hD1 _, upd_same⟩ (fun i H7 _ h => SqT.of (h.1 _ _ h1)) ?_ ?_
  · rintro i x H11 H12 hi ⟨s11, h11⟩ ⟨T, u, rfl, hT, rfl, hu⟩
    have sT := same_new hT (.tup [.int (i : Nat), u])
    have fT : upd H11 T (.tup [.int (i : Nat), u]) T = some (.tup [.int (i : Nat), u]) := upd_same
    have s12 := s11.trans sT
    have h12 := sT _ _ h11
    generalize upd H11 T (.tup [.int (i : Nat), u]) = H12 at sT fT s12 h12 ⊢
    have hgi : (gM m)[i]? = some ((gM m)[i]'(by omega)) := List.getElem?_eq_getElem (by omega)
    generalize (gM m)[i]'(by omega) = q at hgi
    obtain ⟨n, hn1, hn2⟩ := (AtL.on (same_tups s12) (fun _ _ h => AtN.on (same_tups s12) h) at1).get hu
    have e : n = q.1 := by
      unfold ndM at hn1
      rw [List.getElem?_map, hgi] at hn1
      exact (Option.some.inj hn1).symm
    subst e
    have hokq := gM_gd hok q (List.mem_of_getElem? hgi)
    obtain ⟨pz, z, rest, rfl, hpz, hz⟩ := blk_word hn2 hokq
    refine ⟨T, _, rfl, SqT.of fT, rfl, _, _, rfl, _, _, rfl, rfl, rfl, ?_⟩
    refine ⟨_, rfl, pz, _, _, _, rfl, rfl, SqT.of hpz, atI_0, rfl, _, rfl, ?_⟩
    rw [hz]
    have hsu := blkI_succ (gM m) i hgi
    refine ite2 (fun cc => ?_) (fun cc => ?_)
    · rw [if_pos cc] at hsu
      refine ⟨_, rfl, _, h12, ?_, ?_, ?_⟩
      · unfold natI
        rw [List.length_map, List.length_map, sizeLine_eq]
        have := blkI_len (gM m) i
        omega
      · intro b u h
        rw [upd_ne (ne_of_none h hD1)]
        exact s12 _ _ h
      · rw [upd_same, hsu]
        unfold natI
        rw [List.map_append, List.map_append]
        rfl
    · rw [if_neg cc, List.append_nil] at hsu
      refine ⟨s12, ?_⟩
      rw [hsu]
      exact h12
  rintro H11 ⟨s11, h11⟩
  have eb : blkI (gM m) us.length = blks (gM m) := by rw [show us.length = (gM m).length by omega]; rfl
  rw [eb] at h11
  have hbl : (natI (blks (gM m))).length ≤ 1100 := by
    unfold natI
    rw [List.length_map, List.length_map]
    have := blkI_len (gM m) (gM m).length
    have e : blks (gM m) = blkI (gM m) (gM m).length := rfl
    rw [e]
    omega
  refine ⟨_, rfl, D1, _, rfl, .inr (SqL.of h11), by rw [List.append_nil, List.length_cons, sizeLine_eq]; omega, fun tp htp => ?_⟩
  rw [List.append_nil]
  exact kq _ tp ((s1.trans s11).trans (same_new htp _)) upd_same
end
end My
set_option Elab.async false
set_option linter.all false
set_option maxRecDepth 100000
set_option maxHeartbeats 4000000
namespace My
open PySem L2 SS
theorem law_ok {P : Program} {w : World} {K : PySem.W.Frag} {mg : Str → Option Value} {base : Heap} (Z : Fz K mg) {f : Addr} {fd : FuncData} (F : Fun K "law" "law" s_law f fd) : FnOk P w K mg base CX0 230 f fd ["_law_script"] (spLaw K) := by
  have DR := c_dr (P := P) (w := w) (base := base) Z.b_len Z.D__law_draw
  have DK := c_dk (P := P) (w := w) (base := base) Z.b_abs Z.D__law_deck
  have WO := c_wo (P := P) (w := w) (base := base) Z.b_range DR Z.D__law_word
  have WS := c_ws (P := P) (w := w) (base := base) Z.b_range DR WO Z.D__law_words
  have SN := c_sn (P := P) (w := w) (base := base) Z.D__law_seen
  have ST := ss8_all (P := P) (w := w) (base := base) Z.b_len Z.b_range Z.b_tuple DR SN Z.D__law_e Z.D__law_inner Z.D__law_statements 12
  have WK := w8_all (P := P) (w := w) (base := base) Z.b_list Z.D__law_walk 40
  have OR := c_or (P := P) (w := w) (base := base) SN Z.D__law_order
  have FD := c_f8 (P := P) (w := w) (base := base) Z.b_len Z.b_range Z.D__law_find
  have DU := c_du (P := P) (w := w) (base := base) Z.b_enumerate FD Z.D__law_due
  have NC := Fz.nc (P := P) (w := w) (base := base) Z
  have NM := Fz.nm (P := P) (w := w) (base := base) Z
  have NO := c_no (P := P) (w := w) (base := base) Z.ts Z.D_nodes_of NC
  have CO := c_co (P := P) (w := w) (base := base) Z.ts Z.g_METHOD_CODE Z.D_codes_of NO
  have CT := c_ct (P := P) (w := w) (base := base) Z.g_METHOD_CODE Z.D_code_tree NO
  have PM := c_pm (P := P) (w := w) (base := base) Z.D_parameters_of CT
  have BD := c_bd (P := P) (w := w) (base := base) Z.D_body_of CT
  have WI := c_wn (P := P) (w := w) (base := base) Z.D_code_within NC
  have TO := c_to (P := P) (w := w) (base := base) Z.b_len Z.b_range Z.b_list Z.b_tuple NM NO WI CO PM BD Z.D__law_told
  have RO := Fz.ro (P := P) (w := w) (base := base) Z
  exact ok_law F Z.b_tuple Z.b_list Z.b_sorted DK WS DR ST WK OR TO CO RO DU
end My
set_option Elab.async false
set_option linter.all false
set_option maxRecDepth 100000
set_option maxHeartbeats 8000000
namespace My
open PySem L2 SS
theorem vals_strs : ∀ (zs : List Str) (us : List Value), us.map (fun u => match u with | .str z _ => some z | _ => none) = zs.map some → Vals (zs.map V.str) us
  | [], [], _ => .nil
  | [], u :: us, h => by simp at h
  | z :: zs, [], h => by simp at h
  | z :: zs, u :: us, h => by
    rw [List.map_cons, List.map_cons] at h
    injection h with h1 h2
    refine .cons ?_ (vals_strs zs us h2)
    cases u with
    | str y t =>
      obtain rfl := Option.some.inj h1
      exact ⟨t, rfl⟩
    | _ => cases h1
theorem exm_self {K : PySem.W.Frag} {S : Addr} (h1 : PySem.W.subIn K (.ref S) (.type "BaseException") = some true) (h2 : PySem.W.isClsIn K S = true) (h3 : PySem.W.typeIn K (.ref S) = some (.type "type")) (h4 : PySem.W.subIn K (.ref S) (.ref S) = some true) :
    PySem.W.exmOne K (.ref S) (.ref S) = some true := by
  have e1 : (PySem.W.subIn K (.ref S) (.type "BaseException") == some true) = true := by rw [h1] <;> rfl
  have e2 : ((PySem.W.clsIn K S).isSome && PySem.W.typeIn K (.ref S) == some (.type "type")) = true := by
    have h2' : (PySem.W.clsIn K S).isSome = true := h2
    rw [h2', h3] <;> rfl
  show (if (PySem.W.subIn K (.ref S) (.type "BaseException") == some true) = true then (if ((PySem.W.clsIn K S).isSome && PySem.W.typeIn K (.ref S) == some (.type "type")) = true then PySem.W.subIn K (.ref S) (.ref S) else none) else none) = some true
  rw [if_pos e1, if_pos e2]
  exact h4
/-- two defs of two names stand at two places -/
def nameAt : Option Obj → Str
  | some ⟨_, _, .func fd, _⟩ => fd.name
  | _ => ""
theorem two_places {o1 o2 : Option Obj} (h : nameAt o1 ≠ nameAt o2) : o1 ≠ o2 := fun e => h (by rw [e])
theorem all_mk {l : PySem.W.OpenLaw} {w : World} {K : PySem.W.Frag} {h : Heap} {mg : Str → Option Value} {fa : Addr} (X : K.In h) (G : h.Ns mainGlobals mg) (hfa : mg "law" = some (.ref fa))
    {f0 : Addr} {oc0 kV0 dc0 pm0 cd0 ct0 : Value} {od0 an0 : Option Addr} {sl0 : Array (Option Value)}
    {f1 : Addr} {oc1 kV1 dc1 pm1 cd1 ct1 : Value} {od1 an1 : Option Addr} {sl1 : Array (Option Value)}
    {f2 : Addr} {oc2 kV2 dc2 pm2 cd2 ct2 : Value} {od2 an2 : Option Addr} {sl2 : Array (Option Value)}
    {f3 : Addr} {oc3 kV3 dc3 pm3 cd3 ct3 : Value} {od3 an3 : Option Addr} {sl3 : Array (Option Value)}
    {f4 : Addr} {oc4 kV4 dc4 pm4 cd4 ct4 : Value} {od4 an4 : Option Addr} {sl4 : Array (Option Value)}
    {f5 : Addr} {oc5 kV5 dc5 pm5 cd5 ct5 : Value} {od5 an5 : Option Addr} {sl5 : Array (Option Value)}
    {f6 : Addr} {oc6 kV6 dc6 pm6 cd6 ct6 : Value} {od6 an6 : Option Addr} {sl6 : Array (Option Value)}
    {f7 : Addr} {oc7 kV7 dc7 pm7 cd7 ct7 : Value} {od7 an7 : Option Addr} {sl7 : Array (Option Value)}
    {f8 : Addr} {oc8 kV8 dc8 pm8 cd8 ct8 : Value} {od8 an8 : Option Addr} {sl8 : Array (Option Value)}
    {f9 : Addr} {oc9 kV9 dc9 pm9 cd9 ct9 : Value} {od9 an9 : Option Addr} {sl9 : Array (Option Value)}
    {f10 : Addr} {oc10 kV10 dc10 pm10 cd10 ct10 : Value} {od10 an10 : Option Addr} {sl10 : Array (Option Value)}
    {f11 : Addr} {oc11 kV11 dc11 pm11 cd11 ct11 : Value} {od11 an11 : Option Addr} {sl11 : Array (Option Value)}
    {f12 : Addr} {oc12 kV12 dc12 pm12 cd12 ct12 : Value} {od12 an12 : Option Addr} {sl12 : Array (Option Value)}
    {f13 : Addr} {oc13 kV13 dc13 pm13 cd13 ct13 : Value} {od13 an13 : Option Addr} {sl13 : Array (Option Value)}
    {f14 : Addr} {oc14 kV14 dc14 pm14 cd14 ct14 : Value} {od14 an14 : Option Addr} {sl14 : Array (Option Value)}
    {f15 : Addr} {oc15 kV15 dc15 pm15 cd15 ct15 : Value} {od15 an15 : Option Addr} {sl15 : Array (Option Value)}
    {f16 : Addr} {oc16 kV16 dc16 pm16 cd16 ct16 : Value} {od16 an16 : Option Addr} {sl16 : Array (Option Value)}
    {f17 : Addr} {oc17 kV17 dc17 pm17 cd17 ct17 : Value} {od17 an17 : Option Addr} {sl17 : Array (Option Value)}
    {f18 : Addr} {oc18 kV18 dc18 pm18 cd18 ct18 : Value} {od18 an18 : Option Addr} {sl18 : Array (Option Value)}
    {f19 : Addr} {oc19 kV19 dc19 pm19 cd19 ct19 : Value} {od19 an19 : Option Addr} {sl19 : Array (Option Value)}
    {f20 : Addr} {oc20 kV20 dc20 pm20 cd20 ct20 : Value} {od20 an20 : Option Addr} {sl20 : Array (Option Value)}
    {f21 : Addr} {oc21 kV21 dc21 pm21 cd21 ct21 : Value} {od21 an21 : Option Addr} {sl21 : Array (Option Value)}
    {f22 : Addr} {oc22 kV22 dc22 pm22 cd22 ct22 : Value} {od22 an22 : Option Addr} {sl22 : Array (Option Value)}
    {f23 : Addr} {oc23 kV23 dc23 pm23 cd23 ct23 : Value} {od23 an23 : Option Addr} {sl23 : Array (Option Value)}
    {f24 : Addr} {oc24 kV24 dc24 pm24 cd24 ct24 : Value} {od24 an24 : Option Addr} {sl24 : Array (Option Value)}
    {f25 : Addr} {oc25 kV25 dc25 pm25 cd25 ct25 : Value} {od25 an25 : Option Addr} {sl25 : Array (Option Value)}
    {f26 : Addr} {oc26 kV26 dc26 pm26 cd26 ct26 : Value} {od26 an26 : Option Addr} {sl26 : Array (Option Value)}
    {f27 : Addr} {oc27 kV27 dc27 pm27 cd27 ct27 : Value} {od27 an27 : Option Addr} {sl27 : Array (Option Value)}
    {f28 : Addr} {oc28 kV28 dc28 pm28 cd28 ct28 : Value} {od28 an28 : Option Addr} {sl28 : Array (Option Value)}
    {f29 : Addr} {oc29 kV29 dc29 pm29 cd29 ct29 : Value} {od29 an29 : Option Addr} {sl29 : Array (Option Value)}
    {R_RowMaker : Addr}
    {gRowMaker_0 : Addr} {gocRowMaker_0 gkVRowMaker_0 gdcRowMaker_0 gpmRowMaker_0 gcdRowMaker_0 gctRowMaker_0 : Value} {godRowMaker_0 ganRowMaker_0 : Option Addr} {gslRowMaker_0 : Array (Option Value)}
    {gRowMaker_1 : Addr} {gocRowMaker_1 gkVRowMaker_1 gdcRowMaker_1 gpmRowMaker_1 gcdRowMaker_1 gctRowMaker_1 : Value} {godRowMaker_1 ganRowMaker_1 : Option Addr} {gslRowMaker_1 : Array (Option Value)}
    {gRowMaker_2 : Addr} {gocRowMaker_2 gkVRowMaker_2 gdcRowMaker_2 gpmRowMaker_2 gcdRowMaker_2 gctRowMaker_2 : Value} {godRowMaker_2 ganRowMaker_2 : Option Addr} {gslRowMaker_2 : Array (Option Value)}
    {gRowMaker_3 : Addr} {gocRowMaker_3 gkVRowMaker_3 gdcRowMaker_3 gpmRowMaker_3 gcdRowMaker_3 gctRowMaker_3 : Value} {godRowMaker_3 ganRowMaker_3 : Option Addr} {gslRowMaker_3 : Array (Option Value)}
    {gRowMaker_4 : Addr} {gocRowMaker_4 gkVRowMaker_4 gdcRowMaker_4 gpmRowMaker_4 gcdRowMaker_4 gctRowMaker_4 : Value} {godRowMaker_4 ganRowMaker_4 : Option Addr} {gslRowMaker_4 : Array (Option Value)}
    {gRowMaker_5 : Addr} {gocRowMaker_5 gkVRowMaker_5 gdcRowMaker_5 gpmRowMaker_5 gcdRowMaker_5 gctRowMaker_5 : Value} {godRowMaker_5 ganRowMaker_5 : Option Addr} {gslRowMaker_5 : Array (Option Value)}
    {gRowMaker_6 : Addr} {gocRowMaker_6 gkVRowMaker_6 gdcRowMaker_6 gpmRowMaker_6 gcdRowMaker_6 gctRowMaker_6 : Value} {godRowMaker_6 ganRowMaker_6 : Option Addr} {gslRowMaker_6 : Array (Option Value)}
    {gRowMaker_7 : Addr} {gocRowMaker_7 gkVRowMaker_7 gdcRowMaker_7 gpmRowMaker_7 gcdRowMaker_7 gctRowMaker_7 : Value} {godRowMaker_7 ganRowMaker_7 : Option Addr} {gslRowMaker_7 : Array (Option Value)}
    {gRowMaker_8 : Addr} {gocRowMaker_8 gkVRowMaker_8 gdcRowMaker_8 gpmRowMaker_8 gcdRowMaker_8 gctRowMaker_8 : Value} {godRowMaker_8 ganRowMaker_8 : Option Addr} {gslRowMaker_8 : Array (Option Value)}
    {gRowMaker_9 : Addr} {gocRowMaker_9 gkVRowMaker_9 gdcRowMaker_9 gpmRowMaker_9 gcdRowMaker_9 gctRowMaker_9 : Value} {godRowMaker_9 ganRowMaker_9 : Option Addr} {gslRowMaker_9 : Array (Option Value)}
    {gRowMaker_10 : Addr} {gocRowMaker_10 gkVRowMaker_10 gdcRowMaker_10 gpmRowMaker_10 gcdRowMaker_10 gctRowMaker_10 : Value} {godRowMaker_10 ganRowMaker_10 : Option Addr} {gslRowMaker_10 : Array (Option Value)}
    {gRowMaker_11 : Addr} {gocRowMaker_11 gkVRowMaker_11 gdcRowMaker_11 gpmRowMaker_11 gcdRowMaker_11 gctRowMaker_11 : Value} {godRowMaker_11 ganRowMaker_11 : Option Addr} {gslRowMaker_11 : Array (Option Value)}
    {gRowMaker_12 : Addr} {gocRowMaker_12 gkVRowMaker_12 gdcRowMaker_12 gpmRowMaker_12 gcdRowMaker_12 gctRowMaker_12 : Value} {godRowMaker_12 ganRowMaker_12 : Option Addr} {gslRowMaker_12 : Array (Option Value)}
    {gRowMaker_13 : Addr} {gocRowMaker_13 gkVRowMaker_13 gdcRowMaker_13 gpmRowMaker_13 gcdRowMaker_13 gctRowMaker_13 : Value} {godRowMaker_13 ganRowMaker_13 : Option Addr} {gslRowMaker_13 : Array (Option Value)}
    {t_METHOD_CODE : Tok}
    (a0 : PySem.W.nsIn K mainGlobals "nodes_of" = some (some (.ref f0)))
    (l0 : K.lookup f0 = some ⟨oc0, od0, .func (PySem.W.fnOf "nodes_of" "nodes_of" (defArgs s_nodes_of) (defBody s_nodes_of) (defScope s_nodes_of) .none kV0 dc0 pm0 an0 cd0 ct0), sl0⟩)
    (c0 : PySem.W.codeIn K cd0 "nodes_of" = true)
    (k0 : PySem.W.keepIn K (.ref f0) = true)
    (a1 : PySem.W.nsIn K mainGlobals "codes_of" = some (some (.ref f1)))
    (l1 : K.lookup f1 = some ⟨oc1, od1, .func (PySem.W.fnOf "codes_of" "codes_of" (defArgs s_codes_of) (defBody s_codes_of) (defScope s_codes_of) .none kV1 dc1 pm1 an1 cd1 ct1), sl1⟩)
    (c1 : PySem.W.codeIn K cd1 "codes_of" = true)
    (k1 : PySem.W.keepIn K (.ref f1) = true)
    (a2 : PySem.W.nsIn K mainGlobals "names_of" = some (some (.ref f2)))
    (l2 : K.lookup f2 = some ⟨oc2, od2, .func (PySem.W.fnOf "names_of" "names_of" (defArgs s_names_of) (defBody s_names_of) (defScope s_names_of) .none kV2 dc2 pm2 an2 cd2 ct2), sl2⟩)
    (c2 : PySem.W.codeIn K cd2 "names_of" = true)
    (k2 : PySem.W.keepIn K (.ref f2) = true)
    (a3 : PySem.W.nsIn K mainGlobals "names_among" = some (some (.ref f3)))
    (l3 : K.lookup f3 = some ⟨oc3, od3, .func (PySem.W.fnOf "names_among" "names_among" (defArgs s_names_among) (defBody s_names_among) (defScope s_names_among) .none kV3 dc3 pm3 an3 cd3 ct3), sl3⟩)
    (c3 : PySem.W.codeIn K cd3 "names_among" = true)
    (k3 : PySem.W.keepIn K (.ref f3) = true)
    (a4 : PySem.W.nsIn K mainGlobals "parameters_of" = some (some (.ref f4)))
    (l4 : K.lookup f4 = some ⟨oc4, od4, .func (PySem.W.fnOf "parameters_of" "parameters_of" (defArgs s_parameters_of) (defBody s_parameters_of) (defScope s_parameters_of) .none kV4 dc4 pm4 an4 cd4 ct4), sl4⟩)
    (c4 : PySem.W.codeIn K cd4 "parameters_of" = true)
    (k4 : PySem.W.keepIn K (.ref f4) = true)
    (a5 : PySem.W.nsIn K mainGlobals "body_of" = some (some (.ref f5)))
    (l5 : K.lookup f5 = some ⟨oc5, od5, .func (PySem.W.fnOf "body_of" "body_of" (defArgs s_body_of) (defBody s_body_of) (defScope s_body_of) .none kV5 dc5 pm5 an5 cd5 ct5), sl5⟩)
    (c5 : PySem.W.codeIn K cd5 "body_of" = true)
    (k5 : PySem.W.keepIn K (.ref f5) = true)
    (a6 : PySem.W.nsIn K mainGlobals "code_within" = some (some (.ref f6)))
    (l6 : K.lookup f6 = some ⟨oc6, od6, .func (PySem.W.fnOf "code_within" "code_within" (defArgs s_code_within) (defBody s_code_within) (defScope s_code_within) .none kV6 dc6 pm6 an6 cd6 ct6), sl6⟩)
    (c6 : PySem.W.codeIn K cd6 "code_within" = true)
    (k6 : PySem.W.keepIn K (.ref f6) = true)
    (a7 : PySem.W.nsIn K mainGlobals "scopes_of" = some (some (.ref f7)))
    (l7 : K.lookup f7 = some ⟨oc7, od7, .func (PySem.W.fnOf "scopes_of" "scopes_of" (defArgs s_scopes_of) (defBody s_scopes_of) (defScope s_scopes_of) .none kV7 dc7 pm7 an7 cd7 ct7), sl7⟩)
    (c7 : PySem.W.codeIn K cd7 "scopes_of" = true)
    (k7 : PySem.W.keepIn K (.ref f7) = true)
    (a8 : PySem.W.nsIn K mainGlobals "found_name" = some (some (.ref f8)))
    (l8 : K.lookup f8 = some ⟨oc8, od8, .func (PySem.W.fnOf "found_name" "found_name" (defArgs s_found_name) (defBody s_found_name) (defScope s_found_name) .none kV8 dc8 pm8 an8 cd8 ct8), sl8⟩)
    (c8 : PySem.W.codeIn K cd8 "found_name" = true)
    (k8 : PySem.W.keepIn K (.ref f8) = true)
    (a9 : PySem.W.nsIn K mainGlobals "code_tree" = some (some (.ref f9)))
    (l9 : K.lookup f9 = some ⟨oc9, od9, .func (PySem.W.fnOf "code_tree" "code_tree" (defArgs s_code_tree) (defBody s_code_tree) (defScope s_code_tree) .none kV9 dc9 pm9 an9 cd9 ct9), sl9⟩)
    (c9 : PySem.W.codeIn K cd9 "code_tree" = true)
    (k9 : PySem.W.keepIn K (.ref f9) = true)
    (a10 : PySem.W.nsIn K mainGlobals "nodes_with_codes" = some (some (.ref f10)))
    (l10 : K.lookup f10 = some ⟨oc10, od10, .func (PySem.W.fnOf "nodes_with_codes" "nodes_with_codes" (defArgs s_nodes_with_codes) (defBody s_nodes_with_codes) (defScope s_nodes_with_codes) .none kV10 dc10 pm10 an10 cd10 ct10), sl10⟩)
    (c10 : PySem.W.codeIn K cd10 "nodes_with_codes" = true)
    (k10 : PySem.W.keepIn K (.ref f10) = true)
    (a11 : PySem.W.nsIn K mainGlobals "many_nodes" = some (some (.ref f11)))
    (l11 : K.lookup f11 = some ⟨oc11, od11, .func (PySem.W.fnOf "many_nodes" "many_nodes" (defArgs s_many_nodes) (defBody s_many_nodes) (defScope s_many_nodes) .none kV11 dc11 pm11 an11 cd11 ct11), sl11⟩)
    (c11 : PySem.W.codeIn K cd11 "many_nodes" = true)
    (k11 : PySem.W.keepIn K (.ref f11) = true)
    (a12 : PySem.W.nsIn K mainGlobals "parts_of" = some (some (.ref f12)))
    (l12 : K.lookup f12 = some ⟨oc12, od12, .func (PySem.W.fnOf "parts_of" "parts_of" (defArgs s_parts_of) (defBody s_parts_of) (defScope s_parts_of) .none kV12 dc12 pm12 an12 cd12 ct12), sl12⟩)
    (c12 : PySem.W.codeIn K cd12 "parts_of" = true)
    (k12 : PySem.W.keepIn K (.ref f12) = true)
    (a13 : PySem.W.nsIn K mainGlobals "set_word" = some (some (.ref f13)))
    (l13 : K.lookup f13 = some ⟨oc13, od13, .func (PySem.W.fnOf "set_word" "set_word" (defArgs s_set_word) (defBody s_set_word) (defScope s_set_word) .none kV13 dc13 pm13 an13 cd13 ct13), sl13⟩)
    (c13 : PySem.W.codeIn K cd13 "set_word" = true)
    (k13 : PySem.W.keepIn K (.ref f13) = true)
    (a14 : PySem.W.nsIn K mainGlobals "is_parameter" = some (some (.ref f14)))
    (l14 : K.lookup f14 = some ⟨oc14, od14, .func (PySem.W.fnOf "is_parameter" "is_parameter" (defArgs s_is_parameter) (defBody s_is_parameter) (defScope s_is_parameter) .none kV14 dc14 pm14 an14 cd14 ct14), sl14⟩)
    (c14 : PySem.W.codeIn K cd14 "is_parameter" = true)
    (k14 : PySem.W.keepIn K (.ref f14) = true)
    (a15 : PySem.W.nsIn K mainGlobals "rows_of" = some (some (.ref f15)))
    (l15 : K.lookup f15 = some ⟨oc15, od15, .func (PySem.W.fnOf "rows_of" "rows_of" (defArgs s_rows_of) (defBody s_rows_of) (defScope s_rows_of) .none kV15 dc15 pm15 an15 cd15 ct15), sl15⟩)
    (c15 : PySem.W.codeIn K cd15 "rows_of" = true)
    (k15 : PySem.W.keepIn K (.ref f15) = true)
    (a16 : PySem.W.nsIn K mainGlobals "_law_deck" = some (some (.ref f16)))
    (l16 : K.lookup f16 = some ⟨oc16, od16, .func (PySem.W.fnOf "_law_deck" "_law_deck" (defArgs s__law_deck) (defBody s__law_deck) (defScope s__law_deck) .none kV16 dc16 pm16 an16 cd16 ct16), sl16⟩)
    (c16 : PySem.W.codeIn K cd16 "_law_deck" = true)
    (k16 : PySem.W.keepIn K (.ref f16) = true)
    (a17 : PySem.W.nsIn K mainGlobals "_law_draw" = some (some (.ref f17)))
    (l17 : K.lookup f17 = some ⟨oc17, od17, .func (PySem.W.fnOf "_law_draw" "_law_draw" (defArgs s__law_draw) (defBody s__law_draw) (defScope s__law_draw) .none kV17 dc17 pm17 an17 cd17 ct17), sl17⟩)
    (c17 : PySem.W.codeIn K cd17 "_law_draw" = true)
    (k17 : PySem.W.keepIn K (.ref f17) = true)
    (a18 : PySem.W.nsIn K mainGlobals "_law_word" = some (some (.ref f18)))
    (l18 : K.lookup f18 = some ⟨oc18, od18, .func (PySem.W.fnOf "_law_word" "_law_word" (defArgs s__law_word) (defBody s__law_word) (defScope s__law_word) .none kV18 dc18 pm18 an18 cd18 ct18), sl18⟩)
    (c18 : PySem.W.codeIn K cd18 "_law_word" = true)
    (k18 : PySem.W.keepIn K (.ref f18) = true)
    (a19 : PySem.W.nsIn K mainGlobals "_law_words" = some (some (.ref f19)))
    (l19 : K.lookup f19 = some ⟨oc19, od19, .func (PySem.W.fnOf "_law_words" "_law_words" (defArgs s__law_words) (defBody s__law_words) (defScope s__law_words) .none kV19 dc19 pm19 an19 cd19 ct19), sl19⟩)
    (c19 : PySem.W.codeIn K cd19 "_law_words" = true)
    (k19 : PySem.W.keepIn K (.ref f19) = true)
    (a20 : PySem.W.nsIn K mainGlobals "_law_seen" = some (some (.ref f20)))
    (l20 : K.lookup f20 = some ⟨oc20, od20, .func (PySem.W.fnOf "_law_seen" "_law_seen" (defArgs s__law_seen) (defBody s__law_seen) (defScope s__law_seen) .none kV20 dc20 pm20 an20 cd20 ct20), sl20⟩)
    (c20 : PySem.W.codeIn K cd20 "_law_seen" = true)
    (k20 : PySem.W.keepIn K (.ref f20) = true)
    (a21 : PySem.W.nsIn K mainGlobals "_law_e" = some (some (.ref f21)))
    (l21 : K.lookup f21 = some ⟨oc21, od21, .func (PySem.W.fnOf "_law_e" "_law_e" (defArgs s__law_e) (defBody s__law_e) (defScope s__law_e) .none kV21 dc21 pm21 an21 cd21 ct21), sl21⟩)
    (c21 : PySem.W.codeIn K cd21 "_law_e" = true)
    (k21 : PySem.W.keepIn K (.ref f21) = true)
    (a22 : PySem.W.nsIn K mainGlobals "_law_inner" = some (some (.ref f22)))
    (l22 : K.lookup f22 = some ⟨oc22, od22, .func (PySem.W.fnOf "_law_inner" "_law_inner" (defArgs s__law_inner) (defBody s__law_inner) (defScope s__law_inner) .none kV22 dc22 pm22 an22 cd22 ct22), sl22⟩)
    (c22 : PySem.W.codeIn K cd22 "_law_inner" = true)
    (k22 : PySem.W.keepIn K (.ref f22) = true)
    (a23 : PySem.W.nsIn K mainGlobals "_law_statements" = some (some (.ref f23)))
    (l23 : K.lookup f23 = some ⟨oc23, od23, .func (PySem.W.fnOf "_law_statements" "_law_statements" (defArgs s__law_statements) (defBody s__law_statements) (defScope s__law_statements) .none kV23 dc23 pm23 an23 cd23 ct23), sl23⟩)
    (c23 : PySem.W.codeIn K cd23 "_law_statements" = true)
    (k23 : PySem.W.keepIn K (.ref f23) = true)
    (a24 : PySem.W.nsIn K mainGlobals "_law_find" = some (some (.ref f24)))
    (l24 : K.lookup f24 = some ⟨oc24, od24, .func (PySem.W.fnOf "_law_find" "_law_find" (defArgs s__law_find) (defBody s__law_find) (defScope s__law_find) .none kV24 dc24 pm24 an24 cd24 ct24), sl24⟩)
    (c24 : PySem.W.codeIn K cd24 "_law_find" = true)
    (k24 : PySem.W.keepIn K (.ref f24) = true)
    (a25 : PySem.W.nsIn K mainGlobals "_law_walk" = some (some (.ref f25)))
    (l25 : K.lookup f25 = some ⟨oc25, od25, .func (PySem.W.fnOf "_law_walk" "_law_walk" (defArgs s__law_walk) (defBody s__law_walk) (defScope s__law_walk) .none kV25 dc25 pm25 an25 cd25 ct25), sl25⟩)
    (c25 : PySem.W.codeIn K cd25 "_law_walk" = true)
    (k25 : PySem.W.keepIn K (.ref f25) = true)
    (a26 : PySem.W.nsIn K mainGlobals "_law_order" = some (some (.ref f26)))
    (l26 : K.lookup f26 = some ⟨oc26, od26, .func (PySem.W.fnOf "_law_order" "_law_order" (defArgs s__law_order) (defBody s__law_order) (defScope s__law_order) .none kV26 dc26 pm26 an26 cd26 ct26), sl26⟩)
    (c26 : PySem.W.codeIn K cd26 "_law_order" = true)
    (k26 : PySem.W.keepIn K (.ref f26) = true)
    (a27 : PySem.W.nsIn K mainGlobals "_law_due" = some (some (.ref f27)))
    (l27 : K.lookup f27 = some ⟨oc27, od27, .func (PySem.W.fnOf "_law_due" "_law_due" (defArgs s__law_due) (defBody s__law_due) (defScope s__law_due) .none kV27 dc27 pm27 an27 cd27 ct27), sl27⟩)
    (c27 : PySem.W.codeIn K cd27 "_law_due" = true)
    (k27 : PySem.W.keepIn K (.ref f27) = true)
    (a28 : PySem.W.nsIn K mainGlobals "_law_told" = some (some (.ref f28)))
    (l28 : K.lookup f28 = some ⟨oc28, od28, .func (PySem.W.fnOf "_law_told" "_law_told" (defArgs s__law_told) (defBody s__law_told) (defScope s__law_told) .none kV28 dc28 pm28 an28 cd28 ct28), sl28⟩)
    (c28 : PySem.W.codeIn K cd28 "_law_told" = true)
    (k28 : PySem.W.keepIn K (.ref f28) = true)
    (a29 : PySem.W.nsIn K mainGlobals "law" = some (some (.ref f29)))
    (l29 : K.lookup f29 = some ⟨oc29, od29, .func (PySem.W.fnOf "law" "law" (defArgs s_law) (defBody s_law) (defScope s_law) .none kV29 dc29 pm29 an29 cd29 ct29), sl29⟩)
    (c29 : PySem.W.codeIn K cd29 "law" = true)
    (k29 : PySem.W.keepIn K (.ref f29) = true)
    (aR_RowMaker : PySem.W.nsIn K mainGlobals "RowMaker" = some (some (.ref R_RowMaker)))
    (pgR_RowMaker : PySem.W.plainGet K R_RowMaker Str.empty = true)
    (hdR_RowMaker : PySem.W.hasDictIn K R_RowMaker = true)
    (poR_RowMaker : PySem.W.plainOver K R_RowMaker = true)
    (saR_RowMaker : PySem.W.findIn K (.ref R_RowMaker) "__setattr__" = some (some (.builtin "object.__setattr__")))
    (mkR_RowMaker : PySem.W.makesIn K R_RowMaker = true)
    (kcR_RowMaker : PySem.W.keepIn K (.ref R_RowMaker) = true)
    (nR_RowMaker_rows : PySem.W.findIn K (.ref R_RowMaker) "rows" = some none)
    (nR_RowMaker_visible : PySem.W.findIn K (.ref R_RowMaker) "visible" = some none)
    (nR_RowMaker_number : PySem.W.findIn K (.ref R_RowMaker) "number" = some none)
    (bRowMaker_0 : PySem.W.findIn K (.ref R_RowMaker) "__init__" = some (some (.ref gRowMaker_0)))
    (iRowMaker_0 : PySem.W.isFn K (.ref gRowMaker_0) = true)
    (mRowMaker_0 : K.lookup gRowMaker_0 = some ⟨gocRowMaker_0, godRowMaker_0, .func (PySem.W.fnOf "__init__" "RowMaker.__init__" (defArgs s_RowMaker___init__) (defBody s_RowMaker___init__) (defScope s_RowMaker___init__) .none gkVRowMaker_0 gdcRowMaker_0 gpmRowMaker_0 ganRowMaker_0 gcdRowMaker_0 gctRowMaker_0), gslRowMaker_0⟩)
    (dRowMaker_0 : PySem.W.codeIn K gcdRowMaker_0 "RowMaker.__init__" = true)
    (eRowMaker_0 : PySem.W.keepIn K (.ref gRowMaker_0) = true)
    (bRowMaker_1 : PySem.W.findIn K (.ref R_RowMaker) "put" = some (some (.ref gRowMaker_1)))
    (iRowMaker_1 : PySem.W.isFn K (.ref gRowMaker_1) = true)
    (mRowMaker_1 : K.lookup gRowMaker_1 = some ⟨gocRowMaker_1, godRowMaker_1, .func (PySem.W.fnOf "put" "RowMaker.put" (defArgs s_RowMaker_put) (defBody s_RowMaker_put) (defScope s_RowMaker_put) .none gkVRowMaker_1 gdcRowMaker_1 gpmRowMaker_1 ganRowMaker_1 gcdRowMaker_1 gctRowMaker_1), gslRowMaker_1⟩)
    (dRowMaker_1 : PySem.W.codeIn K gcdRowMaker_1 "RowMaker.put" = true)
    (eRowMaker_1 : PySem.W.keepIn K (.ref gRowMaker_1) = true)
    (bRowMaker_2 : PySem.W.findIn K (.ref R_RowMaker) "put_of_name" = some (some (.ref gRowMaker_2)))
    (iRowMaker_2 : PySem.W.isFn K (.ref gRowMaker_2) = true)
    (mRowMaker_2 : K.lookup gRowMaker_2 = some ⟨gocRowMaker_2, godRowMaker_2, .func (PySem.W.fnOf "put_of_name" "RowMaker.put_of_name" (defArgs s_RowMaker_put_of_name) (defBody s_RowMaker_put_of_name) (defScope s_RowMaker_put_of_name) .none gkVRowMaker_2 gdcRowMaker_2 gpmRowMaker_2 ganRowMaker_2 gcdRowMaker_2 gctRowMaker_2), gslRowMaker_2⟩)
    (dRowMaker_2 : PySem.W.codeIn K gcdRowMaker_2 "RowMaker.put_of_name" = true)
    (eRowMaker_2 : PySem.W.keepIn K (.ref gRowMaker_2) = true)
    (bRowMaker_3 : PySem.W.findIn K (.ref R_RowMaker) "leave_open" = some (some (.ref gRowMaker_3)))
    (iRowMaker_3 : PySem.W.isFn K (.ref gRowMaker_3) = true)
    (mRowMaker_3 : K.lookup gRowMaker_3 = some ⟨gocRowMaker_3, godRowMaker_3, .func (PySem.W.fnOf "leave_open" "RowMaker.leave_open" (defArgs s_RowMaker_leave_open) (defBody s_RowMaker_leave_open) (defScope s_RowMaker_leave_open) .none gkVRowMaker_3 gdcRowMaker_3 gpmRowMaker_3 ganRowMaker_3 gcdRowMaker_3 gctRowMaker_3), gslRowMaker_3⟩)
    (dRowMaker_3 : PySem.W.codeIn K gcdRowMaker_3 "RowMaker.leave_open" = true)
    (eRowMaker_3 : PySem.W.keepIn K (.ref gRowMaker_3) = true)
    (bRowMaker_4 : PySem.W.findIn K (.ref R_RowMaker) "fill_in" = some (some (.ref gRowMaker_4)))
    (iRowMaker_4 : PySem.W.isFn K (.ref gRowMaker_4) = true)
    (mRowMaker_4 : K.lookup gRowMaker_4 = some ⟨gocRowMaker_4, godRowMaker_4, .func (PySem.W.fnOf "fill_in" "RowMaker.fill_in" (defArgs s_RowMaker_fill_in) (defBody s_RowMaker_fill_in) (defScope s_RowMaker_fill_in) .none gkVRowMaker_4 gdcRowMaker_4 gpmRowMaker_4 ganRowMaker_4 gcdRowMaker_4 gctRowMaker_4), gslRowMaker_4⟩)
    (dRowMaker_4 : PySem.W.codeIn K gcdRowMaker_4 "RowMaker.fill_in" = true)
    (eRowMaker_4 : PySem.W.keepIn K (.ref gRowMaker_4) = true)
    (bRowMaker_5 : PySem.W.findIn K (.ref R_RowMaker) "next_number" = some (some (.ref gRowMaker_5)))
    (iRowMaker_5 : PySem.W.isFn K (.ref gRowMaker_5) = true)
    (mRowMaker_5 : K.lookup gRowMaker_5 = some ⟨gocRowMaker_5, godRowMaker_5, .func (PySem.W.fnOf "next_number" "RowMaker.next_number" (defArgs s_RowMaker_next_number) (defBody s_RowMaker_next_number) (defScope s_RowMaker_next_number) .none gkVRowMaker_5 gdcRowMaker_5 gpmRowMaker_5 ganRowMaker_5 gcdRowMaker_5 gctRowMaker_5), gslRowMaker_5⟩)
    (dRowMaker_5 : PySem.W.codeIn K gcdRowMaker_5 "RowMaker.next_number" = true)
    (eRowMaker_5 : PySem.W.keepIn K (.ref gRowMaker_5) = true)
    (bRowMaker_6 : PySem.W.findIn K (.ref R_RowMaker) "all_statement_rows" = some (some (.ref gRowMaker_6)))
    (iRowMaker_6 : PySem.W.isFn K (.ref gRowMaker_6) = true)
    (mRowMaker_6 : K.lookup gRowMaker_6 = some ⟨gocRowMaker_6, godRowMaker_6, .func (PySem.W.fnOf "all_statement_rows" "RowMaker.all_statement_rows" (defArgs s_RowMaker_all_statement_rows) (defBody s_RowMaker_all_statement_rows) (defScope s_RowMaker_all_statement_rows) .none gkVRowMaker_6 gdcRowMaker_6 gpmRowMaker_6 ganRowMaker_6 gcdRowMaker_6 gctRowMaker_6), gslRowMaker_6⟩)
    (dRowMaker_6 : PySem.W.codeIn K gcdRowMaker_6 "RowMaker.all_statement_rows" = true)
    (eRowMaker_6 : PySem.W.keepIn K (.ref gRowMaker_6) = true)
    (bRowMaker_7 : PySem.W.findIn K (.ref R_RowMaker) "statement_rows" = some (some (.ref gRowMaker_7)))
    (iRowMaker_7 : PySem.W.isFn K (.ref gRowMaker_7) = true)
    (mRowMaker_7 : K.lookup gRowMaker_7 = some ⟨gocRowMaker_7, godRowMaker_7, .func (PySem.W.fnOf "statement_rows" "RowMaker.statement_rows" (defArgs s_RowMaker_statement_rows) (defBody s_RowMaker_statement_rows) (defScope s_RowMaker_statement_rows) .none gkVRowMaker_7 gdcRowMaker_7 gpmRowMaker_7 ganRowMaker_7 gcdRowMaker_7 gctRowMaker_7), gslRowMaker_7⟩)
    (dRowMaker_7 : PySem.W.codeIn K gcdRowMaker_7 "RowMaker.statement_rows" = true)
    (eRowMaker_7 : PySem.W.keepIn K (.ref gRowMaker_7) = true)
    (bRowMaker_8 : PySem.W.findIn K (.ref R_RowMaker) "if_rows" = some (some (.ref gRowMaker_8)))
    (iRowMaker_8 : PySem.W.isFn K (.ref gRowMaker_8) = true)
    (mRowMaker_8 : K.lookup gRowMaker_8 = some ⟨gocRowMaker_8, godRowMaker_8, .func (PySem.W.fnOf "if_rows" "RowMaker.if_rows" (defArgs s_RowMaker_if_rows) (defBody s_RowMaker_if_rows) (defScope s_RowMaker_if_rows) .none gkVRowMaker_8 gdcRowMaker_8 gpmRowMaker_8 ganRowMaker_8 gcdRowMaker_8 gctRowMaker_8), gslRowMaker_8⟩)
    (dRowMaker_8 : PySem.W.codeIn K gcdRowMaker_8 "RowMaker.if_rows" = true)
    (eRowMaker_8 : PySem.W.keepIn K (.ref gRowMaker_8) = true)
    (bRowMaker_9 : PySem.W.findIn K (.ref R_RowMaker) "while_rows" = some (some (.ref gRowMaker_9)))
    (iRowMaker_9 : PySem.W.isFn K (.ref gRowMaker_9) = true)
    (mRowMaker_9 : K.lookup gRowMaker_9 = some ⟨gocRowMaker_9, godRowMaker_9, .func (PySem.W.fnOf "while_rows" "RowMaker.while_rows" (defArgs s_RowMaker_while_rows) (defBody s_RowMaker_while_rows) (defScope s_RowMaker_while_rows) .none gkVRowMaker_9 gdcRowMaker_9 gpmRowMaker_9 ganRowMaker_9 gcdRowMaker_9 gctRowMaker_9), gslRowMaker_9⟩)
    (dRowMaker_9 : PySem.W.codeIn K gcdRowMaker_9 "RowMaker.while_rows" = true)
    (eRowMaker_9 : PySem.W.keepIn K (.ref gRowMaker_9) = true)
    (bRowMaker_10 : PySem.W.findIn K (.ref R_RowMaker) "try_rows" = some (some (.ref gRowMaker_10)))
    (iRowMaker_10 : PySem.W.isFn K (.ref gRowMaker_10) = true)
    (mRowMaker_10 : K.lookup gRowMaker_10 = some ⟨gocRowMaker_10, godRowMaker_10, .func (PySem.W.fnOf "try_rows" "RowMaker.try_rows" (defArgs s_RowMaker_try_rows) (defBody s_RowMaker_try_rows) (defScope s_RowMaker_try_rows) .none gkVRowMaker_10 gdcRowMaker_10 gpmRowMaker_10 ganRowMaker_10 gcdRowMaker_10 gctRowMaker_10), gslRowMaker_10⟩)
    (dRowMaker_10 : PySem.W.codeIn K gcdRowMaker_10 "RowMaker.try_rows" = true)
    (eRowMaker_10 : PySem.W.keepIn K (.ref gRowMaker_10) = true)
    (bRowMaker_11 : PySem.W.findIn K (.ref R_RowMaker) "all_expression_rows" = some (some (.ref gRowMaker_11)))
    (iRowMaker_11 : PySem.W.isFn K (.ref gRowMaker_11) = true)
    (mRowMaker_11 : K.lookup gRowMaker_11 = some ⟨gocRowMaker_11, godRowMaker_11, .func (PySem.W.fnOf "all_expression_rows" "RowMaker.all_expression_rows" (defArgs s_RowMaker_all_expression_rows) (defBody s_RowMaker_all_expression_rows) (defScope s_RowMaker_all_expression_rows) .none gkVRowMaker_11 gdcRowMaker_11 gpmRowMaker_11 ganRowMaker_11 gcdRowMaker_11 gctRowMaker_11), gslRowMaker_11⟩)
    (dRowMaker_11 : PySem.W.codeIn K gcdRowMaker_11 "RowMaker.all_expression_rows" = true)
    (eRowMaker_11 : PySem.W.keepIn K (.ref gRowMaker_11) = true)
    (bRowMaker_12 : PySem.W.findIn K (.ref R_RowMaker) "expression_rows" = some (some (.ref gRowMaker_12)))
    (iRowMaker_12 : PySem.W.isFn K (.ref gRowMaker_12) = true)
    (mRowMaker_12 : K.lookup gRowMaker_12 = some ⟨gocRowMaker_12, godRowMaker_12, .func (PySem.W.fnOf "expression_rows" "RowMaker.expression_rows" (defArgs s_RowMaker_expression_rows) (defBody s_RowMaker_expression_rows) (defScope s_RowMaker_expression_rows) .none gkVRowMaker_12 gdcRowMaker_12 gpmRowMaker_12 ganRowMaker_12 gcdRowMaker_12 gctRowMaker_12), gslRowMaker_12⟩)
    (dRowMaker_12 : PySem.W.codeIn K gcdRowMaker_12 "RowMaker.expression_rows" = true)
    (eRowMaker_12 : PySem.W.keepIn K (.ref gRowMaker_12) = true)
    (bRowMaker_13 : PySem.W.findIn K (.ref R_RowMaker) "send_rows" = some (some (.ref gRowMaker_13)))
    (iRowMaker_13 : PySem.W.isFn K (.ref gRowMaker_13) = true)
    (mRowMaker_13 : K.lookup gRowMaker_13 = some ⟨gocRowMaker_13, godRowMaker_13, .func (PySem.W.fnOf "send_rows" "RowMaker.send_rows" (defArgs s_RowMaker_send_rows) (defBody s_RowMaker_send_rows) (defScope s_RowMaker_send_rows) .none gkVRowMaker_13 gdcRowMaker_13 gpmRowMaker_13 ganRowMaker_13 gcdRowMaker_13 gctRowMaker_13), gslRowMaker_13⟩)
    (dRowMaker_13 : PySem.W.codeIn K gcdRowMaker_13 "RowMaker.send_rows" = true)
    (eRowMaker_13 : PySem.W.keepIn K (.ref gRowMaker_13) = true)
    (v_METHOD_CODE : PySem.W.nsIn K mainGlobals "METHOD_CODE" = some (some (.int (-1) t_METHOD_CODE)))
    (z_abs : PySem.W.nsIn K mainGlobals "abs" = some none)
    (z_all : PySem.W.nsIn K mainGlobals "all" = some none)
    (z_any : PySem.W.nsIn K mainGlobals "any" = some none)
    (z_bool : PySem.W.nsIn K mainGlobals "bool" = some none)
    (z_dict : PySem.W.nsIn K mainGlobals "dict" = some none)
    (z_divmod : PySem.W.nsIn K mainGlobals "divmod" = some none)
    (z_enumerate : PySem.W.nsIn K mainGlobals "enumerate" = some none)
    (z_int : PySem.W.nsIn K mainGlobals "int" = some none)
    (z_isinstance : PySem.W.nsIn K mainGlobals "isinstance" = some none)
    (z_len : PySem.W.nsIn K mainGlobals "len" = some none)
    (z_list : PySem.W.nsIn K mainGlobals "list" = some none)
    (z_max : PySem.W.nsIn K mainGlobals "max" = some none)
    (z_min : PySem.W.nsIn K mainGlobals "min" = some none)
    (z_range : PySem.W.nsIn K mainGlobals "range" = some none)
    (z_reversed : PySem.W.nsIn K mainGlobals "reversed" = some none)
    (z_set : PySem.W.nsIn K mainGlobals "set" = some none)
    (z_sorted : PySem.W.nsIn K mainGlobals "sorted" = some none)
    (z_str : PySem.W.nsIn K mainGlobals "str" = some none)
    (z_sum : PySem.W.nsIn K mainGlobals "sum" = some none)
    (z_tuple : PySem.W.nsIn K mainGlobals "tuple" = some none)
    (z_zip : PySem.W.nsIn K mainGlobals "zip" = some none)
    : ∃ fd : FuncData, (∀ (s : Shared) (v : Value), BindsTo s fd ⟨[v], []⟩ [("_law_script", v)]) ∧ ∀ base : Heap, K.In base → base.Ns mainGlobals mg → FnOk l.prog w K mg base CX0 230 fa fd ["_law_script"] (spLaw K) := by
  have e := hfa.symm.trans (PySem.W.mg_of X G a29)
  cases e
  have ZF : Fz K mg := {
    D_nodes_of := ⟨⟨f0, _, fun_mk l0 c0 k0, PySem.W.mg_of X G a0⟩⟩,
    D_codes_of := ⟨⟨f1, _, fun_mk l1 c1 k1, PySem.W.mg_of X G a1⟩⟩,
    D_names_of := ⟨⟨f2, _, fun_mk l2 c2 k2, PySem.W.mg_of X G a2⟩⟩,
    D_names_among := ⟨⟨f3, _, fun_mk l3 c3 k3, PySem.W.mg_of X G a3⟩⟩,
    D_parameters_of := ⟨⟨f4, _, fun_mk l4 c4 k4, PySem.W.mg_of X G a4⟩⟩,
    D_body_of := ⟨⟨f5, _, fun_mk l5 c5 k5, PySem.W.mg_of X G a5⟩⟩,
    D_code_within := ⟨⟨f6, _, fun_mk l6 c6 k6, PySem.W.mg_of X G a6⟩⟩,
    D_scopes_of := ⟨⟨f7, _, fun_mk l7 c7 k7, PySem.W.mg_of X G a7⟩⟩,
    D_found_name := ⟨⟨f8, _, fun_mk l8 c8 k8, PySem.W.mg_of X G a8⟩⟩,
    D_code_tree := ⟨⟨f9, _, fun_mk l9 c9 k9, PySem.W.mg_of X G a9⟩⟩,
    D_nodes_with_codes := ⟨⟨f10, _, fun_mk l10 c10 k10, PySem.W.mg_of X G a10⟩⟩,
    D_many_nodes := ⟨⟨f11, _, fun_mk l11 c11 k11, PySem.W.mg_of X G a11⟩⟩,
    D_parts_of := ⟨⟨f12, _, fun_mk l12 c12 k12, PySem.W.mg_of X G a12⟩⟩,
    D_set_word := ⟨⟨f13, _, fun_mk l13 c13 k13, PySem.W.mg_of X G a13⟩⟩,
    D_is_parameter := ⟨⟨f14, _, fun_mk l14 c14 k14, PySem.W.mg_of X G a14⟩⟩,
    D_rows_of := ⟨⟨f15, _, fun_mk l15 c15 k15, PySem.W.mg_of X G a15⟩⟩,
    D__law_deck := ⟨⟨f16, _, fun_mk l16 c16 k16, PySem.W.mg_of X G a16⟩⟩,
    D__law_draw := ⟨⟨f17, _, fun_mk l17 c17 k17, PySem.W.mg_of X G a17⟩⟩,
    D__law_word := ⟨⟨f18, _, fun_mk l18 c18 k18, PySem.W.mg_of X G a18⟩⟩,
    D__law_words := ⟨⟨f19, _, fun_mk l19 c19 k19, PySem.W.mg_of X G a19⟩⟩,
    D__law_seen := ⟨⟨f20, _, fun_mk l20 c20 k20, PySem.W.mg_of X G a20⟩⟩,
    D__law_e := ⟨⟨f21, _, fun_mk l21 c21 k21, PySem.W.mg_of X G a21⟩⟩,
    D__law_inner := ⟨⟨f22, _, fun_mk l22 c22 k22, PySem.W.mg_of X G a22⟩⟩,
    D__law_statements := ⟨⟨f23, _, fun_mk l23 c23 k23, PySem.W.mg_of X G a23⟩⟩,
    D__law_find := ⟨⟨f24, _, fun_mk l24 c24 k24, PySem.W.mg_of X G a24⟩⟩,
    D__law_walk := ⟨⟨f25, _, fun_mk l25 c25 k25, PySem.W.mg_of X G a25⟩⟩,
    D__law_order := ⟨⟨f26, _, fun_mk l26 c26 k26, PySem.W.mg_of X G a26⟩⟩,
    D__law_due := ⟨⟨f27, _, fun_mk l27 c27 k27, PySem.W.mg_of X G a27⟩⟩,
    D__law_told := ⟨⟨f28, _, fun_mk l28 c28 k28, PySem.W.mg_of X G a28⟩⟩,
    R_RowMaker := R_RowMaker,
    m_RowMaker := PySem.W.mg_of X G aR_RowMaker,
    cl_RowMaker := ⟨pgR_RowMaker, hdR_RowMaker, poR_RowMaker, saR_RowMaker⟩,
    na_RowMaker_rows := nR_RowMaker_rows,
    na_RowMaker_visible := nR_RowMaker_visible,
    na_RowMaker_number := nR_RowMaker_number,
    I_RowMaker := ⟨gRowMaker_0, _, ⟨mkR_RowMaker, bRowMaker_0, iRowMaker_0, kcR_RowMaker⟩, fun_mk mRowMaker_0 dRowMaker_0 eRowMaker_0⟩,
    M_RowMaker_put := ⟨⟨gRowMaker_1, _, fun_mk mRowMaker_1 dRowMaker_1 eRowMaker_1, ⟨bRowMaker_1, iRowMaker_1, eRowMaker_1⟩⟩⟩,
    M_RowMaker_put_of_name := ⟨⟨gRowMaker_2, _, fun_mk mRowMaker_2 dRowMaker_2 eRowMaker_2, ⟨bRowMaker_2, iRowMaker_2, eRowMaker_2⟩⟩⟩,
    M_RowMaker_leave_open := ⟨⟨gRowMaker_3, _, fun_mk mRowMaker_3 dRowMaker_3 eRowMaker_3, ⟨bRowMaker_3, iRowMaker_3, eRowMaker_3⟩⟩⟩,
    M_RowMaker_fill_in := ⟨⟨gRowMaker_4, _, fun_mk mRowMaker_4 dRowMaker_4 eRowMaker_4, ⟨bRowMaker_4, iRowMaker_4, eRowMaker_4⟩⟩⟩,
    M_RowMaker_next_number := ⟨⟨gRowMaker_5, _, fun_mk mRowMaker_5 dRowMaker_5 eRowMaker_5, ⟨bRowMaker_5, iRowMaker_5, eRowMaker_5⟩⟩⟩,
    M_RowMaker_all_statement_rows := ⟨⟨gRowMaker_6, _, fun_mk mRowMaker_6 dRowMaker_6 eRowMaker_6, ⟨bRowMaker_6, iRowMaker_6, eRowMaker_6⟩⟩⟩,
    M_RowMaker_statement_rows := ⟨⟨gRowMaker_7, _, fun_mk mRowMaker_7 dRowMaker_7 eRowMaker_7, ⟨bRowMaker_7, iRowMaker_7, eRowMaker_7⟩⟩⟩,
    M_RowMaker_if_rows := ⟨⟨gRowMaker_8, _, fun_mk mRowMaker_8 dRowMaker_8 eRowMaker_8, ⟨bRowMaker_8, iRowMaker_8, eRowMaker_8⟩⟩⟩,
    M_RowMaker_while_rows := ⟨⟨gRowMaker_9, _, fun_mk mRowMaker_9 dRowMaker_9 eRowMaker_9, ⟨bRowMaker_9, iRowMaker_9, eRowMaker_9⟩⟩⟩,
    M_RowMaker_try_rows := ⟨⟨gRowMaker_10, _, fun_mk mRowMaker_10 dRowMaker_10 eRowMaker_10, ⟨bRowMaker_10, iRowMaker_10, eRowMaker_10⟩⟩⟩,
    M_RowMaker_all_expression_rows := ⟨⟨gRowMaker_11, _, fun_mk mRowMaker_11 dRowMaker_11 eRowMaker_11, ⟨bRowMaker_11, iRowMaker_11, eRowMaker_11⟩⟩⟩,
    M_RowMaker_expression_rows := ⟨⟨gRowMaker_12, _, fun_mk mRowMaker_12 dRowMaker_12 eRowMaker_12, ⟨bRowMaker_12, iRowMaker_12, eRowMaker_12⟩⟩⟩,
    M_RowMaker_send_rows := ⟨⟨gRowMaker_13, _, fun_mk mRowMaker_13 dRowMaker_13 eRowMaker_13, ⟨bRowMaker_13, iRowMaker_13, eRowMaker_13⟩⟩⟩,
    g_METHOD_CODE := ⟨_, PySem.W.mg_of X G v_METHOD_CODE, ⟨_, rfl⟩⟩,
    b_abs := PySem.W.mg_none_of X G z_abs,
    b_all := PySem.W.mg_none_of X G z_all,
    b_any := PySem.W.mg_none_of X G z_any,
    b_bool := PySem.W.mg_none_of X G z_bool,
    b_dict := PySem.W.mg_none_of X G z_dict,
    b_divmod := PySem.W.mg_none_of X G z_divmod,
    b_enumerate := PySem.W.mg_none_of X G z_enumerate,
    b_int := PySem.W.mg_none_of X G z_int,
    b_isinstance := PySem.W.mg_none_of X G z_isinstance,
    b_len := PySem.W.mg_none_of X G z_len,
    b_list := PySem.W.mg_none_of X G z_list,
    b_max := PySem.W.mg_none_of X G z_max,
    b_min := PySem.W.mg_none_of X G z_min,
    b_range := PySem.W.mg_none_of X G z_range,
    b_reversed := PySem.W.mg_none_of X G z_reversed,
    b_set := PySem.W.mg_none_of X G z_set,
    b_sorted := PySem.W.mg_none_of X G z_sorted,
    b_str := PySem.W.mg_none_of X G z_str,
    b_sum := PySem.W.mg_none_of X G z_sum,
    b_tuple := PySem.W.mg_none_of X G z_tuple,
    b_zip := PySem.W.mg_none_of X G z_zip }
  refine ⟨PySem.W.fnOf "law" "law" (defArgs s_law) (defBody s_law) (defScope s_law) .none kV29 dc29 pm29 an29 cd29 ct29, fun s v => .of_eq rfl, fun base _ _ => ?_⟩
  exact law_ok ZF (fun_mk l29 c29 k29)
end My
open PySem PySem.W PyProof.Rows in
set_option maxRecDepth 100000 in
set_option maxHeartbeats 0 in
theorem PySem.Challenge.cw_sendstead_k58_rows_of_names_and_blocks_holds : PySem.Challenge.rw_sendstead_k58_rows_of_names_and_blocks.Holds := by
  w_on; o_law; k_head; (case hw => w_witness2)
  k_fill
  refine L2.walk_of (l := PySem.Challenge.rw_sendstead_k58_rows_of_names_and_blocks) (n := 63) (k := 230) (x := "_law_script") (CX := fun _ => L2.CX0) (sp := fun w => My.spLaw _) rfl (by decide) rfl ⟨rfl, by decide, by decide⟩ (fun w h Y => PySem.W.kIn_of Y) ?F (fun _ _ a ns hl _ hS => ⟨a, ns, rfl, hS, hl, fun _ => rfl⟩) fun _ _ _ _ _ z => z
  case F =>
    intro w mg fa h KX G hmg
    refine' My.all_mk KX G hmg ?a0 ?l0 ?c0 ?k0 ?a1 ?l1 ?c1 ?k1 ?a2 ?l2 ?c2 ?k2 ?a3 ?l3 ?c3 ?k3 ?a4 ?l4 ?c4 ?k4 ?a5 ?l5 ?c5 ?k5 ?a6 ?l6 ?c6 ?k6 ?a7 ?l7 ?c7 ?k7 ?a8 ?l8 ?c8 ?k8 ?a9 ?l9 ?c9 ?k9 ?a10 ?l10 ?c10 ?k10 ?a11 ?l11 ?c11 ?k11 ?a12 ?l12 ?c12 ?k12 ?a13 ?l13 ?c13 ?k13 ?a14 ?l14 ?c14 ?k14 ?a15 ?l15 ?c15 ?k15 ?a16 ?l16 ?c16 ?k16 ?a17 ?l17 ?c17 ?k17 ?a18 ?l18 ?c18 ?k18 ?a19 ?l19 ?c19 ?k19 ?a20 ?l20 ?c20 ?k20 ?a21 ?l21 ?c21 ?k21 ?a22 ?l22 ?c22 ?k22 ?a23 ?l23 ?c23 ?k23 ?a24 ?l24 ?c24 ?k24 ?a25 ?l25 ?c25 ?k25 ?a26 ?l26 ?c26 ?k26 ?a27 ?l27 ?c27 ?k27 ?a28 ?l28 ?c28 ?k28 ?a29 ?l29 ?c29 ?k29 ?aR_RowMaker ?pgR_RowMaker ?hdR_RowMaker ?poR_RowMaker ?saR_RowMaker ?mkR_RowMaker ?kcR_RowMaker ?nR_RowMaker_rows ?nR_RowMaker_visible ?nR_RowMaker_number ?bRowMaker_0 ?iRowMaker_0 ?mRowMaker_0 ?dRowMaker_0 ?eRowMaker_0 ?bRowMaker_1 ?iRowMaker_1 ?mRowMaker_1 ?dRowMaker_1 ?eRowMaker_1 ?bRowMaker_2 ?iRowMaker_2 ?mRowMaker_2 ?dRowMaker_2 ?eRowMaker_2 ?bRowMaker_3 ?iRowMaker_3 ?mRowMaker_3 ?dRowMaker_3 ?eRowMaker_3 ?bRowMaker_4 ?iRowMaker_4 ?mRowMaker_4 ?dRowMaker_4 ?eRowMaker_4 ?bRowMaker_5 ?iRowMaker_5 ?mRowMaker_5 ?dRowMaker_5 ?eRowMaker_5 ?bRowMaker_6 ?iRowMaker_6 ?mRowMaker_6 ?dRowMaker_6 ?eRowMaker_6 ?bRowMaker_7 ?iRowMaker_7 ?mRowMaker_7 ?dRowMaker_7 ?eRowMaker_7 ?bRowMaker_8 ?iRowMaker_8 ?mRowMaker_8 ?dRowMaker_8 ?eRowMaker_8 ?bRowMaker_9 ?iRowMaker_9 ?mRowMaker_9 ?dRowMaker_9 ?eRowMaker_9 ?bRowMaker_10 ?iRowMaker_10 ?mRowMaker_10 ?dRowMaker_10 ?eRowMaker_10 ?bRowMaker_11 ?iRowMaker_11 ?mRowMaker_11 ?dRowMaker_11 ?eRowMaker_11 ?bRowMaker_12 ?iRowMaker_12 ?mRowMaker_12 ?dRowMaker_12 ?eRowMaker_12 ?bRowMaker_13 ?iRowMaker_13 ?mRowMaker_13 ?dRowMaker_13 ?eRowMaker_13 ?v_METHOD_CODE ?z_abs ?z_all ?z_any ?z_bool ?z_dict ?z_divmod ?z_enumerate ?z_int ?z_isinstance ?z_len ?z_list ?z_max ?z_min ?z_range ?z_reversed ?z_set ?z_sorted ?z_str ?z_sum ?z_tuple ?z_zip
    (case a0 => k_is)
    (case l0 => k_is)
    (case c0 => k_is)
    (case k0 => k_is)
    (case a1 => k_is)
    (case l1 => k_is)
    (case c1 => k_is)
    (case k1 => k_is)
    (case a2 => k_is)
    (case l2 => k_is)
    (case c2 => k_is)
    (case k2 => k_is)
    (case a3 => k_is)
    (case l3 => k_is)
    (case c3 => k_is)
    (case k3 => k_is)
    (case a4 => k_is)
    (case l4 => k_is)
    (case c4 => k_is)
    (case k4 => k_is)
    (case a5 => k_is)
    (case l5 => k_is)
    (case c5 => k_is)
    (case k5 => k_is)
    (case a6 => k_is)
    (case l6 => k_is)
    (case c6 => k_is)
    (case k6 => k_is)
    (case a7 => k_is)
    (case l7 => k_is)
    (case c7 => k_is)
    (case k7 => k_is)
    (case a8 => k_is)
    (case l8 => k_is)
    (case c8 => k_is)
    (case k8 => k_is)
    (case a9 => k_is)
    (case l9 => k_is)
    (case c9 => k_is)
    (case k9 => k_is)
    (case a10 => k_is)
    (case l10 => k_is)
    (case c10 => k_is)
    (case k10 => k_is)
    (case a11 => k_is)
    (case l11 => k_is)
    (case c11 => k_is)
    (case k11 => k_is)
    (case a12 => k_is)
    (case l12 => k_is)
    (case c12 => k_is)
    (case k12 => k_is)
    (case a13 => k_is)
    (case l13 => k_is)
    (case c13 => k_is)
    (case k13 => k_is)
    (case a14 => k_is)
    (case l14 => k_is)
    (case c14 => k_is)
    (case k14 => k_is)
    (case a15 => k_is)
    (case l15 => k_is)
    (case c15 => k_is)
    (case k15 => k_is)
    (case a16 => k_is)
    (case l16 => k_is)
    (case c16 => k_is)
    (case k16 => k_is)
    (case a17 => k_is)
    (case l17 => k_is)
    (case c17 => k_is)
    (case k17 => k_is)
    (case a18 => k_is)
    (case l18 => k_is)
    (case c18 => k_is)
    (case k18 => k_is)
    (case a19 => k_is)
    (case l19 => k_is)
    (case c19 => k_is)
    (case k19 => k_is)
    (case a20 => k_is)
    (case l20 => k_is)
    (case c20 => k_is)
    (case k20 => k_is)
    (case a21 => k_is)
    (case l21 => k_is)
    (case c21 => k_is)
    (case k21 => k_is)
    (case a22 => k_is)
    (case l22 => k_is)
    (case c22 => k_is)
    (case k22 => k_is)
    (case a23 => k_is)
    (case l23 => k_is)
    (case c23 => k_is)
    (case k23 => k_is)
    (case a24 => k_is)
    (case l24 => k_is)
    (case c24 => k_is)
    (case k24 => k_is)
    (case a25 => k_is)
    (case l25 => k_is)
    (case c25 => k_is)
    (case k25 => k_is)
    (case a26 => k_is)
    (case l26 => k_is)
    (case c26 => k_is)
    (case k26 => k_is)
    (case a27 => k_is)
    (case l27 => k_is)
    (case c27 => k_is)
    (case k27 => k_is)
    (case a28 => k_is)
    (case l28 => k_is)
    (case c28 => k_is)
    (case k28 => k_is)
    (case a29 => k_is)
    (case l29 => k_is)
    (case c29 => k_is)
    (case k29 => k_is)
    (case aR_RowMaker => k_is)
    (case pgR_RowMaker => k_is)
    (case hdR_RowMaker => k_is)
    (case poR_RowMaker => k_is)
    (case saR_RowMaker => k_is)
    (case mkR_RowMaker => k_is)
    (case kcR_RowMaker => k_is)
    (case nR_RowMaker_rows => k_is)
    (case nR_RowMaker_visible => k_is)
    (case nR_RowMaker_number => k_is)
    (case bRowMaker_0 => k_is)
    (case iRowMaker_0 => k_is)
    (case mRowMaker_0 => k_is)
    (case dRowMaker_0 => k_is)
    (case eRowMaker_0 => k_is)
    (case bRowMaker_1 => k_is)
    (case iRowMaker_1 => k_is)
    (case mRowMaker_1 => k_is)
    (case dRowMaker_1 => k_is)
    (case eRowMaker_1 => k_is)
    (case bRowMaker_2 => k_is)
    (case iRowMaker_2 => k_is)
    (case mRowMaker_2 => k_is)
    (case dRowMaker_2 => k_is)
    (case eRowMaker_2 => k_is)
    (case bRowMaker_3 => k_is)
    (case iRowMaker_3 => k_is)
    (case mRowMaker_3 => k_is)
    (case dRowMaker_3 => k_is)
    (case eRowMaker_3 => k_is)
    (case bRowMaker_4 => k_is)
    (case iRowMaker_4 => k_is)
    (case mRowMaker_4 => k_is)
    (case dRowMaker_4 => k_is)
    (case eRowMaker_4 => k_is)
    (case bRowMaker_5 => k_is)
    (case iRowMaker_5 => k_is)
    (case mRowMaker_5 => k_is)
    (case dRowMaker_5 => k_is)
    (case eRowMaker_5 => k_is)
    (case bRowMaker_6 => k_is)
    (case iRowMaker_6 => k_is)
    (case mRowMaker_6 => k_is)
    (case dRowMaker_6 => k_is)
    (case eRowMaker_6 => k_is)
    (case bRowMaker_7 => k_is)
    (case iRowMaker_7 => k_is)
    (case mRowMaker_7 => k_is)
    (case dRowMaker_7 => k_is)
    (case eRowMaker_7 => k_is)
    (case bRowMaker_8 => k_is)
    (case iRowMaker_8 => k_is)
    (case mRowMaker_8 => k_is)
    (case dRowMaker_8 => k_is)
    (case eRowMaker_8 => k_is)
    (case bRowMaker_9 => k_is)
    (case iRowMaker_9 => k_is)
    (case mRowMaker_9 => k_is)
    (case dRowMaker_9 => k_is)
    (case eRowMaker_9 => k_is)
    (case bRowMaker_10 => k_is)
    (case iRowMaker_10 => k_is)
    (case mRowMaker_10 => k_is)
    (case dRowMaker_10 => k_is)
    (case eRowMaker_10 => k_is)
    (case bRowMaker_11 => k_is)
    (case iRowMaker_11 => k_is)
    (case mRowMaker_11 => k_is)
    (case dRowMaker_11 => k_is)
    (case eRowMaker_11 => k_is)
    (case bRowMaker_12 => k_is)
    (case iRowMaker_12 => k_is)
    (case mRowMaker_12 => k_is)
    (case dRowMaker_12 => k_is)
    (case eRowMaker_12 => k_is)
    (case bRowMaker_13 => k_is)
    (case iRowMaker_13 => k_is)
    (case mRowMaker_13 => k_is)
    (case dRowMaker_13 => k_is)
    (case eRowMaker_13 => k_is)
    (case v_METHOD_CODE => k_is)
    (case z_abs => k_is)
    (case z_all => k_is)
    (case z_any => k_is)
    (case z_bool => k_is)
    (case z_dict => k_is)
    (case z_divmod => k_is)
    (case z_enumerate => k_is)
    (case z_int => k_is)
    (case z_isinstance => k_is)
    (case z_len => k_is)
    (case z_list => k_is)
    (case z_max => k_is)
    (case z_min => k_is)
    (case z_range => k_is)
    (case z_reversed => k_is)
    (case z_set => k_is)
    (case z_sorted => k_is)
    (case z_str => k_is)
    (case z_sum => k_is)
    (case z_tuple => k_is)
    (case z_zip => k_is)
