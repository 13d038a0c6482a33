import PyProof.Rows.All
import Wide.All
import OpenK.AllK
import Wide.FinOn
import HandS.ForMost
import HandS.ForExc
import HandS.ExcInit
import HandS.ExcField
import HandS.FStr
import HandS.CallLocal
import HandS.SortKw
import HandS.StrMore
import HandS.Flow
import HandS.CallSlots
import HandS.TupAny
import HandS.ClsMeth
import HandS.Walk
import KE.DataMinMax
import KE.GoesEnumKw
import KE.IntTextLaws
import HandS.Codes
import HandS.RaiseMore
import HandS.Star
import PySem.Challenge.RW_sendstead_k09_rows_written
set_option Elab.async false
set_option linter.all false
set_option maxRecDepth 100000
set_option maxHeartbeats 4000000
section
/-! the mathematics of texts, rows and words: plain lists of codes -/
set_option autoImplicit false
namespace SS
abbrev T := List Nat
def BR : T := [40, 41, 123, 125, 91, 93, 124]
def isSep (c : Nat) : Bool := decide (c = 32) || decide (c ∈ BR)
def flush (cur : T) (k : Nat) : List (T × Nat) := if cur = [] then [] else [(cur, k - cur.length)]
/-- the words of what is left of a row, cur being read ahead of column k -/
def rw_ : T → Nat → T → List (T × Nat)
  | cur, k, [] => flush cur k
  | cur, k, c :: r => if isSep c = true then flush cur k ++ (if c = 32 then [] else [([c], k)]) ++ rw_ [] (k + 1) r else rw_ (cur ++ [c]) (k + 1) r
def rowWords (l : T) : List (T × Nat) := rw_ [] 1 l

def SMALL : T := (List.range 26).map (· + 97)
def CAPS : T := (List.range 26).map (· + 65)
def FIGS : T := (List.range 10).map (· + 48)
def TEXTS : T := SMALL ++ CAPS ++ FIGS ++ [95]
def hasOnly (w s : T) : Bool := w.all fun c => decide (c ∈ s)
def isName (w first others : T) : Bool := decide (1 ≤ w.length ∧ w.length ≤ 12) && (decide ((w.getD 0 0) ∈ first) && hasOnly w others)
def isSmall (w : T) : Bool := isName w SMALL (SMALL ++ FIGS)
def isKindName (w : T) : Bool := isName w CAPS (SMALL ++ CAPS ++ FIGS)
def isText (w : T) : Bool := decide (w.length ≤ 40) && hasOnly w TEXTS

/-- one word that is none, or the row too long: the first column -/
def cols (isW : T → Bool) (p : List (T × Nat)) (n : Nat) : List Nat := (p.filter fun q => !isW q.1).map (·.2) ++ (if n > 120 then [121] else [])
def minOf : List Nat → Option Nat
  | [] => none
  | a :: r => match minOf r with
    | none => some a
    | some b => some (if b < a then b else a)
theorem minOf_none : ∀ {l : List Nat}, minOf l = none ↔ l = []
  | [] => by simp [minOf]
  | a :: r => by
    simp only [minOf]
    split <;> simp
theorem minOf_some : ∀ {l : List Nat} {m : Nat}, minOf l = some m ↔ m ∈ l ∧ ∀ y ∈ l, m ≤ y
  | [], m => by simp [minOf]
  | a :: r, m => by
    simp only [minOf]
    cases e : minOf r with
    | none =>
      have e' := minOf_none.mp e
      subst e'
      simp
      constructor
      · intro h; subst h; simp
      · intro h; exact h.1.symm
    | some b =>
      have ih := (minOf_some (l := r) (m := b)).mp e
      simp only [Option.some.injEq]
      constructor
      · intro h
        split at h
        · subst h
          refine ⟨List.mem_cons_of_mem _ ih.1, fun y hy => ?_⟩
          rcases List.mem_cons.mp hy with h | h
          · subst h; omega
          · exact ih.2 y h
        · subst h
          refine ⟨List.mem_cons_self, fun y hy => ?_⟩
          rcases List.mem_cons.mp hy with h | h
          · omega
          · have := ih.2 y h; omega
      · rintro ⟨h1, h2⟩
        have ha := h2 a List.mem_cons_self
        have hb := h2 b (List.mem_cons_of_mem _ ih.1)
        rcases List.mem_cons.mp h1 with h | h
        · subst h
          split
          · omega
          · rfl
        · have := ih.2 m h
          split <;> omega
def wrongCol (isW : T → Bool) (p : List (T × Nat)) (n : Nat) : Option Nat := minOf (cols isW p n)

abbrev W := T × Nat × Nat
def lay (r : Nat) (p : List (T × Nat)) : List W := p.map fun q => (q.1, r, q.2)
def scanGo (isW : T → Bool) : Nat → List T → List W × Option (Nat × Nat)
  | _, [] => ([], none)
  | r, l :: ls => match wrongCol isW (rowWords l) l.length with
    | some c => (lay r ((rowWords l).filter fun q => decide (q.2 < c)), some (r, c))
    | none => (lay r (rowWords l) ++ (scanGo isW (r + 1) ls).1, (scanGo isW (r + 1) ls).2)
def scan (isW : T → Bool) (rows : List T) : List W × Option (Nat × Nat) :=
  match (scanGo isW 1 (rows.take 300)).2 with
  | some p => ((scanGo isW 1 (rows.take 300)).1, some p)
  | none => ((scanGo isW 1 (rows.take 300)).1, if rows.length > 300 then some (301, 1) else none)

/-! ### rows: facts -/
theorem flush_nil (k : Nat) : flush [] k = [] := rfl
theorem rw_sep {cur : T} {k c : Nat} {r : T} (h : isSep c = true) : rw_ cur k (c :: r) = flush cur k ++ (if c = 32 then [] else [([c], k)]) ++ rw_ [] (k + 1) r := by
  rw [rw_, if_pos h]
theorem rw_on {cur : T} {k c : Nat} {r : T} (h : isSep c = false) : rw_ cur k (c :: r) = rw_ (cur ++ [c]) (k + 1) r := by
  rw [rw_, if_neg (by rw [h]; decide)]
theorem rw_blank {cur : T} {k : Nat} {r : T} : rw_ cur k (32 :: r) = flush cur k ++ rw_ [] (k + 1) r := by
  rw [rw_sep (by decide)]
  simp
theorem rw_blanks : ∀ (n k : Nat) (r : T), rw_ [] k (List.replicate n 32 ++ r) = rw_ [] (k + n) r
  | 0, k, r => rfl
  | n + 1, k, r => by
    rw [List.replicate_succ, List.cons_append, rw_blank, flush_nil, List.nil_append, rw_blanks n (k + 1) r]
    congr 1
    omega
theorem rw_tail (cur : T) (k n : Nat) : rw_ cur k (List.replicate n 32) = flush cur k := by
  cases n with
  | zero => rfl
  | succ n =>
    rw [List.replicate_succ, rw_blank]
    have := rw_blanks n (k + 1) []
    rw [List.append_nil] at this
    rw [this]
    simp [rw_, flush]
/-- a plain word, then what ends it -/
theorem rw_word : ∀ (w cur : T) (k : Nat) (r : T), (w.all fun c => !isSep c) = true → rw_ cur k (w ++ r) = rw_ (cur ++ w) (k + w.length) r
  | [], cur, k, r, _ => by simp
  | c :: w, cur, k, r, h => by
    rw [List.all_cons, Bool.and_eq_true] at h
    rw [List.cons_append, rw_on (by simpa using h.1), rw_word w _ _ _ h.2, List.append_assoc, List.singleton_append, List.length_cons]
    congr 1
    omega
theorem flush_word {w : T} {k : Nat} (h : w ≠ []) : flush w (k + w.length) = [(w, k)] := by
  unfold flush
  rw [if_neg h]
  congr 2
  omega
theorem rw_word1 {w : T} {k : Nat} {r : T} (h : w ≠ []) (hs : (w.all fun c => !isSep c) = true) : rw_ [] k (w ++ 32 :: r) = (w, k) :: rw_ [] (k + w.length + 1) r := by
  rw [rw_word w [] k _ hs, List.nil_append, rw_blank, flush_word h]
  rfl
theorem rw_wordEnd {w : T} {k n : Nat} (h : w ≠ []) (hs : (w.all fun c => !isSep c) = true) : rw_ [] k (w ++ List.replicate n 32) = [(w, k)] := by
  rw [rw_word w [] k _ hs, List.nil_append, rw_tail, flush_word h]
theorem rw_ge : ∀ (r cur : T) (k m : Nat), m + cur.length ≤ k → ∀ q ∈ rw_ cur k r, m ≤ q.2
  | [], cur, k, m, h, q, hq => by
    rw [rw_] at hq
    unfold flush at hq
    split at hq
    · simp at hq
    · simp at hq; subst hq; show m ≤ k - cur.length; omega
  | c :: r, cur, k, m, h, q, hq => by
    rw [rw_] at hq
    split at hq
    · rcases List.mem_append.mp hq with hq | hq
      · rcases List.mem_append.mp hq with hq | hq
        · unfold flush at hq
          split at hq
          · simp at hq
          · simp at hq; subst hq; show m ≤ k - cur.length; omega
        · split at hq
          · simp at hq
          · simp at hq; subst hq; show m ≤ k; omega
      · exact rw_ge r [] (k + 1) m (by simp; omega) q hq
    · exact rw_ge r (cur ++ [c]) (k + 1) m (by simp; omega) q hq
/-- the loop over a row, sign by sign -/
def sl (L : T) (a b : Nat) : T := (L.drop a).take (b - a)
theorem sl_snoc {L : T} {a b c : Nat} (h : a ≤ b) (hc : L[b]? = some c) : sl L a (b + 1) = sl L a b ++ [c] := by
  unfold sl
  have e : b + 1 - a = (b - a) + 1 := by omega
  rw [e, List.take_add_one, List.getElem?_drop]
  have e2 : a + (b - a) = b := by omega
  rw [e2, hc]
  rfl
theorem sl_len {L : T} {a b : Nat} (hb : b ≤ L.length) : (sl L a b).length = b - a := by
  unfold sl
  rw [List.length_take, List.length_drop]
  omega
theorem sl_self (L : T) (a : Nat) : sl L a a = [] := by simp [sl]
theorem sl_nil {L : T} {a b : Nat} (hb : b ≤ L.length) (h : ¬ a < b) : sl L a b = [] := by
  have := sl_len (a := a) hb
  exact List.eq_nil_of_length_eq_zero (by omega)
theorem drop_at {L : T} {b c : Nat} (hc : L[b]? = some c) : L.drop b = c :: L.drop (b + 1) := by
  obtain ⟨h, e⟩ := List.getElem?_eq_some_iff.mp hc
  rw [List.drop_eq_getElem_cons h, e]
/-- a turn at a sign that ends no word -/
theorem turn_on {L : T} {a b c : Nat} {ps : List (T × Nat)} (h : a ≤ b) (hc : L[b]? = some c) (hs : isSep c = false)
    (I : ps ++ rw_ (sl L a b) (b + 1) (L.drop b) = rowWords L) : ps ++ rw_ (sl L a (b + 1)) (b + 1 + 1) (L.drop (b + 1)) = rowWords L := by
  rw [drop_at hc, rw_on hs] at I
  rw [sl_snoc h hc]
  exact I
/-- a turn at a sign that ends one -/
theorem turn_sep {L : T} {a b c : Nat} {ps : List (T × Nat)} (h : a ≤ b) (hc : L[b]? = some c) (hs : isSep c = true)
    (I : ps ++ rw_ (sl L a b) (b + 1) (L.drop b) = rowWords L) :
    (ps ++ (if a < b then [(sl L a b, a + 1)] else [])) ++ (if c = 32 then [] else [([c], b + 1)]) ++ rw_ (sl L (b + 1) (b + 1)) (b + 1 + 1) (L.drop (b + 1)) = rowWords L := by
  rw [drop_at hc, rw_sep hs] at I
  rw [sl_self, ← I]
  have hb : b < L.length := (List.getElem?_eq_some_iff.mp hc).1
  have e : flush (sl L a b) (b + 1) = if a < b then [(sl L a b, a + 1)] else [] := by
    unfold flush
    by_cases q : a < b
    · have n : sl L a b ≠ [] := fun z => by
        have := sl_len (L := L) (a := a) (b := b) (by omega)
        rw [z] at this
        simp at this
        omega
      rw [if_neg n, if_pos q, sl_len (by omega)]
      congr 2
      omega
    · rw [if_neg q, if_pos (sl_nil (by omega) q)]
  rw [e]
  simp only [List.append_assoc]
/-- the last turn, at the blank behind the row -/
theorem turn_last {L : T} {a : Nat} {ps : List (T × Nat)} (h : a ≤ L.length)
    (I : ps ++ rw_ (sl L a L.length) (L.length + 1) (L.drop L.length) = rowWords L) :
    ps ++ (if a < L.length then [(sl L a L.length, a + 1)] else []) = rowWords L := by
  rw [List.drop_length] at I
  rw [← I, rw_]
  have e : flush (sl L a L.length) (L.length + 1) = if a < L.length then [(sl L a L.length, a + 1)] else [] := by
    unfold flush
    by_cases q : a < L.length
    · have n : sl L a L.length ≠ [] := fun z => by
        have := sl_len (L := L) (a := a) (b := L.length) (by omega)
        rw [z] at this
        simp at this
        omega
      rw [if_neg n, if_pos q, sl_len (by omega)]
      congr 2
      omega
    · rw [if_neg q, if_pos (sl_nil (by omega) q)]
  rw [e]
theorem rw_len : ∀ (r cur : T) (k : Nat), (rw_ cur k r).length ≤ (flush cur k).length + 2 * r.length
  | [], cur, k => by simp [rw_]
  | c :: r, cur, k => by
    rw [rw_]
    split
    · have h := rw_len r [] (k + 1)
      rw [flush_nil, List.length_nil] at h
      rw [List.length_append, List.length_append]
      have h2 : (if c = 32 then ([] : List (T × Nat)) else [([c], k)]).length ≤ 1 := by split <;> simp
      simp only [List.length_cons]
      omega
    · have h := rw_len r (cur ++ [c]) (k + 1)
      have h1 : (flush (cur ++ [c]) (k + 1)).length ≤ 1 := by unfold flush; split <;> simp
      simp only [List.length_cons]
      omega
theorem rowWords_len (l : T) : (rowWords l).length ≤ 2 * l.length := by
  have h := rw_len l [] 1
  rw [flush_nil, List.length_nil, Nat.zero_add] at h
  exact h

/-! ### statements, rows of the law -/
abbrev tDo : T := [100, 111]
abbrev tSay : T := [115, 97, 121]
abbrev tRet : T := [114, 101, 116, 117, 114, 110]
abbrev t1 : T := [49]
abbrev tQx : T := [39, 120]
abbrev tQabc : T := [39, 97, 98, 99]
abbrev tSelf : T := [115, 101, 108, 102]
abbrev tNone : T := [110, 111, 110, 101]
abbrev tX : T := [120]
abbrev tSet : T := [58, 61]
abbrev tRb : T := [93]
abbrev tEnd : T := [101, 110, 100]
/-- the es that stand in these statements -/
def Leaf (e : T) : Prop := e = t1 ∨ e = tQx ∨ e = tQabc ∨ e = tSelf ∨ e = tNone
def Plain (a : T) : Prop := a = tDo ∨ a = tSay ∨ a = tRet
inductive Stms : List T → Prop
  | nil : Stms []
  | plain {a e : T} {r : List T} : Plain a → Leaf e → Stms r → Stms (a :: e :: r)
  | set {e : T} {r : List T} : Leaf e → Stms r → Stms (tX :: tSet :: e :: r)
theorem Stms.append : ∀ {a b : List T}, Stms a → Stms b → Stms (a ++ b)
  | _, _, .nil, h => h
  | _, _, .plain p q r, h => .plain p q (r.append h)
  | _, _, .set q r, h => .set q (r.append h)
abbrev Out := List (T × Nat) × Option Nat
def outOf (isW : T → Bool) (l : T) : Out := match wrongCol isW (rowWords l) l.length with
  | some c => ((rowWords l).filter (fun q => decide (q.2 < c)), some c)
  | none => (rowWords l, none)
def scanO : Nat → List Out → List W × Option (Nat × Nat)
  | _, [] => ([], none)
  | r, o :: os => match o.2 with
    | some c => (lay r o.1, some (r, c))
    | none => (lay r o.1 ++ (scanO (r + 1) os).1, (scanO (r + 1) os).2)
theorem scanO_eq (isW : T → Bool) : ∀ (ls : List T) (r : Nat), scanGo isW r ls = scanO r (ls.map (outOf isW))
  | [], r => rfl
  | l :: ls, r => by
    rw [List.map_cons, scanGo, scanO, scanO_eq isW ls (r + 1)]
    unfold outOf
    cases wrongCol isW (rowWords l) l.length <;> rfl
abbrev texts (o : List (T × Nat)) : List T := o.map (·.1)
theorem lay_texts (r : Nat) (p : List (T × Nat)) : (lay r p).map (·.1) = texts p := by
  unfold lay texts
  rw [List.map_map]
  rfl
/-- what is known of the row with number ρ: A the long one's, B the odd one's -/
def InfoAt (A B aw bk : Nat) (ρ : Nat) (o : Out) : Prop :=
  if ρ = A then Stms (texts o.1) ∧ o.2 = (if aw = 1 then some 121 else none)
  else if ρ = B ∧ bk = 1 then o = ([(tDo, 1), (tRb, 4)], none)
  else if ρ = B ∧ bk = 2 then o = ([], some 1)
  else Stms (texts o.1) ∧ o.2 = none
def sgn (A B aw bk : Nat) (r n : Nat) : Option (Nat × Nat) :=
  if (aw = 1 ∧ r ≤ A ∧ A < r + n) ∧ ((bk = 2 ∧ r ≤ B ∧ B < r + n) → A < B) then some (A, 121)
  else if bk = 2 ∧ r ≤ B ∧ B < r + n then some (B, 1) else none
def wrd (A B aw bk : Nat) (r n : Nat) : Option (Nat × Nat) :=
  if bk = 1 ∧ r ≤ B ∧ B < r + n ∧ ((aw = 1 ∧ r ≤ A) → B < A) then some (B, 4) else none
/-- words that are statements, up to a do ] at a place, if there is one -/
def Body (w : List W) : Option (Nat × Nat) → Prop
  | none => Stms (w.map (·.1))
  | some p => ∃ S q rest, w = S ++ (tDo, q) :: (tRb, p) :: rest ∧ Stms (S.map (·.1))
theorem Body.ahead {a w : List W} {o : Option (Nat × Nat)} (h : Stms (a.map (·.1))) (b : Body w o) : Body (a ++ w) o := by
  cases o with
  | none =>
    show Stms _
    rw [List.map_append]
    exact h.append b
  | some p =>
    obtain ⟨S, q, rest, e, s⟩ := b
    refine ⟨a ++ S, q, rest, by rw [e, List.append_assoc], ?_⟩
    rw [List.map_append]
    exact h.append s
theorem scan_outs {A B aw bk : Nat} (hAB : A ≠ B) : ∀ (os : List Out) (r : Nat), (∀ i o, os[i]? = some o → InfoAt A B aw bk (r + i) o) →
    (scanO r os).2 = sgn A B aw bk r os.length ∧ Body (scanO r os).1 (wrd A B aw bk r os.length)
  | [], r, _ => by
    refine ⟨?_, ?_⟩
    · unfold sgn
      rw [if_neg (by simp only [List.length_nil]; omega), if_neg (by simp only [List.length_nil]; omega)]
      rfl
    · unfold wrd
      rw [if_neg (by simp only [List.length_nil]; omega)]
      exact .nil
  | o :: os, r, h => by
    have h0 := h 0 o rfl
    rw [Nat.add_zero] at h0
    have ih := scan_outs (aw := aw) (bk := bk) hAB os (r + 1) (fun i u e => by
      have := h (i + 1) u (by simpa using e)
      rw [show r + 1 + i = r + (i + 1) by omega]
      exact this)
    have stop : ∀ c, o.2 = some c → scanO r (o :: os) = (lay r o.1, some (r, c)) := fun c e => by rw [scanO, e]
    have on : o.2 = none → scanO r (o :: os) = (lay r o.1 ++ (scanO (r + 1) os).1, (scanO (r + 1) os).2) := fun e => by rw [scanO, e]
    have onS : o.2 = none → sgn A B aw bk r (os.length + 1) = sgn A B aw bk (r + 1) os.length → (scanO r (o :: os)).2 = sgn A B aw bk r (os.length + 1) := fun e z => by
      rw [on e, z]
      exact ih.1
    have onW : o.2 = none → Stms (texts o.1) → wrd A B aw bk r (os.length + 1) = wrd A B aw bk (r + 1) os.length → Body (scanO r (o :: os)).1 (wrd A B aw bk r (os.length + 1)) := fun e st z => by
      rw [on e, z]
      exact Body.ahead (by rw [lay_texts]; exact st) ih.2
    rw [List.length_cons]
    clear h
    unfold InfoAt at h0
    by_cases a : r = A
    · rw [if_pos a] at h0
      obtain ⟨h1, h2⟩ := h0
      by_cases w1 : aw = 1
      · rw [if_pos w1] at h2
        rw [stop 121 h2]
        refine ⟨?_, ?_⟩
        · unfold sgn
          rw [if_pos (by omega), a]
        · unfold wrd
          rw [if_neg (by omega)]
          show Stms _
          rw [lay_texts]
          exact h1
      · rw [if_neg w1] at h2
        refine ⟨onS h2 ?_, onW h2 h1 ?_⟩
        · unfold sgn
          repeat' split
          all_goals first | rfl | (exfalso; omega)
        · unfold wrd
          repeat' split
          all_goals first | rfl | (exfalso; omega)
    · rw [if_neg a] at h0
      by_cases b1 : r = B ∧ bk = 1
      · rw [if_pos b1] at h0
        have hn : o.2 = none := by rw [h0]
        refine ⟨onS hn ?_, ?_⟩
        · unfold sgn
          repeat' split
          all_goals first | rfl | (exfalso; omega)
        · rw [on hn]
          unfold wrd
          rw [if_pos (by omega)]
          refine ⟨[], (r, 1), (scanO (r + 1) os).1, ?_, .nil⟩
          rw [h0, ← b1.1]
          rfl
      · rw [if_neg b1] at h0
        by_cases b2 : r = B ∧ bk = 2
        · rw [if_pos b2] at h0
          rw [stop 1 (by rw [h0])]
          refine ⟨?_, ?_⟩
          · unfold sgn
            rw [if_neg (by omega), if_pos (by omega), b2.1]
          · unfold wrd
            rw [if_neg (by omega), h0]
            exact .nil
        · rw [if_neg b2] at h0
          refine ⟨onS h0.2 ?_, onW h0.2 h0.1 ?_⟩
          · unfold sgn
            repeat' split
            all_goals first | rfl | (exfalso; omega)
          · unfold wrd
            repeat' split
            all_goals first | rfl | (exfalso; omega)
end SS

end
set_option Elab.async false
set_option linter.all false
set_option maxRecDepth 100000
set_option maxHeartbeats 1000000
namespace PySem.W
open PySem PyProof.Rows
section
variable {M : Model} {prog : Program} {w : World} {A : Around} {E : Value → Shared → Prop} {s : Shared} {env : Env}
theorem callWithT_kwB {pos : Pos} {T : String} {first : List Value} {args : List (Bool × Sem Value)} {keywords : List (Option Str × Sem Value)} {Q : Value → Shared → Prop}
    (hplain : args.any (·.1) = false) (hkw : keywords.any (·.1.isNone) = false)
    (h : wpAny M A (evalArgs (.type T) true args keywords) (fun a s₁ => wpAny M A (call (.type T) (first ++ a.pos) a.kw) Q E s₁) E s) :
    wpAny M A (callWith pos (.type T) first args keywords) Q E s := by
  unfold callWith
  refine wpAny_bind (wpAny_holding (wpAny_mono h (fun a s₁ h₁ => wpAny_bind (wpAny_standAt ?_)) fun _ _ x => x))
  simp only [hplain, hkw, Bool.or_false]
  refine wpAny_bind (wpAny_pure ?_)
  exact wpAny_bind (wpAny_mono h₁ (fun r s₂ hr => wpAny_bind (wpAny_holding (wpAny_point (wpAny_pure hr)))) fun _ _ x => x)
theorem callWithT_kw {pos : Pos} {T : String} {e : Expr} {rest : List Expr} {kws : List Keyword} {Q : Value → Shared → Prop}
    (h : wpAny M A (spliced (backTo pos (starEach (e :: rest) env))) (fun vs s₁ => wpAny M A (evalAll ((backToKw pos (keywordEach kws env)).map (·.2)))
      (fun kvs s₂ => wpAny M A (call (.type T) vs (((backToKw pos (keywordEach kws env)).filterMap (·.1)).zip kvs)) Q E s₂) E s₁) E s)
    (he : backTo pos (starEach (e :: rest) env) = (false, eval e env) :: backTo pos (starEach rest env) := by rfl)
    (hplain : (backTo pos (starEach (e :: rest) env)).any (·.1) = false := by rfl)
    (hall : (backToKw pos (keywordEach kws env)).all (·.1.isSome) = true := by rfl)
    (hkw : (backToKw pos (keywordEach kws env)).any (·.1.isNone) = false := by rfl) :
    wpAny M A (callWith pos (.type T) [] (backTo pos (starEach (e :: rest) env)) (backToKw pos (keywordEach kws env))) Q E s := by
  refine callWithT_kwB hplain hkw ?_
  rw [he] at h ⊢
  exact evalArgs_kwB hall h
theorem meets_enumerate_new1 {v : Value} {o : Obj} {H : Heap → Prop} (B : Begins v o H) :
    Meets (Builtin.«enumerate.__new__» ⟨[.type "enumerate", v], []⟩) (fun _ R s => H s.heap ∧
      R (.ok (.ret (.ref (s.heap.push o).objs.size))) { s with heap := (s.heap.push o).push { cls := .type "enumerate", data := .fields #[.none, .bool false, .ref s.heap.objs.size, rawInt 0, .none, .none] } }) :=
  .of_wp fun prog w A R s h => by
    obtain ⟨hp, g, d, tk, os⟩ := s; obtain ⟨h1, h⟩ := h
    have hsub := sub_enumerate
    have q1 : ∀ {A' : Around} {E : Value → Shared → Prop} {Q : Value → Shared → Prop}, Q (.ref hp.objs.size) ⟨hp.push o, g, d, tk, os⟩ → wpAny (model prog w) A' (pyIter v) Q E ⟨hp, g, d, tk, os⟩ :=
      fun q => B.iter prog w _ _ ⟨hp, g, d, tk, os⟩ _ h1 q
    wp_walk using q1
    refine wpAny_stack_any fun st => wpAny_pure ?_
    split
    · rename_i c _ _ _ _ _
      cases (c == Value.type "enumerate")
      · wp_walk using q1
        exact ⟨_, rfl, h⟩
      · wp_walk using q1
        exact ⟨_, rfl, h⟩
    · wp_walk using q1
      exact ⟨_, rfl, h⟩
theorem call_enumX {x : Str} {t : Tok} {Q : Value → Shared → Prop}
    (h : ∀ h', IsEnum h' (s.heap.objs.size + 1) s.heap.objs.size 0 .none → h'.IsStrIter s.heap.objs.size (strIterType x) x t 0 → h'.objs.size = s.heap.objs.size + 2 →
      (∀ b o, s.heap.get? b = some o → h'.get? b = some o) → Q (.ref (s.heap.objs.size + 1)) { s with heap := h' }) :
    wpAny (model prog w) A (call (.type "enumerate") [.str x t]) Q E s := by
  have B := begins_text x t
  refine callType_new F.called_enumerate (by decide) (F.typeCall_enumerate_1 _) (F.newCall_enumerate_1 _) (fun obj => F.args_object_init_2 obj _) F.entry_enumerate_new
    (meets_enumerate_new1 B) ⟨trivial, ?_⟩
  have hz : (s.heap.push { cls := .type (strIterType x), data := .fields #[.str x t, .int 0 0] }).objs.size = s.heap.objs.size + 1 := Heap.size_push ..
  show _ ∧ _
  rw [hz]
  have he : IsEnum ((s.heap.push { cls := .type (strIterType x), data := .fields #[.str x t, .int 0 0] }).push { cls := .type "enumerate", data := .fields #[.none, .bool false, .ref s.heap.objs.size, rawInt 0, .none, .none] }) (s.heap.objs.size + 1) s.heap.objs.size 0 .none := by
    have := Heap.get?_push_size (s.heap.push { cls := .type (strIterType x), data := .fields #[.str x t, .int 0 0] }) (o := { cls := .type "enumerate", data := .fields #[.none, .bool false, .ref s.heap.objs.size, rawInt 0, .none, .none] }) rfl
    rw [hz] at this; exact this
  exact ⟨⟨_, he, rfl⟩, h _ he ⟨_, Heap.get?_push_of_some _ (Heap.get?_push_size _ B.free), rfl, rfl⟩ (by rw [Heap.size_push, hz]) fun b o x => Heap.get?_push_of_some _ (Heap.get?_push_of_some _ x)⟩
end
end PySem.W
namespace L2
open PySem PySem.Spec PyProof.Rows

/-! ### text * int -/
def repS (z : Str) (n : Int) : Str := ⟨(List.replicate n.toNat z.cps.toList).flatten.toArray⟩
theorem fold_app (a : Array Nat) : ∀ (n : Nat) (b : Array Nat), (List.replicate n a).foldl (· ++ ·) b = b ++ (List.replicate n a.toList).flatten.toArray
  | 0, b => by simp
  | n + 1, b => by
    rw [List.replicate_succ, List.foldl_cons, fold_app a n, List.replicate_succ, List.flatten_cons]
    apply Array.toList_inj.mp
    simp
theorem repS_length (z : Str) (n : Int) : (repS z n).length = n.toNat * z.length := by
  show (List.replicate n.toNat z.cps.toList).flatten.toArray.size = _
  simp [Str.length]
theorem repS_0 (z : Str) : repS z 0 = Str.empty := by
  unfold repS Str.empty
  simp
theorem repS_1 (z : Str) : repS z 1 = z := by
  unfold repS
  cases z
  simp
theorem op_mul_str {X : Cx} : OpR X (binaryOp .Mult) (fun x y H Q => ∃ (z : Str) (n : Int), x = .str z ∧ y = .int n ∧ 0 ≤ n ∧ n ≤ 1000 ∧ 0 < z.length ∧ z.length ≤ 1000 ∧ Q (.str (repS z n)) H) := by
  intro pins s σ H x y v u Q I rx ry h
  obtain ⟨z, n, rfl, rfl, h0, h1, hz0, hz, q⟩ := h
  obtain ⟨t, rfl⟩ := rx
  obtain ⟨t', rfl⟩ := ry
  have hm : z.length * n.toNat ≤ 1000 * 1000 := Nat.mul_le_mul hz (by omega)
  have e : (⟨(List.replicate n.toNat z.cps).foldl (· ++ ·) #[]⟩ : Str) = repS z n := by
    rw [fold_app]
    unfold repS
    simp
  refine P.mul_str ?_ (fun _ _ => ?_) (fun _ _ => ?_) ?_
  · have a : ¬ n < -(2 ^ 63 : Int) := by omega
    have b : ¬ n ≥ 2 ^ 63 := by omega
    rw [decide_eq_false a, decide_eq_false b]; rfl
  · rename_i hn _
    have : (2 ^ 63 - 1) / n ≥ 1000 := by
      apply Int.le_ediv_of_mul_le (by omega)
      omega
    omega
  · unfold Builtin.Str.tooLong
    exact decide_eq_false (by rw [sizeLine_eq]; omega)
  · by_cases c0 : n < 1
    · rw [if_pos c0]
      have : n = 0 := by omega
      subst this
      rw [repS_0] at q
      exact ⟨by decide, V.str Str.empty, H, I.tok _, ⟨_, rfl⟩, q⟩
    · rw [if_neg c0]
      by_cases c1 : n = 1
      · subst c1
        rw [if_pos (by rfl)]
        rw [repS_1] at q
        exact ⟨V.str z, H, I, ⟨_, rfl⟩, q⟩
      · have e1 : (n == 1 || z.length == 0) = false := by
          have a : (n == 1) = false := by simp; omega
          have b : (z.length == 0) = false := by simp; omega
          rw [a, b]; rfl
        rw [if_neg (by rw [e1]; decide), e]
        refine ⟨?_, V.str (repS z n), H, I.tok _, ⟨_, rfl⟩, q⟩
        rw [repS_length, sizeLine_eq, Nat.mul_comm]
        omega

/-! ### enumerate(text); enumerate(list, start=k) -/
/-- the signs of x, each in a new pair -/
def Iex (x : Str) : It :=
  ⟨fun i _ => i < x.cps.size, fun i H v H' => ∃ T c, v = .ref T ∧ H T = none ∧ H' = upd H T (.tup [.int (i : Nat), .str ⟨#[c]⟩]) ∧ x.cps[i]? = some c, fun i _ => x.cps.size ≤ i⟩
theorem turn_enumX {P : Program} {w : World} {K : PySem.W.Frag} {elts : List Expr} {kk : Nat} {tpos : Pos} (e it : Addr) (x : Str) (t : Tok) :
    Turn P w K (.Tuple elts kk tpos) (Iex x) [e, it] e (fun i h => (∃ old, IsEnum h e it ((i : Nat) : Int) old) ∧ h.IsStrIter it (strIterType x) x t i ∧ e ≠ it ∧ i ≤ x.cps.size) where
  mem := by simp
  obj := fun i h st b hb => by
    obtain ⟨⟨old, he⟩, ⟨o, ho, hc, hd⟩, _⟩ := st
    have e' : b = e ∨ b = it := by simpa using hb
    rcases e' with z | z
    · rw [z]; exact ⟨_, he, fun v q => nomatch q⟩
    · rw [z]; exact ⟨o, ho, fun v q => by rw [hd] at q; cases q⟩
  keep := fun i h h' st k => let ⟨⟨old, he⟩, ⟨o, ho, r⟩, hne, hz⟩ := st; ⟨⟨old, k e (by simp) _ he⟩, ⟨o, k it (by simp) o ho, r⟩, hne, hz⟩
  item := by
    intro X hP hw hK hc i pins s σ H E I hf st hg
    subst hP hw hK
    obtain ⟨⟨old, he⟩, hit, hne, hz⟩ := st
    have hel : e < s.heap.objs.size := Heap.lt_size he
    have hil : it < s.heap.objs.size := by obtain ⟨_, q, _⟩ := hit; exact Heap.lt_size q
    have D := Draws.text (prog := X.prog) (w := X.w) (A := X.A.in1) (I.ok.hd hc) it x t
    refine wpAny_pyNext_enum_itemC D he hit hg hne (by simpa using hne) fun v h' tk hv ho hit' hT hsz hk => ?_
    obtain ⟨c, u, hcx, rfl⟩ := hv
    refine ⟨_, rfl, wpAny_letOwnedTupleGo_enum (s := { s with heap := h', toks := tk + 1 }) ho fun h'' he' sb => ?_⟩
    have hT2 : h''.get? s.heap.objs.size = some { cls := .type "tuple", data := .seq #[.int i tk, .str ⟨#[c]⟩ u] } := (sb.2 _ (Nat.ne_of_gt hel)).trans hT
    have new : ObjOk X.prog X.w (upd H s.heap.objs.size (.tup [.int (i : Nat), .str ⟨#[c]⟩])) h'' s.heap.objs.size (.tup [.int (i : Nat), .str ⟨#[c]⟩]) :=
      ⟨by show 2 ≤ sizeLine; decide, [.int i tk, .str ⟨#[c]⟩ u], .cons ⟨_, rfl⟩ (.cons ⟨_, rfl⟩ .nil), ⟨_, hT2, rfl, _, rfl⟩⟩
    have I1 : Inv X pins σ (upd H s.heap.objs.size (.tup [.int (i : Nat), .str ⟨#[c]⟩])) { s with heap := h'', toks := tk + 1 } :=
      I.turnedNew (ch := [e, it]) (fun b ob hb q => (sb.2 b (fun z => hb (by simp [z]))).trans (hk b ob (fun z => hb (by simp [z])) (fun z => hb (by simp [z])) q)) hf (Nat.le_refl _) new
    refine ⟨.ref s.heap.objs.size, _, I1, rfl, ⟨_, c, rfl, I.hok.fresh (Nat.le_refl _), rfl, hcx⟩, ⟨⟨Value.str ⟨#[c]⟩ u, ?_⟩, ?_, hne, hg⟩, fun b hb => ?_⟩
    · have e1 : ((i + 1 : Nat) : Int) = (i : Int) + 1 := by omega
      rw [e1]; exact he'
    · obtain ⟨o, q, r⟩ := hit'
      exact ⟨o, (sb.2 it (Ne.symm hne)).trans q, r⟩
    · have hb' : b < s.heap.objs.size := by
        have e' : b = e ∨ b = it := by simpa using hb
        rcases e' with z | z
        · rw [z]; exact hel
        · rw [z]; exact hil
      rw [upd_ne (Nat.ne_of_lt hb')]
      exact (hf b hb).1
  done := by
    intro X hP hw hK hc i pins s σ H E I hf st hg
    subst hP hw hK
    obtain ⟨⟨old, he⟩, hit, hne, hz⟩ := st
    obtain ⟨f0, f1, f2, f3, f4, f5⟩ := hf it (by simp)
    have D := Draws.text (prog := X.prog) (w := X.w) (A := X.A.in1) (I.ok.hd hc) it x t
    have e1 : i = x.cps.size := Nat.le_antisymm hz hg
    subst e1
    exact wpAny_pyNext_enum_endD D he hit fun h' eb => ⟨rfl, I.turned (t' := s.toks) (fun b o hb q => eb b o hb q) f0 f1 f3 f4 f5⟩
  self := fun A i s Q E st h => let ⟨⟨_, he⟩, _⟩ := st; wpAny_pyIter_enum he h
def iEnumX (ta : TA) : TI := fun σ H R => ta σ H fun vs H1 => ∃ x : Str, vs = [.str x] ∧ R (Iex x) H1
theorem pi_enumX {X : Cx} {e : Expr} {ta : TA} {p pos tpos : Pos} {elts : List Expr} {kk : Nat} (hg : Gl X "enumerate") (hm : X.mg "enumerate" = none) (ha : PA X [e] ta) (hs : starEach [e] X.env = [(false, eval e X.env)] := by rfl) :
    PI X (.Tuple elts kk tpos) (.Call (.Name "enumerate" p) [e] [] pos) (iEnumX ta) := by
  refine ⟨fun pins s σ H R I h => ?_⟩
  refine Call_ (ld_blt I hg hm boot_enumerate (PyProof.Rows.callWith_type1 (thn (ha.run pos pins s σ H _ I h) fun us s1 ⟨vs, H1, I1, r1, q1⟩ => ?_) hs rfl))
  obtain ⟨x, ex, q⟩ := q1
  subst ex
  cases r1 with
  | cons r rr =>
    cases rr
    obtain ⟨t, rfl⟩ := r
    refine PySem.W.call_enumX (x := x) (t := t) fun h' he hit hsz hk => wpAny_pyIter_enum he ?_
    have I2 : Inv X pins σ H1 { s1 with heap := h' } := I1.kept (t' := s1.toks) hk
    refine ⟨s1.heap.objs.size + 1, [s1.heap.objs.size + 1, s1.heap.objs.size], _, _, H1, rfl, I2, turn_enumX (s1.heap.objs.size + 1) s1.heap.objs.size x t, ⟨⟨.none, he⟩, hit, Nat.succ_ne_self _, Nat.zero_le _⟩, fun b hb => ?_, q⟩
    have e' : b = s1.heap.objs.size + 1 ∨ b = s1.heap.objs.size := by simpa using hb
    have hle : s1.heap.objs.size ≤ b := by
      rcases e' with z | z
      · rw [z]; exact Nat.le_add_right _ _
      · rw [z]; exact Nat.le_refl _
    exact I1.fpOk hle (I1.hok.fresh hle)
theorem walk_enumX {x : Str} : Walk (Iex x) x.cps.size (fun _ => True) (fun i H v H' => ∃ T c, v = .ref T ∧ H T = none ∧ H' = upd H T (.tup [.int (i : Nat), .str ⟨#[c]⟩]) ∧ x.cps[i]? = some c) :=
  ⟨fun _ _ hi _ => hi, fun _ _ => Nat.le_refl _, fun _ _ _ _ _ _ y => y⟩
/-- the items xs of the list at a, counted from k, each in a new pair -/
def Iek (K : PySem.W.Frag) (a : Addr) (xs : List V) (k : Int) : It :=
  ⟨fun i H => i < xs.length ∧ SqL K H a xs, fun i H v H' => ∃ T x, v = .ref T ∧ H T = none ∧ H' = upd H T (.tup [.int (k + (i : Nat)), x]) ∧ xs[i]? = some x, fun i H => xs.length = i ∧ SqL K H a xs⟩
theorem turn_enumK {P : Program} {w : World} {K : PySem.W.Frag} {elts : List Expr} {kk : Nat} {tpos : Pos} (a e it : Addr) (xs : List V) (k0 : Int) :
    Turn P w K (.Tuple elts kk tpos) (Iek K a xs k0) [e, it] e (fun i h => (∃ old, IsEnum h e it (k0 + (i : Nat)) old) ∧ h.IsListIter it a i ∧ e ≠ it) where
  mem := by simp
  obj := fun i h st b hb => by
    obtain ⟨⟨old, he⟩, ⟨o, ho, hc, hd⟩, _⟩ := st
    have e' : b = e ∨ b = it := by simpa using hb
    rcases e' with z | z
    · rw [z]; exact ⟨_, he, fun v q => nomatch q⟩
    · rw [z]; exact ⟨o, ho, fun v q => by rw [hd] at q; cases q⟩
  keep := fun i h h' st k => let ⟨⟨old, he⟩, hi, hne⟩ := st; ⟨⟨old, k e (by simp) _ he⟩, hi.at fun o q => k it (by simp) o q, hne⟩
  item := by
    intro X hP hw hK hc i pins s σ H E I hf st hg
    subst hP hw hK
    obtain ⟨⟨old, he⟩, hit, hne⟩ := st
    obtain ⟨hlt, hq⟩ := hg
    have hx : xs[i]? = some xs[i] := by simp [hlt]
    generalize xs[i] = x at hx
    obtain ⟨its, rv, p, hz⟩ := I.list hq
    obtain ⟨u0, hu, ru⟩ := rv.get hx
    have hel : e < s.heap.objs.size := Heap.lt_size he
    have hil : it < s.heap.objs.size := by obtain ⟨_, q, _⟩ := hit; exact Heap.lt_size q
    have hia : a ≠ it := fun z => by
      obtain ⟨o, ho, hcl, hd⟩ := hit
      obtain ⟨o2, ho2, hcl2, _⟩ := p.isList
      rw [z, ho] at ho2
      have := Option.some.inj ho2
      subst this
      rw [hcl] at hcl2
      injection hcl2 with z9
      exact absurd z9 (by decide)
    have hea : e ≠ a := fun z => by
      obtain ⟨o2, ho2, hcl2, _⟩ := p.isList
      rw [← z, he] at ho2
      have := Option.some.inj ho2
      subst this
      injection hcl2 with z9
      exact absurd z9 (by decide)
    have D := Draws.list (prog := X.prog) (w := X.w) (A := X.A.in1) (I.ok.hd hc) it a hia its.toArray
    have hlen : i < its.toArray.size := by
      have := rv.length
      simp
      omega
    refine wpAny_pyNext_enum_itemC D he ⟨hit, p.isList⟩ hlen hne (by simp [hne, hea]) fun v h' tk hv ho hit' hT hsz hk => ?_
    have ev : v = u0 := by
      have z : its.toArray[i]? = some v := hv
      have z2 : its.toArray[i]? = some u0 := by simpa using hu
      rw [z2] at z
      exact (Option.some.inj z).symm
    subst ev
    refine ⟨_, rfl, wpAny_letOwnedTupleGo_enum (s := { s with heap := h', toks := tk + 1 }) ho fun h'' he' sb => ?_⟩
    have hT2 : h''.get? s.heap.objs.size = some { cls := .type "tuple", data := .seq #[.int (k0 + (i : Nat)) tk, v] } := (sb.2 _ (Nat.ne_of_gt hel)).trans hT
    have new : ObjOk X.prog X.w (upd H s.heap.objs.size (.tup [.int (k0 + (i : Nat)), x])) h'' s.heap.objs.size (.tup [.int (k0 + (i : Nat)), x]) :=
      ⟨by show 2 ≤ sizeLine; decide, [.int (k0 + (i : Nat)) tk, v], .cons ⟨_, rfl⟩ (.cons ru .nil), ⟨_, hT2, rfl, _, rfl⟩⟩
    have I1 : Inv X pins σ (upd H s.heap.objs.size (.tup [.int (k0 + (i : Nat)), x])) { s with heap := h'', toks := tk + 1 } :=
      I.turnedNew (ch := [e, it]) (fun b ob hb q => (sb.2 b (fun z => hb (by simp [z]))).trans (hk b ob (fun z => hb (by simp [z])) (fun z => hb (by simp [z])) q)) hf (Nat.le_refl _) new
    refine ⟨.ref s.heap.objs.size, _, I1, rfl, ⟨_, x, rfl, I.hok.fresh (Nat.le_refl _), rfl, hx⟩, ⟨⟨v, ?_⟩, hit'.1.at fun o q => (sb.2 it (Ne.symm hne)).trans q, hne⟩, fun b hb => ?_⟩
    · have e1 : k0 + ((i + 1 : Nat) : Int) = k0 + (i : Int) + 1 := by omega
      rw [e1]; exact he'
    · have hb' : b < s.heap.objs.size := by
        have e' : b = e ∨ b = it := by simpa using hb
        rcases e' with z | z
        · rw [z]; exact hel
        · rw [z]; exact hil
      rw [upd_ne (Nat.ne_of_lt hb')]
      exact (hf b hb).1
  done := by
    intro X hP hw hK hc i pins s σ H E I hf st hg
    subst hP hw hK
    obtain ⟨⟨old, he⟩, hit, hne⟩ := st
    obtain ⟨hlt, hq⟩ := hg
    obtain ⟨its, rv, p, hz⟩ := I.list hq
    obtain ⟨f0, f1, f2, f3, f4, f5⟩ := hf it (by simp)
    have hia : a ≠ it := fun z => by
      obtain ⟨o, ho, hcl, hd⟩ := hit
      obtain ⟨o2, ho2, hcl2, _⟩ := p.isList
      rw [z, ho] at ho2
      have := Option.some.inj ho2
      subst this
      rw [hcl] at hcl2
      injection hcl2 with z9
      exact absurd z9 (by decide)
    have D := Draws.list (prog := X.prog) (w := X.w) (A := X.A.in1) (I.ok.hd hc) it a hia its.toArray
    have e1 : i = its.toArray.size := by
      have := rv.length
      simp
      omega
    subst e1
    exact wpAny_pyNext_enum_endD D he ⟨hit, p.isList⟩ fun h' eb => ⟨rfl, I.turned (t' := s.toks) (fun b o hb q => eb b o hb q) f0 f1 f3 f4 f5⟩
  self := fun A i s Q E st h => let ⟨⟨_, he⟩, _⟩ := st; wpAny_pyIter_enum he h
def iEnumK (K : PySem.W.Frag) (ta tk : TA) : TI := fun σ H R => ta σ H fun vs H1 => tk σ H1 fun zs H2 => ∃ (a : Addr) (xs : List V) (k : Int), vs = [.ref a] ∧ zs = [.int k] ∧ 0 ≤ k ∧ k < 1000 ∧ SqL K H2 a xs ∧ R (Iek K a xs k) H2
theorem pi_enumK {X : Cx} {e : Expr} {kws : List Keyword} {ta tk : TA} {p pos tpos : Pos} {elts : List Expr} {kk : Nat} (hg : Gl X "enumerate") (hm : X.mg "enumerate" = none) (ha : PA X [e] ta) (hk : PK X kws tk)
    (he : backTo pos (starEach [e] X.env) = (false, eval e X.env) :: backTo pos (starEach [] X.env) := by rfl) (hpl : (backTo pos (starEach [e] X.env)).any (·.1) = false := by rfl)
    (hall : (backToKw pos (keywordEach kws X.env)).all (·.1.isSome) = true := by rfl) (hnone : (backToKw pos (keywordEach kws X.env)).any (·.1.isNone) = false := by rfl) (hks : (backToKw pos (keywordEach kws X.env)).filterMap (·.1) = [Str.ofString "start"] := by rfl) :
    PI X (.Tuple elts kk tpos) (.Call (.Name "enumerate" p) [e] kws pos) (iEnumK X.K ta tk) := by
  refine ⟨fun pins s σ H R I h => ?_⟩
  refine wpAny_Call_Name_kw (ld_blt I hg hm boot_enumerate ?_)
  refine PySem.W.callWithT_kw (thn (ha.run pos pins s σ H _ I h) fun us s1 ⟨vs, H1, I1, r1, q1⟩ => thn (hk.run pos pins s1 σ H1 _ I1 q1) fun ws s2 ⟨zs, H2, I2, r2, q2⟩ => ?_) he hpl hall hnone
  rw [hks]
  obtain ⟨a, xs, k, ex, ez, hk0, hk1, hq, q⟩ := q2
  subst ex ez
  cases r1 with
  | cons r rr =>
    cases rr
    cases r
    cases r2 with
    | cons r' rr' =>
      cases rr'
      obtain ⟨t, rfl⟩ := r'
      obtain ⟨its, rv, p', hz⟩ := I2.list hq
      refine enum_begins_start (begins_list a its.toArray) p'.isList (by omega) (by omega) fun h' he hit hsz hkp => wpAny_pyIter_enum he ?_
      have I3 : Inv X pins σ H2 { s2 with heap := h' } := I2.kept (t' := s2.toks) hkp
      have e0 : k + ((0 : Nat) : Int) = k := by omega
      refine ⟨s2.heap.objs.size + 1, [s2.heap.objs.size + 1, s2.heap.objs.size], _, _, H2, rfl, I3, turn_enumK a (s2.heap.objs.size + 1) s2.heap.objs.size xs k, ⟨⟨.none, by rw [e0]; exact he⟩, ⟨_, hit, rfl, rfl⟩, Nat.succ_ne_self _⟩, fun b hb => ?_, q⟩
      have e' : b = s2.heap.objs.size + 1 ∨ b = s2.heap.objs.size := by simpa using hb
      have hle : s2.heap.objs.size ≤ b := by
        rcases e' with z | z
        · rw [z]; exact Nat.le_add_right _ _
        · rw [z]; exact Nat.le_refl _
      exact I2.fpOk hle (I2.hok.fresh hle)
theorem walk_enumK {K : PySem.W.Frag} {a : Addr} {xs : List V} {k : Int} : Walk (Iek K a xs k) xs.length (fun H => SqL K H a xs) (fun i H v H' => ∃ T x, v = .ref T ∧ H T = none ∧ H' = upd H T (.tup [.int (k + (i : Nat)), x]) ∧ xs[i]? = some x) :=
  ⟨fun _ _ hi q => ⟨hi, q⟩, fun _ q => ⟨rfl, q⟩, fun _ _ _ _ _ _ y => y⟩

/-! ### min(xs, default=d) of data -/
theorem Vals.ref1' {a : Addr} {us : List Value} (r : Vals [V.ref a] us) : us = [Value.ref a] := by
  cases r with
  | cons r rr => cases rr; cases r; rfl
def rMinD (K : PySem.W.Frag) : List V → List V → Hp → VK → Prop := fun vs zs H Q => ∃ (a : Addr) (xs : List V) (ds : List PyData) (d : V), vs = [.ref a] ∧ zs = [d] ∧ SqL K H a xs ∧ DpAll K H xs ds ∧ PySem.W.AlikeAll ds ∧ PyData.depthAll ds ≤ 20 ∧
  (ds = [] → Q d H) ∧ ∀ (y : PyData) (ys : List PyData) (i : Nat) (v : V) (e : PyData), ds = y :: ys → xs[i]? = some v → ds[i]? = some e → e = PySem.W.minD y ys → Q v H
theorem dpAll_get {K : PySem.W.Frag} {H : Hp} : ∀ {xs : List V} {ds : List PyData}, DpAll K H xs ds → ∀ {i : Nat} {v : V}, xs[i]? = some v → ∃ e, ds[i]? = some e ∧ Dp K H v e
  | _, _, .nil, i, v, h => by simp at h
  | _, _, .cons a r, 0, v, h => by simp at h; subst h; exact ⟨_, rfl, a⟩
  | _, _, .cons a r, i + 1, v, h => by
    obtain ⟨e, h1, h2⟩ := dpAll_get r (i := i) (v := v) (by simpa using h)
    exact ⟨e, by simpa using h1, h2⟩
theorem cr_minD {X : Cx} {k : Nat} (hc : X.calm = true) (hr : Room k X.A) : CallRK X (.builtin "min") [Str.ofString "default"] (rMinD X.K) := by
  intro pins s σ H vs zs us ws Q I r rz h
  obtain ⟨a, xs, ds, d, rfl, rfl, hs, hd, ha, hdep, q0, q1⟩ := h
  obtain rfl := Vals.ref1' r
  cases rz with
  | @cons _ u0 _ _ rd rr =>
    cases rr
    obtain ⟨its, rv, p, hz⟩ := I.list hs
    obtain ⟨as, hre⟩ := Dp.readsAll I ds xs its hd rv
    show wpAny _ _ (call (.builtin "min") [.ref a] [(Str.ofString "default", u0)]) _ _ _
    have hu := hr.units
    refine PySem.W.min_list_default (I.ok.hd hc) p.isList (by simpa using hre) ha (by have := hr.units; omega) (fun e h' tk hk => ⟨d, H, I.kept (t' := tk) hk, rd, q0 e⟩) fun y ys i v h' tk bs e hv hrd hk => ?_
    have hv' : its[i]? = some v := by simpa using hv
    have hi : i < xs.length := by
      have := (List.getElem?_eq_some_iff.mp hv').1
      have := rv.length
      omega
    have hx : xs[i]? = some xs[i] := by simp [hi]
    generalize xs[i] = x at hx
    obtain ⟨u, hu1, ru⟩ := rv.get hx
    rw [hv'] at hu1
    obtain rfl := Option.some.inj hu1
    obtain ⟨ee, he1, he2⟩ := dpAll_get hd hx
    obtain ⟨as2, hr2⟩ := Dp.reads I ee x v he2 ru
    have := (PyProof.Rows.reads_det (fun b o z _ => hk b o z) hr2 hrd).1
    exact ⟨x, H, I.kept (t' := tk) hk, ru, q1 y ys i x ee e hx he1 this.symm⟩

/-! ### C.m(x, ..), m a def of the class at C, read off the class -/
def tClsF (C : Addr) (sp : Sp) (E : XK) (ta : TE) (t : TA) : TE := fun σ H Q => ta σ H fun x H1 => x = .ref C ∧ t σ H1 fun vs H2 => sp vs H2 Q E
theorem pe_clsf {X : Cx} {CX : CXT} {k : Nat} {C f : Addr} {fd : FuncData} {ps : List Str} {mc : Value} {sp : Sp} {E : XK} {o e : Expr} {es : List Expr} {m : Str} {pos apos : Pos} {ta : TE} {t : TA} {pl : Sem Bool}
    (he : PE X o ta) (r : ClX.CRead X.K C mc) (hf : PySem.W.findCls X.K (.ref C) mc m = some (.val (.ref f))) (hk : PySem.W.keepIn X.K (.ref f) = true) (F : FnOk X.prog X.w X.K X.mg X.base CX k f fd ps sp) (hr : Room k X.A) (hb : Binds X.K fd ps []) (hx : Passes CX X E) (ha : PA X (e :: es) t)
    (hst : starEach (e :: es) X.env = (false, eval e X.env) :: starEach es X.env := by rfl) (hpl : (backTo pos (starEach es X.env)).any (·.1) = false := by rfl)
    (ht : eval (.Call (.Attribute o m apos) (e :: es) [] pos) X.env = (do
      let ov ← eval o X.env
      standAt apos.atName
      let (f, first) ← holding [ov] (getMethod ov m pl)
      callWith pos f first (backTo pos (starEach (e :: es) X.env)) (backToKw pos (keywordEach [] X.env))) := by rfl) :
    PE X (.Call (.Attribute o m apos) (e :: es) [] pos) (tClsF C sp E ta t) := by
  refine ⟨fun pins s σ H Q I h => ?_⟩
  refine PySem.W.methodCall_KW (pl := pl) (thn (he.run pins s σ H _ I h) fun u s1 ⟨x, H1, I1, rx, ex, q⟩ => ?_) ht
  subst ex
  obtain rfl : u = Value.ref C := rx
  refine PySem.W.method_cls I1.kIn r.ga (PySem.W.cls_value I1.kIn r.rd hf rfl ?_)
  refine PySem.W.callWith_K (h₀ := X.base) I1.ok.mod.kin hk (thn (ha.run pos pins _ σ H1 _ (I1.tok _) q) fun us s3 ⟨vs, H2, I3, rv, q2⟩ => ⟨I3.kIn, ?_⟩) hst hpl
  have q3 : sp (vs ++ []) H2 Q E := by rw [List.append_nil]; exact q2
  exact run_fn F hr hb .nil hx I3 rv q3

/-! ### X(e, ..) of an own class where what is raised is wished for at the caller's slots -/
def tMakeS (C : Addr) (sp : Sp) (E : St → XK) (t : TA) : TE := fun σ H Q => t σ H fun vs H1 => ∀ x dx, H1 x = none → H1 dx = none → dx ≠ x → sp (.ref x :: vs) (upd (upd H1 dx (.own x)) x (.ins C dx [])) (fun v H2 => v = .non ∧ Q (.ref x) H2) (E σ)
theorem run_makeS {X : Cx} {CX : CXT} {k : Nat} {C f : Addr} {fd : FuncData} {ps : List Str} {sp : Sp} {E : St → XK} {pins : List (Addr × Obj)} {σ : St} {H : Hp} {s : Shared} {Q : VK} {us : List Value} {vs : List V} (M : Mk X.K C f) (F : FnOk X.prog X.w X.K X.mg X.base CX k f fd ps sp) (hr : Room (k + 1) X.A) (hb : Binds X.K fd ps [])
    (hx : PassesAt CX X σ (E σ)) (I : Inv X pins σ H s) (r : Vals vs us)
    (h : ∀ x dx, H x = none → H dx = none → dx ≠ x → sp (.ref x :: vs) (upd (upd H dx (.own x)) x (.ins C dx [])) (fun v H2 => v = .non ∧ Q (.ref x) H2) (E σ)) :
    wpAny (model X.prog X.w) X.A (call (.ref C) us) (EP X pins σ Q) X.xe s := by
  have hq := h (s.heap.objs.size + 1) s.heap.objs.size (I.hok.fresh (Nat.le_succ _)) (I.hok.fresh (Nat.le_refl _)) (Nat.ne_of_lt (Nat.lt_succ_self _))
  have I2 := Inv.made (C := C) I
  have r2 : Vals (V.ref (s.heap.objs.size + 1) :: vs) (Value.ref (s.heap.objs.size + 1) :: us) := .cons rfl r
  have hl : (Value.ref (s.heap.objs.size + 1) :: us).length = ps.length := by
    have e := r2.length
    rw [F.len _ _ _ _ hq] at e
    exact e.symm
  have hb2 := hb { s with heap := s.heap } (Value.ref (s.heap.objs.size + 1) :: us)
  refine wpAny_call (make_map (f := f) I.kIn M.makes M.init (beq_iff_eq.mp M.fn) (codeAny_mono (F.run _ X.stack _ _ ⟨Value.ref (s.heap.objs.size + 1) :: us, []⟩ (Value.ref (s.heap.objs.size + 1) :: us) _ _ (E σ) (hr.make C us [])
    (I2.env0.make C us []) (by have z := hb _ (Value.ref (s.heap.objs.size + 1) :: us) I2.kIn (by rw [List.append_nil]; exact hl); rw [List.append_nil] at z; exact z) r2 hq) fun r s' hq' => ?_))
  cases r with
  | error e => exact hx pins _ _ e s' I2 hq'
  | ok fl =>
    cases fl with
    | ret u =>
      obtain ⟨v, H', I3, rv, ev, q3⟩ := I2.after hq'
      subst ev
      exact ⟨rv, ⟨V.ref (s.heap.objs.size + 1), H', I3, rfl, q3⟩⟩
    | next => exact False.elim hq'
    | brk => exact False.elim hq'
    | cont => exact False.elim hq'
theorem pe_makeS {X : Cx} {CX : CXT} {k : Nat} {C f : Addr} {fd : FuncData} {ps : List Str} {sp : Sp} {E : St → XK} {x : Str} {p pos : Pos} {e : Expr} {es : List Expr} {t : TA} (M : Mk X.K C f) (F : FnOk X.prog X.w X.K X.mg X.base CX k f fd ps sp) (hr : Room (k + 1) X.A) (hg : Gl X x) (hm : X.mg x = some (.ref C)) (hb : Binds X.K fd ps []) (hx : ∀ σ, PassesAt CX X σ (E σ))
    (ha : PA X (e :: es) t) (hdb : (x == ("__debug__" : Str)) = false := by decide) (he : starEach (e :: es) X.env = (false, eval e X.env) :: starEach es X.env := by rfl) (hpl : (backTo pos (starEach es X.env)).any (·.1) = false := by rfl) :
    PE X (.Call (.Name x p) (e :: es) [] pos) (tMakeS C sp E t) := by
  refine ⟨fun pins s σ H Q I h => ?_⟩
  refine wpAny_Call_Name_kw (ld_glob I hg hm ?_ hdb)
  refine PySem.W.callWith_K (h₀ := X.base) I.ok.mod.kin M.kp (thn (ha.run pos pins s σ H _ I h) fun us s1 ⟨vs, H1, I1, r, q⟩ => ⟨I1.kIn, ?_⟩) he hpl
  exact run_makeS M F hr hb (hx σ) I1 r q
end L2
set_option Elab.async false
set_option linter.all false
set_option maxRecDepth 100000
set_option maxHeartbeats 2000000
namespace My
open PySem L2 SS
/-! ### the text by places -/
def top (i : Nat) : Stmt := PySem.Challenge.pw_sendstead_k09_rows_written.main.body.getD i (.Pass ⟨0, 0, 0, 0⟩)
abbrev tl (z : Str) : T := z.cps.toList
abbrev mk (l : T) : Str := ⟨l.toArray⟩
theorem tl_mk (l : T) : tl (mk l) = l := rfl
theorem mk_tl (z : Str) : mk (tl z) = z := by cases z; simp
theorem len_tl (z : Str) : (tl z).length = z.length := by simp [Str.length]
theorem same_new {H : Hp} {p : Addr} (h : H p = none) (o : HO) : Same H (upd H p o) := fun b u q => by rw [upd_ne (ne_of_none q h)]; exact q
theorem same_upd {H H' : Hp} {p : Addr} (s : Same H H') (h : H p = none) (o : HO) : Same H (upd H' p o) := fun b u q => by rw [upd_ne (ne_of_none q h)]; exact s b u q
/-- a text of the module's own, a number, a tuple -/
def GS (mg : Str → Option Value) (x : Str) (z : Str) : Prop := ∃ u, mg x = some u ∧ RelV (.str z) u
def GI (mg : Str → Option Value) (x : Str) (i : Int) : Prop := ∃ u, mg x = some u ∧ RelV (.int i) u
def GT (K : PySem.W.Frag) (mg : Str → Option Value) (x : Str) (zs : List Str) : Prop := ∃ a, mg x = some (.ref a) ∧ ∀ H, SqT K H a (zs.map V.str)
def KEPTs : List Str := ["do", "else", "end", "false", "field", "if", "kind", "method", "more", "new", "none", "raise", "return", "say", "self", "taken", "then", "true", "try", "under", "up", "while"]

/-! ### defs by their names, methods by their class -/
structure Dn (K : PySem.W.Frag) (mg : Str → Option Value) (x : Str) (st : Stmt) : Prop where
  ex : ∃ f fd, Fun K x x st f fd ∧ mg x = some (.ref f)
structure Cc (P : Program) (w : World) (K : PySem.W.Frag) (mg : Str → Option Value) (base : Heap) (CX : CXT) (k : Nat) (x : Str) (sp : Sp) : Prop where
  ex : ∃ f fd ps, FnOk P w K mg base CX k f fd ps sp ∧ mg x = some (.ref f) ∧ PySem.W.keepIn K (.ref f) = true ∧ Binds K fd ps []
theorem pe_cc {X : Cx} {CX : CXT} {k j : Nat} {x : Str} {sp : Sp} {E : XK} {p pos : Pos} {e : Expr} {es : List Expr} {t : TA} (c : Cc X.prog X.w X.K X.mg X.base CX k x sp) (hr : Room j X.A) (hk : k ≤ j) (hx : Passes CX X E) (ha : PA X (e :: es) t) (hg : Gl X x := by rfl)
    (hdb : (x == ("__debug__" : Str)) = false := by decide) (he : starEach (e :: es) X.env = (false, eval e X.env) :: starEach es X.env := by rfl) (hpl : (backTo pos (starEach es X.env)).any (·.1) = false := by rfl) :
    PE X (.Call (.Name x p) (e :: es) [] pos) (tCall sp [] E t) := by
  obtain ⟨f, fd, ps, F, hm, kp, hb⟩ := c.ex
  exact pe_call F (hr.mono hk) hg hm kp hb .nil hx ha hdb he hpl
theorem pe_gs {X : Cx} {x z : Str} {pos : Pos} (h : GS X.mg x z) (hg : Gl X x := by rfl) (hd : (x == ("__debug__" : Str)) = false := by decide) : PE X (.Name x pos) (tC (.str z)) := by
  obtain ⟨u, hm, r⟩ := h
  exact pe_glob hg hm r hd
theorem pe_gi {X : Cx} {x : Str} {i : Int} {pos : Pos} (h : GI X.mg x i) (hg : Gl X x := by rfl) (hd : (x == ("__debug__" : Str)) = false := by decide) : PE X (.Name x pos) (tC (.int i)) := by
  obtain ⟨u, hm, r⟩ := h
  exact pe_glob hg hm r hd
def tGT (K : PySem.W.Frag) (zs : List Str) : TE := fun _ H Q => ∀ a, SqT K H a (zs.map V.str) → Q (.ref a) H
theorem pe_gt {X : Cx} {x : Str} {zs : List Str} {pos : Pos} (h : GT X.K X.mg x zs) (hg : Gl X x := by rfl) (hd : (x == ("__debug__" : Str)) = false := by decide) : PE X (.Name x pos) (tGT X.K zs) := by
  obtain ⟨a, hm, r⟩ := h
  exact ⟨fun pins s σ H Q I q => (pe_glob (v := .ref a) hg hm rfl hd).run pins s σ H Q I (q a (r H))⟩
/-- what the module's top has -/
structure TxS (K : PySem.W.Frag) (mg : Str → Option Value) : Prop where
  len : mg "len" = none
  all : mg "all" = none
  mn : mg "min" = none
  tup : mg "tuple" = none
  int : mg "int" = none
  str : mg "str" = none
  enum : mg "enumerate" = none
section
variable {P : Program} {w : World} {K : PySem.W.Frag} {mg : Str → Option Value} {base : Heap}
abbrev C0 (P : Program) (w : World) (K : PySem.W.Frag) (mg : Str → Option Value) (base : Heap) (k : Nat) (x : Str) (sp : Sp) : Prop := Cc P w K mg base CX0 k x sp
/-- a def that only tells: its answer, what stood stands -/
def spB (g : T → Bool) : Sp := fun vs H Q _ => ∃ z : Str, vs = [.str z] ∧ z.length ≤ 100000 ∧ ∀ H', Same H H' → Q (.bl (g (tl z))) H'
/-! is_name -/
def spName : Sp := fun vs H Q _ => ∃ z s1 s2 : Str, vs = [.str z, .str s1, .str s2] ∧ z.length ≤ 100000 ∧ ∀ H', Same H H' → Q (.bl (isName (tl z) (tl s1) (tl s2))) H'
/-! is_small, is_kind_name -/
theorem small_add (a b : T) : mk a ++ mk b = mk (a ++ b) := by
  show (⟨a.toArray ++ b.toArray⟩ : Str) = _
  simp
/-! is_text -/
/-! is_free -/
def isFree (l : T) : Bool := isSmall l && !(KEPTs.any fun k => k == mk l)
theorem inV_strs (z : Str) (zs : List Str) : inV (.str z) (zs.map V.str) = zs.any fun k => k == z := by
  unfold inV
  rw [List.any_map]
  rfl
theorem flat_strs (zs : List Str) : (zs.map V.str).all flatV = true := by
  rw [List.all_map]
  exact List.all_eq_true.mpr fun _ _ => rfl
end
end My
set_option Elab.async false
set_option linter.all false
set_option maxRecDepth 100000
set_option maxHeartbeats 2000000
namespace My
open PySem L2 SS
/-! ### numbers, words: the functions -/
def figsOf : T → T
  | 45 :: cs => cs
  | l => l
def numOf : T → Int
  | 45 :: cs => -((NumText.digitsVal cs : Nat) : Int)
  | l => ((NumText.digitsVal l : Nat) : Int)
def numStr (n : Int) : Str := Str.ofString (toString n)
def isNum (l : T) : Bool := decide (1 ≤ (figsOf l).length ∧ (figsOf l).length ≤ 13) && (hasOnly (figsOf l) FIGS && (decide (numStr (numOf l) = mk l) && (decide (-1000000000000 < numOf l) && decide (numOf l < 1000000000000))))
def BRs : List Str := [mk [40], mk [41], mk [123], mk [125], mk [91], mk [93], mk [124]]
def MARKs : List Str := [mk [43], mk [45], mk [42], mk [47], mk [60], mk [61], mk [58, 61], mk [58]]
def inS (zs : List Str) (l : T) : Bool := zs.any fun k => k == mk l
def isWord (l : T) : Bool :=
  if inS BRs l = true ∨ inS MARKs l = true then true
  else if l.head? = some 64 then isSmall (l.drop 1)
  else if l.head? = some 39 then isText (l.drop 1)
  else isSmall l || (isKindName l || isNum l)
theorem fold_lt : ∀ (cs : T) (a : Nat), NumText.AllDigits cs → cs.foldl (fun acc c => acc * 10 + (c - 48)) a < (a + 1) * 10 ^ cs.length
  | [], a, _ => by simp
  | c :: cs, a, h => by
    have hc := h c List.mem_cons_self
    have ih := fold_lt cs (a * 10 + (c - 48)) (fun d hd => h d (List.mem_cons_of_mem _ hd))
    rw [List.foldl_cons, List.length_cons]
    have e : (a * 10 + (c - 48) + 1) * 10 ^ cs.length ≤ ((a + 1) * 10) * 10 ^ cs.length := Nat.mul_le_mul_right _ (by omega)
    have e2 : (a + 1) * 10 ^ (cs.length + 1) = ((a + 1) * 10) * 10 ^ cs.length := by rw [Nat.pow_succ, Nat.mul_assoc, Nat.mul_comm 10]
    omega
theorem digits_lt {cs : T} (h : NumText.AllDigits cs) (hl : cs.length ≤ 13) : NumText.digitsVal cs < 10 ^ 13 := by
  have h1 := fold_lt cs 0 h
  have h2 : 10 ^ cs.length ≤ 10 ^ 13 := Nat.pow_le_pow_right (by decide) hl
  unfold NumText.digitsVal
  omega
theorem figs_digits {l : T} (h : hasOnly l FIGS = true) : NumText.AllDigits l := fun c hc => by
  unfold hasOnly at h
  have := of_decide_eq_true (List.all_eq_true.mp h c hc)
  simp [FIGS] at this
  omega
theorem log_small {n : Nat} (h : n < 10 ^ 13) : n.log2 < 1920 := by
  by_cases e : n = 0
  · subst e; decide
  · exact (Nat.log2_lt e).mpr (Nat.lt_of_lt_of_le h (by decide +kernel))
theorem num_facts {l : T} (h1 : 1 ≤ (figsOf l).length) (h2 : (figsOf l).length ≤ 13) (h3 : hasOnly (figsOf l) FIGS = true) : intText? (mk l) = some (numOf l) ∧ (numOf l).natAbs.log2 < 1920 ∧ (mk l).length ≤ 14 := by
  have hd := figs_digits h3
  have hne : figsOf l ≠ [] := fun z => by rw [z] at h1; simp at h1
  have hl : (mk l).length = l.length := by show l.toArray.size = _; simp
  rcases l with _ | ⟨c, cs⟩
  · simp [figsOf] at h1
  · by_cases hc : c = 45
    · subst hc
      have e : figsOf (45 :: cs) = cs := rfl
      rw [e] at h1 h2 hd hne
      refine ⟨intText_neg (cs := cs) rfl hd hne (by rw [hl, List.length_cons]; omega), ?_, by rw [hl, List.length_cons]; omega⟩
      show (-((NumText.digitsVal cs : Nat) : Int)).natAbs.log2 < 1920
      rw [Int.natAbs_neg]
      exact log_small (digits_lt hd h2)
    · have e : figsOf (c :: cs) = c :: cs := by
        unfold figsOf
        split
        · rename_i heq
          exact absurd (List.cons.inj heq).1 hc
        · rfl
      have e2 : numOf (c :: cs) = ((NumText.digitsVal (c :: cs) : Nat) : Int) := by
        unfold numOf
        split
        · rename_i heq
          exact absurd (List.cons.inj heq).1 hc
        · rfl
      rw [e] at h1 h2 hd hne
      rw [e2]
      exact ⟨intText_digits (x := mk (c :: cs)) hd hne (by rw [hl]; omega), log_small (digits_lt hd h2), by rw [hl]; omega⟩
theorem mk_len (l : T) : (mk l).length = l.length := by show l.toArray.size = _; simp
theorem removed (z : Str) : Txt.removeprefix z "-" = mk (figsOf (tl z)) := by
  obtain ⟨⟨l⟩⟩ := z
  have e0 : (Str.ofString "-") = ⟨#[45]⟩ := by decide +kernel
  show Txt.removeprefix ⟨⟨l⟩⟩ (Str.ofString "-") = mk (figsOf l)
  rw [e0]
  unfold Txt.removeprefix
  rcases l with _ | ⟨c, cs⟩
  · rfl
  · have hs : Builtin.Str.subAt ⟨⟨c :: cs⟩⟩ ⟨#[45]⟩ 0 = decide (c = 45) := by
      unfold Builtin.Str.subAt
      have : (⟨c :: cs⟩ : Array Nat).extract 0 (0 + (⟨#[45]⟩ : Str).length) = #[c] := by
        apply Array.toList_inj.mp
        simp [Str.length, Array.toList_extract, List.extract]
      show ((⟨c :: cs⟩ : Array Nat).extract 0 (0 + (⟨#[45]⟩ : Str).length) == #[45]) = _
      rw [this]
      by_cases h : c = 45
      · subst h; rfl
      · rw [decide_eq_false h]
        simp [h]
    rw [hs]
    by_cases h : c = 45
    · subst h
      rw [if_pos (by simp)]
      unfold Txt.affix
      show (if (cs.length + 1) - 1 == cs.length + 1 then _ else _) = _
      rw [if_neg (by simp)]
      unfold Builtin.Str.strSub
      show (⟨(⟨45 :: cs⟩ : Array Nat).extract 1 (cs.length + 1)⟩ : Str) = mk cs
      congr 1
      apply Array.toList_inj.mp
      simp [Array.toList_extract, List.extract]
    · rw [if_neg (by simp [h])]
      have e : figsOf (c :: cs) = c :: cs := by
        unfold figsOf
        split
        · rename_i heq
          exact absurd (List.cons.inj heq).1 h
        · rfl
      rw [e]
      rfl
theorem starts1 (z : Str) (c : Nat) : Txt.startswith z (mk [c]) = decide ((tl z).head? = some c) := by
  obtain ⟨⟨l⟩⟩ := z
  unfold Txt.startswith
  rcases l with _ | ⟨d, ds⟩
  · rfl
  · have hs : Builtin.Str.subAt ⟨⟨d :: ds⟩⟩ (mk [c]) 0 = decide (d = c) := by
      unfold Builtin.Str.subAt
      have : (⟨d :: ds⟩ : Array Nat).extract 0 (0 + (mk [c]).length) = #[d] := by
        apply Array.toList_inj.mp
        simp [Str.length, Array.toList_extract, List.extract]
      show ((⟨d :: ds⟩ : Array Nat).extract 0 (0 + (mk [c]).length) == #[c]) = _
      rw [this]
      by_cases h : d = c
      · subst h; simp
      · rw [decide_eq_false h]
        simp [h]
    rw [hs]
    show (decide (0 + 1 ≤ ds.length + 1) && decide (d = c)) = decide ((d :: ds).head? = some c)
    rw [decide_eq_true (by omega), Bool.true_and]
    simp
theorem cut1 (z : Str) : cutS z (some 1) none = mk ((tl z).drop 1) := by
  unfold cutS
  rw [HT.sIx_none]
  have h : HT.sIx z.length 0 (some 1) = min 1 z.length := HT.sIx_nat z.length 0 1
  rw [h]
  have hl := len_tl z
  have e : (List.take (z.length - min 1 z.length) (List.drop (min 1 z.length) z.cps.toList)) = (tl z).drop 1 := by
    rw [List.take_of_length_le (by rw [List.length_drop, hl]; omega)]
    by_cases h0 : z.length = 0
    · have : tl z = [] := List.eq_nil_of_length_eq_zero (by omega)
      show List.drop _ (tl z) = _
      rw [this]
      simp
    · rw [show min 1 z.length = 1 by omega]
  rw [e]
theorem cut_sl (z : Str) {a b : Nat} (h : b ≤ z.length) : cutS z (some (a : Nat)) (some (b : Nat)) = mk (sl (tl z) a b) := by
  unfold cutS
  rw [HT.sIx_nat, HT.sIx_nat]
  have hl := len_tl z
  unfold sl
  by_cases ha : a ≤ z.length
  · rw [show min a z.length = a by omega, show min b z.length = b by omega]
  · have e1 : (tl z).drop a = [] := List.drop_eq_nil_of_le (by omega)
    rw [e1, List.drop_eq_nil_of_le (by rw [hl]; omega)]
    simp
theorem dec_str (a b : Str) : decide (V.str a = V.str b) = decide (a = b) := by
  by_cases h : a = b
  · subst h; simp
  · rw [decide_eq_false h, decide_eq_false (fun z => h (V.str.inj z))]
section
variable {P : Program} {w : World} {K : PySem.W.Frag} {mg : Str → Option Value} {base : Heap}
theorem big_len : (Str.ofString (toString (1000000000000 : Int))).length = 13 := by decide +kernel
end
end My
set_option Elab.async false
set_option linter.all false
set_option maxRecDepth 100000
set_option maxHeartbeats 2000000
namespace My
open PySem L2 SS
/-! ### things that stand in tuples -/
def AtT {α : Type} (f : α → List V) (H : Hp) (v : V) (q : α) : Prop := ∃ p, v = .ref p ∧ H p = some (.tup (f q))
inductive AllT {α : Type} (f : α → List V) (H : Hp) : List V → List α → Prop
  | nil : AllT f H [] []
  | cons {v : V} {q : α} {vs : List V} {qs : List α} : AtT f H v q → AllT f H vs qs → AllT f H (v :: vs) (q :: qs)
/-- tuples stand -/
def Tups (H H' : Hp) : Prop := ∀ p xs, H p = some (.tup xs) → H' p = some (.tup xs)
theorem same_tups {H H' : Hp} (s : Same H H') : Tups H H' := fun p xs h => s p _ h
theorem Tups.trans {H H1 H2 : Hp} (a : Tups H H1) (b : Tups H1 H2) : Tups H H2 := fun p xs h => b p xs (a p xs h)
theorem tups_new {H : Hp} {p : Addr} (h : H p = none) (o : HO) : Tups H (upd H p o) := same_tups (same_new h o)
theorem tups_lst {H : Hp} {p : Addr} {xs ys : List V} (h : H p = some (.lst xs)) : Tups H (upd H p (.lst ys)) := fun b u q => by
  rw [upd_ne (ne_of q h (by intro z; cases z))]; exact q
section
variable {α : Type} {f : α → List V} {H H' : Hp}
theorem AllT.on : ∀ {vs : List V} {qs : List α}, AllT f H vs qs → Tups H H' → AllT f H' vs qs
  | _, _, .nil, _ => .nil
  | _, _, .cons ⟨p, e, h⟩ r, t => .cons ⟨p, e, t _ _ h⟩ (r.on t)
theorem AllT.append : ∀ {vs ws : List V} {qs rs : List α}, AllT f H vs qs → AllT f H ws rs → AllT f H (vs ++ ws) (qs ++ rs)
  | _, _, _, _, .nil, h => h
  | _, _, _, _, .cons a r, h => .cons a (r.append h)
theorem AllT.length : ∀ {vs : List V} {qs : List α}, AllT f H vs qs → vs.length = qs.length
  | _, _, .nil => rfl
  | _, _, .cons _ r => by rw [List.length_cons, List.length_cons, r.length]
theorem AllT.get : ∀ {vs : List V} {qs : List α} {i : Nat} {v : V}, AllT f H vs qs → vs[i]? = some v → ∃ q, qs[i]? = some q ∧ AtT f H v q
  | _, _, i, v, .nil, h => by simp at h
  | _, _, 0, v, .cons a r, h => by simp at h; subst h; exact ⟨_, rfl, a⟩
  | _, _, i + 1, v, .cons a r, h => by
    obtain ⟨q, h1, h2⟩ := r.get (i := i) (v := v) (by simpa using h)
    exact ⟨q, by simpa using h1, h2⟩
/-- a list that is being made, its items in tuples -/
def LS (f : α → List V) (H H1 : Hp) (l : Addr) (ps : List α) : Prop := Same H H1 ∧ H l = none ∧ ∃ vs, H1 l = some (.lst vs) ∧ AllT f H1 vs ps
theorem LS.new {H1 : Hp} {l p : Addr} {ps : List α} (h : LS f H H1 l ps) (n : H1 p = none) (o : HO) : LS f H (upd H1 p o) l ps := by
  obtain ⟨s, hl, vs, h1, h2⟩ := h
  exact ⟨s.trans (same_new n o), hl, vs, by rw [upd_ne (ne_of_none h1 n)]; exact h1, h2.on (tups_new n o)⟩
theorem LS.push {H1 : Hp} {l p : Addr} {ps : List α} {q : α} (h : LS f H H1 l ps) (hp : H1 p = some (.tup (f q))) : ∃ vs, H1 l = some (.lst vs) ∧ vs.length = ps.length ∧ LS f H (upd H1 l (.lst (vs ++ [.ref p]))) l (ps ++ [q]) := by
  obtain ⟨s, hl, vs, h1, h2⟩ := h
  refine ⟨vs, h1, h2.length, fun b u e => ?_, hl, _, upd_same, ?_⟩
  · rw [upd_ne (ne_of_none e hl)]
    exact s b u e
  · have t : Tups H1 (upd H1 l (.lst (vs ++ [.ref p]))) := tups_lst h1
    exact (h2.on t).append (.cons ⟨p, rfl, t _ _ hp⟩ .nil)
end
def fP (q : List Nat × Nat) : List V := [.str (mk q.1), .int (q.2 : Nat)]
def fW (q : W) : List V := [.str (mk q.1), .int (q.2.1 : Nat), .int (q.2.2 : Nat)]
section
variable {P : Program} {w : World} {K : PySem.W.Frag} {mg : Str → Option Value} {base : Heap}
/-! ### is_word -/
theorem s_at : (Str.ofString "@") = mk [64] := by decide +kernel
theorem s_quote : (Str.ofString "'") = mk [39] := by decide +kernel
/-! ### words_of_row -/
def spRow : Sp := fun vs H Q _ => ∃ z : Str, vs = [.str z] ∧ z.length ≤ 100000 ∧ ∀ (H' : Hp) (l : Addr) (us : List V), Same H H' → H l = none → H' l = some (.lst us) → AllT fP H' us (rowWords (tl z)) → Q (.ref l) H'
def RowInv (L : List Nat) (i a : Nat) (ps : List (List Nat × Nat)) : Prop := (i ≤ L.length ∧ a ≤ i ∧ ps ++ rw_ (sl L a i) (i + 1) (L.drop i) = rowWords L) ∨ (i = L.length + 1 ∧ ps = rowWords L)
theorem RowInv.len {L : List Nat} {i a : Nat} {ps : List (List Nat × Nat)} (h : RowInv L i a ps) : ps.length ≤ 2 * L.length := by
  have := rowWords_len L
  rcases h with ⟨_, _, h⟩ | ⟨_, h⟩
  · rw [← h, List.length_append] at this
    omega
  · rw [h]; exact this
theorem s_blank : (Str.ofString " ") = mk [32] := by decide +kernel
theorem sep_in (c : Nat) : inS BRs [c] = decide (c ∈ BR) := by
  have e : ∀ d : Nat, ((mk [d]) == mk [c]) = decide (c = d) := fun d => by
    by_cases h : c = d
    · subst h; simp
    · rw [decide_eq_false h]
      apply beq_eq_false_iff_ne.mpr
      intro z
      have z2 := congrArg (fun s => s.cps.toList) z
      simp at z2
      exact h z2.symm
  unfold inS BRs BR
  simp only [List.any_cons, List.any_nil, e, List.mem_cons, List.not_mem_nil, Bool.decide_or, Bool.or_false, or_false]
end
end My
set_option Elab.async false
set_option linter.all false
set_option maxRecDepth 100000
set_option maxHeartbeats 2000000
namespace My
open PySem L2 SS
def oN : Option Nat → V
  | none => .non
  | some c => .int (c : Nat)
theorem foldMin : ∀ (ns : List Int) (n : Int), (ns.foldl min n) ∈ n :: ns ∧ ∀ y ∈ n :: ns, ns.foldl min n ≤ y
  | [], n => by simp
  | k :: r, n => by
    have ih := foldMin r (min n k)
    rw [List.foldl_cons]
    constructor
    · rcases List.mem_cons.mp ih.1 with h | h
      · rw [h]
        by_cases c : n ≤ k
        · rw [Int.min_eq_left c]; simp
        · rw [Int.min_eq_right (by omega)]; simp
      · exact List.mem_cons_of_mem _ (List.mem_cons_of_mem _ h)
    · intro y hy
      have h0 := ih.2 (min n k) List.mem_cons_self
      rcases List.mem_cons.mp hy with h | h
      · subst h; omega
      · rcases List.mem_cons.mp h with h | h
        · subst h; omega
        · exact ih.2 y (List.mem_cons_of_mem _ h)
theorem minOf_ints {c : Nat} {r : List Nat} {m : Int} (h : m = (r.map fun (k : Nat) => (k : Int)).foldl min ((c : Nat) : Int)) : ∃ k, minOf (c :: r) = some k ∧ m = (k : Nat) := by
  have f := foldMin (r.map fun (k : Nat) => (k : Int)) ((c : Nat) : Int)
  rw [← h] at f
  have e : ((c : Nat) : Int) :: (r.map fun (k : Nat) => (k : Int)) = (c :: r).map fun (k : Nat) => (k : Int) := rfl
  rw [e] at f
  obtain ⟨k, hk, ek⟩ := List.mem_map.mp f.1
  refine ⟨k, minOf_some.mpr ⟨hk, fun y hy => ?_⟩, ek.symm⟩
  have := f.2 ((y : Nat) : Int) (List.mem_map.mpr ⟨y, hy, rfl⟩)
  omega
section
variable {P : Program} {w : World} {K : PySem.W.Frag} {mg : Str → Option Value} {base : Heap}
def spWrong : Sp := fun vs H Q _ => ∃ (a : Addr) (n : Nat) (us : List V) (ps : List (List Nat × Nat)), vs = [.ref a, .int (n : Nat)] ∧ H a = some (.lst us) ∧ AllT fP H us ps ∧ (∀ q ∈ ps, q.1.length ≤ 100000) ∧ ps.length ≤ 300000 ∧ ∀ H', Same H H' → Q (oN (wrongCol isWord ps n)) H'
theorem alike_ints (ns : List Int) : PySem.W.AlikeAll (ns.map PyData.int) := by
  refine ⟨fun x hx y hy => ?_, fun x hx => ?_⟩
  · obtain ⟨a, _, rfl⟩ := List.mem_map.mp hx
    obtain ⟨b, _, rfl⟩ := List.mem_map.mp hy
    rfl
  · obtain ⟨a, _, rfl⟩ := List.mem_map.mp hx
    intro z
    cases z
theorem depth_ints : ∀ ns : List Int, PyData.depthAll (ns.map PyData.int) ≤ 20
  | [] => by decide
  | n :: r => by
    have := depth_ints r
    show max (PyData.depth (.int n)) (PyData.depthAll (r.map PyData.int)) ≤ 20
    exact Nat.max_le.mpr ⟨by show 0 ≤ 20; decide, this⟩
theorem dp_ints {H : Hp} : ∀ ns : List Int, DpAll K H (ns.map V.int) (ns.map PyData.int)
  | [] => .nil
  | n :: r => .cons (.int n) (dp_ints r)
end
end My
set_option Elab.async false
set_option linter.all false
set_option maxRecDepth 100000
set_option maxHeartbeats 2000000
namespace My
open PySem L2 SS
theorem LS.pushAll {α : Type} {f : α → List V} {H H1 : Hp} {l : Addr} {ps qs : List α} {us : List V} (h : LS f H H1 l ps) (hq : AllT f H1 us qs) : ∃ vs, H1 l = some (.lst vs) ∧ vs.length = ps.length ∧ LS f H (upd H1 l (.lst (vs ++ us))) l (ps ++ qs) := by
  obtain ⟨s, hl, vs, h1, h2⟩ := h
  refine ⟨vs, h1, h2.length, fun b u e => ?_, hl, _, upd_same, ?_⟩
  · rw [upd_ne (ne_of_none e hl)]
    exact s b u e
  · have t : Tups H1 (upd H1 l (.lst (vs ++ us))) := tups_lst h1
    exact (h2.on t).append (hq.on t)
theorem lay_len (r : Nat) (p : List (List Nat × Nat)) : (lay r p).length = p.length := by unfold lay; rw [List.length_map]
theorem scanGo_len {isW : List Nat → Bool} : ∀ (ls : List (List Nat)) (r : Nat), (∀ l ∈ ls, l.length ≤ 1000) → (scanGo isW r ls).1.length ≤ 2000 * ls.length
  | [], r, _ => by simp [scanGo]
  | l :: ls, r, h => by
    have hl := h l List.mem_cons_self
    have ih := scanGo_len ls (r + 1) (fun x hx => h x (List.mem_cons_of_mem _ hx)) (isW := isW)
    have hr := rowWords_len l
    rw [scanGo, List.length_cons]
    split
    · rename_i c _
      have := List.length_filter_le (fun q : List Nat × Nat => decide (q.2 < c)) (rowWords l)
      show (lay r ((rowWords l).filter fun q => decide (q.2 < c))).length ≤ _
      rw [lay_len]
      refine Nat.le_trans this ?_
      omega
    · show (lay _ _ ++ _).length ≤ _
      rw [List.length_append, lay_len]
      omega
def StopAt (H : Hp) (v : V) : Option (Nat × Nat) → Prop
  | none => v = .non
  | some p => ∃ q, v = .ref q ∧ H q = some (.tup [.int (p.1 : Nat), .int (p.2 : Nat)])
def nl : Str := Str.ofString "\n"
/-- a text whose rows are neither many nor long -/
def Fits (z : Str) (rs : List Str) : Prop := Txt.split z nl = rs ∧ z.length ≤ 100000 ∧ rs.length ≤ 1000 ∧ ∀ r ∈ rs, r.length ≤ 1000
def spScan : Sp := fun vs H Q _ => ∃ (z : Str) (rs : List Str), vs = [.str z] ∧ Fits z rs ∧
  ∀ (H' : Hp) (p wl : Addr) (st : V) (us : List V), Same H H' → H' p = some (.tup [.ref wl, st]) → H' wl = some (.tup us) → AllT fW H' us (scan isWord (rs.map tl)).1 → us.length ≤ 600000 → StopAt H' st (scan isWord (rs.map tl)).2 → Q (.ref p) H'
theorem LS.same {α : Type} {f : α → List V} {H H1 H2 : Hp} {l : Addr} {ps : List α} (h : LS f H H1 l ps) (s : Same H1 H2) : LS f H H2 l ps := by
  obtain ⟨s0, hl, vs, h1, h2⟩ := h
  exact ⟨s0.trans s, hl, vs, s _ _ h1, h2.on (same_tups s)⟩
theorem rw_wlen : ∀ (r cur : List Nat) (k : Nat), ∀ q ∈ rw_ cur k r, q.1.length ≤ cur.length + r.length + 1
  | [], cur, k, q, h => by
    rw [rw_] at h
    unfold flush at h
    split at h
    · simp at h
    · simp at h; subst h; show cur.length ≤ _; omega
  | c :: r, cur, k, q, h => by
    rw [rw_] at h
    rw [List.length_cons]
    split at h
    · rcases List.mem_append.mp h with h | h
      · rcases List.mem_append.mp h with h | h
        · unfold flush at h
          split at h
          · simp at h
          · simp at h; subst h; show cur.length ≤ _; omega
        · split at h
          · simp at h
          · simp at h; subst h; show 1 ≤ _; omega
      · have := rw_wlen r [] (k + 1) q h
        rw [List.length_nil] at this
        omega
    · have := rw_wlen r (cur ++ [c]) (k + 1) q h
      rw [List.length_append] at this
      simp only [List.length_cons, List.length_nil] at this
      omega
def condW : Option Nat → (List Nat × Nat) → Bool
  | none, _ => true
  | some c, q => decide (q.2 < c)
section
variable {P : Program} {w : World} {K : PySem.W.Frag} {mg : Str → Option Value} {base : Heap}
theorem cut300 (xs : List V) : cutV xs none (some (300 : Int)) = xs.take 300 := by
  unfold cutV
  rw [HT.sIx_none, show (300 : Int) = ((300 : Nat) : Int) from rfl, HT.sIx_nat, List.drop_zero, Nat.sub_zero]
  rcases Nat.lt_or_ge 300 xs.length with h | h
  · rw [Nat.min_eq_left (by omega)]
  · rw [Nat.min_eq_right h, List.take_length, List.take_of_length_le h]
end
end My
set_option Elab.async false
set_option linter.all false
set_option maxRecDepth 100000
set_option maxHeartbeats 2000000
namespace My
open PySem L2 SS
abbrev sDeck : Stmt := top 13
abbrev sNext : Stmt := top 14
structure TxL (mg : Str → Option Value) : Prop where
  range : mg "range" = none
  mn : mg "min" = none
section
variable {P : Program} {w : World} {K : PySem.W.Frag} {mg : Str → Option Value} {base : Heap} {S CF fI fS C CP fF fK : Addr}
def Small (xs : List Int) : Prop := ∀ v ∈ xs, 0 ≤ v ∧ v < 2147483648
/-- the deck at p: its place, its row of draws at l -/
theorem atI_0 {α : Type} {y : α} {ys : List α} : atI (y :: ys) 0 = some y := atI_nat (j := 0) rfl
def DeckAt (H : Hp) (p l : Addr) (a : Nat) (b : Int) (xs : List Int) : Prop := H p = some (.lst [.int (a : Nat), .ref l, .int b]) ∧ H l = some (.lst (xs.map V.int)) ∧ p ≠ l ∧ Small xs ∧ xs.length ≤ 5000
def spDeck (K : PySem.W.Frag) : Sp := fun vs H Q _ => ∃ (a : Addr) (ns : List Int), vs = [.ref a] ∧ SqL K H a (ns.map V.int) ∧ ns.length ≤ 63 ∧
  ∀ (H' : Hp) (p l : Addr) (xs : List Int), Same H H' → H p = none → H l = none → DeckAt H' p l 0 70 xs → Q (.ref p) H'
theorem scDeck : FnScope ["_law_script", "_law_row", "_law_k", "_law_cell", "_law_n", "_law_one"] ["_law_script"] (defScope sDeck) := ⟨rfl, rfl, rfl, by decide +kernel, rfl, by decide +kernel, by decide +kernel⟩
theorem c_deck (TS : TxS K mg) (T : TxL mg) (D : Dn K mg "_law_deck" sDeck) : C0 P w K mg base 1 "_law_deck" (spDeck K) := by
  obtain ⟨f, fd, F, m⟩ := D.ex
  refine ⟨f, fd, ["_law_script"], F.ok scDeck (fun vs H Q E h => ?_) (fun cdv A outer s H vs Q E hr h => ?_), m, F.kp, F.binds (ps := ["_law_script"]) fun _ _ _ _ _ _ us hl => match us, hl with | [_], _ => rfl⟩
  · obtain ⟨a, ns, rfl, _⟩ := h
    rfl
  obtain ⟨a, ns, rfl, hS, h63, k⟩ := h
  refine ⟨_, pss_cons (ps_set (i := 1) scDeck.nd rfl (Or.inl rfl) (pe_lst pa_nil)) <|
    pss_cons (ps_for PassesOwn.never rfl (pi_range1 rfl T.range (pa_cons (pe_callB (call_min2 rfl) (by rfl) T.mn (by decide +kernel) (pa_cons (pe_callB call_len_seq (by rfl) TS.len PySem.boot_len (pa_cons (pv 0) pa_nil)) (pa_cons pe_int pa_nil))) pa_nil)) (pg_name (i := 2) scDeck.nd rfl (Or.inl rfl)) <|
      pss_cons (ps_set (i := 3) scDeck.nd rfl (Or.inl rfl) (pe_ix ix_list (pv 0) (pv 2) (fun _ _ => rfl))) <|
      pss_one (ps_if (pt_cmpR op_ge (pv 3) (pe_op op_pow pe_int pe_int) (nomark _))
        (pss_one (ps_for PassesOwn.never rfl (pi_range1 rfl T.range (pa_cons pe_int pa_nil)) (pg_name (i := 4) scDeck.nd rfl (Or.inl rfl)) <|
          pss_one (ps_if (pt_cmpR op_gt (pv 3) pe_int (nomark _)) (pss_cons (ps_expr (pe_bm PySem.F.plainAttrs_list PySem.F.slot_list_append PySem.F.type_list_append mt_append (pv 1) (pa_cons (pe_op op_mod (pv 3) pe_int) pa_nil))) <|
            pss_one (ps_set (i := 3) scDeck.nd rfl (Or.inl rfl) (pe_op op_fdiv (pv 3) pe_int))) pss_nil)))
        (pss_cons (ps_set (i := 5) scDeck.nd rfl (Or.inl rfl) (pe_op op_add (pe_op op_add (pe_op op_mul (pv 3) pe_int) (pe_op op_mul (pe_op op_mul (pe_op op_add (pv 2) pe_int) (pe_op op_add (pv 2) pe_int)) pe_int)) pe_int)) <|
          pss_cons (ps_set (i := 5) scDeck.nd rfl (Or.inl rfl) (pe_op op_mod (pv 5) pe_int)) <|
          pss_one (ps_expr (pe_bm PySem.F.plainAttrs_list PySem.F.slot_list_append PySem.F.type_list_append mt_append (pv 1) (pa_cons (pe_op op_mod (pe_op op_mul (pv 5) (pv 5)) pe_int) pa_nil)))))) <|
    pss_one (ps_ret (pe_lst (pa_cons pe_int (pa_cons (pv 1) (pa_cons pe_int pa_nil))))), ?_⟩
  refine ⟨Nat.zero_le _, fun l hl => ?_⟩
  have s0 := same_new hl (.lst [])
  have hlen : (ns.map V.int).length = ns.length := List.length_map _
  refine ⟨_, rfl, a, _, rfl, .inl (s0.seq hS), _, _, rfl, ?_⟩
  have hmin : (if (63 : Int) < ((ns.map V.int).length : Nat) then (63 : Int) else ((ns.map V.int).length : Nat)) = ((ns.length : Nat) : Int) := by
    rw [hlen, if_neg (by omega)]
  rw [hmin]
  refine ⟨_, rfl, by omega, by omega, ?_⟩
  refine for_range (lo := 0) (n := ((ns.length : Nat) : Int).toNat) (fun i σ H1 => ∃ (xs : List Int) (v2 v3 v4 v5 : Option V), σ = [some (.ref a), some (.ref l), v2, v3, v4, v5] ∧ Same H H1 ∧ H1 l = some (.lst (xs.map V.int)) ∧ Small xs ∧ xs.length ≤ 60 * i)
    ⟨[], none, none, none, none, rfl, s0, upd_same, fun v h => by simp at h, by simp⟩ ?_ ?_
  · rintro i σ H1 hi ⟨xs, v2, v3, v4, v5, rfl, s1, h1, hsm, hxl⟩
    have hi2 : i < ns.length := by simpa using hi
    have e0 : (0 : Int) + ((i : Nat) : Int) = ((i : Nat) : Int) := by omega
    rw [e0]
    have hcell : (ns.map V.int)[i]? = some (.int ns[i]) := by rw [List.getElem?_map, List.getElem?_eq_getElem hi2]; rfl
    generalize ns[i] = cell at hcell
    have app : ∀ (H2 : Hp) (ys : List Int) (z : Int), Same H H2 → Same H (upd H2 l (.lst ((ys ++ [z]).map V.int))) := fun H2 ys z s b u e => by
      rw [upd_ne (ne_of_none e hl)]
      exact s b u e
    have sml : ∀ (ys : List Int) (z : Int), Small ys → 0 ≤ z → z < 2147483648 → Small (ys ++ [z]) := fun ys z h h1 h2 v hv => by
      rcases List.mem_append.mp hv with hv | hv
      · exact h v hv
      · simp at hv
        subst hv
        exact ⟨h1, h2⟩
    refine ⟨_, rfl, _, rfl, a, _, _, _, rfl, rfl, s1.seq hS, atI_nat hcell, ?_⟩
    refine ⟨_, rfl, _, _, rfl, rfl, ⟨by decide, by decide, by decide⟩, _, _, rfl, rfl, _, rfl, ?_⟩
    refine ite2 (fun c => ?_) (fun c => ?_)
    · refine ⟨60, rfl, by decide, by decide, ?_⟩
      refine for_range (lo := 0) (n := (60 : Int).toNat) (fun j σ H2 => ∃ (ys : List Int) (cl : Int) (v4 : Option V), σ = [some (.ref a), some (.ref l), some (.int (i : Nat)), some (.int cl), v4, v5] ∧ Same H H2 ∧ H2 l = some (.lst (ys.map V.int)) ∧ Small ys ∧ ys.length ≤ 60 * i + j)
        ⟨xs, cell, v4, rfl, s1, h1, hsm, by omega⟩ ?_ ?_
      · rintro j σ H2 hj ⟨ys, cl, v4', rfl, s2, h2, hs2, hyl⟩
        refine ⟨_, rfl, _, _, rfl, rfl, _, rfl, ?_⟩
        refine ite2 (fun c2 => ?_) (fun c2 => ?_)
        · have hlt : ys.length < sizeLine := by
            rw [sizeLine_eq]
            have : j < 60 := by simpa using hj
            omega
          refine ⟨_, rfl, .inl ⟨rfl, _, SqL.of h2⟩, _, rfl, _, _, rfl, rfl, (by show (0 : Int) < 1000000; decide), l, _, _, rfl, rfl, h2, by rw [List.length_map]; exact hlt, ?_⟩
          refine ⟨_, rfl, _, _, rfl, rfl, ⟨by decide, by decide⟩, ?_⟩
          refine ⟨ys ++ [cl % 1000000], _, _, rfl, ?_, by rw [upd_same, List.map_append]; rfl, sml _ _ hs2 (Int.emod_nonneg _ (by decide)) (by have := Int.emod_lt_of_pos cl (show (0 : Int) < 1000000 by decide); omega), by rw [List.length_append]; simp only [List.length_cons, List.length_nil]; omega⟩
          have := app H2 ys (cl % 1000000) s2
          rw [List.map_append] at this
          exact this
        · exact ⟨ys, cl, _, rfl, s2, h2, hs2, by omega⟩
      · rintro σ H2 ⟨ys, cl, v4', rfl, s2, h2, hs2, hyl⟩
        exact ⟨ys, _, _, _, _, rfl, s2, h2, hs2, by have : (60 : Int).toNat = 60 := rfl; omega⟩
    · have i64 : ((i : Nat) : Int) < 64 := by omega
      refine ⟨_, rfl, _, _, rfl, rfl, .inr ⟨by decide, by decide⟩, _, rfl, _, _, rfl, rfl, _, rfl, _, _, rfl, rfl, _, _, rfl, rfl, .inl ⟨by omega, by omega⟩, _, _, rfl, rfl, .inr ⟨by decide, by decide⟩, _, _, rfl, rfl, _, _, rfl, rfl, ?_⟩
      refine ⟨_, rfl, _, _, rfl, rfl, (by show (0 : Int) < 2147483647; decide), ?_⟩
      obtain ⟨one, hone⟩ : ∃ one : Int, one = (cell * 48271 + (((i : Nat) : Int) + 1) * (((i : Nat) : Int) + 1) * 7919 + 11) % 2147483647 := ⟨_, rfl⟩
      have o0 : 0 ≤ one := by rw [hone]; exact Int.emod_nonneg _ (by decide)
      have o1 : one < 2147483647 := by rw [hone]; exact Int.emod_lt_of_pos _ (by decide)
      show gName 5 (V.int ((cell * 48271 + (((i : Nat) : Int) + 1) * (((i : Nat) : Int) + 1) * 7919 + 11) % 2147483647)) _ _ _
      rw [← hone]
      refine ⟨_, rfl, .inl ⟨rfl, _, SqL.of h1⟩, _, rfl, _, rfl, _, _, rfl, rfl, .inl ⟨by omega, by omega⟩, _, _, rfl, rfl, (by show (0 : Int) < 2147483629; decide), l, _, _, rfl, rfl, h1, by rw [List.length_map, sizeLine_eq]; omega, ?_⟩
      refine ⟨xs ++ [one * one % 2147483629], _, _, _, _, rfl, ?_, by rw [upd_same, List.map_append]; rfl, sml _ _ hsm (Int.emod_nonneg _ (by decide)) (by have := Int.emod_lt_of_pos (one * one) (show (0 : Int) < 2147483629 by decide); omega), by rw [List.length_append]; simp only [List.length_cons, List.length_nil]; omega⟩
      have := app H1 xs (one * one % 2147483629) s1
      rw [List.map_append] at this
      exact this
  · rintro σ H1 ⟨xs, v2, v3, v4, v5, rfl, s1, h1, hsm, hxl⟩
    have hn : ((ns.length : Nat) : Int).toNat = ns.length := by omega
    rw [hn] at hxl
    refine ⟨_, rfl, by show 3 ≤ sizeLine; decide, fun p hp => ?_⟩
    have hpl : p ≠ l := fun z => by rw [z, h1] at hp; cases hp
    exact k _ p l xs (s1.trans (same_new hp _)) (s1.free hp) hl ⟨upd_same, by rw [upd_ne hpl.symm]; exact h1, hpl, hsm, by omega⟩
/-! _law_next -/
def spNext : Sp := fun vs H Q _ => ∃ (p l : Addr) (a : Nat) (b : Int) (xs : List Int), vs = [.ref p] ∧ DeckAt H p l a b xs ∧ a ≤ 10000 ∧ ∀ (n : Int), 0 ≤ n → DeckAt (upd H p (.lst [.int ((a + 1 : Nat) : Int), .ref l, .int b])) p l (a + 1) b xs → Q (.int n) (upd H p (.lst [.int ((a + 1 : Nat) : Int), .ref l, .int b]))
theorem scNext : FnScope ["_law_deck_here", "_law_at", "_law_row", "_law_one"] ["_law_deck_here"] (defScope sNext) := ⟨rfl, rfl, rfl, by decide +kernel, rfl, by decide +kernel, by decide +kernel⟩
theorem c_next (TS : TxS K mg) (D : Dn K mg "_law_next" sNext) : C0 P w K mg base 1 "_law_next" spNext := by
  obtain ⟨f, fd, F, m⟩ := D.ex
  refine ⟨f, fd, ["_law_deck_here"], F.ok scNext (fun vs H Q E h => ?_) (fun cdv A outer s H vs Q E hr h => ?_), m, F.kp, F.binds (ps := ["_law_deck_here"]) fun _ _ _ _ _ _ us hl => match us, hl with | [_], _ => rfl⟩
  · obtain ⟨p, l, a, b, xs, rfl, _⟩ := h
    rfl
  obtain ⟨p, l, a, b, xs, rfl, ⟨h1, h2, hpl, hsm, hxl⟩, ha, k⟩ := h
  refine ⟨_, pss_cons (ps_set (i := 1) scNext.nd rfl (Or.inl rfl) (pe_ix ix_list (pv 0) pe_int (fun _ _ => rfl))) <|
    pss_cons (ps_asg (pe_op op_add (pv 1) pe_int) (pg_sub (pv 0) pe_int set_list)) <|
    pss_cons (ps_set (i := 2) scNext.nd rfl (Or.inl rfl) (pe_ix ix_list (pv 0) pe_int (fun _ _ => rfl))) <|
    pss_cons (ps_if (pt_cmpR op_lt (pv 1) (pe_callB call_len_seq (by rfl) TS.len PySem.boot_len (pa_cons (pv 2) pa_nil)) (nomark _)) (pss_one (ps_ret (pe_ix ix_list (pv 2) (pv 1) (fun _ _ => rfl)))) pss_nil) <|
    pss_cons (ps_if (pt_cmpR op_eq (pe_callB call_len_seq (by rfl) TS.len PySem.boot_len (pa_cons (pv 2) pa_nil)) pe_int (nomark _)) (pss_one (ps_ret (pe_op op_mod (pe_op op_mul (pe_op op_mul (pe_op op_mul (pe_op op_add (pv 1) pe_int) (pe_op op_add (pv 1) pe_int)) (pe_op op_add (pv 1) pe_int)) pe_int) pe_int))) pss_nil) <|
    pss_cons (ps_set (i := 3) scNext.nd rfl (Or.inl rfl) (pe_op op_add (pe_ix ix_list (pv 2) (pe_op op_mod (pv 1) (pe_callB call_len_seq (by rfl) TS.len PySem.boot_len (pa_cons (pv 2) pa_nil))) (fun _ _ => rfl)) (pe_op op_mul pe_int (pe_ix ix_list (pv 2) (pe_op op_mod (pe_op op_mul (pv 1) pe_int) (pe_callB call_len_seq (by rfl) TS.len PySem.boot_len (pa_cons (pv 2) pa_nil))) (fun _ _ => rfl))))) <|
    pss_cons (ps_set (i := 3) scNext.nd rfl (Or.inl rfl) (pe_op op_add (pe_op op_add (pv 3) (pe_op op_mul (pe_op op_mul (pv 1) (pv 1)) pe_int)) pe_int)) <|
    pss_one (ps_ret (pe_op op_mod (pe_op op_mul (pv 3) (pv 3)) pe_int)), ?_⟩
  have hat0 : atI [V.int (a : Nat), .ref l, .int b] 0 = some (.int (a : Nat)) := atI_0
  have ec : ((a : Nat) : Int) + 1 = ((a + 1 : Nat) : Int) := by omega
  refine ⟨_, rfl, p, _, _, _, rfl, rfl, SqL.of h1, hat0, ?_⟩
  refine ⟨_, rfl, _, _, rfl, rfl, _, rfl, p, _, 0, 0, rfl, rfl, h1, rfl, ?_⟩
  have eset : ([V.int (a : Nat), .ref l, .int b] : List V).set 0 (.int (((a : Nat) : Int) + 1)) = [.int ((a + 1 : Nat) : Int), .ref l, .int b] := by
    rw [ec]
    rfl
  show tSeq _ _ _ _ (upd H p (.lst (([V.int (a : Nat), .ref l, .int b] : List V).set 0 (.int (((a : Nat) : Int) + 1)))))
  rw [eset]
  have dk : DeckAt (upd H p (.lst [.int ((a + 1 : Nat) : Int), .ref l, .int b])) p l (a + 1) b xs := ⟨upd_same, by rw [upd_ne hpl.symm]; exact h2, hpl, hsm, hxl⟩
  have kk : ∀ n : Int, 0 ≤ n → Q (.int n) (upd H p (.lst [.int ((a + 1 : Nat) : Int), .ref l, .int b])) := fun n hn => k n hn dk
  have hl2 := dk.2.1
  generalize upd H p (.lst [.int ((a + 1 : Nat) : Int), .ref l, .int b]) = H1 at dk kk hl2 ⊢
  have hat1 : atI [V.int ((a + 1 : Nat) : Int), .ref l, .int b] 1 = some (.ref l) := atI_nat (j := 1) rfl
  refine ⟨_, rfl, p, _, _, _, rfl, rfl, SqL.of dk.1, hat1, ?_⟩
  have hlen : (xs.map V.int).length = xs.length := List.length_map _
  have get : ∀ j : Nat, j < xs.length → ∃ z : Int, atI (xs.map V.int) ((j : Nat) : Int) = some (.int z) ∧ 0 ≤ z ∧ z < 2147483648 := fun j hj => by
    refine ⟨xs[j], atI_nat (by rw [List.getElem?_map, List.getElem?_eq_getElem hj]; rfl), hsm _ (List.getElem_mem hj)⟩
  refine ⟨_, rfl, _, rfl, l, _, rfl, .inl (SqL.of hl2), _, _, rfl, rfl, _, rfl, ?_⟩
  rw [hlen]
  refine ite2 (fun c => ?_) (fun c => ?_)
  · have c1 := of_decide_eq_true c
    obtain ⟨z, hz, z0, _⟩ := get a (by omega)
    exact ⟨_, rfl, _, rfl, l, _, _, _, rfl, rfl, SqL.of hl2, hz, kk z z0⟩
  refine ⟨_, rfl, l, _, rfl, .inl (SqL.of hl2), rfl, _, rfl, ?_⟩
  rw [hlen]
  have ha2 : ((a : Nat) : Int) ≤ 10000 := by omega
  have ha0 : 0 ≤ ((a : Nat) : Int) := by omega
  refine ite2 (fun c2 => ?_) (fun c2 => ?_)
  · refine ⟨_, rfl, _, _, rfl, rfl, _, rfl, _, _, rfl, rfl, _, _, rfl, rfl, .inl ⟨by omega, by omega⟩, _, rfl, _, _, rfl, rfl, _, _, rfl, rfl, .inr ⟨by omega, by omega⟩, _, _, rfl, rfl, .inr ⟨by decide, by decide⟩, _, _, rfl, rfl, (by show (0 : Int) < 2147483629; decide), ?_⟩
    exact kk _ (Int.emod_nonneg _ (by decide))
  · have c3 := of_decide_eq_false (Bool.eq_false_iff.mpr c2)
    have hx : 0 < xs.length := by
      rcases Nat.eq_zero_or_pos xs.length with h | h
      · exact absurd (by rw [h]; rfl) c3
      · exact h
    have hx' : (0 : Int) < ((xs.length : Nat) : Int) := by omega
    have md : ∀ y : Int, ∃ j : Nat, y % ((xs.length : Nat) : Int) = ((j : Nat) : Int) ∧ j < xs.length := fun y => by
      have h1 := Int.emod_nonneg y (show ((xs.length : Nat) : Int) ≠ 0 by omega)
      have h2 := Int.emod_lt_of_pos y hx'
      exact ⟨(y % ((xs.length : Nat) : Int)).toNat, by omega, by omega⟩
    obtain ⟨j1, e1, hj1⟩ := md ((a : Nat) : Int)
    obtain ⟨j2, e2, hj2⟩ := md (((a : Nat) : Int) * 5)
    obtain ⟨z1, hz1, z10, z11⟩ := get j1 hj1
    obtain ⟨z2, hz2, z20, z21⟩ := get j2 hj2
    refine ⟨_, rfl, _, rfl, _, rfl, l, _, rfl, .inl (SqL.of hl2), _, _, rfl, rfl, by rw [hlen]; exact hx', l, _, _, _, rfl, rfl, SqL.of hl2, by rw [hlen, e1]; exact hz1, ?_⟩
    refine ⟨_, rfl, _, rfl, _, _, rfl, rfl, .inl ⟨by omega, by omega⟩, _, rfl, l, _, rfl, .inl (SqL.of hl2), _, _, rfl, rfl, by rw [hlen]; exact hx', l, _, _, _, rfl, rfl, SqL.of hl2, by rw [hlen, e2]; exact hz2, ?_⟩
    refine ⟨_, _, rfl, rfl, .inl ⟨by decide, by decide⟩, _, _, rfl, rfl, ?_⟩
    refine ⟨_, rfl, _, rfl, _, rfl, _, _, rfl, rfl, .inl ⟨by omega, by omega⟩, _, _, rfl, rfl, .inr ⟨by decide, by decide⟩, _, _, rfl, rfl, _, _, rfl, rfl, ?_⟩
    have haa : ((a : Nat) : Int) * ((a : Nat) : Int) ≤ 100000000 := by
      have : ((a : Nat) : Int) * ((a : Nat) : Int) ≤ 10000 * 10000 := Int.mul_le_mul ha2 ha2 ha0 (by decide)
      omega
    have haa0 : 0 ≤ ((a : Nat) : Int) * ((a : Nat) : Int) := Int.mul_nonneg ha0 ha0
    obtain ⟨y, hy⟩ : ∃ y : Int, y = z1 + 7 * z2 + ((a : Nat) : Int) * ((a : Nat) : Int) * 40503 + 1 := ⟨_, rfl⟩
    show gName 3 (V.int (z1 + 7 * z2 + ((a : Nat) : Int) * ((a : Nat) : Int) * 40503 + 1)) _ _ _
    rw [← hy]
    refine ⟨_, rfl, _, rfl, _, _, rfl, rfl, .inl ⟨by omega, by omega⟩, _, _, rfl, rfl, (by show (0 : Int) < 2147483629; decide), ?_⟩
    exact kk _ (Int.emod_nonneg _ (by decide))
end
end My
set_option Elab.async false
set_option linter.all false
set_option maxRecDepth 100000
set_option maxHeartbeats 2000000
namespace My
open PySem L2 SS
/-! ### trees of es and statements -/
mutual
inductive Ex : Type
  | num (n : Int) : Ex
  | txt (s : List Nat) : Ex
  | tru (b : Bool) : Ex
  | non : Ex
  | slf : Ex
  | nam (w : List Nat) : Ex
  | fld (w : List Nat) : Ex
  | new (w : List Nat) : Ex
  | send (r : Ex) (m : List Nat) (es : Exs) : Ex
  | up (m : List Nat) (es : Exs) : Ex
  | lst (es : Exs) : Ex
  | blk (ps : List (List Nat)) (ss : Sts) : Ex
inductive Exs : Type
  | nil : Exs
  | cons (e : Ex) (r : Exs) : Exs
inductive St_ : Type
  | set (w : List Nat) (e : Ex) : St_
  | sfl (w : List Nat) (e : Ex) : St_
  | pl (k : List Nat) (e : Ex) : St_
  | iff (e : Ex) (a b : Sts) : St_
  | whl (e : Ex) (a : Sts) : St_
  | tri (a : Sts) (w : List Nat) (b : Sts) : St_
inductive Sts : Type
  | nil : Sts
  | cons (s : St_) (r : Sts) : Sts
end
def wsV (ws : List T) : List V := ws.map fun w => V.str (mk w)
/-- a tuple of texts -/
def AtW (H : Hp) (ws : List T) (v : V) : Prop := ∃ p, v = .ref p ∧ H p = some (.tup (wsV ws))
abbrev S_ (s : String) : V := V.str (Str.ofString s)
mutual
def AtE (H : Hp) : Ex → V → Prop
  | .num n, v => ∃ p, v = .ref p ∧ H p = some (.tup [S_ "number", .int n])
  | .txt s, v => ∃ p, v = .ref p ∧ H p = some (.tup [S_ "text", .str (mk s)])
  | .tru b, v => ∃ p, v = .ref p ∧ H p = some (.tup [S_ "truth", .bl b])
  | .non, v => ∃ p, v = .ref p ∧ H p = some (.tup [S_ "none"])
  | .slf, v => ∃ p, v = .ref p ∧ H p = some (.tup [S_ "self"])
  | .nam w, v => ∃ p, v = .ref p ∧ H p = some (.tup [S_ "name", .str (mk w)])
  | .fld w, v => ∃ p, v = .ref p ∧ H p = some (.tup [S_ "field", .str (mk w)])
  | .new w, v => ∃ p, v = .ref p ∧ H p = some (.tup [S_ "new", .str (mk w)])
  | .send r m es, v => ∃ p vr q xs, v = .ref p ∧ H p = some (.tup [S_ "send", vr, .str (mk m), .ref q]) ∧ H q = some (.tup xs) ∧ AtE H r vr ∧ AtEs H es xs
  | .up m es, v => ∃ p q xs, v = .ref p ∧ H p = some (.tup [S_ "up", .str (mk m), .ref q]) ∧ H q = some (.tup xs) ∧ AtEs H es xs
  | .lst es, v => ∃ p q xs, v = .ref p ∧ H p = some (.tup [S_ "list", .ref q]) ∧ H q = some (.tup xs) ∧ AtEs H es xs
  | .blk ps ss, v => ∃ p vw q xs, v = .ref p ∧ H p = some (.tup [S_ "block", vw, .ref q]) ∧ H q = some (.tup xs) ∧ AtW H ps vw ∧ AtSs H ss xs
def AtEs (H : Hp) : Exs → List V → Prop
  | .nil, xs => xs = []
  | .cons e r, xs => ∃ v vs, xs = v :: vs ∧ AtE H e v ∧ AtEs H r vs
def AtS (H : Hp) : St_ → V → Prop
  | .set w e, v => ∃ p ve, v = .ref p ∧ H p = some (.tup [S_ "set", .str (mk w), ve]) ∧ AtE H e ve
  | .sfl w e, v => ∃ p ve, v = .ref p ∧ H p = some (.tup [S_ "setfield", .str (mk w), ve]) ∧ AtE H e ve
  | .pl k e, v => ∃ p ve, v = .ref p ∧ H p = some (.tup [.str (mk k), ve]) ∧ AtE H e ve
  | .iff e a b, v => ∃ p ve q xs r ys, v = .ref p ∧ H p = some (.tup [S_ "if", ve, .ref q, .ref r]) ∧ H q = some (.tup xs) ∧ H r = some (.tup ys) ∧ AtE H e ve ∧ AtSs H a xs ∧ AtSs H b ys
  | .whl e a, v => ∃ p ve q xs, v = .ref p ∧ H p = some (.tup [S_ "while", ve, .ref q]) ∧ H q = some (.tup xs) ∧ AtE H e ve ∧ AtSs H a xs
  | .tri a w b, v => ∃ p q xs r ys, v = .ref p ∧ H p = some (.tup [S_ "try", .ref q, .str (mk w), .ref r]) ∧ H q = some (.tup xs) ∧ H r = some (.tup ys) ∧ AtSs H a xs ∧ AtSs H b ys
def AtSs (H : Hp) : Sts → List V → Prop
  | .nil, xs => xs = []
  | .cons s r, xs => ∃ v vs, xs = v :: vs ∧ AtS H s v ∧ AtSs H r vs
end
theorem AtW.on {H H' : Hp} {ws : List T} {v : V} (t : Tups H H') (h : AtW H ws v) : AtW H' ws v := by
  obtain ⟨p, e, h⟩ := h
  exact ⟨p, e, t _ _ h⟩
mutual
theorem AtE.on {H H' : Hp} (t : Tups H H') : ∀ (e : Ex) (v : V), AtE H e v → AtE H' e v
  | .num n, v, ⟨p, e, h⟩ => ⟨p, e, t _ _ h⟩
  | .txt s, v, ⟨p, e, h⟩ => ⟨p, e, t _ _ h⟩
  | .tru b, v, ⟨p, e, h⟩ => ⟨p, e, t _ _ h⟩
  | .non, v, ⟨p, e, h⟩ => ⟨p, e, t _ _ h⟩
  | .slf, v, ⟨p, e, h⟩ => ⟨p, e, t _ _ h⟩
  | .nam w, v, ⟨p, e, h⟩ => ⟨p, e, t _ _ h⟩
  | .fld w, v, ⟨p, e, h⟩ => ⟨p, e, t _ _ h⟩
  | .new w, v, ⟨p, e, h⟩ => ⟨p, e, t _ _ h⟩
  | .send r m es, v, ⟨p, vr, q, xs, e, h1, h2, h3, h4⟩ => ⟨p, vr, q, xs, e, t _ _ h1, t _ _ h2, AtE.on t r vr h3, AtEs.on t es xs h4⟩
  | .up m es, v, ⟨p, q, xs, e, h1, h2, h4⟩ => ⟨p, q, xs, e, t _ _ h1, t _ _ h2, AtEs.on t es xs h4⟩
  | .lst es, v, ⟨p, q, xs, e, h1, h2, h4⟩ => ⟨p, q, xs, e, t _ _ h1, t _ _ h2, AtEs.on t es xs h4⟩
  | .blk ps ss, v, ⟨p, vw, q, xs, e, h1, h2, h3, h4⟩ => ⟨p, vw, q, xs, e, t _ _ h1, t _ _ h2, h3.on t, AtSs.on t ss xs h4⟩
theorem AtEs.on {H H' : Hp} (t : Tups H H') : ∀ (e : Exs) (v : List V), AtEs H e v → AtEs H' e v
  | .nil, xs, h => h
  | .cons e r, xs, ⟨v, vs, h1, h2, h3⟩ => ⟨v, vs, h1, AtE.on t e v h2, AtEs.on t r vs h3⟩
theorem AtS.on {H H' : Hp} (t : Tups H H') : ∀ (s : St_) (v : V), AtS H s v → AtS H' s v
  | .set w e, v, ⟨p, ve, h1, h2, h3⟩ => ⟨p, ve, h1, t _ _ h2, AtE.on t e ve h3⟩
  | .sfl w e, v, ⟨p, ve, h1, h2, h3⟩ => ⟨p, ve, h1, t _ _ h2, AtE.on t e ve h3⟩
  | .pl w e, v, ⟨p, ve, h1, h2, h3⟩ => ⟨p, ve, h1, t _ _ h2, AtE.on t e ve h3⟩
  | .iff e a b, v, ⟨p, ve, q, xs, r, ys, h1, h2, h3, h4, h5, h6, h7⟩ => ⟨p, ve, q, xs, r, ys, h1, t _ _ h2, t _ _ h3, t _ _ h4, AtE.on t e ve h5, AtSs.on t a xs h6, AtSs.on t b ys h7⟩
  | .whl e a, v, ⟨p, ve, q, xs, h1, h2, h3, h5, h6⟩ => ⟨p, ve, q, xs, h1, t _ _ h2, t _ _ h3, AtE.on t e ve h5, AtSs.on t a xs h6⟩
  | .tri a w b, v, ⟨p, q, xs, r, ys, h1, h2, h3, h4, h6, h7⟩ => ⟨p, q, xs, r, ys, h1, t _ _ h2, t _ _ h3, t _ _ h4, AtSs.on t a xs h6, AtSs.on t b ys h7⟩
theorem AtSs.on {H H' : Hp} (t : Tups H H') : ∀ (e : Sts) (v : List V), AtSs H e v → AtSs H' e v
  | .nil, xs, h => h
  | .cons e r, xs, ⟨v, vs, h1, h2, h3⟩ => ⟨v, vs, h1, AtS.on t e v h2, AtSs.on t r vs h3⟩
end
end My
set_option Elab.async false
set_option linter.all false
set_option maxRecDepth 100000
set_option maxHeartbeats 2000000
namespace My
open PySem L2 SS
/-! ### words, measures, what a tree can be -/
abbrev kSay : T := tl "say"
abbrev tk (s : String) : T := tl (Str.ofString s)
def numT (n : Int) : T := tl (numStr n)
abbrev WB := List Nat × Bool
def plainW (ws : List T) : List WB := ws.map fun w => (w, false)
mutual
def wE : Ex → List WB
  | .num n => [(numT n, true)]
  | .txt s => [(39 :: s, true)]
  | .tru true => [(tk "true", true)]
  | .tru false => [(tk "false", true)]
  | .non => [(tk "none", true)]
  | .slf => [(tk "self", true)]
  | .nam w => [(w, true)]
  | .fld w => [(64 :: w, true)]
  | .new w => [(tk "new", true), (w, false)]
  | .send r m es => (tk "(", true) :: (wE r ++ (m, false) :: (wEs es ++ [(tk ")", false)]))
  | .up m es => (tk "(", true) :: (tk "up", false) :: (m, false) :: (wEs es ++ [(tk ")", false)])
  | .lst es => (tk "[", true) :: (wEs es ++ [(tk "]", false)])
  | .blk ps ss => (tk "{", true) :: (plainW ps ++ (tk "|", false) :: (wSs ss ++ [(tk "}", false)]))
def wEs : Exs → List WB
  | .nil => []
  | .cons e r => wE e ++ wEs r
def wS : St_ → List WB
  | .set w e => (w, true) :: (tk ":=", false) :: wE e
  | .sfl w e => (64 :: w, true) :: (tk ":=", false) :: wE e
  | .pl k e => (k, true) :: wE e
  | .iff e a b => (tk "if", true) :: (wE e ++ (tk "then", false) :: (wSs a ++ (tk "else", false) :: (wSs b ++ [(tk "end", false)])))
  | .whl e a => (tk "while", true) :: (wE e ++ (tk "then", false) :: (wSs a ++ [(tk "end", false)]))
  | .tri a w b => (tk "try", true) :: (wSs a ++ (tk "taken", false) :: (w, false) :: (wSs b ++ [(tk "end", false)]))
def wSs : Sts → List WB
  | .nil => []
  | .cons s r => wS s ++ wSs r
end
mutual
/-- how many are open within one another -/
def oE : Ex → Nat
  | .send r _ es => 1 + max (oE r) (oEs es)
  | .up _ es => 1 + oEs es
  | .lst es => 1 + oEs es
  | .blk _ ss => 1 + oSs ss
  | _ => 0
def oEs : Exs → Nat
  | .nil => 0
  | .cons e r => max (oE e) (oEs r)
def oS : St_ → Nat
  | .set _ e => oE e
  | .sfl _ e => oE e
  | .pl _ e => oE e
  | .iff e a b => 1 + max (oE e) (max (oSs a) (oSs b))
  | .whl e a => 1 + max (oE e) (oSs a)
  | .tri a _ b => 1 + max (oSs a) (oSs b)
def oSs : Sts → Nat
  | .nil => 0
  | .cons s r => max (oS s) (oSs r)
end
mutual
/-- how many nodes -/
def nE : Ex → Nat
  | .send r _ es => 1 + nE r + nEs es
  | .up _ es => 1 + nEs es
  | .lst es => 1 + nEs es
  | .blk _ ss => 1 + nSs ss
  | _ => 1
def nEs : Exs → Nat
  | .nil => 0
  | .cons e r => nE e + nEs r
def nS : St_ → Nat
  | .set _ e => 1 + nE e
  | .sfl _ e => 1 + nE e
  | .pl _ e => 1 + nE e
  | .iff e a b => 1 + nE e + nSs a + nSs b
  | .whl e a => 1 + nE e + nSs a
  | .tri a _ b => 1 + nSs a + nSs b
def nSs : Sts → Nat
  | .nil => 0
  | .cons s r => nS s + nSs r
end
def cE : Exs → Nat
  | .nil => 0
  | .cons _ r => 1 + cE r
def cS : Sts → Nat
  | .nil => 0
  | .cons _ r => 1 + cS r
def isMsg (w : T) : Bool := isFree w || inS [mk [43], mk [45], mk [42], mk [47], mk [60], mk [61]] w
def isPl (w : T) : Bool := inS ["do", "say", "return", "raise"] w
mutual
def okE : Ex → Prop
  | .num n => -1000000000000 < n ∧ n < 1000000000000
  | .txt s => isText s = true
  | .nam w => isFree w = true
  | .fld w => isFree w = true
  | .new w => isKindName w = true
  | .send r m es => isMsg m = true ∧ okE r ∧ okEs es
  | .up m es => isFree m = true ∧ okEs es
  | .lst es => okEs es
  | .blk ps ss => ps.length ≤ 2 ∧ (∀ w ∈ ps, isFree w = true) ∧ okSs ss
  | _ => True
def okEs : Exs → Prop
  | .nil => True
  | .cons e r => okE e ∧ okEs r
def okS : St_ → Prop
  | .set w e => isFree w = true ∧ okE e
  | .sfl w e => isFree w = true ∧ okE e
  | .pl k e => isPl k = true ∧ okE e
  | .iff e a b => okE e ∧ okSs a ∧ okSs b
  | .whl e a => okE e ∧ okSs a
  | .tri a w b => isFree w = true ∧ okSs a ∧ okSs b
def okSs : Sts → Prop
  | .nil => True
  | .cons s r => okS s ∧ okSs r
end
/-- what words weigh in a layout -/
def wt (ws : List WB) : Nat := (ws.map fun q => q.1.length + 3).sum
theorem wt_app (a b : List WB) : wt (a ++ b) = wt a + wt b := by unfold wt; rw [List.map_append, List.sum_append]
theorem wt_cons (q : WB) (b : List WB) : wt (q :: b) = q.1.length + 3 + wt b := by unfold wt; rw [List.map_cons, List.sum_cons]
theorem wt_nil : wt [] = 0 := rfl
theorem free_len {w : T} (h : isFree w = true) : w.length ≤ 12 := by
  unfold isFree isSmall isName at h
  simp only [Bool.and_eq_true, decide_eq_true_eq] at h
  exact h.1.1.2
theorem kind_len {w : T} (h : isKindName w = true) : w.length ≤ 12 := by
  unfold isKindName isName at h
  simp only [Bool.and_eq_true, decide_eq_true_eq] at h
  exact h.1.2
theorem text_len {w : T} (h : isText w = true) : w.length ≤ 40 := by
  unfold isText at h
  simp only [Bool.and_eq_true, decide_eq_true_eq] at h
  exact h.1
theorem inS_len {zs : List Str} {w : T} {n : Nat} (hz : ∀ z ∈ zs, z.length ≤ n) (h : inS zs w = true) : w.length ≤ n := by
  unfold inS at h
  obtain ⟨z, hz1, hz2⟩ := List.any_eq_true.mp h
  have e := eq_of_beq hz2
  have := hz z hz1
  rw [e, mk_len] at this
  exact this
theorem msg_len {w : T} (h : isMsg w = true) : w.length ≤ 12 := by
  unfold isMsg at h
  rcases Bool.or_eq_true_iff.mp h with h | h
  · exact free_len h
  · have := inS_len (n := 1) (by decide +kernel) h
    omega
theorem pl_len {w : T} (h : isPl w = true) : w.length ≤ 6 := inS_len (by decide +kernel) h
end My
set_option Elab.async false
set_option linter.all false
set_option maxRecDepth 100000
set_option maxHeartbeats 2000000
namespace My
open PySem L2 SS
theorem ofS_app (a b : String) : tl (Str.ofString (a ++ b)) = tl (Str.ofString a) ++ tl (Str.ofString b) := by
  rw [Str.ofString_eq_toList, Str.ofString_eq_toList, Str.ofString_eq_toList]
  show (((a ++ b).toList.map Char.toNat).toArray).toList = (a.toList.map Char.toNat).toArray.toList ++ (b.toList.map Char.toNat).toArray.toList
  simp
theorem numT_neg (m : Nat) : numT (Int.negSucc m) = 45 :: TL.numL (m + 1) := by
  have e2 : toString (Int.negSucc m) = "-" ++ toString (((m + 1 : Nat) : Nat) : Int) := rfl
  show tl (Str.ofString (toString (Int.negSucc m))) = _
  rw [e2, ofS_app]
  have e3 : tl (Str.ofString (toString ((m + 1 : Nat) : Int))) = TL.numL (m + 1) := TL.tl_num (m + 1)
  rw [e3]
  have e4 : tl (Str.ofString "-") = [45] := by decide +kernel
  rw [e4]
  rfl
theorem numT_pos (m : Nat) : numT ((m : Nat) : Int) = TL.numL m := TL.tl_num m
theorem numL_head {m : Nat} : ∃ c r, TL.numL m = c :: r ∧ 48 ≤ c ∧ c ≤ 57 := by
  cases e : TL.numL m with
  | nil => exact absurd e (TL.numL_ne m)
  | cons c r =>
    have := TL.numL_digits m c (by rw [e]; exact List.mem_cons_self)
    exact ⟨c, r, rfl, this.1, this.2⟩
/-- figures of a number are read back -/
theorem numT_back (n : Int) : numOf (numT n) = n ∧ NumText.AllDigits (figsOf (numT n)) ∧ figsOf (numT n) ≠ [] := by
  cases n with
  | ofNat m =>
    have e : numT (Int.ofNat m) = TL.numL m := TL.tl_num m
    obtain ⟨c, r, hc, h1, h2⟩ := numL_head (m := m)
    have hv := TL.numL_val m
    have hd := TL.numL_digits m
    rw [e]
    rw [hc] at hv hd ⊢
    have n45 : c ≠ 45 := by omega
    have ef : figsOf (c :: r) = c :: r := by
      unfold figsOf
      split
      · rename_i h; injection h with h; exact absurd h n45
      · rfl
    have eo : numOf (c :: r) = ((NumText.digitsVal (c :: r) : Nat) : Int) := by
      unfold numOf
      split
      · rename_i h; injection h with h; exact absurd h n45
      · rfl
    rw [ef, eo, hv]
    exact ⟨rfl, hd, by simp⟩
  | negSucc m =>
    rw [numT_neg]
    show -((NumText.digitsVal (TL.numL (m + 1)) : Nat) : Int) = _ ∧ NumText.AllDigits (TL.numL (m + 1)) ∧ TL.numL (m + 1) ≠ []
    rw [TL.numL_val]
    exact ⟨rfl, TL.numL_digits _, TL.numL_ne _⟩
theorem numT_len {n : Int} (h1 : -1000000000000 < n) (h2 : n < 1000000000000) : (numT n).length ≤ 13 := by
  cases n with
  | ofNat m =>
    have e : numT (Int.ofNat m) = TL.numL m := TL.tl_num m
    rw [e]
    have := TL.numL_len (n := m) (k := 12) (by decide) (by have : (Int.ofNat m) = (m : Int) := rfl; omega)
    omega
  | negSucc m =>
    have e := numT_neg m
    rw [e]
    have := TL.numL_len (n := m + 1) (k := 12) (by decide) (by omega)
    rw [List.length_cons]
    omega
theorem plainW_len (ps : List T) : (plainW ps).length = ps.length := List.length_map _
theorem plainW_wt : ∀ (ps : List T), (∀ w ∈ ps, isFree w = true) → wt (plainW ps) ≤ 15 * ps.length
  | [], _ => by simp [plainW, wt]
  | w :: ps, h => by
    have h1 := free_len (h w List.mem_cons_self)
    have h2 := plainW_wt ps fun x hx => h x (List.mem_cons_of_mem _ hx)
    show wt ((w, false) :: plainW ps) ≤ _
    rw [wt_cons, List.length_cons]
    show w.length + 3 + wt (plainW ps) ≤ _
    omega
theorem tkl : (tk "true").length = 4 ∧ (tk "false").length = 5 ∧ (tk "none").length = 4 ∧ (tk "self").length = 4 ∧ (tk "new").length = 3 ∧ (tk "(").length = 1 ∧ (tk ")").length = 1 ∧ (tk "up").length = 2 ∧ (tk "[").length = 1 ∧ (tk "]").length = 1 ∧ (tk "{").length = 1 ∧ (tk "}").length = 1 ∧ (tk "|").length = 1 ∧ (tk ":=").length = 2 ∧ (tk "if").length = 2 ∧ (tk "then").length = 4 ∧ (tk "else").length = 4 ∧ (tk "end").length = 3 ∧ (tk "while").length = 5 ∧ (tk "try").length = 3 ∧ (tk "taken").length = 5 := by decide +kernel
mutual
theorem wE_b : ∀ e : Ex, okE e → (wE e).length ≤ 5 * nE e ∧ wt (wE e) ≤ 44 * nE e
  | .num n, h => by
    have := numT_len h.1 h.2
    simp only [wE, nE, wt_cons, wt_nil, List.length_cons, List.length_nil]
    omega
  | .txt s, h => by
    have := text_len h
    simp only [wE, nE, wt_cons, wt_nil, List.length_cons, List.length_nil]
    omega
  | .tru true, h => by
    have := tkl
    simp only [wE, nE, wt_cons, wt_nil, List.length_cons, List.length_nil]
    omega
  | .tru false, h => by
    have := tkl
    simp only [wE, nE, wt_cons, wt_nil, List.length_cons, List.length_nil]
    omega
  | .non, h => by
    have := tkl
    simp only [wE, nE, wt_cons, wt_nil, List.length_cons, List.length_nil]
    omega
  | .slf, h => by
    have := tkl
    simp only [wE, nE, wt_cons, wt_nil, List.length_cons, List.length_nil]
    omega
  | .nam w, h => by
    have := free_len h
    simp only [wE, nE, wt_cons, wt_nil, List.length_cons, List.length_nil]
    omega
  | .fld w, h => by
    have := free_len h
    simp only [wE, nE, wt_cons, wt_nil, List.length_cons, List.length_nil]
    omega
  | .new w, h => by
    have := kind_len h
    have := tkl
    simp only [wE, nE, wt_cons, wt_nil, List.length_cons, List.length_nil]
    omega
  | .send r m es, h => by
    have h0 := msg_len h.1
    have h1 := wE_b r h.2.1
    have h2 := wEs_b es h.2.2
    have := tkl
    simp only [wE, nE, wt_cons, wt_app, wt_nil, List.length_cons, List.length_append, List.length_nil]
    omega
  | .up m es, h => by
    have h0 := free_len h.1
    have h2 := wEs_b es h.2
    have := tkl
    simp only [wE, nE, wt_cons, wt_app, wt_nil, List.length_cons, List.length_append, List.length_nil]
    omega
  | .lst es, h => by
    have h2 := wEs_b es h
    have := tkl
    simp only [wE, nE, wt_cons, wt_app, wt_nil, List.length_cons, List.length_append, List.length_nil]
    omega
  | .blk ps ss, h => by
    have h0 := h.1
    have h1 := plainW_wt ps h.2.1
    have h2 := wSs_b ss h.2.2
    have := tkl
    have := plainW_len ps
    simp only [wE, nE, wt_cons, wt_app, wt_nil, List.length_cons, List.length_append, List.length_nil]
    omega
theorem wEs_b : ∀ e : Exs, okEs e → (wEs e).length ≤ 5 * nEs e ∧ wt (wEs e) ≤ 44 * nEs e
  | .nil, _ => by simp [wEs, nEs, wt]
  | .cons e r, h => by
    have h1 := wE_b e h.1
    have h2 := wEs_b r h.2
    simp only [wEs, nEs, wt_app, List.length_append]
    omega
theorem wS_b : ∀ s : St_, okS s → (wS s).length ≤ 5 * nS s ∧ wt (wS s) ≤ 44 * nS s
  | .set w e, h => by
    have h0 := free_len h.1
    have h1 := wE_b e h.2
    have := tkl
    simp only [wS, nS, wt_cons, wt_app, wt_nil, List.length_cons, List.length_append, List.length_nil]
    omega
  | .sfl w e, h => by
    have h0 := free_len h.1
    have h1 := wE_b e h.2
    have := tkl
    simp only [wS, nS, wt_cons, wt_app, wt_nil, List.length_cons, List.length_append, List.length_nil]
    omega
  | .pl w e, h => by
    have h0 := pl_len h.1
    have h1 := wE_b e h.2
    have := tkl
    simp only [wS, nS, wt_cons, wt_app, wt_nil, List.length_cons, List.length_append, List.length_nil]
    omega
  | .iff e a b, h => by
    have h1 := wE_b e h.1
    have h2 := wSs_b a h.2.1
    have h3 := wSs_b b h.2.2
    have := tkl
    simp only [wS, nS, wt_cons, wt_app, wt_nil, List.length_cons, List.length_append, List.length_nil]
    omega
  | .whl e a, h => by
    have h1 := wE_b e h.1
    have h2 := wSs_b a h.2
    have := tkl
    simp only [wS, nS, wt_cons, wt_app, wt_nil, List.length_cons, List.length_append, List.length_nil]
    omega
  | .tri a w b, h => by
    have h1 := free_len h.1
    have h2 := wSs_b a h.2.1
    have h3 := wSs_b b h.2.2
    have := tkl
    simp only [wS, nS, wt_cons, wt_app, wt_nil, List.length_cons, List.length_append, List.length_nil]
    omega
theorem wSs_b : ∀ e : Sts, okSs e → (wSs e).length ≤ 5 * nSs e ∧ wt (wSs e) ≤ 44 * nSs e
  | .nil, _ => by simp [wSs, nSs, wt]
  | .cons e r, h => by
    have h1 := wS_b e h.1
    have h2 := wSs_b r h.2
    simp only [wSs, nSs, wt_app, List.length_append]
    omega
end
end My
set_option Elab.async false
set_option linter.all false
set_option maxRecDepth 100000
set_option maxHeartbeats 2000000
namespace My
open PySem L2 SS
def Exs.snoc : Exs → Ex → Exs
  | .nil, e => .cons e .nil
  | .cons x r, e => .cons x (r.snoc e)
def Sts.snoc : Sts → St_ → Sts
  | .nil, e => .cons e .nil
  | .cons x r, e => .cons x (r.snoc e)
theorem Exs.at_snoc {H : Hp} : ∀ {es : Exs} {vs : List V} {e : Ex} {v : V}, AtEs H es vs → AtE H e v → AtEs H (es.snoc e) (vs ++ [v])
  | .nil, vs, e, v, h, he => by
    have h' : vs = [] := h
    subst h'
    exact ⟨v, [], rfl, he, rfl⟩
  | .cons x r, vs, e, v, ⟨u, us, h1, h2, h3⟩, he => by
    subst h1
    exact ⟨u, us ++ [v], rfl, h2, Exs.at_snoc h3 he⟩
theorem Sts.at_snoc {H : Hp} : ∀ {es : Sts} {vs : List V} {e : St_} {v : V}, AtSs H es vs → AtS H e v → AtSs H (es.snoc e) (vs ++ [v])
  | .nil, vs, e, v, h, he => by
    have h' : vs = [] := h
    subst h'
    exact ⟨v, [], rfl, he, rfl⟩
  | .cons x r, vs, e, v, ⟨u, us, h1, h2, h3⟩, he => by
    subst h1
    exact ⟨u, us ++ [v], rfl, h2, Sts.at_snoc h3 he⟩
theorem Exs.snoc_n : ∀ (es : Exs) (e : Ex), nEs (es.snoc e) = nEs es + nE e ∧ oEs (es.snoc e) = max (oEs es) (oE e) ∧ (okEs (es.snoc e) ↔ okEs es ∧ okE e) ∧ cE (es.snoc e) = cE es + 1 ∧ wEs (es.snoc e) = wEs es ++ wE e
  | .nil, e => by simp [Exs.snoc, nEs, oEs, okEs, cE, wEs]
  | .cons x r, e => by
    obtain ⟨h1, h2, h3, h4, h5⟩ := Exs.snoc_n r e
    simp only [Exs.snoc, nEs, oEs, okEs, cE, wEs, h1, h2, h3, h4, h5]
    refine ⟨by omega, by omega, by rw [and_assoc], by omega, by rw [List.append_assoc]⟩
theorem Sts.snoc_n : ∀ (es : Sts) (e : St_), nSs (es.snoc e) = nSs es + nS e ∧ oSs (es.snoc e) = max (oSs es) (oS e) ∧ (okSs (es.snoc e) ↔ okSs es ∧ okS e) ∧ cS (es.snoc e) = cS es + 1 ∧ wSs (es.snoc e) = wSs es ++ wS e
  | .nil, e => by simp [Sts.snoc, nSs, oSs, okSs, cS, wSs]
  | .cons x r, e => by
    obtain ⟨h1, h2, h3, h4, h5⟩ := Sts.snoc_n r e
    simp only [Sts.snoc, nSs, oSs, okSs, cS, wSs, h1, h2, h3, h4, h5]
    refine ⟨by omega, by omega, by rw [and_assoc], by omega, by rw [List.append_assoc]⟩
theorem AtEs.len {H : Hp} : ∀ {es : Exs} {vs : List V}, AtEs H es vs → vs.length = cE es
  | .nil, vs, h => by
    have h' : vs = [] := h
    subst h'
    rfl
  | .cons x r, vs, ⟨u, us, h1, h2, h3⟩ => by
    subst h1
    rw [List.length_cons, AtEs.len h3, cE]
    omega
theorem AtSs.len {H : Hp} : ∀ {es : Sts} {vs : List V}, AtSs H es vs → vs.length = cS es
  | .nil, vs, h => by
    have h' : vs = [] := h
    subst h'
    rfl
  | .cons x r, vs, ⟨u, us, h1, h2, h3⟩ => by
    subst h1
    rw [List.length_cons, AtSs.len h3, cS]
    omega
theorem AtE.on_ {H H' : Hp} {e : Ex} {v : V} (h : AtE H e v) (t : Tups H H') : AtE H' e v := AtE.on t e v h
theorem AtEs.on_ {H H' : Hp} {e : Exs} {v : List V} (h : AtEs H e v) (t : Tups H H') : AtEs H' e v := AtEs.on t e v h
theorem AtS.on_ {H H' : Hp} {e : St_} {v : V} (h : AtS H e v) (t : Tups H H') : AtS H' e v := AtS.on t e v h
theorem AtSs.on_ {H H' : Hp} {e : Sts} {v : List V} (h : AtSs H e v) (t : Tups H H') : AtSs H' e v := AtSs.on t e v h
/-- all stands but what is at p -/
def SB (p : Addr) (H H' : Hp) : Prop := ∀ b u, b ≠ p → H b = some u → H' b = some u
theorem SB.refl {p : Addr} {H : Hp} : SB p H H := fun _ _ _ h => h
theorem SB.trans {p : Addr} {H H1 H2 : Hp} (a : SB p H H1) (b : SB p H1 H2) : SB p H H2 := fun q u n h => b q u n (a q u n h)
theorem SB.same {p : Addr} {H H' : Hp} (s : Same H H') : SB p H H' := fun q u _ h => s q u h
theorem SB.upd {p : Addr} {H : Hp} (o : HO) : SB p H (upd H p o) := fun q u n h => by rw [upd_ne n]; exact h
theorem SB.tups {p : Addr} {H H' : Hp} {xs : List V} (s : SB p H H') (h : H p = some (.lst xs)) : Tups H H' := fun q ys e => s q _ (fun z => by rw [z, h] at e; cases e) e
theorem DeckAt.same {H H' : Hp} {p l : Addr} {a : Nat} {b : Int} {xs : List Int} (h : DeckAt H p l a b xs) (s : Same H H') : DeckAt H' p l a b xs := ⟨s _ _ h.1, s _ _ h.2.1, h.2.2⟩
theorem DeckAt.new {H : Hp} {p l q : Addr} {a : Nat} {b : Int} {xs : List Int} (h : DeckAt H p l a b xs) (n : H q = none) (o : HO) : DeckAt (upd H q o) p l a b xs := h.same (same_new n o)
theorem DeckAt.ne {H : Hp} {p l q : Addr} {a : Nat} {b : Int} {xs : List Int} (h : DeckAt H p l a b xs) (n : H q = none) : q ≠ p ∧ q ≠ l := ⟨fun z => (by rw [z, h.1] at n; cases n), fun z => (by rw [z, h.2.1] at n; cases n)⟩
end My
set_option Elab.async false
set_option linter.all false
set_option maxRecDepth 100000
set_option maxHeartbeats 2000000
namespace My
open PySem L2 SS
abbrev sLWord : Stmt := top 15
abbrev sLName : Stmt := top 16
abbrev sLLeaf : Stmt := top 17
/-- an item of a written list by a draw -/
theorem pick {α : Type} {xs : List V} {n : Nat} (hn : xs.length = n) (h0 : 0 < n) {f : α → V} {Pz : α → Prop} (h : ∀ v ∈ xs, ∃ z, v = f z ∧ Pz z) (d : Int) : ∃ z, atI xs (d % ((n : Nat) : Int)) = some (f z) ∧ Pz z := by
  have e0 := Int.emod_nonneg d (show ((n : Nat) : Int) ≠ 0 by omega)
  have e1 := Int.emod_lt_of_pos d (show (0 : Int) < ((n : Nat) : Int) by omega)
  obtain ⟨j, hj⟩ : ∃ j : Nat, d % ((n : Nat) : Int) = (j : Nat) := ⟨(d % ((n : Nat) : Int)).toNat, by omega⟩
  rw [hj]
  have hj5 : j < xs.length := by omega
  obtain ⟨z, e, hz⟩ := h xs[j] (List.getElem_mem hj5)
  exact ⟨z, atI_nat (by rw [List.getElem?_eq_getElem hj5, e]), hz⟩
section
variable {P : Program} {w : World} {K : PySem.W.Frag} {mg : Str → Option Value} {base : Heap}
def spLWord (g : T → Bool) : Sp := fun vs H Q _ => ∃ d : Int, vs = [.int d] ∧ ∀ z H', Same H H' → g z = true → Q (.str (mk z)) H'
theorem scLWord : FnScope ["_law_draw"] ["_law_draw"] (defScope sLWord) := ⟨rfl, rfl, rfl, by decide +kernel, rfl, by decide +kernel, by decide +kernel⟩
theorem scLName : FnScope ["_law_draw"] ["_law_draw"] (defScope sLName) := ⟨rfl, rfl, rfl, by decide +kernel, rfl, by decide +kernel, by decide +kernel⟩
theorem all_ok {g : T → Bool} : ∀ {ws : List String}, (ws.all fun s => g (tl (Str.ofString s))) = true → ∀ v ∈ ws.map (fun s => V.str (Str.ofString s)), ∃ z, v = V.str (mk z) ∧ g z = true
  | ws, h, v, hv => by
    obtain ⟨s, hs, rfl⟩ := List.mem_map.mp hv
    exact ⟨tl (Str.ofString s), by rw [mk_tl], (List.all_eq_true.mp h) s hs⟩
theorem c_lword (D : Dn K mg "_law_word" sLWord) : C0 P w K mg base 1 "_law_word" (spLWord isFree) := by
  obtain ⟨f, fd, F, m⟩ := D.ex
  refine ⟨f, fd, ["_law_draw"], F.ok scLWord (fun vs H Q E h => ?_) (fun cdv A outer s H vs Q E hr h => ?_), m, F.kp, F.binds (ps := ["_law_draw"]) fun _ _ _ _ _ _ us hl => match us, hl with | [_], _ => rfl⟩
  · obtain ⟨d, rfl, _⟩ := h
    rfl
  obtain ⟨d, rfl, k⟩ := h
  refine ⟨_, pss_one (ps_ret (pe_ix ix_list (pe_lst (pa_cons pe_str (pa_cons pe_str (pa_cons pe_str (pa_cons pe_str (pa_cons pe_str (pa_cons pe_str (pa_cons pe_str (pa_cons pe_str (pa_cons pe_str (pa_cons pe_str pa_nil))))))))))) (pe_op op_mod (pv 0) pe_int) (fun _ _ => rfl))), ?_⟩
  refine ⟨by decide, fun l hl => ?_⟩
  obtain ⟨z, hz, gz⟩ := pick (n := 10) (f := fun z => V.str (mk z)) (Pz := fun z => isFree z = true) rfl (by decide) (all_ok (g := isFree) (ws := ["a", "b", "x1", "sum", "longnameofal", "k9", "z", "kinds", "news", "e"]) (by decide +kernel)) d
  exact ⟨_, rfl, _, _, rfl, rfl, (by show (0 : Int) < 10; decide), l, _, _, _, rfl, rfl, SqL.of upd_same, hz, k z _ (same_new hl _) gz⟩
theorem c_lname (D : Dn K mg "_law_name" sLName) : C0 P w K mg base 1 "_law_name" (spLWord isKindName) := by
  obtain ⟨f, fd, F, m⟩ := D.ex
  refine ⟨f, fd, ["_law_draw"], F.ok scLName (fun vs H Q E h => ?_) (fun cdv A outer s H vs Q E hr h => ?_), m, F.kp, F.binds (ps := ["_law_draw"]) fun _ _ _ _ _ _ us hl => match us, hl with | [_], _ => rfl⟩
  · obtain ⟨d, rfl, _⟩ := h
    rfl
  obtain ⟨d, rfl, k⟩ := h
  refine ⟨_, pss_one (ps_ret (pe_ix ix_list (pe_lst (pa_cons pe_str (pa_cons pe_str (pa_cons pe_str (pa_cons pe_str (pa_cons pe_str (pa_cons pe_str pa_nil))))))) (pe_op op_mod (pv 0) pe_int) (fun _ _ => rfl))), ?_⟩
  refine ⟨by decide, fun l hl => ?_⟩
  obtain ⟨z, hz, gz⟩ := pick (n := 6) (f := fun z => V.str (mk z)) (Pz := fun z => isKindName z = true) rfl (by decide) (all_ok (g := isKindName) (ws := ["Point", "A", "Cell9", "Thing", "LongNameOfIt", "ZZ"]) (by decide +kernel)) d
  exact ⟨_, rfl, _, _, rfl, rfl, (by show (0 : Int) < 6; decide), l, _, _, _, rfl, rfl, SqL.of upd_same, hz, k z _ (same_new hl _) gz⟩
/-! a leaf by a draw -/
def spLLeaf : Sp := fun vs H Q _ => ∃ d : Int, vs = [.int d] ∧ ∀ e v H', Same H H' → AtE H' e v → okE e → oE e = 0 → nE e = 1 → Q v H'
theorem scLLeaf : FnScope ["_law_draw", "_law_way", "_law_rest", "_law_some"] ["_law_draw"] (defScope sLLeaf) := ⟨rfl, rfl, rfl, by decide +kernel, rfl, by decide +kernel, by decide +kernel⟩
theorem c_lleaf (G1 : C0 P w K mg base 1 "_law_word" (spLWord isFree)) (G2 : C0 P w K mg base 1 "_law_name" (spLWord isKindName)) (D : Dn K mg "_law_leaf" sLLeaf) : C0 P w K mg base 2 "_law_leaf" spLLeaf := by
  obtain ⟨f, fd, F, m⟩ := D.ex
  refine ⟨f, fd, ["_law_draw"], F.ok scLLeaf (fun vs H Q E h => ?_) (fun cdv A outer s H vs Q E hr h => ?_), m, F.kp, F.binds (ps := ["_law_draw"]) fun _ _ _ _ _ _ us hl => match us, hl with | [_], _ => rfl⟩
  · obtain ⟨d, rfl, _⟩ := h
    rfl
  obtain ⟨d, rfl, k⟩ := h
  refine ⟨_, pss_cons (ps_set (i := 1) scLLeaf.nd rfl (Or.inl rfl) (pe_op op_mod (pv 0) pe_int)) <|
    pss_cons (ps_set (i := 2) scLLeaf.nd rfl (Or.inl rfl) (pe_op op_fdiv (pv 0) pe_int)) <|
    pss_cons (ps_if (pt_cmpR op_eq (pv 1) pe_int (nomark _))
      (pss_cons (ps_set (i := 3) scLLeaf.nd rfl (Or.inl rfl) (pe_lst (pa_cons pe_int (pa_cons pe_int (pa_cons (pe_un un_neg pe_int) (pa_cons pe_int (pa_cons (pe_op op_sub (pe_op op_pow pe_int pe_int) pe_int) (pa_cons (pe_op op_sub pe_int (pe_op op_pow pe_int pe_int)) (pa_cons (pe_op op_pow pe_int pe_int) (pa_cons (pe_un un_neg pe_int) pa_nil)))))))))) <|
        pss_one (ps_ret (pe_tup (pa_cons pe_str (pa_cons (pe_ix ix_list (pv 3) (pe_op op_mod (pv 2) pe_int) (fun _ _ => rfl)) pa_nil))))) pss_nil) <|
    pss_cons (ps_if (pt_cmpR op_eq (pv 1) pe_int (nomark _)) (pss_one (ps_ret (pe_tup (pa_cons pe_str (pa_cons (pe_ix ix_list (pe_lst (pa_cons pe_str (pa_cons pe_str (pa_cons pe_str (pa_cons (pe_op op_mul_str pe_str pe_int) (pa_cons pe_str (pa_cons pe_str pa_nil))))))) (pe_op op_mod (pv 2) pe_int) (fun _ _ => rfl)) pa_nil))))) pss_nil) <|
    pss_cons (ps_if (pt_cmpR op_eq (pv 1) pe_int (nomark _)) (pss_one (ps_ret (pe_tup (pa_cons pe_str (pa_cons (pe_cmpR op_eq (pe_op op_mod (pv 2) pe_int) pe_int (nomark _)) pa_nil))))) pss_nil) <|
    pss_cons (ps_if (pt_cmpR op_eq (pv 1) pe_int (nomark _)) (pss_one (ps_ret (pe_tup (pa_cons pe_str pa_nil)))) pss_nil) <|
    pss_cons (ps_if (pt_cmpR op_eq (pv 1) pe_int (nomark _)) (pss_one (ps_ret (pe_tup (pa_cons pe_str pa_nil)))) pss_nil) <|
    pss_cons (ps_if (pt_cmpR op_eq (pv 1) pe_int (nomark _)) (pss_one (ps_ret (pe_tup (pa_cons pe_str (pa_cons (pe_cc G1 hr (by decide) pass0 (pa_cons (pv 2) pa_nil)) pa_nil))))) pss_nil) <|
    pss_cons (ps_if (pt_cmpR op_eq (pv 1) pe_int (nomark _)) (pss_one (ps_ret (pe_tup (pa_cons pe_str (pa_cons (pe_cc G1 hr (by decide) pass0 (pa_cons (pv 2) pa_nil)) pa_nil))))) pss_nil) <|
    pss_one (ps_ret (pe_tup (pa_cons pe_str (pa_cons (pe_cc G2 hr (by decide) pass0 (pa_cons (pv 2) pa_nil)) pa_nil)))), ?_⟩
  refine ⟨_, rfl, _, _, rfl, rfl, (by show (0 : Int) < 8; decide), ?_⟩
  refine ⟨_, rfl, _, _, rfl, rfl, ⟨by decide, by decide⟩, ?_⟩
  refine ⟨_, rfl, rfl, _, rfl, ?_⟩
  refine ite2 (fun c => ?_) (fun c => ?_)
  · refine ⟨1, rfl, _, _, rfl, rfl, ⟨by decide, by decide, by decide⟩, _, _, rfl, rfl, _, _, rfl, rfl, ⟨by decide, by decide, by decide⟩, _, _, rfl, rfl, _, _, rfl, rfl, ⟨by decide, by decide, by decide⟩, 90, rfl, by show 8 ≤ sizeLine; decide, fun l hl => ?_⟩
    obtain ⟨z, hz, gz⟩ := pick (n := 8) (xs := [V.int 0, V.int 7, V.int (-1), V.int 42, V.int (10 ^ Int.toNat 12 - 1), V.int (1 - 10 ^ Int.toNat 12), V.int (10 ^ Int.toNat 11), V.int (-90)]) (f := V.int) (Pz := fun z => -1000000000000 < z ∧ z < 1000000000000) rfl (by decide) (fun v hv => by
      simp only [List.mem_cons, List.not_mem_nil, or_false] at hv
      rcases hv with rfl | rfl | rfl | rfl | rfl | rfl | rfl | rfl <;> exact ⟨_, rfl, by decide, by decide⟩) (d / 8)
    refine ⟨_, rfl, _, rfl, _, _, rfl, rfl, (by show (0 : Int) < 8; decide), l, _, _, _, rfl, rfl, SqL.of upd_same, hz, by show 2 ≤ sizeLine; decide, fun p hp => ?_⟩
    exact k (.num z) _ _ ((same_new hl _).trans (same_new hp _)) ⟨p, rfl, upd_same⟩ gz rfl rfl
  refine ⟨_, rfl, rfl, _, rfl, ?_⟩
  refine ite2 (fun c => ?_) (fun c => ?_)
  · refine ⟨_, 40, rfl, rfl, by decide, by decide, by decide +kernel, by decide +kernel, by show 6 ≤ sizeLine; decide, fun l hl => ?_⟩
    obtain ⟨z, hz, gz⟩ := pick (n := 6) (xs := [V.str (Str.ofString ""), V.str (Str.ofString "a"), V.str (Str.ofString "Hello_9"), V.str (repS (Str.ofString "x") 40), V.str (Str.ofString "_"), V.str (Str.ofString "nomethod")]) (f := fun z => V.str (mk z)) (Pz := fun z => isText z = true) rfl (by decide) (fun v hv => by
      simp only [List.mem_cons, List.not_mem_nil, or_false] at hv
      rcases hv with rfl | rfl | rfl | rfl | rfl | rfl
      · exact ⟨tl (Str.ofString ""), by rw [mk_tl], by decide +kernel⟩
      · exact ⟨tl (Str.ofString "a"), by rw [mk_tl], by decide +kernel⟩
      · exact ⟨tl (Str.ofString "Hello_9"), by rw [mk_tl], by decide +kernel⟩
      · exact ⟨tl (repS (Str.ofString "x") 40), by rw [mk_tl], by decide +kernel⟩
      · exact ⟨tl (Str.ofString "_"), by rw [mk_tl], by decide +kernel⟩
      · exact ⟨tl (Str.ofString "nomethod"), by rw [mk_tl], by decide +kernel⟩) (d / 8)
    refine ⟨_, rfl, _, _, rfl, rfl, (by show (0 : Int) < 6; decide), l, _, _, _, rfl, rfl, SqL.of upd_same, hz, by show 2 ≤ sizeLine; decide, fun p hp => ?_⟩
    exact k (.txt z) _ _ ((same_new hl _).trans (same_new hp _)) ⟨p, rfl, upd_same⟩ gz rfl rfl
  refine ⟨_, rfl, rfl, _, rfl, ?_⟩
  refine ite2 (fun c => ?_) (fun c => ?_)
  · refine ⟨_, rfl, _, _, rfl, rfl, (by show (0 : Int) < 2; decide), rfl, by show 2 ≤ sizeLine; decide, fun p hp => ?_⟩
    exact k (.tru _) _ _ (same_new hp _) ⟨p, rfl, upd_same⟩ trivial rfl rfl
  refine ⟨_, rfl, rfl, _, rfl, ?_⟩
  refine ite2 (fun c => ?_) (fun c => ?_)
  · exact ⟨by show 1 ≤ sizeLine; decide, fun p hp => k .non _ _ (same_new hp _) ⟨p, rfl, upd_same⟩ trivial rfl rfl⟩
  refine ⟨_, rfl, rfl, _, rfl, ?_⟩
  refine ite2 (fun c => ?_) (fun c => ?_)
  · exact ⟨by show 1 ≤ sizeLine; decide, fun p hp => k .slf _ _ (same_new hp _) ⟨p, rfl, upd_same⟩ trivial rfl rfl⟩
  refine ⟨_, rfl, rfl, _, rfl, ?_⟩
  refine ite2 (fun c => ?_) (fun c => ?_)
  · exact ⟨_, rfl, _, rfl, fun z H1 s1 gz => ⟨by show 2 ≤ sizeLine; decide, fun p hp => k (.nam z) _ _ (s1.trans (same_new hp _)) ⟨p, rfl, upd_same⟩ gz rfl rfl⟩⟩
  refine ⟨_, rfl, rfl, _, rfl, ?_⟩
  refine ite2 (fun c => ?_) (fun c => ?_)
  · exact ⟨_, rfl, _, rfl, fun z H1 s1 gz => ⟨by show 2 ≤ sizeLine; decide, fun p hp => k (.fld z) _ _ (s1.trans (same_new hp _)) ⟨p, rfl, upd_same⟩ gz rfl rfl⟩⟩
  exact ⟨_, rfl, _, rfl, fun z H1 s1 gz => ⟨by show 2 ≤ sizeLine; decide, fun p hp => k (.new z) _ _ (s1.trans (same_new hp _)) ⟨p, rfl, upd_same⟩ gz rfl rfl⟩⟩
end
end My
set_option Elab.async false
set_option linter.all false
set_option maxRecDepth 100000
set_option maxHeartbeats 2000000
namespace My
open PySem L2 SS
abbrev sGEs : Stmt := top 18
abbrev sGE : Stmt := top 19
abbrev sGB : Stmt := top 20
abbrev sGS : Stmt := top 21
section
variable {P : Program} {w : World} {K : PySem.W.Frag} {mg : Str → Option Value} {base : Heap}
/-! trees by draws: what the defs promise at depth d -/
def spGE (d : Nat) : Sp := fun vs H Q _ => ∃ (p l : Addr) (a : Nat) (b : Int) (xs : List Int) (dd : Int), vs = [.ref p, .int dd] ∧ dd = (d : Nat) ∧ DeckAt H p l a b xs ∧ (0 < b → (a : Int) + b + 10 * d + 1 ≤ 9000) ∧ (b ≤ 0 → a + 2 ≤ 9000) ∧
  ∀ e v H', SB p H H' → DeckAt H' p l (a + nE e) (b - nE e) xs → AtE H' e v → okE e → oE e ≤ d → (0 < b → (nE e : Int) ≤ b + 10 * d) → (b ≤ 0 → nE e = 1) → Q v H'
def spGS (d : Nat) : Sp := fun vs H Q _ => ∃ (p l : Addr) (a : Nat) (b : Int) (xs : List Int) (dd : Int), vs = [.ref p, .int dd] ∧ dd = (d : Nat) ∧ DeckAt H p l a b xs ∧ (0 < b → (a : Int) + b + 10 * d + 2 ≤ 9000) ∧ (b ≤ 0 → a + 3 ≤ 9000) ∧
  ∀ e v H', SB p H H' → DeckAt H' p l (a + nS e) (b - nS e) xs → AtS H' e v → okS e → oS e ≤ d → (0 < b → (nS e : Int) ≤ b + 10 * d + 1) → (b ≤ 0 → nS e = 2) → Q v H'
def spGEs (d : Nat) : Sp := fun vs H Q _ => ∃ (p l : Addr) (a : Nat) (b : Int) (xs : List Int) (dd mm : Int) (m : Nat), vs = [.ref p, .int mm, .int dd] ∧ dd = (d : Nat) ∧ mm = (m : Nat) ∧ m ≤ 100 ∧ DeckAt H p l a b xs ∧ (0 < b → (a : Int) + b + 10 * d + m + 1 ≤ 9000) ∧ (b ≤ 0 → a + m + 2 ≤ 9000) ∧
  ∀ es q ys H', SB p H H' → DeckAt H' p l (a + nEs es) (b - nEs es) xs → H' q = some (.tup ys) → AtEs H' es ys → okEs es → oEs es ≤ d → (0 < b → (nEs es : Int) ≤ b + 10 * d + m) → (b ≤ 0 → nEs es = m) → Q (.ref q) H'
def spGB (d : Nat) : Sp := fun vs H Q _ => ∃ (p l : Addr) (a : Nat) (b : Int) (xs : List Int) (dd mm : Int) (m : Nat), vs = [.ref p, .int mm, .int dd] ∧ dd = (d : Nat) ∧ mm = (m : Nat) ∧ m ≤ 100 ∧ DeckAt H p l a b xs ∧ (0 < b → (a : Int) + b + 10 * d + 2 * m + 2 ≤ 9000) ∧ (b ≤ 0 → a + 2 * m + 3 ≤ 9000) ∧
  ∀ es q ys H', SB p H H' → DeckAt H' p l (a + nSs es) (b - nSs es) xs → H' q = some (.tup ys) → AtSs H' es ys → okSs es → oSs es ≤ d → (0 < b → (nSs es : Int) ≤ b + 10 * d + 1 + 2 * m) → (b ≤ 0 → nSs es = 2 * m) → Q (.ref q) H'
theorem scGEs : FnScope ["_law_deck_here", "_law_many", "_law_depth", "_law_k"] ["_law_deck_here", "_law_many", "_law_depth"] (defScope sGEs) := ⟨rfl, rfl, rfl, by decide +kernel, rfl, by decide +kernel, by decide +kernel⟩
theorem scGB : FnScope ["_law_deck_here", "_law_many", "_law_depth", "_law_k"] ["_law_deck_here", "_law_many", "_law_depth"] (defScope sGB) := ⟨rfl, rfl, rfl, by decide +kernel, rfl, by decide +kernel, by decide +kernel⟩
theorem c_ges {d k : Nat} (TS : TxS K mg) (T : TxL mg) (D : Dn K mg "_law_es" sGEs) (G : C0 P w K mg base k "_law_e" (spGE d)) : C0 P w K mg base (k + 1) "_law_es" (spGEs d) := by
  obtain ⟨f, fd, F, m⟩ := D.ex
  refine ⟨f, fd, ["_law_deck_here", "_law_many", "_law_depth"], F.ok scGEs (fun vs H Q E h => ?_) (fun cdv A outer s H vs Q E hr h => ?_), m, F.kp, F.binds (ps := ["_law_deck_here", "_law_many", "_law_depth"]) fun _ _ _ _ _ _ us hl => match us, hl with | [_, _, _], _ => rfl⟩
  · obtain ⟨p, l, a, b, xs, dd, mm, m, rfl, _⟩ := h
    rfl
  obtain ⟨p, l, a, b, xs, dd, mm, m, rfl, rfl, rfl, hm, hd, hp1, hp2, kq⟩ := h
  refine ⟨_, pss_one (ps_ret (pe_callTy call_tuple_of (by rfl) TS.tup (by decide +kernel) (pa_cons (pe_lc (own := [("_law_k", 3)]) (g := gName 3) (tt := tYes) rfl scGEs.nd (pi_range1 rfl T.range (pa_cons (pv 1) pa_nil))
    (blkOk_by (own := [("_law_k", 3)]) (N := ["_law_deck_here", "_law_many", "_law_depth", "_law_k"]) (sc := defScope sGEs) (by decide +kernel)) (fun _ _ _ _ _ => pg_name (i := 3) scGEs.nd rfl (Or.inl rfl)) (fun _ _ _ _ _ => pts_nil)
    (fun _ _ _ _ _ => pe_cc G hr (Nat.le_refl _) pass0 (pa_cons (pv 0) (pa_cons (pv 2) pa_nil)))) pa_nil))), ?_⟩
  refine ⟨_, rfl, ((m : Nat) : Int), rfl, by omega, by omega, fun D hD => ?_⟩
  have hDn := hd.ne hD
  refine lc_range (lo := 0) (n := ((m : Nat) : Int).toNat) (fun i H1 => ∃ (es : Exs) (ys : List V), SB p H H1 ∧ DeckAt H1 p l (a + nEs es) (b - nEs es) xs ∧ H1 D = some (.lst ys) ∧ AtEs H1 es ys ∧ okEs es ∧ oEs es ≤ d ∧ cE es = i ∧ (0 < b → (nEs es : Int) ≤ b + 10 * d + i) ∧ (b ≤ 0 → nEs es = i))
    ⟨.nil, [], SB.same (same_new hD _), by show DeckAt _ p l (a + 0) (b - ((0 : Nat) : Int)) xs; rw [Nat.add_zero, show b - ((0 : Nat) : Int) = b by omega]; exact hd.new hD _, upd_same, rfl, trivial, Nat.zero_le _, rfl, fun h => by show ((0 : Nat) : Int) ≤ _; omega, fun _ => rfl⟩ ?_ ?_
  · rintro i H1 hi ⟨es, ys, s1, d1, hD1, at1, ok1, o1, c1, n1, n2⟩
    have hi' : i < m := by omega
    refine ⟨rfl, ?_⟩
    unfold tYes
    refine iteT ?_
    refine ⟨_, rfl, _, rfl, p, l, a + nEs es, b - nEs es, xs, _, rfl, rfl, d1, fun h => ?_, fun h => ?_, fun e v H2 s2 d2 at2 ok2 o2 g1 g2 => ?_⟩
    · by_cases hb : 0 < b
      · have := hp1 hb; have := n1 hb; omega
      · have := n2 (by omega); omega
    · by_cases hb : 0 < b
      · have := hp1 hb; have := n1 hb; omega
      · have := n2 (by omega); have := hp2 (by omega); omega
    obtain ⟨q1, q2, q3, q4, q5⟩ := Exs.snoc_n es e
    have hD2 : H2 D = some (.lst ys) := s2 _ _ hDn.1 hD1
    have tup : Tups H1 (upd H2 D (.lst (ys ++ [v]))) := (s2.tups d1.1).trans (tups_lst hD2)
    refine ⟨ys, hD2, by rw [at1.len, c1, sizeLine_eq]; omega, es.snoc e, ys ++ [v], ?_, ?_, upd_same, ?_, q3.mpr ⟨ok1, ok2⟩, by rw [q2]; exact Nat.max_le.mpr ⟨o1, o2⟩, by rw [q4, c1], fun hb => ?_, fun hb => ?_⟩
    · intro q u n h
      rw [upd_ne (ne_of_none h hD)]
      exact s2 q u n (s1 q u n h)
    · rw [q1]
      have e1 : a + nEs es + nE e = a + (nEs es + nE e) := by omega
      have e2 : b - (nEs es : Int) - (nE e : Int) = b - ((nEs es + nE e : Nat) : Int) := by omega
      rw [e1, e2] at d2
      exact ⟨by rw [upd_ne hDn.1.symm]; exact d2.1, by rw [upd_ne hDn.2.symm]; exact d2.2.1, d2.2.2⟩
    · exact Exs.at_snoc (at1.on_ tup) (at2.on_ (tups_lst hD2))
    · rw [q1]
      have := n1 hb
      by_cases h : 0 < b - (nEs es : Int)
      · have := g1 h; omega
      · have := g2 (by omega); omega
    · rw [q1]
      have := n2 hb
      have := g2 (by omega)
      omega
  · rintro H1 ⟨es, ys, s1, d1, hD1, at1, ok1, o1, c1, n1, n2⟩
    have cm : cE es = m := by omega
    refine ⟨D, ys, rfl, .inl ⟨SqL.of hD1, fun q hq => ?_⟩⟩
    have s2 := same_new hq (.tup ys)
    refine kq es q ys _ (s1.trans (SB.same s2)) (d1.same s2) upd_same (at1.on_ (same_tups s2)) ok1 o1 (fun hb => ?_) (fun hb => ?_)
    · have := n1 hb; omega
    · have := n2 hb; omega
theorem c_gb {d k : Nat} (TS : TxS K mg) (T : TxL mg) (D : Dn K mg "_law_body" sGB) (G : C0 P w K mg base k "_law_statement" (spGS d)) : C0 P w K mg base (k + 1) "_law_body" (spGB d) := by
  obtain ⟨f, fd, F, m⟩ := D.ex
  refine ⟨f, fd, ["_law_deck_here", "_law_many", "_law_depth"], F.ok scGB (fun vs H Q E h => ?_) (fun cdv A outer s H vs Q E hr h => ?_), m, F.kp, F.binds (ps := ["_law_deck_here", "_law_many", "_law_depth"]) fun _ _ _ _ _ _ us hl => match us, hl with | [_, _, _], _ => rfl⟩
  · obtain ⟨p, l, a, b, xs, dd, mm, m, rfl, _⟩ := h
    rfl
  obtain ⟨p, l, a, b, xs, dd, mm, m, rfl, rfl, rfl, hm, hd, hp1, hp2, kq⟩ := h
  refine ⟨_, pss_one (ps_ret (pe_callTy call_tuple_of (by rfl) TS.tup (by decide +kernel) (pa_cons (pe_lc (own := [("_law_k", 3)]) (g := gName 3) (tt := tYes) rfl scGB.nd (pi_range1 rfl T.range (pa_cons (pv 1) pa_nil))
    (blkOk_by (own := [("_law_k", 3)]) (N := ["_law_deck_here", "_law_many", "_law_depth", "_law_k"]) (sc := defScope sGB) (by decide +kernel)) (fun _ _ _ _ _ => pg_name (i := 3) scGB.nd rfl (Or.inl rfl)) (fun _ _ _ _ _ => pts_nil)
    (fun _ _ _ _ _ => pe_cc G hr (Nat.le_refl _) pass0 (pa_cons (pv 0) (pa_cons (pv 2) pa_nil)))) pa_nil))), ?_⟩
  refine ⟨_, rfl, ((m : Nat) : Int), rfl, by omega, by omega, fun D hD => ?_⟩
  have hDn := hd.ne hD
  refine lc_range (lo := 0) (n := ((m : Nat) : Int).toNat) (fun i H1 => ∃ (es : Sts) (ys : List V), SB p H H1 ∧ DeckAt H1 p l (a + nSs es) (b - nSs es) xs ∧ H1 D = some (.lst ys) ∧ AtSs H1 es ys ∧ okSs es ∧ oSs es ≤ d ∧ cS es = i ∧ (0 < b → (nSs es : Int) ≤ b + 10 * d + 1 + 2 * i) ∧ (b ≤ 0 → nSs es = 2 * i))
    ⟨.nil, [], SB.same (same_new hD _), by show DeckAt _ p l (a + 0) (b - ((0 : Nat) : Int)) xs; rw [Nat.add_zero, show b - ((0 : Nat) : Int) = b by omega]; exact hd.new hD _, upd_same, rfl, trivial, Nat.zero_le _, rfl, fun h => by show ((0 : Nat) : Int) ≤ _; omega, fun _ => rfl⟩ ?_ ?_
  · rintro i H1 hi ⟨es, ys, s1, d1, hD1, at1, ok1, o1, c1, n1, n2⟩
    have hi' : i < m := by omega
    refine ⟨rfl, ?_⟩
    unfold tYes
    refine iteT ?_
    refine ⟨_, rfl, _, rfl, p, l, a + nSs es, b - nSs es, xs, _, rfl, rfl, d1, fun h => ?_, fun h => ?_, fun e v H2 s2 d2 at2 ok2 o2 g1 g2 => ?_⟩
    · by_cases hb : 0 < b
      · have := hp1 hb; have := n1 hb; omega
      · have := n2 (by omega); omega
    · by_cases hb : 0 < b
      · have := hp1 hb; have := n1 hb; omega
      · have := n2 (by omega); have := hp2 (by omega); omega
    obtain ⟨q1, q2, q3, q4, q5⟩ := Sts.snoc_n es e
    have hD2 : H2 D = some (.lst ys) := s2 _ _ hDn.1 hD1
    have tup : Tups H1 (upd H2 D (.lst (ys ++ [v]))) := (s2.tups d1.1).trans (tups_lst hD2)
    refine ⟨ys, hD2, by rw [at1.len, c1, sizeLine_eq]; omega, es.snoc e, ys ++ [v], ?_, ?_, upd_same, ?_, q3.mpr ⟨ok1, ok2⟩, by rw [q2]; exact Nat.max_le.mpr ⟨o1, o2⟩, by rw [q4, c1], fun hb => ?_, fun hb => ?_⟩
    · intro q u n h
      rw [upd_ne (ne_of_none h hD)]
      exact s2 q u n (s1 q u n h)
    · rw [q1]
      have e1 : a + nSs es + nS e = a + (nSs es + nS e) := by omega
      have e2 : b - (nSs es : Int) - (nS e : Int) = b - ((nSs es + nS e : Nat) : Int) := by omega
      rw [e1, e2] at d2
      exact ⟨by rw [upd_ne hDn.1.symm]; exact d2.1, by rw [upd_ne hDn.2.symm]; exact d2.2.1, d2.2.2⟩
    · exact Sts.at_snoc (at1.on_ tup) (at2.on_ (tups_lst hD2))
    · rw [q1]
      have := n1 hb
      by_cases h : 0 < b - (nSs es : Int)
      · have := g1 h; omega
      · have := g2 (by omega); omega
    · rw [q1]
      have := n2 hb
      have := g2 (by omega)
      omega
  · rintro H1 ⟨es, ys, s1, d1, hD1, at1, ok1, o1, c1, n1, n2⟩
    have cm : cS es = m := by omega
    refine ⟨D, ys, rfl, .inl ⟨SqL.of hD1, fun q hq => ?_⟩⟩
    have s2 := same_new hq (.tup ys)
    refine kq es q ys _ (s1.trans (SB.same s2)) (d1.same s2) upd_same (at1.on_ (same_tups s2)) ok1 o1 (fun hb => ?_) (fun hb => ?_)
    · have := n1 hb; omega
    · have := n2 hb; omega
end
end My
set_option Elab.async false
set_option linter.all false
set_option maxRecDepth 100000
set_option maxHeartbeats 4000000
namespace My
open PySem L2 SS
section
variable {P : Program} {w : World} {K : PySem.W.Frag} {mg : Str → Option Value} {base : Heap}
def spF : Sp := fun _ _ _ _ => False
def prevE : Nat → Sp
  | 0 => spF
  | d + 1 => spGE d
def prevEs : Nat → Sp
  | 0 => spF
  | d + 1 => spGEs d
def prevB : Nat → Sp
  | 0 => spF
  | d + 1 => spGB d
theorem DeckAt.cast {H : Hp} {p l : Addr} {a a' : Nat} {b b' : Int} {xs : List Int} (h : DeckAt H p l a b xs) (ea : a = a') (eb : b = b') : DeckAt H p l a' b' xs := by
  subst ea eb
  exact h
theorem scGE : FnScope ["_law_deck_here", "_law_depth", "_law_draw", "_law_way", "_law_rest", "_law_message", "_law_receiver", "_law_words", "_law_k"] ["_law_deck_here", "_law_depth"] (defScope sGE) := ⟨rfl, rfl, rfl, by decide +kernel, rfl, by decide +kernel, by decide +kernel⟩
theorem emod_nat (x : Int) {n : Nat} (h : 0 < n) : ∃ m : Nat, x % ((n : Nat) : Int) = ((m : Nat) : Int) ∧ m < n := by
  have e0 := Int.emod_nonneg x (show ((n : Nat) : Int) ≠ 0 by omega)
  have e1 := Int.emod_lt_of_pos x (show (0 : Int) < ((n : Nat) : Int) by omega)
  exact ⟨(x % ((n : Nat) : Int)).toNat, by omega, by omega⟩
theorem c_ge {d k : Nat} (hk : 3 ≤ k + 3) (TS : TxS K mg) (T : TxL mg) (D : Dn K mg "_law_e" sGE) (GN : C0 P w K mg base 1 "_law_next" spNext) (GW : C0 P w K mg base 1 "_law_word" (spLWord isFree)) (GL : C0 P w K mg base 2 "_law_leaf" spLLeaf)
    (GE : C0 P w K mg base k "_law_e" (prevE d)) (GEs : C0 P w K mg base (k + 1) "_law_es" (prevEs d)) (GB : C0 P w K mg base (k + 2) "_law_body" (prevB d)) : C0 P w K mg base (k + 3) "_law_e" (spGE d) := by
  obtain ⟨f, fd, F, m⟩ := D.ex
  refine ⟨f, fd, ["_law_deck_here", "_law_depth"], F.ok scGE (fun vs H Q E h => ?_) (fun cdv A outer s H vs Q E hr h => ?_), m, F.kp, F.binds (ps := ["_law_deck_here", "_law_depth"]) fun _ _ _ _ _ _ us hl => match us, hl with | [_, _], _ => rfl⟩
  · obtain ⟨p, l, a, b, xs, dd, rfl, _⟩ := h
    rfl
  obtain ⟨p, l, a, b, xs, dd, rfl, rfl, hd, hp1, hp2, kq⟩ := h
  refine ⟨_, pss_cons (ps_set (i := 2) scGE.nd rfl (Or.inl rfl) (pe_cc GN hr (by omega) pass0 (pa_cons (pv 0) pa_nil))) <|
    pss_cons (ps_asg (pe_op op_sub (pe_ix ix_list (pv 0) pe_int (fun _ _ => rfl)) pe_int) (pg_sub (pv 0) pe_int set_list)) <|
    pss_cons (ps_set (i := 3) scGE.nd rfl (Or.inl rfl) (pe_op op_mod (pv 2) pe_int)) <|
    pss_cons (ps_set (i := 4) scGE.nd rfl (Or.inr rfl) (pe_op op_fdiv (pv 2) pe_int)) <|
    pss_cons (ps_if (PW.pt (pw_or (pt_cmpR op_lt (pv 1) pe_int (nomark _)) (pw_or (pt_cmpR op_lt (pe_ix ix_list (pv 0) pe_int (fun _ _ => rfl)) pe_int (nomark _)) (pw_or1 (pt_cmpR op_lt (pv 3) pe_int (nomark _)))))) (pss_one (ps_ret (pe_cc GL hr (by omega) pass0 (pa_cons (pv 4) pa_nil)))) pss_nil) <|
    pss_cons (ps_if (pt_cmpR op_lt (pv 3) pe_int (nomark _))
      (pss_cons (ps_set (i := 5) scGE.nd rfl (Or.inl rfl) (pe_ix ix_list (pe_lst (pa_cons pe_str (pa_cons pe_str (pa_cons pe_str (pa_cons pe_str (pa_cons pe_str (pa_cons pe_str (pa_cons (pe_cc GW hr (by omega) pass0 (pa_cons (pe_op op_fdiv (pv 4) pe_int) pa_nil)) pa_nil)))))))) (pe_op op_mod (pv 4) pe_int) (fun _ _ => rfl))) <|
        pss_cons (ps_set (i := 6) scGE.nd rfl (Or.inl rfl) (pe_cc GE hr (by omega) pass0 (pa_cons (pv 0) (pa_cons (pe_op op_sub (pv 1) pe_int) pa_nil)))) <|
        pss_one (ps_ret (pe_tup (pa_cons pe_str (pa_cons (pv 6) (pa_cons (pv 5) (pa_cons (pe_cc GEs hr (by omega) pass0 (pa_cons (pv 0) (pa_cons (pe_op op_mod (pe_op op_fdiv (pv 4) pe_int) pe_int) (pa_cons (pe_op op_sub (pv 1) pe_int) pa_nil)))) pa_nil))))))) pss_nil) <|
    pss_cons (ps_if (pt_cmpR op_eq (pv 3) pe_int (nomark _)) (pss_one (ps_ret (pe_tup (pa_cons pe_str (pa_cons (pe_cc GW hr (by omega) pass0 (pa_cons (pv 4) pa_nil)) (pa_cons (pe_cc GEs hr (by omega) pass0 (pa_cons (pv 0) (pa_cons (pe_op op_mod (pe_op op_fdiv (pv 4) pe_int) pe_int) (pa_cons (pe_op op_sub (pv 1) pe_int) pa_nil)))) pa_nil)))))) pss_nil) <|
    pss_cons (ps_if (pt_cmpR op_eq (pv 3) pe_int (nomark _)) (pss_one (ps_ret (pe_tup (pa_cons pe_str (pa_cons (pe_cc GEs hr (by omega) pass0 (pa_cons (pv 0) (pa_cons (pe_op op_mod (pv 4) pe_int) (pa_cons (pe_op op_sub (pv 1) pe_int) pa_nil)))) pa_nil))))) pss_nil) <|
    pss_cons (ps_set (i := 7) scGE.nd rfl (Or.inl rfl) (pe_callTy call_tuple_of (by rfl) TS.tup (by decide +kernel) (pa_cons (pe_lc (own := [("_law_k", 8)]) (g := gName 8) (tt := tYes) rfl scGE.nd (pi_range1 rfl T.range (pa_cons (pe_op op_mod (pe_op op_fdiv (pv 4) pe_int) pe_int) pa_nil))
      (blkOk_by (own := [("_law_k", 8)]) (N := ["_law_deck_here", "_law_depth", "_law_draw", "_law_way", "_law_rest", "_law_message", "_law_receiver", "_law_words", "_law_k"]) (sc := defScope sGE) (by decide +kernel)) (fun _ _ _ _ _ => pg_name (i := 8) scGE.nd rfl (Or.inl rfl)) (fun _ _ _ _ _ => pts_nil)
      (fun _ _ _ _ _ => pe_cc GW hr (by omega) pass0 (pa_cons (pe_op op_add (pv 4) (pe_op op_mul (pv 8) (pe_op op_add pe_int (pe_op op_mod (pe_op op_fdiv (pv 4) pe_int) pe_int)))) pa_nil))) pa_nil))) <|
    pss_one (ps_ret (pe_tup (pa_cons pe_str (pa_cons (pv 7) (pa_cons (pe_cc GB hr (by omega) pass0 (pa_cons (pv 0) (pa_cons (pe_op op_mod (pe_op op_fdiv (pv 4) pe_int) pe_int) (pa_cons (pe_op op_sub (pv 1) pe_int) pa_nil)))) pa_nil))))), ?_⟩
  have ha : a ≤ 10000 := by
    by_cases hb : 0 < b
    · have := hp1 hb; omega
    · have := hp2 (by omega); omega
  refine ⟨_, rfl, p, l, a, b, xs, rfl, hd, ha, fun n hn d1 => ?_⟩
  have s1 : SB p H (upd H p (.lst [.int ((a + 1 : Nat) : Int), .ref l, .int b])) := SB.upd _
  generalize upd H p (.lst [.int ((a + 1 : Nat) : Int), .ref l, .int b]) = H1 at d1 s1 ⊢
  refine ⟨_, rfl, p, _, _, _, rfl, rfl, SqL.of d1.1, atI_nat (j := 2) rfl, _, _, rfl, rfl, _, rfl, p, _, 2, 2, rfl, rfl, d1.1, rfl, ?_⟩
  have d2 : DeckAt (upd H1 p (.lst (([V.int ((a + 1 : Nat) : Int), .ref l, .int b] : List V).set 2 (.int (b - 1))))) p l (a + 1) (b - 1) xs := ⟨upd_same, by rw [upd_ne d1.2.2.1.symm]; exact d1.2.1, d1.2.2⟩
  have s2 : SB p H (upd H1 p (.lst (([V.int ((a + 1 : Nat) : Int), .ref l, .int b] : List V).set 2 (.int (b - 1))))) := s1.trans (SB.upd _)
  show tSeq _ _ _ _ (upd H1 p (.lst (([V.int ((a + 1 : Nat) : Int), .ref l, .int b] : List V).set 2 (.int (b - 1)))))
  generalize upd H1 p (.lst (([V.int ((a + 1 : Nat) : Int), .ref l, .int b] : List V).set 2 (.int (b - 1)))) = H2 at d2 s2 ⊢
  refine ⟨_, rfl, _, _, rfl, rfl, (by show (0 : Int) < 13; decide), ?_⟩
  refine ⟨_, rfl, _, _, rfl, rfl, ⟨by decide, by decide⟩, ?_⟩
  have leafK : ∀ e v H3, Same H2 H3 → AtE H3 e v → okE e → oE e = 0 → nE e = 1 → Q v H3 := fun e v H3 s3 at3 ok3 o3 n3 =>
    kq e v H3 (s2.trans (SB.same s3)) ((d2.same s3).cast (by rw [n3]) (by rw [n3]; rfl)) at3 ok3 (by omega) (fun _ => by rw [n3]; omega) (fun _ => n3)
  refine ⟨_, rfl, _, _, rfl, rfl, _, rfl, ?_⟩
  refine ite2 (fun c => iteT ⟨_, rfl, _, rfl, leafK⟩) (fun c => ?_)
  refine ⟨_, rfl, p, _, _, _, rfl, rfl, SqL.of d2.1, atI_nat (j := 2) rfl, _, _, rfl, rfl, _, rfl, ?_⟩
  refine ite2 (fun c2 => iteT ⟨_, rfl, _, rfl, leafK⟩) (fun c2 => ?_)
  refine ⟨_, rfl, _, _, rfl, rfl, _, rfl, ?_⟩
  refine ite2 (fun c3 => ⟨_, rfl, _, rfl, leafK⟩) (fun c3 => ?_)
  have hb1 : ¬ (b - 1 < 0) := of_decide_eq_false (Bool.eq_false_iff.mpr c2)
  have hb : 0 < b := by omega
  have hp := hp1 hb
  cases d with
  | zero => exact absurd (decide_eq_true (show (((0 : Nat) : Int)) < 1 by decide)) c
  | succ d =>
    have ed : ((d + 1 : Nat) : Int) - 1 = ((d : Nat) : Int) := by omega
    refine ⟨_, rfl, _, _, rfl, rfl, _, rfl, ?_⟩
    refine ite2 (fun c4 => ?_) (fun c4 => ?_)
    · -- a send
      refine ⟨_, rfl, _, _, rfl, rfl, ⟨by decide, by decide⟩, _, rfl, fun z H3 s3 gz => ?_⟩
      refine ⟨by show 7 ≤ sizeLine; decide, fun L hL => ?_⟩
      obtain ⟨mz, hmz, gmz⟩ := pick (n := 7) (xs := [V.str (Str.ofString "+"), V.str (Str.ofString "-"), V.str (Str.ofString "*"), V.str (Str.ofString "/"), V.str (Str.ofString "<"), V.str (Str.ofString "="), V.str (mk z)]) (f := fun z => V.str (mk z)) (Pz := fun z => isMsg z = true) rfl (by decide) (fun v hv => by
        simp only [List.mem_cons, List.not_mem_nil, or_false] at hv
        rcases hv with rfl | rfl | rfl | rfl | rfl | rfl | rfl
        · exact ⟨tl (Str.ofString "+"), by rw [mk_tl], by decide +kernel⟩
        · exact ⟨tl (Str.ofString "-"), by rw [mk_tl], by decide +kernel⟩
        · exact ⟨tl (Str.ofString "*"), by rw [mk_tl], by decide +kernel⟩
        · exact ⟨tl (Str.ofString "/"), by rw [mk_tl], by decide +kernel⟩
        · exact ⟨tl (Str.ofString "<"), by rw [mk_tl], by decide +kernel⟩
        · exact ⟨tl (Str.ofString "="), by rw [mk_tl], by decide +kernel⟩
        · exact ⟨z, rfl, by unfold isMsg; rw [gz]; rfl⟩) (n / 13)
      refine ⟨_, rfl, _, _, rfl, rfl, (by show (0 : Int) < 7; decide), L, _, _, _, rfl, rfl, SqL.of upd_same, hmz, ?_⟩
      have s4 := s3.trans (same_new hL (.lst [V.str (Str.ofString "+"), V.str (Str.ofString "-"), V.str (Str.ofString "*"), V.str (Str.ofString "/"), V.str (Str.ofString "<"), V.str (Str.ofString "="), V.str (mk z)]))
      have d4 := d2.same s4
      refine ⟨_, rfl, _, rfl, _, _, rfl, rfl, p, l, a + 1, b - 1, xs, _, rfl, ed, d4, fun h => by omega, fun h => by omega, fun e1 v1 H5 s5 d5 at5 ok5 o5 g1 g2 => ?_⟩
      obtain ⟨mm, emm, hmm⟩ := emod_nat (n / 13 / 70) (n := 3) (by decide)
      refine ⟨_, rfl, _, rfl, _, rfl, _, rfl, _, _, rfl, rfl, ⟨by decide, by decide⟩, _, _, rfl, rfl, (by show (0 : Int) < 3; decide), _, rfl, _, _, rfl, rfl, p, l, _, _, xs, _, _, mm, rfl, ed, emm, by omega, d5, fun h => ?_, fun h => ?_, fun es q ys H6 s6 d6 hq at6 ok6 o6 g3 g4 => ?_⟩
      · omega
      · by_cases h1 : 0 < b - 1
        · have := g1 h1; omega
        · have := g2 (by omega); omega
      refine ⟨by show 4 ≤ sizeLine; decide, fun r hr2 => ?_⟩
      have sr := same_new hr2 (.tup [S_ "send", v1, .str (mk mz), .ref q])
      have t6 := s6.tups d5.1
      refine kq (.send e1 mz es) (.ref r) _ (((s2.trans (SB.same s4)).trans s5).trans (s6.trans (SB.same sr))) ((d6.same sr).cast (by simp only [nE]; omega) (by simp only [nE]; omega)) ⟨r, v1, q, ys, rfl, upd_same, sr _ _ hq, (at5.on_ t6).on_ (same_tups sr), at6.on_ (same_tups sr)⟩ ⟨gmz, ok5, ok6⟩ (by simp only [oE]; omega) (fun _ => ?_) (fun h => by omega)
      simp only [nE]
      by_cases h1 : 0 < b - 1
      · have := g1 h1
        by_cases h2 : 0 < b - 1 - (nE e1 : Int)
        · have := g3 h2; omega
        · have := g4 (by omega); omega
      · have := g2 (by omega)
        have := g4 (by omega)
        omega
    refine ⟨_, rfl, rfl, _, rfl, ?_⟩
    refine ite2 (fun c5 => ?_) (fun c5 => ?_)
    · -- an up
      obtain ⟨mm, emm, hmm⟩ := emod_nat (n / 13 / 10) (n := 3) (by decide)
      refine ⟨_, rfl, _, rfl, fun z H3 s3 gz => ?_⟩
      have d3 := d2.same s3
      refine ⟨_, rfl, _, rfl, _, _, rfl, rfl, ⟨by decide, by decide⟩, _, _, rfl, rfl, (by show (0 : Int) < 3; decide), _, rfl, _, _, rfl, rfl, p, l, _, _, xs, _, _, mm, rfl, ed, emm, by omega, d3, fun h => by omega, fun h => by omega, fun es q ys H6 s6 d6 hq at6 ok6 o6 g3 g4 => ?_⟩
      refine ⟨by show 3 ≤ sizeLine; decide, fun r hr2 => ?_⟩
      have sr := same_new hr2 (.tup [S_ "up", .str (mk z), .ref q])
      refine kq (.up z es) (.ref r) _ ((s2.trans (SB.same s3)).trans (s6.trans (SB.same sr))) ((d6.same sr).cast (by simp only [nE]; omega) (by simp only [nE]; omega)) ⟨r, q, ys, rfl, upd_same, sr _ _ hq, at6.on_ (same_tups sr)⟩ ⟨gz, ok6⟩ (by simp only [oE]; omega) (fun _ => ?_) (fun h => by omega)
      simp only [nE]
      by_cases h2 : 0 < b - 1
      · have := g3 h2; omega
      · have := g4 (by omega); omega
    refine ⟨_, rfl, rfl, _, rfl, ?_⟩
    refine ite2 (fun c6 => ?_) (fun c6 => ?_)
    · -- a list
      obtain ⟨mm, emm, hmm⟩ := emod_nat (n / 13) (n := 4) (by decide)
      refine ⟨_, rfl, _, rfl, _, _, rfl, rfl, (by show (0 : Int) < 4; decide), _, rfl, _, _, rfl, rfl, p, l, _, _, xs, _, _, mm, rfl, ed, emm, by omega, d2, fun h => by omega, fun h => by omega, fun es q ys H6 s6 d6 hq at6 ok6 o6 g3 g4 => ?_⟩
      refine ⟨by show 2 ≤ sizeLine; decide, fun r hr2 => ?_⟩
      have sr := same_new hr2 (.tup [S_ "list", .ref q])
      refine kq (.lst es) (.ref r) _ (s2.trans (s6.trans (SB.same sr))) ((d6.same sr).cast (by simp only [nE]; omega) (by simp only [nE]; omega)) ⟨r, q, ys, rfl, upd_same, sr _ _ hq, at6.on_ (same_tups sr)⟩ ok6 (by simp only [oE]; omega) (fun _ => ?_) (fun h => by omega)
      simp only [nE]
      by_cases h2 : 0 < b - 1
      · have := g3 h2; omega
      · have := g4 (by omega); omega
    -- a block
    obtain ⟨m3, em3, hm3⟩ := emod_nat (n / 13 / 30) (n := 3) (by decide)
    refine ⟨_, rfl, _, _, rfl, rfl, ⟨by decide, by decide⟩, _, _, rfl, rfl, (by show (0 : Int) < 3; decide), ((m3 : Nat) : Int), by rw [← em3]; rfl, by omega, by omega, fun D0 hD0 => ?_⟩
    have hDn := d2.ne hD0
    refine lc_range (lo := 0) (n := ((m3 : Nat) : Int).toNat) (fun i H3 => ∃ (ws : List (List Nat)), Same H2 H3 ∧ H3 D0 = some (.lst (wsV ws)) ∧ ws.length = i ∧ ∀ z ∈ ws, isFree z = true) ⟨[], same_new hD0 _, upd_same, rfl, fun z hz => by simp at hz⟩ ?_ ?_
    · rintro i H3 hi ⟨ws, s3, h3, hl3, hf3⟩
      have hi' : i < m3 := by omega
      refine ⟨rfl, ?_⟩
      unfold tYes
      refine iteT ?_
      refine ⟨_, rfl, _, rfl, _, rfl, _, _, rfl, rfl, ⟨by decide, by decide⟩, _, _, rfl, rfl, (by show (0 : Int) < 3; decide), _, _, rfl, rfl, _, _, rfl, rfl, .inl ⟨by omega, by omega⟩, _, _, rfl, rfl, _, rfl, fun z H4 s4 gz => ?_⟩
      refine ⟨wsV ws, s4 _ _ h3, by unfold wsV; rw [List.length_map, sizeLine_eq]; omega, ws ++ [z], ?_, ?_, by rw [List.length_append, hl3]; rfl, fun x hx => ?_⟩
      · intro q u h
        rw [upd_ne (ne_of_none h hD0)]
        exact s4 _ _ (s3 _ _ h)
      · rw [upd_same]
        unfold wsV
        rw [List.map_append]
        rfl
      · rcases List.mem_append.mp hx with hx | hx
        · exact hf3 x hx
        · have : x = z := by simpa using hx
          rw [this]
          exact gz
    rintro H3 ⟨ws, s3, h3, hl3, hf3⟩
    refine ⟨D0, _, rfl, .inl ⟨SqL.of h3, fun tq htq => ?_⟩⟩
    have s4 := s3.trans (same_new htq (.tup (wsV ws)))
    have d4 := d2.same s4
    have aw : AtW (upd H3 tq (.tup (wsV ws))) ws (.ref tq) := ⟨tq, rfl, upd_same⟩
    obtain ⟨mm, emm, hmm⟩ := emod_nat (n / 13 / 90) (n := 3) (by decide)
    refine ⟨_, rfl, _, rfl, _, rfl, _, _, rfl, rfl, ⟨by decide, by decide⟩, _, _, rfl, rfl, (by show (0 : Int) < 3; decide), _, rfl, _, _, rfl, rfl, p, l, _, _, xs, _, _, mm, rfl, ed, emm, by omega, d4, fun h => by omega, fun h => by omega, fun es q ys H6 s6 d6 hq at6 ok6 o6 g3 g4 => ?_⟩
    refine ⟨by show 3 ≤ sizeLine; decide, fun r hr2 => ?_⟩
    have sr := same_new hr2 (.tup [S_ "block", .ref tq, .ref q])
    have t6 := (s6.tups d4.1).trans (same_tups sr)
    refine kq (.blk ws es) (.ref r) _ ((s2.trans (SB.same s4)).trans (s6.trans (SB.same sr))) ((d6.same sr).cast (by simp only [nE]; omega) (by simp only [nE]; omega)) ⟨r, _, q, ys, rfl, upd_same, sr _ _ hq, aw.on t6, at6.on_ (same_tups sr)⟩ ⟨by omega, hf3, ok6⟩ (by simp only [oE]; omega) (fun _ => ?_) (fun h => by omega)
    simp only [nE]
    by_cases h2 : 0 < b - 1
    · have := g3 h2; omega
    · have := g4 (by omega); omega
end
end My
set_option Elab.async false
set_option linter.all false
set_option maxRecDepth 100000
set_option maxHeartbeats 4000000
namespace My
open PySem L2 SS
section
variable {P : Program} {w : World} {K : PySem.W.Frag} {mg : Str → Option Value} {base : Heap}
theorem scGS : FnScope ["_law_deck_here", "_law_depth", "_law_draw", "_law_way", "_law_rest", "_law_test", "_law_first"] ["_law_deck_here", "_law_depth"] (defScope sGS) := ⟨rfl, rfl, rfl, by decide +kernel, rfl, by decide +kernel, by decide +kernel⟩
theorem c_gs {d k : Nat} (TS : TxS K mg) (T : TxL mg) (D : Dn K mg "_law_statement" sGS) (GN : C0 P w K mg base 1 "_law_next" spNext) (GW : C0 P w K mg base 1 "_law_word" (spLWord isFree))
    (G : C0 P w K mg base (k + 3) "_law_e" (spGE d)) (GE : C0 P w K mg base k "_law_e" (prevE d)) (GB : C0 P w K mg base (k + 2) "_law_body" (prevB d)) : C0 P w K mg base (k + 4) "_law_statement" (spGS d) := by
  obtain ⟨f, fd, F, m⟩ := D.ex
  refine ⟨f, fd, ["_law_deck_here", "_law_depth"], F.ok scGS (fun vs H Q E h => ?_) (fun cdv A outer s H vs Q E hr h => ?_), m, F.kp, F.binds (ps := ["_law_deck_here", "_law_depth"]) fun _ _ _ _ _ _ us hl => match us, hl with | [_, _], _ => rfl⟩
  · obtain ⟨p, l, a, b, xs, dd, rfl, _⟩ := h
    rfl
  obtain ⟨p, l, a, b, xs, dd, rfl, rfl, hd, hp1, hp2, kq⟩ := h
  refine ⟨_, pss_cons (ps_set (i := 2) scGS.nd rfl (Or.inl rfl) (pe_cc GN hr (by omega) pass0 (pa_cons (pv 0) pa_nil))) <|
    pss_cons (ps_asg (pe_op op_sub (pe_ix ix_list (pv 0) pe_int (fun _ _ => rfl)) pe_int) (pg_sub (pv 0) pe_int set_list)) <|
    pss_cons (ps_set (i := 3) scGS.nd rfl (Or.inl rfl) (pe_op op_mod (pv 2) pe_int)) <|
    pss_cons (ps_set (i := 4) scGS.nd rfl (Or.inl rfl) (pe_op op_fdiv (pv 2) pe_int)) <|
    pss_cons (ps_if (pt_cmpR op_lt (pv 3) pe_int (nomark _)) (pss_one (ps_ret (pe_tup (pa_cons pe_str (pa_cons (pe_cc GW hr (by omega) pass0 (pa_cons (pv 4) pa_nil)) (pa_cons (pe_cc G hr (by omega) pass0 (pa_cons (pv 0) (pa_cons (pv 1) pa_nil))) pa_nil)))))) pss_nil) <|
    pss_cons (ps_if (pt_cmpR op_eq (pv 3) pe_int (nomark _)) (pss_one (ps_ret (pe_tup (pa_cons pe_str (pa_cons (pe_cc GW hr (by omega) pass0 (pa_cons (pv 4) pa_nil)) (pa_cons (pe_cc G hr (by omega) pass0 (pa_cons (pv 0) (pa_cons (pv 1) pa_nil))) pa_nil)))))) pss_nil) <|
    pss_cons (ps_if (PW.pt (pw_or (pt_cmpR op_lt (pv 3) pe_int (nomark _)) (pw_or (pt_cmpR op_lt (pv 1) pe_int (nomark _)) (pw_or1 (pt_cmpR op_lt (pe_ix ix_list (pv 0) pe_int (fun _ _ => rfl)) pe_int (nomark _))))))
      (pss_one (ps_ret (pe_tup (pa_cons (pe_ix ix_list (pe_lst (pa_cons pe_str (pa_cons pe_str (pa_cons pe_str (pa_cons pe_str pa_nil))))) (pe_op op_mod (pv 4) pe_int) (fun _ _ => rfl)) (pa_cons (pe_cc G hr (by omega) pass0 (pa_cons (pv 0) (pa_cons (pv 1) pa_nil))) pa_nil))))) pss_nil) <|
    pss_cons (ps_if (pt_cmpR op_eq (pv 3) pe_int (nomark _))
      (pss_cons (ps_set (i := 5) scGS.nd rfl (Or.inl rfl) (pe_cc GE hr (by omega) pass0 (pa_cons (pv 0) (pa_cons (pe_op op_sub (pv 1) pe_int) pa_nil)))) <|
        pss_cons (ps_set (i := 6) scGS.nd rfl (Or.inl rfl) (pe_cc GB hr (by omega) pass0 (pa_cons (pv 0) (pa_cons (pe_op op_mod (pv 4) pe_int) (pa_cons (pe_op op_sub (pv 1) pe_int) pa_nil))))) <|
        pss_one (ps_ret (pe_tup (pa_cons pe_str (pa_cons (pv 5) (pa_cons (pv 6) (pa_cons (pe_cc GB hr (by omega) pass0 (pa_cons (pv 0) (pa_cons (pe_op op_mod (pe_op op_fdiv (pv 4) pe_int) pe_int) (pa_cons (pe_op op_sub (pv 1) pe_int) pa_nil)))) pa_nil))))))) pss_nil) <|
    pss_cons (ps_if (pt_cmpR op_eq (pv 3) pe_int (nomark _)) (pss_one (ps_ret (pe_tup (pa_cons pe_str (pa_cons (pe_cc GE hr (by omega) pass0 (pa_cons (pv 0) (pa_cons (pe_op op_sub (pv 1) pe_int) pa_nil))) (pa_cons (pe_cc GB hr (by omega) pass0 (pa_cons (pv 0) (pa_cons (pe_op op_mod (pv 4) pe_int) (pa_cons (pe_op op_sub (pv 1) pe_int) pa_nil)))) pa_nil)))))) pss_nil) <|
    pss_cons (ps_set (i := 6) scGS.nd rfl (Or.inl rfl) (pe_cc GB hr (by omega) pass0 (pa_cons (pv 0) (pa_cons (pe_op op_mod (pv 4) pe_int) (pa_cons (pe_op op_sub (pv 1) pe_int) pa_nil))))) <|
    pss_one (ps_ret (pe_tup (pa_cons pe_str (pa_cons (pv 6) (pa_cons (pe_cc GW hr (by omega) pass0 (pa_cons (pe_op op_fdiv (pv 4) pe_int) pa_nil)) (pa_cons (pe_cc GB hr (by omega) pass0 (pa_cons (pv 0) (pa_cons (pe_op op_mod (pe_op op_fdiv (pv 4) pe_int) pe_int) (pa_cons (pe_op op_sub (pv 1) pe_int) pa_nil)))) pa_nil)))))), ?_⟩
  have ha : a ≤ 10000 := by
    by_cases hb : 0 < b
    · have := hp1 hb; omega
    · have := hp2 (by omega); omega
  refine ⟨_, rfl, p, l, a, b, xs, rfl, hd, ha, fun n hn d1 => ?_⟩
  have s1 : SB p H (upd H p (.lst [.int ((a + 1 : Nat) : Int), .ref l, .int b])) := SB.upd _
  generalize upd H p (.lst [.int ((a + 1 : Nat) : Int), .ref l, .int b]) = H1 at d1 s1 ⊢
  refine ⟨_, rfl, p, _, _, _, rfl, rfl, SqL.of d1.1, atI_nat (j := 2) rfl, _, _, rfl, rfl, _, rfl, p, _, 2, 2, rfl, rfl, d1.1, rfl, ?_⟩
  have d2 : DeckAt (upd H1 p (.lst (([V.int ((a + 1 : Nat) : Int), .ref l, .int b] : List V).set 2 (.int (b - 1))))) p l (a + 1) (b - 1) xs := ⟨upd_same, by rw [upd_ne d1.2.2.1.symm]; exact d1.2.1, d1.2.2⟩
  have s2 : SB p H (upd H1 p (.lst (([V.int ((a + 1 : Nat) : Int), .ref l, .int b] : List V).set 2 (.int (b - 1))))) := s1.trans (SB.upd _)
  show tSeq _ _ _ _ (upd H1 p (.lst (([V.int ((a + 1 : Nat) : Int), .ref l, .int b] : List V).set 2 (.int (b - 1)))))
  generalize upd H1 p (.lst (([V.int ((a + 1 : Nat) : Int), .ref l, .int b] : List V).set 2 (.int (b - 1)))) = H2 at d2 s2 ⊢
  refine ⟨_, rfl, _, _, rfl, rfl, (by show (0 : Int) < 10; decide), ?_⟩
  refine ⟨_, rfl, _, _, rfl, rfl, ⟨by decide, by decide⟩, ?_⟩
  have pr1 : 0 < b - 1 → ((a + 1 : Nat) : Int) + (b - 1) + 10 * (d : Nat) + 1 ≤ 9000 := fun h => by
    have := hp1 (by omega)
    omega
  have pr2 : b - 1 ≤ 0 → a + 1 + 2 ≤ 9000 := fun h => by
    by_cases hb : 0 < b
    · have := hp1 hb; omega
    · have := hp2 (by omega); omega
  -- a statement of one e
  have one : ∀ (mkS : Ex → St_) (H3 : Hp), Same H2 H3 → (∀ e, nS (mkS e) = 1 + nE e ∧ oS (mkS e) = oE e) → (∀ e, okE e → okS (mkS e)) → ∀ (tupl : V → List V), (∀ e v H' q, H' q = some (.tup (tupl v)) → AtE H' e v → AtS H' (mkS e) (.ref q)) →
      ∀ e v H', SB p H3 H' → DeckAt H' p l (a + 1 + nE e) (b - 1 - nE e) xs → AtE H' e v → okE e → oE e ≤ d → (0 < b - 1 → (nE e : Int) ≤ b - 1 + 10 * d) → (b - 1 ≤ 0 → nE e = 1) → ∀ q, H' q = none → Q (.ref q) (upd H' q (.tup (tupl v))) := fun mkS H3 s3 hn1 hok tupl hat e v H' s4 d4 at4 ok4 o4 g1 g2 q hq => by
    have sr := same_new hq (.tup (tupl v))
    obtain ⟨n1, o1⟩ := hn1 e
    refine kq (mkS e) (.ref q) _ ((s2.trans (SB.same s3)).trans (s4.trans (SB.same sr))) ((d4.same sr).cast (by rw [n1]; omega) (by rw [n1]; omega)) (hat e v _ q upd_same (at4.on_ (same_tups sr))) (hok e ok4) (by rw [o1]; exact o4) (fun hb => ?_) (fun hb => ?_)
    · rw [n1]
      by_cases h1 : 0 < b - 1
      · have := g1 h1; omega
      · have := g2 (by omega); omega
    · rw [n1]
      have := g2 (by omega); omega
  refine ⟨_, rfl, _, _, rfl, rfl, _, rfl, ?_⟩
  refine ite2 (fun c => ?_) (fun c => ?_)
  · refine ⟨_, rfl, _, rfl, fun z H3 s3 gz => ?_⟩
    refine ⟨_, rfl, _, rfl, p, l, a + 1, b - 1, xs, _, rfl, rfl, d2.same s3, pr1, pr2, fun e v H' s4 d4 at4 ok4 o4 g1 g2 => ⟨by show 3 ≤ sizeLine; decide, ?_⟩⟩
    exact one (.set z) H3 s3 (fun e => ⟨rfl, rfl⟩) (fun e h => ⟨gz, h⟩) (fun v => [S_ "set", .str (mk z), v]) (fun e v H' q h1 h2 => ⟨q, v, rfl, h1, h2⟩) e v H' s4 d4 at4 ok4 o4 g1 g2
  refine ⟨_, rfl, rfl, _, rfl, ?_⟩
  refine ite2 (fun c1 => ?_) (fun c1 => ?_)
  · refine ⟨_, rfl, _, rfl, fun z H3 s3 gz => ?_⟩
    refine ⟨_, rfl, _, rfl, p, l, a + 1, b - 1, xs, _, rfl, rfl, d2.same s3, pr1, pr2, fun e v H' s4 d4 at4 ok4 o4 g1 g2 => ⟨by show 3 ≤ sizeLine; decide, ?_⟩⟩
    exact one (.sfl z) H3 s3 (fun e => ⟨rfl, rfl⟩) (fun e h => ⟨gz, h⟩) (fun v => [S_ "setfield", .str (mk z), v]) (fun e v H' q h1 h2 => ⟨q, v, rfl, h1, h2⟩) e v H' s4 d4 at4 ok4 o4 g1 g2
  refine ⟨_, rfl, _, _, rfl, rfl, _, rfl, ?_⟩
  refine (fun (key : _) => ite2 (fun c => iteT key) (fun c => ⟨_, rfl, _, _, rfl, rfl, _, rfl, ite2 (fun c2 => iteT key) (fun c2 => ⟨_, rfl, p, _, _, _, rfl, rfl, SqL.of d2.1, atI_nat (j := 2) rfl, _, _, rfl, rfl, _, rfl, ite2 (fun c3 => key) (fun c3 => ?rest)⟩)⟩)) ?key
  case key =>
    refine ⟨by show 4 ≤ sizeLine; decide, fun L hL => ?_⟩
    have s3 := same_new hL (.lst [V.str (Str.ofString "do"), V.str (Str.ofString "say"), V.str (Str.ofString "return"), V.str (Str.ofString "raise")])
    obtain ⟨z, hz, gz⟩ := pick (n := 4) (f := fun z => V.str (mk z)) (Pz := fun z => isPl z = true) rfl (by decide) (all_ok (g := isPl) (ws := ["do", "say", "return", "raise"]) (by decide +kernel)) (n / 10)
    refine ⟨_, rfl, _, _, rfl, rfl, (by show (0 : Int) < 4; decide), L, _, _, _, rfl, rfl, SqL.of upd_same, hz, ?_⟩
    refine ⟨_, rfl, _, rfl, p, l, a + 1, b - 1, xs, _, rfl, rfl, d2.same s3, pr1, pr2, fun e v H' s4 d4 at4 ok4 o4 g1 g2 => ⟨by show 2 ≤ sizeLine; decide, ?_⟩⟩
    exact one (.pl z) _ s3 (fun e => ⟨rfl, rfl⟩) (fun e h => ⟨gz, h⟩) (fun v => [.str (mk z), v]) (fun e v H' q h1 h2 => ⟨q, v, rfl, h1, h2⟩) e v H' s4 d4 at4 ok4 o4 g1 g2
  have hb1 : ¬ (b - 1 < 0) := of_decide_eq_false (Bool.eq_false_iff.mpr c3)
  have hb : 0 < b := by omega
  have hp := hp1 hb
  cases d with
  | zero => exact absurd (decide_eq_true (show (((0 : Nat) : Int)) < 1 by decide)) c2
  | succ d =>
    have ed : ((d + 1 : Nat) : Int) - 1 = ((d : Nat) : Int) := by omega
    obtain ⟨m1, em1, hm1⟩ := emod_nat (n / 10) (n := 3) (by decide)
    obtain ⟨m2, em2, hm2⟩ := emod_nat (n / 10 / 3) (n := 3) (by decide)
    obtain ⟨m3, em3, hm3⟩ := emod_nat (n / 10 / 30) (n := 3) (by decide)
    refine ⟨_, rfl, rfl, _, rfl, ?_⟩
    refine ite2 (fun c5 => ?_) (fun c5 => ?_)
    · -- an if
      refine ⟨_, rfl, _, rfl, _, _, rfl, rfl, p, l, a + 1, b - 1, xs, _, rfl, ed, d2, fun h => by omega, fun h => by omega, fun e1 v1 H5 s5 d5 at5 ok5 o5 g1 g2 => ?_⟩
      refine ⟨_, rfl, _, rfl, _, _, rfl, rfl, (by show (0 : Int) < 3; decide), _, rfl, _, _, rfl, rfl, p, l, _, _, xs, _, _, m1, rfl, ed, em1, by omega, d5, fun h => by omega, fun h => ?_, fun s1_ q1 y1 H6 s6 d6 hq1 at6 ok6 o6 g3 g4 => ?_⟩
      · by_cases h1 : 0 < b - 1
        · have := g1 h1; omega
        · have := g2 (by omega); omega
      refine ⟨_, rfl, _, rfl, _, rfl, _, rfl, _, _, rfl, rfl, ⟨by decide, by decide⟩, _, _, rfl, rfl, (by show (0 : Int) < 3; decide), _, rfl, _, _, rfl, rfl, p, l, _, _, xs, _, _, m2, rfl, ed, em2, by omega, d6, fun h => by omega, fun h => ?_, fun s2_ q2 y2 H7 s7 d7 hq2 at7 ok7 o7 g5 g6 => ?_⟩
      · by_cases h1 : 0 < b - 1
        · have := g1 h1
          by_cases h2 : 0 < b - 1 - (nE e1 : Int)
          · have := g3 h2; omega
          · have := g4 (by omega); omega
        · have := g2 (by omega)
          have := g4 (by omega)
          omega
      refine ⟨by show 4 ≤ sizeLine; decide, fun r hr2 => ?_⟩
      have sr := same_new hr2 (.tup [S_ "if", v1, .ref q1, .ref q2])
      have t6 := s6.tups d5.1
      have t7 := s7.tups d6.1
      have tr := same_tups sr
      refine kq (.iff e1 s1_ s2_) (.ref r) _ ((s2.trans s5).trans ((s6.trans s7).trans (SB.same sr))) ((d7.same sr).cast (by simp only [nS]; omega) (by simp only [nS]; omega)) ⟨r, v1, q1, y1, q2, y2, rfl, upd_same, tr _ _ (t7 _ _ hq1), tr _ _ hq2, ((at5.on_ t6).on_ t7).on_ tr, (at6.on_ t7).on_ tr, at7.on_ tr⟩ ⟨ok5, ok6, ok7⟩ (by simp only [oS]; omega) (fun _ => ?_) (fun h => by omega)
      simp only [nS]
      by_cases h1 : 0 < b - 1
      · have := g1 h1
        by_cases h2 : 0 < b - 1 - (nE e1 : Int)
        · have := g3 h2
          by_cases h3 : 0 < b - 1 - (nE e1 : Int) - (nSs s1_ : Int)
          · have := g5 h3; omega
          · have := g6 (by omega); omega
        · have := g4 (by omega)
          have := g6 (by omega)
          omega
      · have := g2 (by omega)
        have := g4 (by omega)
        have := g6 (by omega)
        omega
    refine ⟨_, rfl, rfl, _, rfl, ?_⟩
    refine ite2 (fun c6 => ?_) (fun c6 => ?_)
    · -- a while
      refine ⟨_, rfl, _, rfl, _, _, rfl, rfl, p, l, a + 1, b - 1, xs, _, rfl, ed, d2, fun h => by omega, fun h => by omega, fun e1 v1 H5 s5 d5 at5 ok5 o5 g1 g2 => ?_⟩
      refine ⟨_, rfl, _, rfl, _, _, rfl, rfl, (by show (0 : Int) < 3; decide), _, rfl, _, _, rfl, rfl, p, l, _, _, xs, _, _, m1, rfl, ed, em1, by omega, d5, fun h => by omega, fun h => ?_, fun s1_ q1 y1 H6 s6 d6 hq1 at6 ok6 o6 g3 g4 => ?_⟩
      · by_cases h1 : 0 < b - 1
        · have := g1 h1; omega
        · have := g2 (by omega); omega
      refine ⟨by show 3 ≤ sizeLine; decide, fun r hr2 => ?_⟩
      have sr := same_new hr2 (.tup [S_ "while", v1, .ref q1])
      have t6 := s6.tups d5.1
      have tr := same_tups sr
      refine kq (.whl e1 s1_) (.ref r) _ ((s2.trans s5).trans (s6.trans (SB.same sr))) ((d6.same sr).cast (by simp only [nS]; omega) (by simp only [nS]; omega)) ⟨r, v1, q1, y1, rfl, upd_same, tr _ _ hq1, (at5.on_ t6).on_ tr, at6.on_ tr⟩ ⟨ok5, ok6⟩ (by simp only [oS]; omega) (fun _ => ?_) (fun h => by omega)
      simp only [nS]
      by_cases h1 : 0 < b - 1
      · have := g1 h1
        by_cases h2 : 0 < b - 1 - (nE e1 : Int)
        · have := g3 h2; omega
        · have := g4 (by omega); omega
      · have := g2 (by omega)
        have := g4 (by omega)
        omega
    -- a try
    refine ⟨_, rfl, _, rfl, _, _, rfl, rfl, (by show (0 : Int) < 3; decide), _, rfl, _, _, rfl, rfl, p, l, _, _, xs, _, _, m1, rfl, ed, em1, by omega, d2, fun h => by omega, fun h => by omega, fun s1_ q1 y1 H6 s6 d6 hq1 at6 ok6 o6 g3 g4 => ?_⟩
    refine ⟨_, rfl, _, rfl, _, _, rfl, rfl, ⟨by decide, by decide⟩, _, rfl, fun z H3 s3 gz => ?_⟩
    refine ⟨_, rfl, _, rfl, _, _, rfl, rfl, ⟨by decide, by decide⟩, _, _, rfl, rfl, (by show (0 : Int) < 3; decide), _, rfl, _, _, rfl, rfl, p, l, _, _, xs, _, _, m3, rfl, ed, em3, by omega, d6.same s3, fun h => by omega, fun h => ?_, fun s2_ q2 y2 H7 s7 d7 hq2 at7 ok7 o7 g5 g6 => ?_⟩
    · by_cases h2 : 0 < b - 1
      · have := g3 h2; omega
      · have := g4 (by omega); omega
    refine ⟨by show 4 ≤ sizeLine; decide, fun r hr2 => ?_⟩
    have sr := same_new hr2 (.tup [S_ "try", .ref q1, .str (mk z), .ref q2])
    have t7 := (same_tups s3).trans (s7.tups (d6.same s3).1)
    have tr := same_tups sr
    refine kq (.tri s1_ z s2_) (.ref r) _ ((s2.trans s6).trans (((SB.same s3).trans s7).trans (SB.same sr))) ((d7.same sr).cast (by simp only [nS]; omega) (by simp only [nS]; omega)) ⟨r, q1, y1, q2, y2, rfl, upd_same, tr _ _ (t7 _ _ hq1), tr _ _ hq2, (at6.on_ t7).on_ tr, at7.on_ tr⟩ ⟨gz, ok6, ok7⟩ (by simp only [oS]; omega) (fun _ => ?_) (fun h => by omega)
    simp only [nS]
    by_cases h2 : 0 < b - 1
    · have := g3 h2
      by_cases h3 : 0 < b - 1 - (nSs s1_ : Int)
      · have := g5 h3; omega
      · have := g6 (by omega); omega
    · have := g4 (by omega)
      have := g6 (by omega)
      omega
end
end My
set_option Elab.async false
set_option linter.all false
set_option maxRecDepth 100000
set_option maxHeartbeats 4000000
namespace My
open PySem L2 SS
abbrev sGM : Stmt := top 22
/-! methods, kinds, mores -/
structure Me where
  m : List Nat
  ps : List (List Nat)
  ss : Sts
inductive Tr : Type
  | kind (n p : List Nat) (fs : List (List Nat)) (ms : List Me) : Tr
  | more (n : List Nat) (ms : List Me) : Tr
def AtM (H : Hp) (m : Me) (v : V) : Prop := ∃ p vw q xs, v = .ref p ∧ H p = some (.tup [S_ "method", .str (mk m.m), vw, .ref q]) ∧ AtW H m.ps vw ∧ H q = some (.tup xs) ∧ AtSs H m.ss xs
/-- a row of things in a row of values -/
def AtL {α : Type} (R : Hp → α → V → Prop) (H : Hp) : List α → List V → Prop
  | [], vs => vs = []
  | x :: r, vs => ∃ v us, vs = v :: us ∧ R H x v ∧ AtL R H r us
theorem AtL.snoc {α : Type} {R : Hp → α → V → Prop} {H : Hp} : ∀ {xs : List α} {vs : List V} {x : α} {v : V}, AtL R H xs vs → R H x v → AtL R H (xs ++ [x]) (vs ++ [v])
  | [], vs, x, v, h, hx => by
    have h' : vs = [] := h
    subst h'
    exact ⟨v, [], rfl, hx, rfl⟩
  | y :: r, vs, x, v, ⟨u, us, h1, h2, h3⟩, hx => by
    subst h1
    exact ⟨u, us ++ [v], rfl, h2, AtL.snoc h3 hx⟩
theorem AtL.on {α : Type} {R : Hp → α → V → Prop} {H H' : Hp} (t : Tups H H') (hR : ∀ x v, R H x v → R H' x v) : ∀ {xs : List α} {vs : List V}, AtL R H xs vs → AtL R H' xs vs
  | [], vs, h => h
  | y :: r, vs, ⟨u, us, h1, h2, h3⟩ => ⟨u, us, h1, hR y u h2, AtL.on t hR h3⟩
theorem AtL.len {α : Type} {R : Hp → α → V → Prop} {H : Hp} : ∀ {xs : List α} {vs : List V}, AtL R H xs vs → vs.length = xs.length
  | [], vs, h => by
    have h' : vs = [] := h
    subst h'
    rfl
  | y :: r, vs, ⟨u, us, h1, h2, h3⟩ => by
    subst h1
    rw [List.length_cons, List.length_cons, AtL.len h3]
theorem AtM.on {H H' : Hp} (t : Tups H H') {m : Me} {v : V} (h : AtM H m v) : AtM H' m v := by
  obtain ⟨p, vw, q, xs, e, h1, h2, h3, h4⟩ := h
  exact ⟨p, vw, q, xs, e, t _ _ h1, h2.on t, t _ _ h3, h4.on_ t⟩
abbrev AtMs (H : Hp) (ms : List Me) (vs : List V) : Prop := AtL AtM H ms vs
theorem AtMs.on_ {H H' : Hp} (t : Tups H H') {ms : List Me} {vs : List V} (h : AtMs H ms vs) : AtMs H' ms vs := AtL.on t (fun _ _ h => h.on t) h
def AtTr (H : Hp) : Tr → V → Prop
  | .kind n q fs ms, v => ∃ p vw r xs, v = .ref p ∧ H p = some (.tup [S_ "kind", .str (mk n), .str (mk q), vw, .ref r]) ∧ AtW H fs vw ∧ H r = some (.tup xs) ∧ AtMs H ms xs
  | .more n ms, v => ∃ p r xs, v = .ref p ∧ H p = some (.tup [S_ "more", .str (mk n), .ref r]) ∧ H r = some (.tup xs) ∧ AtMs H ms xs
theorem AtTr.on {H H' : Hp} (t : Tups H H') {x : Tr} {v : V} (h : AtTr H x v) : AtTr H' x v := by
  cases x with
  | kind n q fs ms =>
    obtain ⟨p, vw, r, xs, e, h1, h2, h3, h4⟩ := h
    exact ⟨p, vw, r, xs, e, t _ _ h1, h2.on t, t _ _ h3, h4.on_ t⟩
  | more n ms =>
    obtain ⟨p, r, xs, e, h1, h3, h4⟩ := h
    exact ⟨p, r, xs, e, t _ _ h1, t _ _ h3, h4.on_ t⟩
structure okM (m : Me) : Prop where
  fr : isFree m.m = true
  pl : m.ps.length ≤ 3
  ps : ∀ w ∈ m.ps, isFree w = true
  ss : okSs m.ss
  o : oSs m.ss ≤ 12
def Tr.ms : Tr → List Me
  | .kind _ _ _ ms => ms
  | .more _ ms => ms
structure okTr (x : Tr) : Prop where
  ml : x.ms.length ≤ 2
  ms : ∀ m ∈ x.ms, okM m
  hd : match x with
    | .kind n q fs _ => isKindName n = true ∧ isKindName q = true ∧ fs.length ≤ 3 ∧ ∀ w ∈ fs, isFree w = true
    | .more n _ => isKindName n = true
def nMs (ms : List Me) : Nat := (ms.map fun m => nSs m.ss).sum
def nTs (ts : List Tr) : Nat := (ts.map fun t => nMs t.ms).sum
def mTs (ts : List Tr) : Nat := (ts.map fun t => t.ms.length).sum
theorem nMs_snoc (ms : List Me) (m : Me) : nMs (ms ++ [m]) = nMs ms + nSs m.ss := by unfold nMs; rw [List.map_append, List.sum_append]; simp
theorem nTs_snoc (ts : List Tr) (t : Tr) : nTs (ts ++ [t]) = nTs ts + nMs t.ms := by unfold nTs; rw [List.map_append, List.sum_append]; simp
theorem mTs_snoc (ts : List Tr) (t : Tr) : mTs (ts ++ [t]) = mTs ts + t.ms.length := by unfold mTs; rw [List.map_append, List.sum_append]; simp
section
variable {P : Program} {w : World} {K : PySem.W.Frag} {mg : Str → Option Value} {base : Heap}
theorem c_noneE (k : Nat) (D : Dn K mg "_law_e" sGE) : C0 P w K mg base (k + 1) "_law_e" spF := by
  obtain ⟨f, fd, F, m⟩ := D.ex
  exact ⟨f, fd, ["_law_deck_here", "_law_depth"], F.ok scGE (fun vs H Q E h => h.elim) (fun cdv A outer s H vs Q E hr h => h.elim), m, F.kp, F.binds (ps := ["_law_deck_here", "_law_depth"]) fun _ _ _ _ _ _ us hl => match us, hl with | [_, _], _ => rfl⟩
theorem c_noneEs (k : Nat) (D : Dn K mg "_law_es" sGEs) : C0 P w K mg base (k + 1) "_law_es" spF := by
  obtain ⟨f, fd, F, m⟩ := D.ex
  exact ⟨f, fd, ["_law_deck_here", "_law_many", "_law_depth"], F.ok scGEs (fun vs H Q E h => h.elim) (fun cdv A outer s H vs Q E hr h => h.elim), m, F.kp, F.binds (ps := ["_law_deck_here", "_law_many", "_law_depth"]) fun _ _ _ _ _ _ us hl => match us, hl with | [_, _, _], _ => rfl⟩
theorem c_noneB (k : Nat) (D : Dn K mg "_law_body" sGB) : C0 P w K mg base (k + 1) "_law_body" spF := by
  obtain ⟨f, fd, F, m⟩ := D.ex
  exact ⟨f, fd, ["_law_deck_here", "_law_many", "_law_depth"], F.ok scGB (fun vs H Q E h => h.elim) (fun cdv A outer s H vs Q E hr h => h.elim), m, F.kp, F.binds (ps := ["_law_deck_here", "_law_many", "_law_depth"]) fun _ _ _ _ _ _ us hl => match us, hl with | [_, _, _], _ => rfl⟩
/-- at every depth -/
theorem gen_all (TS : TxS K mg) (T : TxL mg) (D1 : Dn K mg "_law_e" sGE) (D2 : Dn K mg "_law_es" sGEs) (D3 : Dn K mg "_law_body" sGB) (D4 : Dn K mg "_law_statement" sGS) (GN : C0 P w K mg base 1 "_law_next" spNext) (GW : C0 P w K mg base 1 "_law_word" (spLWord isFree)) (GL : C0 P w K mg base 2 "_law_leaf" spLLeaf) :
    ∀ d : Nat, C0 P w K mg base (3 * d + 4) "_law_e" (spGE d) ∧ C0 P w K mg base (3 * d + 5) "_law_es" (spGEs d) ∧ C0 P w K mg base (3 * d + 6) "_law_body" (spGB d)
  | 0 => by
    have g1 : C0 P w K mg base 4 "_law_e" (spGE 0) := c_ge (d := 0) (k := 1) (by decide) TS T D1 GN GW GL (c_noneE 0 D1) (c_noneEs 1 D2) (c_noneB 2 D3)
    have g2 : C0 P w K mg base 5 "_law_statement" (spGS 0) := c_gs (d := 0) (k := 1) TS T D4 GN GW g1 (c_noneE 0 D1) (c_noneB 2 D3)
    exact ⟨g1, c_ges TS T D2 g1, c_gb TS T D3 g2⟩
  | d + 1 => by
    obtain ⟨h1, h2, h3⟩ := gen_all TS T D1 D2 D3 D4 GN GW GL d
    have g1 : C0 P w K mg base (3 * d + 4 + 3) "_law_e" (spGE (d + 1)) := c_ge (d := d + 1) (k := 3 * d + 4) (by omega) TS T D1 GN GW GL h1 h2 h3
    have g2 : C0 P w K mg base (3 * d + 4 + 4) "_law_statement" (spGS (d + 1)) := c_gs (d := d + 1) (k := 3 * d + 4) TS T D4 GN GW g1 h1 h3
    exact ⟨g1, c_ges TS T D2 g1, c_gb TS T D3 g2⟩
def spGM (d : Nat) : Sp := fun vs H Q _ => ∃ (p l : Addr) (a : Nat) (b : Int) (xs : List Int) (dd : Int), vs = [.ref p, .int dd] ∧ dd = (d : Nat) ∧ d ≤ 12 ∧ DeckAt H p l a b xs ∧ (0 < b → (a : Int) + b + 10 * d + 12 ≤ 9000) ∧ (b ≤ 0 → a + 12 ≤ 9000) ∧
  ∀ m v H', SB p H H' → DeckAt H' p l (a + 1 + nSs m.ss) (b - nSs m.ss) xs → AtM H' m v → okM m → (0 < b → (nSs m.ss : Int) ≤ b + 10 * d + 9) → (b ≤ 0 → nSs m.ss ≤ 8) → Q v H'
theorem scGM : FnScope ["_law_deck_here", "_law_depth", "_law_draw", "_law_words", "_law_k"] ["_law_deck_here", "_law_depth"] (defScope sGM) := ⟨rfl, rfl, rfl, by decide +kernel, rfl, by decide +kernel, by decide +kernel⟩
theorem c_gm {d k : Nat} (hk : 1 ≤ k) (TS : TxS K mg) (T : TxL mg) (D : Dn K mg "_law_method" sGM) (GN : C0 P w K mg base 1 "_law_next" spNext) (GW : C0 P w K mg base 1 "_law_word" (spLWord isFree)) (GB : C0 P w K mg base k "_law_body" (spGB d)) : C0 P w K mg base (k + 1) "_law_method" (spGM d) := by
  obtain ⟨f, fd, F, m⟩ := D.ex
  refine ⟨f, fd, ["_law_deck_here", "_law_depth"], F.ok scGM (fun vs H Q E h => ?_) (fun cdv A outer s H vs Q E hr h => ?_), m, F.kp, F.binds (ps := ["_law_deck_here", "_law_depth"]) fun _ _ _ _ _ _ us hl => match us, hl with | [_, _], _ => rfl⟩
  · obtain ⟨p, l, a, b, xs, dd, rfl, _⟩ := h
    rfl
  obtain ⟨p, l, a, b, xs, dd, rfl, rfl, hd12, hd, hp1, hp2, kq⟩ := h
  refine ⟨_, pss_cons (ps_set (i := 2) scGM.nd rfl (Or.inr rfl) (pe_cc GN hr (by omega) pass0 (pa_cons (pv 0) pa_nil))) <|
    pss_cons (ps_set (i := 3) scGM.nd rfl (Or.inl rfl) (pe_callTy call_tuple_of (by rfl) TS.tup (by decide +kernel) (pa_cons (pe_lc (own := [("_law_k", 4)]) (g := gName 4) (tt := tYes) rfl scGM.nd (pi_range1 rfl T.range (pa_cons (pe_op op_mod (pe_op op_fdiv (pv 2) pe_int) pe_int) pa_nil))
      (blkOk_by (own := [("_law_k", 4)]) (N := ["_law_deck_here", "_law_depth", "_law_draw", "_law_words", "_law_k"]) (sc := defScope sGM) (by decide +kernel)) (fun _ _ _ _ _ => pg_name (i := 4) scGM.nd rfl (Or.inl rfl)) (fun _ _ _ _ _ => pts_nil)
      (fun _ _ _ _ _ => pe_cc GW hr (by omega) pass0 (pa_cons (pe_op op_add (pe_op op_fdiv (pv 2) pe_int) (pe_op op_mul pe_int (pv 4))) pa_nil))) pa_nil))) <|
    pss_one (ps_ret (pe_tup (pa_cons pe_str (pa_cons (pe_cc GW hr (by omega) pass0 (pa_cons (pv 2) pa_nil)) (pa_cons (pv 3) (pa_cons (pe_cc GB hr (by omega) pass0 (pa_cons (pv 0) (pa_cons (pe_op op_mod (pe_op op_fdiv (pv 2) pe_int) pe_int) (pa_cons (pv 1) pa_nil)))) pa_nil)))))), ?_⟩
  have ha : a ≤ 10000 := by
    by_cases hb : 0 < b
    · have := hp1 hb; omega
    · have := hp2 (by omega); omega
  refine ⟨_, rfl, p, l, a, b, xs, rfl, hd, ha, fun n hn d2 => ?_⟩
  have s2 : SB p H (upd H p (.lst [.int ((a + 1 : Nat) : Int), .ref l, .int b])) := SB.upd _
  generalize upd H p (.lst [.int ((a + 1 : Nat) : Int), .ref l, .int b]) = H2 at d2 s2 ⊢
  obtain ⟨m3, em3, hm3⟩ := emod_nat (n / 100) (n := 4) (by decide)
  refine ⟨_, rfl, _, _, rfl, rfl, ⟨by decide, by decide⟩, _, _, rfl, rfl, (by show (0 : Int) < 4; decide), ((m3 : Nat) : Int), by rw [← em3]; rfl, by omega, by omega, fun D0 hD0 => ?_⟩
  refine lc_range (lo := 0) (n := ((m3 : Nat) : Int).toNat) (fun i H3 => ∃ (ws : List (List Nat)), Same H2 H3 ∧ H3 D0 = some (.lst (wsV ws)) ∧ ws.length = i ∧ ∀ z ∈ ws, isFree z = true) ⟨[], same_new hD0 _, upd_same, rfl, fun z hz => by simp at hz⟩ ?_ ?_
  · rintro i H3 hi ⟨ws, s3, h3, hl3, hf3⟩
    have hi' : i < m3 := by omega
    refine ⟨rfl, ?_⟩
    unfold tYes
    refine iteT ?_
    refine ⟨_, rfl, _, _, rfl, rfl, ⟨by decide, by decide⟩, _, rfl, _, _, rfl, rfl, .inl ⟨by omega, by omega⟩, _, _, rfl, rfl, _, rfl, fun z H4 s4 gz => ?_⟩
    refine ⟨wsV ws, s4 _ _ h3, by unfold wsV; rw [List.length_map, sizeLine_eq]; omega, ws ++ [z], ?_, ?_, by rw [List.length_append, hl3]; rfl, fun x hx => ?_⟩
    · intro q u h
      rw [upd_ne (ne_of_none h hD0)]
      exact s4 _ _ (s3 _ _ h)
    · rw [upd_same]
      unfold wsV
      rw [List.map_append]
      rfl
    · rcases List.mem_append.mp hx with hx | hx
      · exact hf3 x hx
      · have : x = z := by simpa using hx
        rw [this]
        exact gz
  rintro H3 ⟨ws, s3, h3, hl3, hf3⟩
  refine ⟨D0, _, rfl, .inl ⟨SqL.of h3, fun tq htq => ?_⟩⟩
  have s4 := s3.trans (same_new htq (.tup (wsV ws)))
  have aw : AtW (upd H3 tq (.tup (wsV ws))) ws (.ref tq) := ⟨tq, rfl, upd_same⟩
  generalize upd H3 tq (.tup (wsV ws)) = H4 at s4 aw ⊢
  refine ⟨_, rfl, _, rfl, fun z H5 s5 gz => ?_⟩
  have s6 := s4.trans s5
  have d6 := d2.same s6
  obtain ⟨mm, emm, hmm⟩ := emod_nat (n / 400) (n := 5) (by decide)
  refine ⟨_, rfl, _, rfl, _, rfl, _, _, rfl, rfl, ⟨by decide, by decide⟩, _, _, rfl, rfl, (by show (0 : Int) < 5; decide), _, rfl, p, l, _, _, xs, _, _, mm, rfl, rfl, emm, by omega, d6, fun h => ?_, fun h => ?_, fun es q ys H7 s7 d7 hq at7 ok7 o7 g3 g4 => ?_⟩
  · have := hp1 h; omega
  · have := hp2 h; omega
  refine ⟨by show 4 ≤ sizeLine; decide, fun r hr2 => ?_⟩
  have sr := same_new hr2 (.tup [S_ "method", .str (mk z), .ref tq, .ref q])
  have t7 := ((same_tups s5).trans (s7.tups d6.1)).trans (same_tups sr)
  refine kq ⟨z, ws, es⟩ (.ref r) _ ((s2.trans (SB.same s6)).trans (s7.trans (SB.same sr))) (d7.same sr) ⟨r, _, q, ys, rfl, upd_same, aw.on t7, sr _ _ hq, at7.on_ (same_tups sr)⟩ ⟨gz, by show ws.length ≤ 3; omega, hf3, ok7, Nat.le_trans o7 hd12⟩ (fun h => ?_) (fun h => ?_)
  · have := g3 h
    show ((nSs es : Nat) : Int) ≤ _
    omega
  · have := g4 h
    show nSs es ≤ 8
    omega
end
end My
set_option Elab.async false
set_option linter.all false
set_option maxRecDepth 100000
set_option maxHeartbeats 4000000
namespace My
open PySem L2 SS
abbrev sGT : Stmt := top 23
section
variable {P : Program} {w : World} {K : PySem.W.Frag} {mg : Str → Option Value} {base : Heap}
abbrev AtTs (H : Hp) (ts : List Tr) (vs : List V) : Prop := AtL AtTr H ts vs
theorem AtTs.on_ {H H' : Hp} (t : Tups H H') {ts : List Tr} {vs : List V} (h : AtTs H ts vs) : AtTs H' ts vs := AtL.on t (fun _ _ h => h.on t) h
def spGT : Sp := fun vs H Q _ => ∃ (p l : Addr) (a : Nat) (xs : List Int) (dd : Int) (d : Nat), vs = [.ref p, .int dd] ∧ dd = (d : Nat) ∧ d ≤ 12 ∧ DeckAt H p l a 70 xs ∧ a ≤ 10 ∧
  ∀ ts q ys a' b' H', SB p H H' → DeckAt H' p l a' b' xs → a' ≤ 400 → H' q = some (.tup ys) → AtTs H' ts ys → (∀ t ∈ ts, okTr t) → ts.length ≤ 3 → nTs ts ≤ 247 → Q (.ref q) H'
theorem scGT : FnScope ["_law_deck_here", "_law_depth", "_law_found", "_law_k", "_law_draw", "_law_methods", "_law_fields", "_law_n"] ["_law_deck_here", "_law_depth"] (defScope sGT) := ⟨rfl, rfl, rfl, by decide +kernel, rfl, by decide +kernel, by decide +kernel⟩
theorem c_gt {k : Nat} (hk : 1 ≤ k) (TS : TxS K mg) (T : TxL mg) (D : Dn K mg "_law_trees" sGT) (GN : C0 P w K mg base 1 "_law_next" spNext) (GW : C0 P w K mg base 1 "_law_word" (spLWord isFree)) (GK : C0 P w K mg base 1 "_law_name" (spLWord isKindName)) (GM : ∀ d, d ≤ 12 → C0 P w K mg base k "_law_method" (spGM d)) : C0 P w K mg base (k + 1) "_law_trees" spGT := by
  obtain ⟨f, fd, F, m⟩ := D.ex
  refine ⟨f, fd, ["_law_deck_here", "_law_depth"], F.ok scGT (fun vs H Q E h => ?_) (fun cdv A outer s H vs Q E hr h => ?_), m, F.kp, F.binds (ps := ["_law_deck_here", "_law_depth"]) fun _ _ _ _ _ _ us hl => match us, hl with | [_, _], _ => rfl⟩
  · obtain ⟨p, l, a, xs, dd, d, rfl, _⟩ := h
    rfl
  obtain ⟨p, l, a, xs, dd, d, rfl, rfl, hd12, hd, ha, kq⟩ := h
  refine ⟨_, pss_cons (ps_set (i := 2) scGT.nd rfl (Or.inl rfl) (pe_lst pa_nil)) <|
    pss_cons (ps_for PassesOwn.never rfl (pi_range1 rfl T.range (pa_cons (pe_op op_add (pe_op op_mod (pe_cc GN hr (by omega) pass0 (pa_cons (pv 0) pa_nil)) pe_int) (pe_op op_mod (pe_cc GN hr (by omega) pass0 (pa_cons (pv 0) pa_nil)) pe_int)) pa_nil)) (pg_name (i := 3) scGT.nd rfl (Or.inl rfl)) <|
      pss_cons (ps_set (i := 4) scGT.nd rfl (Or.inr rfl) (pe_cc GN hr (by omega) pass0 (pa_cons (pv 0) pa_nil))) <|
      pss_cons (ps_set (i := 5) scGT.nd rfl (Or.inl rfl) (pe_callTy call_tuple_of (by rfl) TS.tup (by decide +kernel) (pa_cons (pe_lc (own := [("_law_n", 7)]) (g := gName 7) (tt := tYes) rfl scGT.nd (pi_range1 rfl T.range (pa_cons (pe_op op_mod (pe_op op_fdiv (pv 4) pe_int) pe_int) pa_nil))
        (blkOk_by (own := [("_law_n", 7)]) (N := ["_law_deck_here", "_law_depth", "_law_found", "_law_k", "_law_draw", "_law_methods", "_law_fields", "_law_n"]) (sc := defScope sGT) (by decide +kernel)) (fun _ _ _ _ _ => pg_name (i := 7) scGT.nd rfl (Or.inl rfl)) (fun _ _ _ _ _ => pts_nil)
        (fun _ _ _ _ _ => pe_cc (GM d hd12) hr (by omega) pass0 (pa_cons (pv 0) (pa_cons (pv 1) pa_nil)))) pa_nil))) <|
      pss_cons (ps_set (i := 6) scGT.nd rfl (Or.inl rfl) (pe_callTy call_tuple_of (by rfl) TS.tup (by decide +kernel) (pa_cons (pe_lc (own := [("_law_n", 7)]) (g := gName 7) (tt := tYes) rfl scGT.nd (pi_range1 rfl T.range (pa_cons (pe_op op_mod (pe_op op_fdiv (pv 4) pe_int) pe_int) pa_nil))
        (blkOk_by (own := [("_law_n", 7)]) (N := ["_law_deck_here", "_law_depth", "_law_found", "_law_k", "_law_draw", "_law_methods", "_law_fields", "_law_n"]) (sc := defScope sGT) (by decide +kernel)) (fun _ _ _ _ _ => pg_name (i := 7) scGT.nd rfl (Or.inl rfl)) (fun _ _ _ _ _ => pts_nil)
        (fun _ _ _ _ _ => pe_cc GW hr (by omega) pass0 (pa_cons (pe_op op_add (pe_op op_fdiv (pv 4) pe_int) (pv 7)) pa_nil))) pa_nil))) <|
      pss_one (ps_if (pt_cmpR op_eq (pe_op op_mod (pv 4) pe_int) pe_int (nomark _))
        (pss_one (ps_expr (pe_bm PySem.F.plainAttrs_list PySem.F.slot_list_append PySem.F.type_list_append mt_append (pv 2) (pa_cons (pe_tup (pa_cons pe_str (pa_cons (pe_cc GK hr (by omega) pass0 (pa_cons (pe_op op_fdiv (pv 4) pe_int) pa_nil)) (pa_cons (pv 5) pa_nil)))) pa_nil))))
        (pss_one (ps_expr (pe_bm PySem.F.plainAttrs_list PySem.F.slot_list_append PySem.F.type_list_append mt_append (pv 2) (pa_cons (pe_tup (pa_cons pe_str (pa_cons (pe_cc GK hr (by omega) pass0 (pa_cons (pe_op op_fdiv (pv 4) pe_int) pa_nil)) (pa_cons (pe_cc GK hr (by omega) pass0 (pa_cons (pe_op op_fdiv (pv 4) pe_int) pa_nil)) (pa_cons (pv 6) (pa_cons (pv 5) pa_nil)))))) pa_nil)))))) <|
    pss_one (ps_ret (pe_callTy call_tuple_of (by rfl) TS.tup (by decide +kernel) (pa_cons (pv 2) pa_nil))), ?_⟩
  refine ⟨Nat.zero_le _, fun Lf hLf => ?_⟩
  have hfn := hd.ne hLf
  have d1 := hd.new hLf (.lst [])
  have s1 : SB p H (upd H Lf (.lst [])) := SB.same (same_new hLf _)
  have f1 : upd H Lf (.lst []) Lf = some (.lst []) := upd_same
  generalize upd H Lf (.lst []) = H1 at d1 s1 f1 ⊢
  refine ⟨_, rfl, p, l, a, 70, xs, rfl, d1, by omega, fun n1 hn1 d2 => ?_⟩
  have s2 : SB p H (upd H1 p (.lst [.int ((a + 1 : Nat) : Int), .ref l, .int 70])) := s1.trans (SB.upd _)
  have f2 : upd H1 p (.lst [.int ((a + 1 : Nat) : Int), .ref l, .int 70]) Lf = some (.lst []) := by rw [upd_ne hfn.1]; exact f1
  generalize upd H1 p (.lst [.int ((a + 1 : Nat) : Int), .ref l, .int 70]) = H2 at d2 s2 f2 ⊢
  refine ⟨_, _, rfl, rfl, (by show (0 : Int) < 3; decide), _, rfl, p, l, a + 1, 70, xs, rfl, d2, by omega, fun n2 hn2 d3 => ?_⟩
  have s3 : SB p H (upd H2 p (.lst [.int ((a + 1 + 1 : Nat) : Int), .ref l, .int 70])) := s2.trans (SB.upd _)
  have f3 : upd H2 p (.lst [.int ((a + 1 + 1 : Nat) : Int), .ref l, .int 70]) Lf = some (.lst []) := by rw [upd_ne hfn.1]; exact f2
  generalize upd H2 p (.lst [.int ((a + 1 + 1 : Nat) : Int), .ref l, .int 70]) = H3 at d3 s3 f3 ⊢
  obtain ⟨c1, ec1, hc1⟩ := emod_nat n1 (n := 3) (by decide)
  obtain ⟨c2, ec2, hc2⟩ := emod_nat n2 (n := 2) (by decide)
  have ec : n1 % 3 + n2 % 2 = ((c1 + c2 : Nat) : Int) := by
    have e1 : n1 % 3 = ((c1 : Nat) : Int) := ec1
    have e2 : n2 % 2 = ((c2 : Nat) : Int) := ec2
    omega
  refine ⟨_, _, rfl, rfl, (by show (0 : Int) < 2; decide), _, _, rfl, rfl, ((c1 + c2 : Nat) : Int), by rw [← ec], by omega, by omega, ?_⟩
  refine for_range (lo := 0) (n := ((c1 + c2 : Nat) : Int).toNat) (fun i σ H4 => ∃ (ts : List Tr) (vs : List V) (v3 v4 v5 v6 : Option V), σ = [some (.ref p), some (.int (d : Nat)), some (.ref Lf), v3, v4, v5, v6, none] ∧ SB p H H4 ∧ DeckAt H4 p l (a + 2 + ts.length + mTs ts + nTs ts) (70 - nTs ts) xs ∧ H4 Lf = some (.lst vs) ∧ AtTs H4 ts vs ∧ (∀ t ∈ ts, okTr t) ∧ ts.length = i ∧ mTs ts ≤ 2 * i ∧ nTs ts ≤ 199 + 8 * mTs ts)
    ⟨[], [], none, none, none, none, rfl, s3, d3.cast (by rfl) (by rfl), f3, rfl, fun t ht => by simp at ht, rfl, Nat.zero_le _, Nat.zero_le _⟩ ?_ ?_
  · rintro i σ H4 hi ⟨ts, vs, v3, v4, v5, v6, rfl, s4, d4, f4, at4, ok4, l4, m4, n4⟩
    have hi' : i < 3 := by omega
    show gName 3 _ _ _ _
    refine ⟨_, rfl, p, l, _, _, xs, rfl, d4, by omega, fun dr hdr d5 => ?_⟩
    have s5 : SB p H4 (upd H4 p (.lst [.int ((a + 2 + ts.length + mTs ts + nTs ts + 1 : Nat) : Int), .ref l, .int (70 - nTs ts)])) := SB.upd _
    generalize upd H4 p (.lst [.int ((a + 2 + ts.length + mTs ts + nTs ts + 1 : Nat) : Int), .ref l, .int (70 - nTs ts)]) = H5 at d5 s5 ⊢
    obtain ⟨c3, ec3, hc3⟩ := emod_nat (dr / 36) (n := 3) (by decide)
    refine ⟨_, rfl, _, _, rfl, rfl, ⟨by decide, by decide⟩, _, _, rfl, rfl, (by show (0 : Int) < 3; decide), ((c3 : Nat) : Int), by rw [← ec3]; rfl, by omega, by omega, fun D0 hD0 => ?_⟩
    have hDn := d5.ne hD0
    refine lc_range (lo := 0) (n := ((c3 : Nat) : Int).toNat) (fun j H6 => ∃ (ms : List Me) (ys : List V), SB p H5 H6 ∧ DeckAt H6 p l (a + 2 + ts.length + mTs ts + nTs ts + 1 + ms.length + nMs ms) (70 - nTs ts - nMs ms) xs ∧ H6 D0 = some (.lst ys) ∧ AtMs H6 ms ys ∧ (∀ m ∈ ms, okM m) ∧ ms.length = j ∧ nTs ts + nMs ms ≤ 199 + 8 * (mTs ts + j))
      ⟨[], [], SB.same (same_new hD0 _), (d5.new hD0 _).cast (by rfl) (by show _ = 70 - (nTs ts : Int) - ((0 : Nat) : Int); omega), upd_same, rfl, fun t ht => by simp at ht, rfl, by show nTs ts + 0 ≤ _; omega⟩ ?_ ?_
    · rintro j H6 hj ⟨ms, ys, s6, d6, f6, at6, ok6, l6, n6⟩
      have hj' : j < c3 := by omega
      refine ⟨rfl, ?_⟩
      unfold tYes
      refine iteT ?_
      refine ⟨_, rfl, _, rfl, p, l, _, _, xs, _, rfl, rfl, hd12, d6, fun h => by omega, fun h => by omega, fun m v H7 s7 d7 at7 ok7 g1 g2 => ?_⟩
      have hf7 : H7 D0 = some (.lst ys) := s7 _ _ hDn.1 f6
      have t7 : Tups H6 (upd H7 D0 (.lst (ys ++ [v]))) := (s7.tups d6.1).trans (tups_lst hf7)
      refine ⟨ys, hf7, by rw [at6.len, l6, sizeLine_eq]; omega, ms ++ [m], ys ++ [v], ?_, ?_, upd_same, (at6.on_ t7).snoc (at7.on (tups_lst hf7)), fun x hx => ?_, by rw [List.length_append, l6]; rfl, ?_⟩
      · intro q u n h
        rw [upd_ne (ne_of_none h hD0)]
        exact s7 q u n (s6 q u n h)
      · have d8 := d7.cast (a' := a + 2 + ts.length + mTs ts + nTs ts + 1 + (ms ++ [m]).length + nMs (ms ++ [m])) (b' := 70 - (nTs ts : Int) - (nMs (ms ++ [m]) : Nat)) (by rw [nMs_snoc, List.length_append]; simp only [List.length_cons, List.length_nil]; omega) (by rw [nMs_snoc]; omega)
        exact ⟨by rw [upd_ne hDn.1.symm]; exact d8.1, by rw [upd_ne hDn.2.symm]; exact d8.2.1, d8.2.2⟩
      · rcases List.mem_append.mp hx with hx | hx
        · exact ok6 x hx
        · have : x = m := by simpa using hx
          rw [this]
          exact ok7
      · rw [nMs_snoc]
        by_cases h : 0 < 70 - (nTs ts : Int) - (nMs ms : Nat)
        · have := g1 h; omega
        · have := g2 (by omega); omega
    rintro H6 ⟨ms, ys, s6, d6, f6, at6, ok6, l6, n6⟩
    have l6' : ms.length = c3 := by omega
    refine ⟨D0, ys, rfl, .inl ⟨SqL.of f6, fun tm htm => ?_⟩⟩
    have sm := same_new htm (.tup ys)
    have d7 := d6.same sm
    have s7 : SB p H4 (upd H6 tm (.tup ys)) := (s5.trans s6).trans (SB.same sm)
    have am7 : upd H6 tm (.tup ys) tm = some (.tup ys) := upd_same
    have at7 := at6.on_ (same_tups sm)
    generalize upd H6 tm (.tup ys) = H7 at d7 s7 am7 at7 ⊢
    obtain ⟨c4, ec4, hc4⟩ := emod_nat (dr / 7) (n := 4) (by decide)
    refine ⟨_, rfl, _, _, rfl, rfl, ⟨by decide, by decide⟩, _, _, rfl, rfl, (by show (0 : Int) < 4; decide), ((c4 : Nat) : Int), by rw [← ec4]; rfl, by omega, by omega, fun D1 hD1 => ?_⟩
    refine lc_range (lo := 0) (n := ((c4 : Nat) : Int).toNat) (fun j H8 => ∃ (ws : List (List Nat)), Same H7 H8 ∧ H8 D1 = some (.lst (wsV ws)) ∧ ws.length = j ∧ ∀ z ∈ ws, isFree z = true) ⟨[], same_new hD1 _, upd_same, rfl, fun z hz => by simp at hz⟩ ?_ ?_
    · rintro j H8 hj ⟨ws, s8, h8, l8, f8⟩
      have hj' : j < c4 := by omega
      refine ⟨rfl, ?_⟩
      unfold tYes
      refine iteT ?_
      refine ⟨_, rfl, _, _, rfl, rfl, ⟨by decide, by decide⟩, _, rfl, _, _, rfl, rfl, _, rfl, fun z H9 s9 gz => ?_⟩
      refine ⟨wsV ws, s9 _ _ h8, by unfold wsV; rw [List.length_map, sizeLine_eq]; omega, ws ++ [z], ?_, ?_, by rw [List.length_append, l8]; rfl, fun x hx => ?_⟩
      · intro q u h
        rw [upd_ne (ne_of_none h hD1)]
        exact s9 _ _ (s8 _ _ h)
      · rw [upd_same]
        unfold wsV
        rw [List.map_append]
        rfl
      · rcases List.mem_append.mp hx with hx | hx
        · exact f8 x hx
        · have : x = z := by simpa using hx
          rw [this]
          exact gz
    rintro H8 ⟨ws, s8, h8, l8, f8⟩
    refine ⟨D1, _, rfl, .inl ⟨SqL.of h8, fun tq htq => ?_⟩⟩
    have s9 : Same H7 (upd H8 tq (.tup (wsV ws))) := s8.trans (same_new htq _)
    have aw : AtW (upd H8 tq (.tup (wsV ws))) ws (.ref tq) := ⟨tq, rfl, upd_same⟩
    generalize upd H8 tq (.tup (wsV ws)) = H9 at s9 aw ⊢
    have d9 := d7.same s9
    have f9 : H9 Lf = some (.lst vs) := s9 _ _ (s7 _ _ hfn.1 f4)
    -- what one tree more makes
    have fin : ∀ (t : Tr) (H10 : Hp) (r : Addr) (xs' : List V), Same H9 H10 → H10 r = none → okTr t → t.ms = ms → AtTr (upd H10 r (.tup xs')) t (.ref r) → ∀ v3 v4 v5 v6 : Option V, ∃ (ts : List Tr) (vs' : List V) (w3 w4 w5 w6 : Option V), [some (.ref p), some (.int (d : Nat)), some (.ref Lf), v3, v4, v5, v6, none] = [some (.ref p), some (.int (d : Nat)), some (.ref Lf), w3, w4, w5, w6, none] ∧ SB p H (upd (upd H10 r (.tup xs')) Lf (.lst (vs ++ [.ref r]))) ∧
        DeckAt (upd (upd H10 r (.tup xs')) Lf (.lst (vs ++ [.ref r]))) p l (a + 2 + ts.length + mTs ts + nTs ts) (70 - nTs ts) xs ∧ upd (upd H10 r (.tup xs')) Lf (.lst (vs ++ [.ref r])) Lf = some (.lst vs') ∧ AtTs (upd (upd H10 r (.tup xs')) Lf (.lst (vs ++ [.ref r]))) ts vs' ∧ (∀ t ∈ ts, okTr t) ∧ ts.length = i + 1 ∧ mTs ts ≤ 2 * (i + 1) ∧ nTs ts ≤ 199 + 8 * mTs ts := fun t H10 r xs' s10 hr10 okt etm att v3 v4 v5 v6 => by
      have s11 : Same H9 (upd H10 r (.tup xs')) := s10.trans (same_new hr10 _)
      have f11 := s11 _ _ f9
      have t11 : Tups H4 (upd (upd H10 r (.tup xs')) Lf (.lst (vs ++ [.ref r]))) := ((s7.tups d4.1).trans (same_tups (s9.trans s11))).trans (tups_lst f11)
      have d11 := (d9.same s11).cast (a' := a + 2 + (ts ++ [t]).length + mTs (ts ++ [t]) + nTs (ts ++ [t])) (b' := 70 - (nTs (ts ++ [t]) : Nat)) (by rw [mTs_snoc, nTs_snoc, etm, List.length_append]; simp only [List.length_cons, List.length_nil]; omega) (by rw [nTs_snoc, etm]; omega)
      refine ⟨ts ++ [t], vs ++ [.ref r], v3, v4, v5, v6, rfl, ?_, ⟨by rw [upd_ne hfn.1.symm]; exact d11.1, by rw [upd_ne hfn.2.symm]; exact d11.2.1, d11.2.2⟩, upd_same, (at4.on_ t11).snoc (att.on (tups_lst f11)), fun x hx => ?_, by rw [List.length_append, l4]; rfl, by rw [mTs_snoc, etm]; omega, by rw [mTs_snoc, nTs_snoc, etm]; omega⟩
      · intro q u n h
        rw [upd_ne (ne_of_none h hLf)]
        exact s11 _ _ (s9 _ _ (s7 q u n (s4 q u n h)))
      · rcases List.mem_append.mp hx with hx | hx
        · exact ok4 x hx
        · have : x = t := by simpa using hx
          rw [this]
          exact okt
    refine ⟨_, rfl, _, _, rfl, rfl, (by show (0 : Int) < 3; decide), rfl, _, rfl, ?_⟩
    refine ite2 (fun c => ?_) (fun c => ?_)
    · refine ⟨_, rfl, .inl ⟨rfl, _, SqL.of f9⟩, _, rfl, _, _, rfl, rfl, ⟨by decide, by decide⟩, _, rfl, fun z H10 s10 gz => ?_⟩
      refine ⟨_, rfl, by show 3 ≤ sizeLine; decide, fun r hr10 => ?_⟩
      have sr := same_new hr10 (.tup [S_ "more", .str (mk z), .ref tm])
      refine ⟨Lf, vs, .ref r, rfl, rfl, sr _ _ (s10 _ _ f9), by rw [at4.len, l4, sizeLine_eq]; omega, ?_⟩
      exact fin (.more z ms) H10 r _ s10 hr10 ⟨by show ms.length ≤ 2; omega, ok6, gz⟩ rfl ⟨r, tm, ys, rfl, upd_same, sr _ _ (s10 _ _ (s9 _ _ am7)), at7.on_ (same_tups (s9.trans (s10.trans sr)))⟩ _ _ _ _
    · refine ⟨_, rfl, .inl ⟨rfl, _, SqL.of f9⟩, _, rfl, _, _, rfl, rfl, ⟨by decide, by decide⟩, _, rfl, fun z H10 s10 gz => ?_⟩
      refine ⟨_, rfl, _, _, rfl, rfl, ⟨by decide, by decide⟩, _, rfl, fun z2 H11 s11 gz2 => ?_⟩
      refine ⟨_, rfl, _, rfl, by show 5 ≤ sizeLine; decide, fun r hr10 => ?_⟩
      have sr := same_new hr10 (.tup [S_ "kind", .str (mk z), .str (mk z2), .ref tq, .ref tm])
      refine ⟨Lf, vs, .ref r, rfl, rfl, sr _ _ (s11 _ _ (s10 _ _ f9)), by rw [at4.len, l4, sizeLine_eq]; omega, ?_⟩
      exact fin (.kind z z2 ws ms) H11 r _ (s10.trans s11) hr10 ⟨by show ms.length ≤ 2; omega, ok6, gz, gz2, by omega, f8⟩ rfl ⟨r, _, tm, ys, rfl, upd_same, aw.on (same_tups (s10.trans (s11.trans sr))), sr _ _ (s11 _ _ (s10 _ _ (s9 _ _ am7))), at7.on_ (same_tups (s9.trans (s10.trans (s11.trans sr))))⟩ _ _ _ _
  · rintro σ H4 ⟨ts, vs, v3, v4, v5, v6, rfl, s4, d4, f4, at4, ok4, l4, m4, n4⟩
    have l4' : ts.length = c1 + c2 := by omega
    refine ⟨_, rfl, Lf, vs, rfl, .inl ⟨SqL.of f4, fun q hq => ?_⟩⟩
    have sq := same_new hq (.tup vs)
    exact kq ts q vs _ _ _ (s4.trans (SB.same sq)) (d4.same sq) (by omega) upd_same (at4.on_ (same_tups sq)) ok4 (by omega) (by omega)
end
end My
set_option Elab.async false
set_option linter.all false
set_option maxRecDepth 100000
set_option maxHeartbeats 4000000
namespace My
open PySem L2 SS
abbrev sWLeaf : Stmt := top 24
abbrev sWAll : Stmt := top 25
abbrev sWPlain : Stmt := top 26
abbrev sWClosed : Stmt := top 27
abbrev sWNode : Stmt := top 28
theorem call_str2 {X : Cx} : CallR X (.type "str") (fun xs H Q => (∃ i, xs = [.int i] ∧ i.natAbs.log2 < 1920 ∧ Q (.str (toString i)) H) ∨ ∃ a, xs = [.str a] ∧ Q (.str a) H) := by
  exact call_str_int.or SkE.call_str_str
theorem tl_add (a b : Str) : tl (a ++ b) = tl a ++ tl b := by
  show (a.cps ++ b.cps).toList = _
  simp
theorem add_mk (a b : Str) : a ++ b = mk (tl a ++ tl b) := by rw [← tl_add, mk_tl]
/-- a leaf that is one word -/
def leafT : Ex → Option T
  | .num n => some (numT n)
  | .txt s => some (39 :: s)
  | .tru true => some (tk "true")
  | .tru false => some (tk "false")
  | .non => some (tk "none")
  | .slf => some (tk "self")
  | .nam w => some w
  | .fld w => some (64 :: w)
  | _ => none
theorem leafT_w {e : Ex} {z : T} (h : leafT e = some z) : wE e = [(z, true)] := by
  cases e with
  | tru b => cases b <;> (simp only [leafT, Option.some.injEq] at h; subst h; rfl)
  | _ => first | (simp only [leafT, Option.some.injEq] at h; subst h; rfl) | (simp [leafT] at h)
section
variable {P : Program} {w : World} {K : PySem.W.Frag} {mg : Str → Option Value} {base : Heap}
def spWLeaf : Sp := fun vs H Q _ => ∃ (e : Ex) (z : List Nat) (v : V), vs = [v] ∧ AtE H e v ∧ okE e ∧ leafT e = some z ∧ ∀ H', Same H H' → Q (.str (mk z)) H'
theorem scWLeaf : FnScope ["_law_node", "_law_word_here"] ["_law_node"] (defScope sWLeaf) := ⟨rfl, rfl, rfl, by decide +kernel, rfl, by decide +kernel, by decide +kernel⟩
def leafD : List (Key × V) := [(Sum.inr (Str.ofString "number"), V.str (Str.ofString "")), (Sum.inr (Str.ofString "text"), V.str (Str.ofString "'")), (Sum.inr (Str.ofString "name"), V.str (Str.ofString "")), (Sum.inr (Str.ofString "field"), V.str (Str.ofString "@"))]
theorem c_wleaf (TS : TxS K mg) (D : Dn K mg "_law_leaf_word" sWLeaf) : C0 P w K mg base 1 "_law_leaf_word" spWLeaf := by
  obtain ⟨f, fd, F, m⟩ := D.ex
  refine ⟨f, fd, ["_law_node"], F.ok scWLeaf (fun vs H Q E h => ?_) (fun cdv A outer s H vs Q E hr h => ?_), m, F.kp, F.binds (ps := ["_law_node"]) fun _ _ _ _ _ _ us hl => match us, hl with | [_], _ => rfl⟩
  · obtain ⟨e, z, v, rfl, _⟩ := h
    rfl
  obtain ⟨e, z, v, rfl, at1, ok, hz, k⟩ := h
  refine ⟨_, pss_cons (ps_set (i := 1) scWLeaf.nd rfl (Or.inl rfl) (pe_ix ix_tup (pv 0) pe_int (fun _ _ => rfl))) <|
    pss_cons (ps_if (pt_cmpR op_eq (pv 1) pe_str (nomark _)) (pss_one (ps_ret (pe_ix ix_list (pe_lst (pa_cons pe_str (pa_cons pe_str pa_nil))) (pe_callTy call_int1 (by rfl) TS.int (by decide +kernel) (pa_cons (pe_ix ix_tup (pv 0) pe_int (fun _ _ => rfl)) pa_nil)) (fun _ _ => rfl)))) pss_nil) <|
    pss_cons (ps_if (PW.pt (pw_or (pt_cmpR op_eq (pv 1) pe_str (nomark _)) (pw_or1 (pt_cmpR op_eq (pv 1) pe_str (nomark _))))) (pss_one (ps_ret (pv 1))) pss_nil) <|
    pss_one (ps_ret (pe_op op_add_str (pe_dget (hu_of hr) (pe_disp (pps_cons pe_str pe_str (pps_cons pe_str pe_str (pps_cons pe_str pe_str (pps_cons pe_str pe_str pps_nil)))) (by rfl) (by rfl) (fun z => by cases z) (by decide)) (pv 1) (fun _ _ => rfl)) (pe_callTy call_str2 (by rfl) TS.str (by decide +kernel) (pa_cons (pe_ix ix_tup (pv 0) pe_int (fun _ _ => rfl)) pa_nil)))), ?_⟩
  -- the dict's part
  have dict : ∀ (p : Addr) (ys : List V) (word : Str) (pre : Str) (u : V), H p = some (.tup ys) → ys[1]? = some u → valV (mergeK [] leafD) (Sum.inr word) = some (V.str pre) → ((∃ i, u = .int i ∧ i.natAbs.log2 < 1920 ∧ pre.length + (numStr i).length ≤ sizeLine ∧ pre ++ numStr i = mk z) ∨ (∃ a, u = .str a ∧ pre.length + a.length ≤ sizeLine ∧ pre ++ a = mk z)) →
      tOp (fun x y H Q => ∃ i j, x = V.str i ∧ y = V.str j ∧ i.length + j.length ≤ sizeLine ∧ Q (V.str (i ++ j)) H) (tDGet (tDisp [(tC (.str (Str.ofString "number")), tC (.str (Str.ofString ""))), (tC (.str (Str.ofString "text")), tC (.str (Str.ofString "'"))), (tC (.str (Str.ofString "name")), tC (.str (Str.ofString ""))), (tC (.str (Str.ofString "field")), tC (.str (Str.ofString "@")))]) (tVar 1))
        (tCB (fun xs H Q => (∃ i, xs = [.int i] ∧ i.natAbs.log2 < 1920 ∧ Q (.str (toString i)) H) ∨ ∃ a, xs = [.str a] ∧ Q (.str a) H) (tCons (tOp (rIxT K) (tVar 0) (tC (.int 1))) tNil)) [some (.ref p), some (.str word)] H Q := fun p ys word pre u hp hu hval hor => by
    refine fun q hq => ⟨upd_same, leafD, rfl, by decide, _, rfl, q, .str pre, rfl, ?_, ?_⟩
    · have := DGet.k (k := Sum.inr word) (kvs := mergeK [] leafD) (H := upd (upd H q (.dK [])) q (.dK (mergeK [] leafD))) (a := q) upd_same
      rw [hval] at this
      exact this
    have s2 : Same H (upd (upd H q (.dK [])) q (.dK (mergeK [] leafD))) := fun b u e => by
      rw [upd_ne (ne_of_none e hq), upd_ne (ne_of_none e hq)]
      exact e
    refine ⟨_, rfl, p, _, _, _, rfl, rfl, SqT.of (s2 _ _ hp), atI_nat (j := 1) hu, ?_⟩
    rcases hor with ⟨i, rfl, h1, h2, h3⟩ | ⟨a, rfl, h2, h3⟩
    · refine .inl ⟨i, rfl, h1, _, _, rfl, rfl, h2, ?_⟩
      have := k _ s2
      rw [← h3] at this
      exact this
    · refine .inr ⟨a, rfl, _, _, rfl, rfl, h2, ?_⟩
      have := k _ s2
      rw [← h3] at this
      exact this
  cases e with
  | num n =>
    obtain ⟨p, rfl, hp⟩ := at1
    obtain rfl : numT n = z := Option.some.inj hz
    refine ⟨_, rfl, p, _, _, _, rfl, rfl, SqT.of hp, atI_0, _, rfl, rfl, _, rfl, ite2 (fun c => absurd c (by decide +kernel)) (fun _ => ⟨_, rfl, rfl, _, rfl, ite2 (fun c => absurd c (by decide +kernel)) (fun _ => ⟨_, rfl, rfl, _, rfl, ite2 (fun c => absurd c (by decide +kernel)) (fun _ => ?_)⟩)⟩)⟩
    have hl := numT_len ok.1 ok.2
    refine dict p _ _ (Str.ofString "") _ hp rfl (by decide +kernel) (.inl ⟨n, rfl, log_small ?_, ?_, ?_⟩)
    · have := ok.1; have := ok.2; omega
    · have e0 : (Str.ofString "").length = 0 := by decide +kernel
      rw [e0, ← len_tl, sizeLine_eq]
      show 0 + (numT n).length ≤ _
      omega
    · rw [add_mk]
      have : tl (Str.ofString "") = [] := by decide +kernel
      rw [this]
      rfl
  | txt t =>
    obtain ⟨p, rfl, hp⟩ := at1
    obtain rfl : 39 :: t = z := Option.some.inj hz
    refine ⟨_, rfl, p, _, _, _, rfl, rfl, SqT.of hp, atI_0, _, rfl, rfl, _, rfl, ite2 (fun c => absurd c (by decide +kernel)) (fun _ => ⟨_, rfl, rfl, _, rfl, ite2 (fun c => absurd c (by decide +kernel)) (fun _ => ⟨_, rfl, rfl, _, rfl, ite2 (fun c => absurd c (by decide +kernel)) (fun _ => ?_)⟩)⟩)⟩
    have hl := text_len ok
    refine dict p _ _ (Str.ofString "'") _ hp rfl (by decide +kernel) (.inr ⟨mk t, rfl, ?_, ?_⟩)
    · have e0 : (Str.ofString "'").length = 1 := by decide +kernel
      rw [e0, mk_len, sizeLine_eq]
      omega
    · rw [add_mk]
      have : tl (Str.ofString "'") = [39] := by decide +kernel
      rw [this]
      rfl
  | tru b =>
    obtain ⟨p, rfl, hp⟩ := at1
    refine ⟨_, rfl, p, _, _, _, rfl, rfl, SqT.of hp, atI_0, _, rfl, rfl, _, rfl, ite2 (fun _ => ?_) (fun c => absurd (by decide +kernel) c)⟩
    refine ⟨by decide, fun L hL => ?_⟩
    have sL := same_new hL (.lst [V.str (Str.ofString "false"), V.str (Str.ofString "true")])
    refine ⟨_, rfl, p, _, _, _, rfl, rfl, SqT.of (sL _ _ hp), atI_nat (j := 1) rfl, .inr ⟨b, rfl, L, _, _, .str (mk z), rfl, rfl, SqL.of upd_same, ?_, k _ sL⟩⟩
    cases b with
    | true =>
      obtain rfl : tk "true" = z := Option.some.inj hz
      rw [mk_tl]
      exact atI_nat (j := 1) rfl
    | false =>
      obtain rfl : tk "false" = z := Option.some.inj hz
      rw [mk_tl]
      exact atI_nat (j := 0) rfl
  | non =>
    obtain ⟨p, rfl, hp⟩ := at1
    obtain rfl : tk "none" = z := Option.some.inj hz
    refine ⟨_, rfl, p, _, _, _, rfl, rfl, SqT.of hp, atI_0, _, rfl, rfl, _, rfl, ite2 (fun c => absurd c (by decide +kernel)) (fun _ => ⟨_, rfl, rfl, _, rfl, ite2 (fun c => iteT ⟨_, rfl, ?_⟩) (fun c => absurd (by decide +kernel) c)⟩)⟩
    have := k _ (Same.refl H)
    rw [mk_tl] at this
    exact this
  | slf =>
    obtain ⟨p, rfl, hp⟩ := at1
    obtain rfl : tk "self" = z := Option.some.inj hz
    refine ⟨_, rfl, p, _, _, _, rfl, rfl, SqT.of hp, atI_0, _, rfl, rfl, _, rfl, ite2 (fun c => absurd c (by decide +kernel)) (fun _ => ⟨_, rfl, rfl, _, rfl, ite2 (fun c => absurd c (by decide +kernel)) (fun _ => ⟨_, rfl, rfl, _, rfl, ite2 (fun c => ⟨_, rfl, ?_⟩) (fun c => absurd (by decide +kernel) c)⟩)⟩)⟩
    have := k _ (Same.refl H)
    rw [mk_tl] at this
    exact this
  | nam t =>
    obtain ⟨p, rfl, hp⟩ := at1
    obtain rfl : t = z := Option.some.inj hz
    refine ⟨_, rfl, p, _, _, _, rfl, rfl, SqT.of hp, atI_0, _, rfl, rfl, _, rfl, ite2 (fun c => absurd c (by decide +kernel)) (fun _ => ⟨_, rfl, rfl, _, rfl, ite2 (fun c => absurd c (by decide +kernel)) (fun _ => ⟨_, rfl, rfl, _, rfl, ite2 (fun c => absurd c (by decide +kernel)) (fun _ => ?_)⟩)⟩)⟩
    have hl := free_len ok
    refine dict p _ _ (Str.ofString "") _ hp rfl (by decide +kernel) (.inr ⟨mk t, rfl, ?_, ?_⟩)
    · have e0 : (Str.ofString "").length = 0 := by decide +kernel
      rw [e0, mk_len, sizeLine_eq]
      omega
    · rw [add_mk]
      have : tl (Str.ofString "") = [] := by decide +kernel
      rw [this]
      rfl
  | fld t =>
    obtain ⟨p, rfl, hp⟩ := at1
    obtain rfl : 64 :: t = z := Option.some.inj hz
    refine ⟨_, rfl, p, _, _, _, rfl, rfl, SqT.of hp, atI_0, _, rfl, rfl, _, rfl, ite2 (fun c => absurd c (by decide +kernel)) (fun _ => ⟨_, rfl, rfl, _, rfl, ite2 (fun c => absurd c (by decide +kernel)) (fun _ => ⟨_, rfl, rfl, _, rfl, ite2 (fun c => absurd c (by decide +kernel)) (fun _ => ?_)⟩)⟩)⟩
    have hl := free_len ok
    refine dict p _ _ (Str.ofString "@") _ hp rfl (by decide +kernel) (.inr ⟨mk t, rfl, ?_, ?_⟩)
    · have e0 : (Str.ofString "@").length = 1 := by decide +kernel
      rw [e0, mk_len, sizeLine_eq]
      omega
    · rw [add_mk]
      have : tl (Str.ofString "@") = [64] := by decide +kernel
      rw [this]
      rfl
  | _ => simp [leafT] at hz
end
end My
set_option Elab.async false
set_option linter.all false
set_option maxRecDepth 100000
set_option maxHeartbeats 4000000
namespace My
open PySem L2 SS
def fWB (q : WB) : List V := [.str (mk q.1), .bl q.2]
/-- a list of words, each with whether something begins at it -/
def LW (H : Hp) (a : Addr) (ws : List WB) : Prop := ∃ us, H a = some (.lst us) ∧ AllT fWB H us ws
theorem LW.on {H H' : Hp} {a : Addr} {ws : List WB} (h : LW H a ws) (s : Same H H') : LW H' a ws := by
  obtain ⟨us, h1, h2⟩ := h
  exact ⟨us, s _ _ h1, h2.on (same_tups s)⟩
theorem LW.one {H : Hp} {t L : Addr} {z : Str} {b : Bool} (ht : H t = none) (hL : upd H t (.tup [.str z, .bl b]) L = none) : LW (upd (upd H t (.tup [.str z, .bl b])) L (.lst [.ref t])) L [(tl z, b)] := by
  refine ⟨[.ref t], upd_same, .cons ⟨t, rfl, ?_⟩ .nil⟩
  have hn : t ≠ L := fun e => by rw [← e, upd_same] at hL; cases hL
  rw [upd_ne hn, upd_same]
  show some (HO.tup [.str z, .bl b]) = some (.tup [.str (mk (tl z)), .bl b])
  rw [mk_tl]
theorem LW.cat {H : Hp} {a b : Addr} {ws zs : List WB} (h : LW H a ws) (g : LW H b zs) : ∃ us vs, H a = some (.lst us) ∧ H b = some (.lst vs) ∧ us.length = ws.length ∧ vs.length = zs.length ∧ ∀ p, H p = none → LW (upd H p (.lst (us ++ vs))) p (ws ++ zs) := by
  obtain ⟨us, h1, h2⟩ := h
  obtain ⟨vs, g1, g2⟩ := g
  refine ⟨us, vs, h1, g1, h2.length, g2.length, fun p hp => ⟨us ++ vs, upd_same, (h2.append g2).on (tups_new hp _)⟩⟩
theorem AtL.get {α : Type} {R : Hp → α → V → Prop} {H : Hp} : ∀ {xs : List α} {vs : List V} {i : Nat} {v : V}, AtL R H xs vs → vs[i]? = some v → ∃ x, xs[i]? = some x ∧ R H x v
  | [], vs, i, v, h, hv => by
    have h' : vs = [] := h
    subst h'
    simp at hv
  | y :: r, vs, 0, v, ⟨u, us, h1, h2, h3⟩, hv => by
    subst h1
    simp at hv
    subst hv
    exact ⟨y, rfl, h2⟩
  | y :: r, vs, i + 1, v, ⟨u, us, h1, h2, h3⟩, hv => by
    subst h1
    obtain ⟨x, g1, g2⟩ := AtL.get (i := i) h3 (by simpa using hv)
    exact ⟨x, by simpa using g1, g2⟩
section
variable {P : Program} {w : World} {K : PySem.W.Frag} {mg : Str → Option Value} {base : Heap} {α : Type} {R : Hp → α → V → Prop} {wf : α → List WB} {ok : α → Prop}
def spNA (R : Hp → α → V → Prop) (wf : α → List WB) (ok : α → Prop) : Sp := fun vs H Q _ => ∃ (x : α) (v : V), vs = [v] ∧ R H x v ∧ ok x ∧ ∀ H' a, Same H H' → LW H' a (wf x) → Q (.ref a) H'
def spAA (R : Hp → α → V → Prop) (wf : α → List WB) (ok : α → Prop) : Sp := fun vs H Q _ => ∃ (xs : List α) (q : Addr) (ys : List V), vs = [.ref q] ∧ H q = some (.tup ys) ∧ AtL R H xs ys ∧ (∀ x ∈ xs, ok x) ∧ (xs.flatMap wf).length ≤ 100000 ∧ ∀ H' a, Same H H' → LW H' a (xs.flatMap wf) → Q (.ref a) H'
def spCl (R : Hp → α → V → Prop) (wf : α → List WB) (ok : α → Prop) : Sp := fun vs H Q _ => ∃ (xs : List α) (q : Addr) (ys : List V) (z : Str), vs = [.str z, .ref q] ∧ H q = some (.tup ys) ∧ AtL R H xs ys ∧ (∀ x ∈ xs, ok x) ∧ (xs.flatMap wf).length ≤ 100000 ∧ ∀ H' a, Same H H' → LW H' a (xs.flatMap wf ++ [(tl z, false)]) → Q (.ref a) H'
theorem scWAll : FnScope ["_law_nodes", "_law_found", "_law_node"] ["_law_nodes"] (defScope sWAll) := ⟨rfl, rfl, rfl, by decide +kernel, rfl, by decide +kernel, by decide +kernel⟩
theorem scWCl : FnScope ["_law_word_here", "_law_nodes"] ["_law_word_here", "_law_nodes"] (defScope sWClosed) := ⟨rfl, rfl, rfl, by decide +kernel, rfl, by decide +kernel, by decide +kernel⟩
theorem scWPl : FnScope ["_law_words", "_law_word_here"] ["_law_words"] (defScope sWPlain) := ⟨rfl, rfl, rfl, by decide +kernel, rfl, by decide +kernel, by decide +kernel⟩
theorem c_wall {k : Nat} (hR : ∀ H H' x v, Tups H H' → R H x v → R H' x v) (D : Dn K mg "_law_all_words" sWAll) (G : C0 P w K mg base k "_law_node_words" (spNA R wf ok)) : C0 P w K mg base (k + 1) "_law_all_words" (spAA R wf ok) := by
  obtain ⟨f, fd, F, m⟩ := D.ex
  refine ⟨f, fd, ["_law_nodes"], F.ok scWAll (fun vs H Q E h => ?_) (fun cdv A outer s H vs Q E hr h => ?_), m, F.kp, F.binds (ps := ["_law_nodes"]) fun _ _ _ _ _ _ us hl => match us, hl with | [_], _ => rfl⟩
  · obtain ⟨xs, q, ys, rfl, _⟩ := h
    rfl
  obtain ⟨xs, q, ys, rfl, hq, hat, hok, hlen, kq⟩ := h
  refine ⟨_, pss_cons (ps_set (i := 1) scWAll.nd rfl (Or.inl rfl) (pe_lst pa_nil)) <|
    pss_cons (ps_for PassesOwn.never rfl (pi_tup (pv 0)) (pg_name (i := 2) scWAll.nd rfl (Or.inl rfl)) (pss_one (ps_set (i := 1) scWAll.nd rfl (Or.inl rfl) (pe_op op_cat (pv 1) (pe_cc G hr (Nat.le_refl _) pass0 (pa_cons (pv 2) pa_nil)))))) <|
    pss_one (ps_ret (pv 1)), ?_⟩
  refine ⟨Nat.zero_le _, fun L hL => ?_⟩
  have s0 := same_new hL (.lst [])
  have w0 : LW (upd H L (.lst [])) L [] := ⟨[], upd_same, .nil⟩
  refine ⟨_, rfl, q, rfl, ⟨ys, SqT.of (s0 _ _ hq)⟩, ?_⟩
  refine for_tup (xs := ys) (fun i σ H1 => ∃ (a : Addr) (v2 : Option V), σ = [some (.ref q), some (.ref a), v2] ∧ Same H H1 ∧ LW H1 a ((xs.take i).flatMap wf)) ⟨L, none, rfl, s0, w0⟩ (fun i σ H1 _ ⟨a, v2, _, s1, _⟩ => SqT.of (s1 _ _ hq)) ?_ ?_
  · rintro i v σ H1 hv ⟨a, v2, rfl, s1, w1⟩
    obtain ⟨x, hx, rx⟩ := hat.get hv
    have et : xs.take (i + 1) = xs.take i ++ [x] := by rw [List.take_add_one, hx]; rfl
    refine ⟨_, rfl, _, rfl, x, v, rfl, hR _ _ _ _ (same_tups s1) rx, hok x (List.mem_of_getElem? hx), fun H2 b s2 w2 => ?_⟩
    obtain ⟨us, vs, h1, h2, l1, l2, c⟩ := (w1.on s2).cat w2
    have hl2 : ((xs.take (i + 1)).flatMap wf).length ≤ (xs.flatMap wf).length := by
      have e : xs.flatMap wf = (xs.take (i + 1)).flatMap wf ++ (xs.drop (i + 1)).flatMap wf := by rw [← List.flatMap_append, List.take_append_drop]
      rw [e, List.length_append]
      omega
    rw [et, List.flatMap_append, List.length_append] at hl2
    have e1 : [x].flatMap wf = wf x := by simp
    rw [e1] at hl2
    refine ⟨_, _, us, vs, rfl, rfl, h1, h2, by rw [l1, l2, sizeLine_eq]; omega, fun p hp => ?_⟩
    refine ⟨p, _, rfl, (s1.trans s2).trans (same_new hp _), ?_⟩
    rw [et, List.flatMap_append, e1]
    exact c p hp
  · rintro σ H1 ⟨a, v2, rfl, s1, w1⟩
    rw [hat.len, List.take_length] at w1
    exact ⟨_, rfl, kq H1 a s1 w1⟩
theorem c_wcl {k : Nat} (hR : ∀ H H' x v, Tups H H' → R H x v → R H' x v) (D : Dn K mg "_law_closed" sWClosed) (G : C0 P w K mg base k "_law_all_words" (spAA R wf ok)) : C0 P w K mg base (k + 1) "_law_closed" (spCl R wf ok) := by
  obtain ⟨f, fd, F, m⟩ := D.ex
  refine ⟨f, fd, ["_law_word_here", "_law_nodes"], F.ok scWCl (fun vs H Q E h => ?_) (fun cdv A outer s H vs Q E hr h => ?_), m, F.kp, F.binds (ps := ["_law_word_here", "_law_nodes"]) fun _ _ _ _ _ _ us hl => match us, hl with | [_, _], _ => rfl⟩
  · obtain ⟨xs, q, ys, z, rfl, _⟩ := h
    rfl
  obtain ⟨xs, q, ys, z, rfl, hq, hat, hok, hlen, kq⟩ := h
  refine ⟨_, pss_one (ps_ret (pe_op op_cat (pe_cc G hr (Nat.le_refl _) pass0 (pa_cons (pv 1) pa_nil)) (pe_lst (pa_cons (pe_tup (pa_cons (pv 0) (pa_cons pe_bl pa_nil))) pa_nil)))), ?_⟩
  refine ⟨_, rfl, xs, q, ys, rfl, hq, hat, hok, hlen, fun H1 a s1 w1 => ?_⟩
  refine ⟨_, rfl, by show 2 ≤ sizeLine; decide, fun t ht => ⟨by show 1 ≤ sizeLine; decide, fun L hL => ?_⟩⟩
  have w2 := LW.one ht hL
  have s2 : Same H1 (upd (upd H1 t (.tup [.str z, .bl false])) L (.lst [.ref t])) := (same_new ht _).trans (same_new hL _)
  obtain ⟨us, vs, h1, h2, l1, l2, c⟩ := (w1.on s2).cat w2
  exact ⟨_, _, us, vs, rfl, rfl, h1, h2, by rw [l1, l2, sizeLine_eq]; simp only [List.length_cons, List.length_nil]; omega, fun p hp => kq _ p ((s1.trans s2).trans (same_new hp _)) (c p hp)⟩
/-! plain words -/
def spWPlT : Sp := fun vs H Q _ => ∃ (ws : List (List Nat)) (q : Addr), vs = [.ref q] ∧ H q = some (.tup (wsV ws)) ∧ ws.length ≤ 1000 ∧ ∀ H' a, Same H H' → LW H' a (plainW ws) → Q (.ref a) H'
theorem c_wplT (D : Dn K mg "_law_plain" sWPlain) : C0 P w K mg base 1 "_law_plain" spWPlT := by
  obtain ⟨f, fd, F, m⟩ := D.ex
  refine ⟨f, fd, ["_law_words"], F.ok scWPl (fun vs H Q E h => ?_) (fun cdv A outer s H vs Q E hr h => ?_), m, F.kp, F.binds (ps := ["_law_words"]) fun _ _ _ _ _ _ us hl => match us, hl with | [_], _ => rfl⟩
  · obtain ⟨ws, q, rfl, _⟩ := h
    rfl
  obtain ⟨ws, q, rfl, hq, hl, kq⟩ := h
  refine ⟨_, pss_one (ps_ret (pe_lc (own := [("_law_word_here", 1)]) (g := gName 1) (tt := tYes) rfl scWPl.nd (pi_tup (pv 0))
    (blkOk_by (own := [("_law_word_here", 1)]) (N := ["_law_words", "_law_word_here"]) (sc := defScope sWPlain) (by decide +kernel)) (fun _ _ _ _ _ => pg_name (i := 1) scWPl.nd rfl (Or.inl rfl)) (fun _ _ _ _ _ => pts_nil)
    (fun _ _ _ _ _ => pe_tup (pa_cons (pv 1) (pa_cons pe_bl pa_nil))))), ?_⟩
  refine ⟨_, rfl, q, rfl, ⟨wsV ws, SqT.of hq⟩, fun D0 hD0 => ?_⟩
  refine lc_tup (K := K) (a := q) (xs := wsV ws) (fun i H1 => Same H H1 ∧ LW H1 D0 (plainW (ws.take i))) ⟨same_new hD0 _, [], upd_same, .nil⟩ (fun i H1 _ h1 => SqT.of (h1.1 _ _ hq)) ?_ ?_
  · rintro i v H1 hv ⟨s1, us, h1, h2⟩
    have hv' : (ws.map fun w => V.str (mk w))[i]? = some v := hv
    rw [List.getElem?_map] at hv'
    cases e : ws[i]? with
    | none => rw [e] at hv'; cases hv'
    | some z =>
      rw [e] at hv'
      obtain rfl := Option.some.inj hv'
      have et : ws.take (i + 1) = ws.take i ++ [z] := by rw [List.take_add_one, e]; rfl
      refine ⟨rfl, ?_⟩
      unfold tYes
      refine iteT ?_
      refine ⟨_, rfl, by show 2 ≤ sizeLine; decide, fun t ht => ?_⟩
      have hDt : D0 ≠ t := ne_of_none h1 ht
      have st := same_new ht (.tup [.str (mk z), .bl false])
      have hl2 : us.length ≤ ws.length := by
        rw [h2.length]
        unfold plainW
        rw [List.length_map, List.length_take]
        omega
      refine ⟨us, st _ _ h1, by rw [sizeLine_eq]; omega, ?_, us ++ [.ref t], upd_same, ?_⟩
      · intro b u h
        rw [upd_ne (ne_of_none h hD0)]
        exact st _ _ (s1 _ _ h)
      · have t2 : Tups H1 (upd (upd H1 t (.tup [.str (mk z), .bl false])) D0 (.lst (us ++ [.ref t]))) := (same_tups st).trans (tups_lst (st _ _ h1))
        have e2 : plainW (ws.take (i + 1)) = plainW (ws.take i) ++ [(z, false)] := by
          rw [et]
          unfold plainW
          rw [List.map_append]
          rfl
        rw [e2]
        exact (h2.on t2).append (.cons ⟨t, rfl, by rw [upd_ne hDt.symm, upd_same]; rfl⟩ .nil)
  · rintro H1 ⟨s1, w1⟩
    have e : (wsV ws).length = ws.length := List.length_map _
    rw [e, List.take_length] at w1
    exact kq H1 D0 s1 w1
def spWPlL : Sp := fun vs H Q _ => ∃ (ws : List (List Nat)) (q : Addr), vs = [.ref q] ∧ H q = some (.lst (wsV ws)) ∧ ws.length ≤ 1000 ∧ ∀ H' a, Same H H' → LW H' a (plainW ws) → Q (.ref a) H'
theorem c_wplL (D : Dn K mg "_law_plain" sWPlain) : C0 P w K mg base 1 "_law_plain" spWPlL := by
  obtain ⟨f, fd, F, m⟩ := D.ex
  refine ⟨f, fd, ["_law_words"], F.ok scWPl (fun vs H Q E h => ?_) (fun cdv A outer s H vs Q E hr h => ?_), m, F.kp, F.binds (ps := ["_law_words"]) fun _ _ _ _ _ _ us hl => match us, hl with | [_], _ => rfl⟩
  · obtain ⟨ws, q, rfl, _⟩ := h
    rfl
  obtain ⟨ws, q, rfl, hq, hl, kq⟩ := h
  refine ⟨_, pss_one (ps_ret (pe_lc (own := [("_law_word_here", 1)]) (g := gName 1) (tt := tYes) rfl scWPl.nd (pi_list (pv 0))
    (blkOk_by (own := [("_law_word_here", 1)]) (N := ["_law_words", "_law_word_here"]) (sc := defScope sWPlain) (by decide +kernel)) (fun _ _ _ _ _ => pg_name (i := 1) scWPl.nd rfl (Or.inl rfl)) (fun _ _ _ _ _ => pts_nil)
    (fun _ _ _ _ _ => pe_tup (pa_cons (pv 1) (pa_cons pe_bl pa_nil))))), ?_⟩
  refine ⟨_, rfl, q, rfl, ⟨wsV ws, SqL.of hq⟩, fun D0 hD0 => ?_⟩
  refine lc_list (K := K) (a := q) (xs := wsV ws) (fun i H1 => Same H H1 ∧ LW H1 D0 (plainW (ws.take i))) ⟨same_new hD0 _, [], upd_same, .nil⟩ (fun i H1 _ h1 => SqL.of (h1.1 _ _ hq)) ?_ ?_
  · rintro i v H1 hv ⟨s1, us, h1, h2⟩
    have hv' : (ws.map fun w => V.str (mk w))[i]? = some v := hv
    rw [List.getElem?_map] at hv'
    cases e : ws[i]? with
    | none => rw [e] at hv'; cases hv'
    | some z =>
      rw [e] at hv'
      obtain rfl := Option.some.inj hv'
      have et : ws.take (i + 1) = ws.take i ++ [z] := by rw [List.take_add_one, e]; rfl
      refine ⟨rfl, ?_⟩
      unfold tYes
      refine iteT ?_
      refine ⟨_, rfl, by show 2 ≤ sizeLine; decide, fun t ht => ?_⟩
      have hDt : D0 ≠ t := ne_of_none h1 ht
      have st := same_new ht (.tup [.str (mk z), .bl false])
      have hl2 : us.length ≤ ws.length := by
        rw [h2.length]
        unfold plainW
        rw [List.length_map, List.length_take]
        omega
      refine ⟨us, st _ _ h1, by rw [sizeLine_eq]; omega, ?_, us ++ [.ref t], upd_same, ?_⟩
      · intro b u h
        rw [upd_ne (ne_of_none h hD0)]
        exact st _ _ (s1 _ _ h)
      · have t2 : Tups H1 (upd (upd H1 t (.tup [.str (mk z), .bl false])) D0 (.lst (us ++ [.ref t]))) := (same_tups st).trans (tups_lst (st _ _ h1))
        have e2 : plainW (ws.take (i + 1)) = plainW (ws.take i) ++ [(z, false)] := by
          rw [et]
          unfold plainW
          rw [List.map_append]
          rfl
        rw [e2]
        exact (h2.on t2).append (.cons ⟨t, rfl, by rw [upd_ne hDt.symm, upd_same]; rfl⟩ .nil)
  · rintro H1 ⟨s1, w1⟩
    have e : (wsV ws).length = ws.length := List.length_map _
    rw [e, List.take_length] at w1
    exact kq H1 D0 s1 w1
end
end My
set_option Elab.async false
set_option linter.all false
set_option maxRecDepth 100000
set_option maxHeartbeats 8000000
namespace My
open PySem L2 SS
def eL : Exs → List Ex
  | .nil => []
  | .cons e r => e :: eL r
def sL : Sts → List St_
  | .nil => []
  | .cons e r => e :: sL r
theorem eL_at {H : Hp} : ∀ {es : Exs} {ys : List V}, AtEs H es ys → AtL AtE H (eL es) ys
  | .nil, ys, h => h
  | .cons e r, ys, ⟨v, vs, h1, h2, h3⟩ => ⟨v, vs, h1, h2, eL_at h3⟩
theorem sL_at {H : Hp} : ∀ {es : Sts} {ys : List V}, AtSs H es ys → AtL AtS H (sL es) ys
  | .nil, ys, h => h
  | .cons e r, ys, ⟨v, vs, h1, h2, h3⟩ => ⟨v, vs, h1, h2, sL_at h3⟩
theorem eL_w : ∀ es : Exs, wEs es = (eL es).flatMap wE
  | .nil => rfl
  | .cons e r => by rw [wEs, eL, List.flatMap_cons, eL_w r]
theorem sL_w : ∀ es : Sts, wSs es = (sL es).flatMap wS
  | .nil => rfl
  | .cons e r => by rw [wSs, sL, List.flatMap_cons, sL_w r]
def okNE (d : Nat) (e : Ex) : Prop := okE e ∧ oE e ≤ d ∧ nE e ≤ 1000
def okNS (d : Nat) (e : St_) : Prop := okS e ∧ oS e ≤ d ∧ nS e ≤ 1000
theorem eL_ok {d : Nat} : ∀ {es : Exs}, okEs es → oEs es ≤ d → nEs es ≤ 1000 → ∀ e ∈ eL es, okNE d e
  | .nil, _, _, _, e, h => by simp [eL] at h
  | .cons x r, h1, h2, h3, e, h => by
    simp only [oEs, nEs] at h2 h3
    rcases List.mem_cons.mp h with h | h
    · subst h
      exact ⟨h1.1, by omega, by omega⟩
    · exact eL_ok (es := r) h1.2 (by omega) (by omega) e h
theorem sL_ok {d : Nat} : ∀ {es : Sts}, okSs es → oSs es ≤ d → nSs es ≤ 1000 → ∀ e ∈ sL es, okNS d e
  | .nil, _, _, _, e, h => by simp [sL] at h
  | .cons x r, h1, h2, h3, e, h => by
    simp only [oSs, nSs] at h2 h3
    rcases List.mem_cons.mp h with h | h
    · subst h
      exact ⟨h1.1, by omega, by omega⟩
    · exact sL_ok (es := r) h1.2 (by omega) (by omega) e h
theorem LW.two {H : Hp} {t1 t2 L : Addr} {z1 z2 : Str} {b1 b2 : Bool} (h1 : H t1 = none) (h2 : upd H t1 (.tup [.str z1, .bl b1]) t2 = none) (hL : upd (upd H t1 (.tup [.str z1, .bl b1])) t2 (.tup [.str z2, .bl b2]) L = none) :
    Same H (upd (upd (upd H t1 (.tup [.str z1, .bl b1])) t2 (.tup [.str z2, .bl b2])) L (.lst [.ref t1, .ref t2])) ∧ LW (upd (upd (upd H t1 (.tup [.str z1, .bl b1])) t2 (.tup [.str z2, .bl b2])) L (.lst [.ref t1, .ref t2])) L [(tl z1, b1), (tl z2, b2)] := by
  have s1 := same_new h1 (.tup [.str z1, .bl b1])
  have s2 := same_new h2 (.tup [.str z2, .bl b2])
  have s3 := same_new hL (.lst [.ref t1, .ref t2])
  refine ⟨(s1.trans s2).trans s3, _, upd_same, .cons ⟨t1, rfl, s3 _ _ (s2 _ _ ?_)⟩ (.cons ⟨t2, rfl, s3 _ _ ?_⟩ .nil)⟩
  · rw [upd_same]
    show some (HO.tup [.str z1, .bl b1]) = some (.tup [.str (mk (tl z1)), .bl b1])
    rw [mk_tl]
  · rw [upd_same]
    show some (HO.tup [.str z2, .bl b2]) = some (.tup [.str (mk (tl z2)), .bl b2])
    rw [mk_tl]
theorem LW.three {H : Hp} {t1 t2 t3 L : Addr} {z1 z2 z3 : Str} {b1 b2 b3 : Bool} (h1 : H t1 = none) (h2 : upd H t1 (.tup [.str z1, .bl b1]) t2 = none) (h3 : upd (upd H t1 (.tup [.str z1, .bl b1])) t2 (.tup [.str z2, .bl b2]) t3 = none) (hL : upd (upd (upd H t1 (.tup [.str z1, .bl b1])) t2 (.tup [.str z2, .bl b2])) t3 (.tup [.str z3, .bl b3]) L = none) :
    Same H (upd (upd (upd (upd H t1 (.tup [.str z1, .bl b1])) t2 (.tup [.str z2, .bl b2])) t3 (.tup [.str z3, .bl b3])) L (.lst [.ref t1, .ref t2, .ref t3])) ∧ LW (upd (upd (upd (upd H t1 (.tup [.str z1, .bl b1])) t2 (.tup [.str z2, .bl b2])) t3 (.tup [.str z3, .bl b3])) L (.lst [.ref t1, .ref t2, .ref t3])) L [(tl z1, b1), (tl z2, b2), (tl z3, b3)] := by
  have s1 := same_new h1 (.tup [.str z1, .bl b1])
  have s2 := same_new h2 (.tup [.str z2, .bl b2])
  have s3 := same_new h3 (.tup [.str z3, .bl b3])
  have s4 := same_new hL (.lst [.ref t1, .ref t2, .ref t3])
  refine ⟨((s1.trans s2).trans s3).trans s4, _, upd_same, .cons ⟨t1, rfl, s4 _ _ (s3 _ _ (s2 _ _ ?_))⟩ (.cons ⟨t2, rfl, s4 _ _ (s3 _ _ ?_)⟩ (.cons ⟨t3, rfl, s4 _ _ ?_⟩ .nil))⟩
  · rw [upd_same]
    show some (HO.tup [.str z1, .bl b1]) = some (.tup [.str (mk (tl z1)), .bl b1])
    rw [mk_tl]
  · rw [upd_same]
    show some (HO.tup [.str z2, .bl b2]) = some (.tup [.str (mk (tl z2)), .bl b2])
    rw [mk_tl]
  · rw [upd_same]
    show some (HO.tup [.str z3, .bl b3]) = some (.tup [.str (mk (tl z3)), .bl b3])
    rw [mk_tl]
theorem LW.one' {H : Hp} {t L : Addr} {z : Str} {b : Bool} (ht : H t = none) (hL : upd H t (.tup [.str z, .bl b]) L = none) : Same H (upd (upd H t (.tup [.str z, .bl b])) L (.lst [.ref t])) ∧ LW (upd (upd H t (.tup [.str z, .bl b])) L (.lst [.ref t])) L [(tl z, b)] := ⟨(same_new ht _).trans (same_new hL _), LW.one ht hL⟩
theorem LW.cast {H : Hp} {a : Addr} {ws zs : List WB} (h : LW H a ws) (e : ws = zs) : LW H a zs := e ▸ h
theorem pl_cases {k : T} (h : isPl k = true) : k = tk "do" ∨ k = tk "say" ∨ k = tk "return" ∨ k = tk "raise" := by
  unfold isPl inS at h
  have e : ∀ z : Str, (z == mk k) = true → k = tl z := fun z hz => by rw [eq_of_beq hz]
  simp only [List.any_cons, List.any_nil, Bool.or_false, Bool.or_eq_true] at h
  rcases h with h | h | h | h
  · exact .inl (e _ h)
  · exact .inr (.inl (e _ h))
  · exact .inr (.inr (.inl (e _ h)))
  · exact .inr (.inr (.inr (e _ h)))
section
variable {P : Program} {w : World} {K : PySem.W.Frag} {mg : Str → Option Value} {base : Heap}
abbrev spNE (d : Nat) : Sp := spNA AtE wE (okNE d)
abbrev spNS (d : Nat) : Sp := spNA AtS wS (okNS d)
abbrev spCE (d : Nat) : Sp := spCl AtE wE (okNE d)
abbrev spCS (d : Nat) : Sp := spCl AtS wS (okNS d)
def pNE : Nat → Sp
  | 0 => spF
  | d + 1 => spNE d
def pCE : Nat → Sp
  | 0 => spF
  | d + 1 => spCE d
def pCS : Nat → Sp
  | 0 => spF
  | d + 1 => spCS d
theorem scWN : FnScope ["_law_node", "_law_word_here", "_law_inner_here", "_law_head"] ["_law_node"] (defScope sWNode) := ⟨rfl, rfl, rfl, by decide +kernel, rfl, by decide +kernel, by decide +kernel⟩
theorem c_wnE {d k kc : Nat} (TS : TxS K mg) (D : Dn K mg "_law_node_words" sWNode) (GL : C0 P w K mg base 1 "_law_leaf_word" spWLeaf) (GP : C0 P w K mg base 1 "_law_plain" spWPlT) (hk : kc = k + 3) (GX : C0 P w K mg base k "_law_node_words" (pNE d)) (GCE : C0 P w K mg base (k + 2) "_law_closed" (pCE d)) (GCS : C0 P w K mg base kc "_law_closed" (pCS d)) : C0 P w K mg base (k + 4) "_law_node_words" (spNE d) := by
  obtain ⟨f, fd, F, m⟩ := D.ex
  refine ⟨f, fd, ["_law_node"], F.ok scWN (fun vs H Q E h => ?_) (fun cdv A outer s H vs Q E hr h => ?_), m, F.kp, F.binds (ps := ["_law_node"]) fun _ _ _ _ _ _ us hl => match us, hl with | [_], _ => rfl⟩
  · obtain ⟨e, v, rfl, _⟩ := h
    rfl
  obtain ⟨e, v, rfl, at1, ⟨ok, oo, nn⟩, kq⟩ := h
  refine ⟨_, pss_cons (ps_set (i := 1) scWN.nd rfl (Or.inl rfl) (pe_ix ix_tup (pv 0) pe_int (fun _ _ => rfl))) <|
    pss_cons (ps_if (pt_cmpR op_eq (pv 1) pe_str (nomark _)) (pss_cons (ps_set (i := 2) scWN.nd rfl (Or.inl rfl) (pe_op op_cat (pe_cc GX hr (by omega) pass0 (pa_cons (pe_ix ix_tup (pv 0) pe_int (fun _ _ => rfl)) pa_nil)) (pe_lst (pa_cons (pe_tup (pa_cons (pe_ix ix_tup (pv 0) pe_int (fun _ _ => rfl)) (pa_cons pe_bl pa_nil))) pa_nil)))) <| pss_one (ps_ret (pe_op op_cat (pe_op op_cat (pe_lst (pa_cons (pe_tup (pa_cons pe_str (pa_cons pe_bl pa_nil))) pa_nil)) (pv 2)) (pe_cc GCE hr (by omega) pass0 (pa_cons pe_str (pa_cons (pe_ix ix_tup (pv 0) pe_int (fun _ _ => rfl)) pa_nil)))))) pss_nil) <|
    pss_cons (ps_if (pt_cmpR op_eq (pv 1) pe_str (nomark _)) (pss_one (ps_ret (pe_op op_cat (pe_lst (pa_cons (pe_tup (pa_cons pe_str (pa_cons pe_bl pa_nil))) (pa_cons (pe_tup (pa_cons pe_str (pa_cons pe_bl pa_nil))) (pa_cons (pe_tup (pa_cons (pe_ix ix_tup (pv 0) pe_int (fun _ _ => rfl)) (pa_cons pe_bl pa_nil))) pa_nil)))) (pe_cc GCE hr (by omega) pass0 (pa_cons pe_str (pa_cons (pe_ix ix_tup (pv 0) pe_int (fun _ _ => rfl)) pa_nil)))))) pss_nil) <|
    pss_cons (ps_if (pt_cmpR op_eq (pv 1) pe_str (nomark _)) (pss_one (ps_ret (pe_op op_cat (pe_lst (pa_cons (pe_tup (pa_cons pe_str (pa_cons pe_bl pa_nil))) pa_nil)) (pe_cc GCE hr (by omega) pass0 (pa_cons pe_str (pa_cons (pe_ix ix_tup (pv 0) pe_int (fun _ _ => rfl)) pa_nil)))))) pss_nil) <|
    pss_cons (ps_if (pt_cmpR op_eq (pv 1) pe_str (nomark _)) (pss_one (ps_ret (pe_op op_cat (pe_op op_cat (pe_op op_cat (pe_lst (pa_cons (pe_tup (pa_cons pe_str (pa_cons pe_bl pa_nil))) pa_nil)) (pe_cc GP hr (by omega) pass0 (pa_cons (pe_ix ix_tup (pv 0) pe_int (fun _ _ => rfl)) pa_nil))) (pe_lst (pa_cons (pe_tup (pa_cons pe_str (pa_cons pe_bl pa_nil))) pa_nil))) (pe_cc GCS hr (by omega) pass0 (pa_cons pe_str (pa_cons (pe_ix ix_tup (pv 0) pe_int (fun _ _ => rfl)) pa_nil)))))) pss_nil) <|
    pss_cons (ps_if (pt_cmpR op_eq (pv 1) pe_str (nomark _)) (pss_one (ps_ret (pe_lst (pa_cons (pe_tup (pa_cons pe_str (pa_cons pe_bl pa_nil))) (pa_cons (pe_tup (pa_cons (pe_ix ix_tup (pv 0) pe_int (fun _ _ => rfl)) (pa_cons pe_bl pa_nil))) pa_nil))))) pss_nil) <|
    pss_cons (ps_if (pt_cmpR op_eq (pv 1) pe_str (nomark _)) (pss_one (ps_ret (pe_op op_cat (pe_lst (pa_cons (pe_tup (pa_cons (pe_ix ix_tup (pv 0) pe_int (fun _ _ => rfl)) (pa_cons pe_bl pa_nil))) (pa_cons (pe_tup (pa_cons pe_str (pa_cons pe_bl pa_nil))) pa_nil))) (pe_cc GX hr (by omega) pass0 (pa_cons (pe_ix ix_tup (pv 0) pe_int (fun _ _ => rfl)) pa_nil))))) pss_nil) <|
    pss_cons (ps_if (pt_cmpR op_eq (pv 1) pe_str (nomark _)) (pss_one (ps_ret (pe_op op_cat (pe_lst (pa_cons (pe_tup (pa_cons (pe_op op_add_str pe_str (pe_ix ix_tup (pv 0) pe_int (fun _ _ => rfl))) (pa_cons pe_bl pa_nil))) (pa_cons (pe_tup (pa_cons pe_str (pa_cons pe_bl pa_nil))) pa_nil))) (pe_cc GX hr (by omega) pass0 (pa_cons (pe_ix ix_tup (pv 0) pe_int (fun _ _ => rfl)) pa_nil))))) pss_nil) <|
    pss_cons (ps_if (pt_cmpR op_eq (pv 1) pe_str (nomark _)) (pss_cons (ps_set (i := 3) scWN.nd rfl (Or.inl rfl) (pe_op op_cat (pe_op op_cat (pe_lst (pa_cons (pe_tup (pa_cons pe_str (pa_cons pe_bl pa_nil))) pa_nil)) (pe_cc GX hr (by omega) pass0 (pa_cons (pe_ix ix_tup (pv 0) pe_int (fun _ _ => rfl)) pa_nil))) (pe_lst (pa_cons (pe_tup (pa_cons pe_str (pa_cons pe_bl pa_nil))) pa_nil)))) <| pss_one (ps_ret (pe_op op_cat (pe_op op_cat (pv 3) (pe_cc GCS hr (by omega) pass0 (pa_cons pe_str (pa_cons (pe_ix ix_tup (pv 0) pe_int (fun _ _ => rfl)) pa_nil)))) (pe_cc GCS hr (by omega) pass0 (pa_cons pe_str (pa_cons (pe_ix ix_tup (pv 0) pe_int (fun _ _ => rfl)) pa_nil)))))) pss_nil) <|
    pss_cons (ps_if (pt_cmpR op_eq (pv 1) pe_str (nomark _)) (pss_one (ps_ret (pe_op op_cat (pe_op op_cat (pe_op op_cat (pe_lst (pa_cons (pe_tup (pa_cons pe_str (pa_cons pe_bl pa_nil))) pa_nil)) (pe_cc GX hr (by omega) pass0 (pa_cons (pe_ix ix_tup (pv 0) pe_int (fun _ _ => rfl)) pa_nil))) (pe_lst (pa_cons (pe_tup (pa_cons pe_str (pa_cons pe_bl pa_nil))) pa_nil))) (pe_cc GCS hr (by omega) pass0 (pa_cons pe_str (pa_cons (pe_ix ix_tup (pv 0) pe_int (fun _ _ => rfl)) pa_nil)))))) pss_nil) <|
    pss_cons (ps_if (pt_cmpR op_eq (pv 1) pe_str (nomark _)) (pss_cons (ps_set (i := 3) scWN.nd rfl (Or.inl rfl) (pe_op op_cat (pe_op op_cat (pe_lst (pa_cons (pe_tup (pa_cons pe_str (pa_cons pe_bl pa_nil))) pa_nil)) (pe_cc GCS hr (by omega) pass0 (pa_cons pe_str (pa_cons (pe_ix ix_tup (pv 0) pe_int (fun _ _ => rfl)) pa_nil)))) (pe_lst (pa_cons (pe_tup (pa_cons (pe_ix ix_tup (pv 0) pe_int (fun _ _ => rfl)) (pa_cons pe_bl pa_nil))) pa_nil)))) <| pss_one (ps_ret (pe_op op_cat (pv 3) (pe_cc GCS hr (by omega) pass0 (pa_cons pe_str (pa_cons (pe_ix ix_tup (pv 0) pe_int (fun _ _ => rfl)) pa_nil)))))) pss_nil) <|
    pss_cons (ps_if (pt_cmpR op_in_seq (pv 1) (pe_lst (pa_cons pe_str (pa_cons pe_str (pa_cons pe_str (pa_cons pe_str pa_nil))))) rfl) (pss_one (ps_ret (pe_op op_cat (pe_lst (pa_cons (pe_tup (pa_cons (pv 1) (pa_cons pe_bl pa_nil))) pa_nil)) (pe_cc GX hr (by omega) pass0 (pa_cons (pe_ix ix_tup (pv 0) pe_int (fun _ _ => rfl)) pa_nil))))) pss_nil) <|
    pss_one (ps_ret (pe_lst (pa_cons (pe_tup (pa_cons (pe_cc GL hr (by omega) pass0 (pa_cons (pv 0) pa_nil)) (pa_cons pe_bl pa_nil))) pa_nil))), ?_⟩
  cases e with
  | num n =>
    obtain ⟨p, rfl, hp⟩ := id at1
    refine ⟨_, rfl, p, _, _, _, rfl, rfl, SqT.of hp, atI_0, ⟨_, rfl, rfl, _, rfl, ite2 (fun c => absurd c (by decide +kernel)) (fun _ => ⟨_, rfl, rfl, _, rfl, ite2 (fun c => absurd c (by decide +kernel)) (fun _ => ⟨_, rfl, rfl, _, rfl, ite2 (fun c => absurd c (by decide +kernel)) (fun _ => ⟨_, rfl, rfl, _, rfl, ite2 (fun c => absurd c (by decide +kernel)) (fun _ => ⟨_, rfl, rfl, _, rfl, ite2 (fun c => absurd c (by decide +kernel)) (fun _ => ⟨_, rfl, rfl, _, rfl, ite2 (fun c => absurd c (by decide +kernel)) (fun _ => ⟨_, rfl, rfl, _, rfl, ite2 (fun c => absurd c (by decide +kernel)) (fun _ => ⟨_, rfl, rfl, _, rfl, ite2 (fun c => absurd c (by decide +kernel)) (fun _ => ⟨_, rfl, rfl, _, rfl, ite2 (fun c => absurd c (by decide +kernel)) (fun _ => ⟨_, rfl, rfl, _, rfl, ite2 (fun c => absurd c (by decide +kernel)) (fun _ => ?_)⟩)⟩)⟩)⟩)⟩)⟩)⟩)⟩)⟩)⟩⟩
    refine ⟨_, rfl, by show 4 ≤ sizeLine; decide, fun L hL => ⟨L, _, rfl, .inl (SqL.of upd_same), rfl, rfl, _, rfl, ite2 (fun c => absurd c (by decide +kernel)) (fun _ => ?_)⟩⟩
    have sL := same_new hL (.lst [V.str (Str.ofString "do"), V.str (Str.ofString "say"), V.str (Str.ofString "return"), V.str (Str.ofString "raise")])
    refine ⟨_, rfl, _, numT n, _, rfl, at1.on_ (same_tups sL), ok, rfl, fun H1 s1 => ⟨by show 2 ≤ sizeLine; decide, fun t ht => ⟨by show 1 ≤ sizeLine; decide, fun L2 hL2 => ?_⟩⟩⟩
    obtain ⟨s2, w2⟩ := LW.one' ht hL2
    exact kq _ L2 ((sL.trans s1).trans s2) w2
  | txt t =>
    obtain ⟨p, rfl, hp⟩ := id at1
    refine ⟨_, rfl, p, _, _, _, rfl, rfl, SqT.of hp, atI_0, ⟨_, rfl, rfl, _, rfl, ite2 (fun c => absurd c (by decide +kernel)) (fun _ => ⟨_, rfl, rfl, _, rfl, ite2 (fun c => absurd c (by decide +kernel)) (fun _ => ⟨_, rfl, rfl, _, rfl, ite2 (fun c => absurd c (by decide +kernel)) (fun _ => ⟨_, rfl, rfl, _, rfl, ite2 (fun c => absurd c (by decide +kernel)) (fun _ => ⟨_, rfl, rfl, _, rfl, ite2 (fun c => absurd c (by decide +kernel)) (fun _ => ⟨_, rfl, rfl, _, rfl, ite2 (fun c => absurd c (by decide +kernel)) (fun _ => ⟨_, rfl, rfl, _, rfl, ite2 (fun c => absurd c (by decide +kernel)) (fun _ => ⟨_, rfl, rfl, _, rfl, ite2 (fun c => absurd c (by decide +kernel)) (fun _ => ⟨_, rfl, rfl, _, rfl, ite2 (fun c => absurd c (by decide +kernel)) (fun _ => ⟨_, rfl, rfl, _, rfl, ite2 (fun c => absurd c (by decide +kernel)) (fun _ => ?_)⟩)⟩)⟩)⟩)⟩)⟩)⟩)⟩)⟩)⟩⟩
    refine ⟨_, rfl, by show 4 ≤ sizeLine; decide, fun L hL => ⟨L, _, rfl, .inl (SqL.of upd_same), rfl, rfl, _, rfl, ite2 (fun c => absurd c (by decide +kernel)) (fun _ => ?_)⟩⟩
    have sL := same_new hL (.lst [V.str (Str.ofString "do"), V.str (Str.ofString "say"), V.str (Str.ofString "return"), V.str (Str.ofString "raise")])
    refine ⟨_, rfl, _, 39 :: t, _, rfl, at1.on_ (same_tups sL), ok, rfl, fun H1 s1 => ⟨by show 2 ≤ sizeLine; decide, fun t ht => ⟨by show 1 ≤ sizeLine; decide, fun L2 hL2 => ?_⟩⟩⟩
    obtain ⟨s2, w2⟩ := LW.one' ht hL2
    exact kq _ L2 ((sL.trans s1).trans s2) w2
  | non =>
    obtain ⟨p, rfl, hp⟩ := id at1
    refine ⟨_, rfl, p, _, _, _, rfl, rfl, SqT.of hp, atI_0, ⟨_, rfl, rfl, _, rfl, ite2 (fun c => absurd c (by decide +kernel)) (fun _ => ⟨_, rfl, rfl, _, rfl, ite2 (fun c => absurd c (by decide +kernel)) (fun _ => ⟨_, rfl, rfl, _, rfl, ite2 (fun c => absurd c (by decide +kernel)) (fun _ => ⟨_, rfl, rfl, _, rfl, ite2 (fun c => absurd c (by decide +kernel)) (fun _ => ⟨_, rfl, rfl, _, rfl, ite2 (fun c => absurd c (by decide +kernel)) (fun _ => ⟨_, rfl, rfl, _, rfl, ite2 (fun c => absurd c (by decide +kernel)) (fun _ => ⟨_, rfl, rfl, _, rfl, ite2 (fun c => absurd c (by decide +kernel)) (fun _ => ⟨_, rfl, rfl, _, rfl, ite2 (fun c => absurd c (by decide +kernel)) (fun _ => ⟨_, rfl, rfl, _, rfl, ite2 (fun c => absurd c (by decide +kernel)) (fun _ => ⟨_, rfl, rfl, _, rfl, ite2 (fun c => absurd c (by decide +kernel)) (fun _ => ?_)⟩)⟩)⟩)⟩)⟩)⟩)⟩)⟩)⟩)⟩⟩
    refine ⟨_, rfl, by show 4 ≤ sizeLine; decide, fun L hL => ⟨L, _, rfl, .inl (SqL.of upd_same), rfl, rfl, _, rfl, ite2 (fun c => absurd c (by decide +kernel)) (fun _ => ?_)⟩⟩
    have sL := same_new hL (.lst [V.str (Str.ofString "do"), V.str (Str.ofString "say"), V.str (Str.ofString "return"), V.str (Str.ofString "raise")])
    refine ⟨_, rfl, _, tk "none", _, rfl, at1.on_ (same_tups sL), ok, rfl, fun H1 s1 => ⟨by show 2 ≤ sizeLine; decide, fun t ht => ⟨by show 1 ≤ sizeLine; decide, fun L2 hL2 => ?_⟩⟩⟩
    obtain ⟨s2, w2⟩ := LW.one' ht hL2
    exact kq _ L2 ((sL.trans s1).trans s2) w2
  | slf =>
    obtain ⟨p, rfl, hp⟩ := id at1
    refine ⟨_, rfl, p, _, _, _, rfl, rfl, SqT.of hp, atI_0, ⟨_, rfl, rfl, _, rfl, ite2 (fun c => absurd c (by decide +kernel)) (fun _ => ⟨_, rfl, rfl, _, rfl, ite2 (fun c => absurd c (by decide +kernel)) (fun _ => ⟨_, rfl, rfl, _, rfl, ite2 (fun c => absurd c (by decide +kernel)) (fun _ => ⟨_, rfl, rfl, _, rfl, ite2 (fun c => absurd c (by decide +kernel)) (fun _ => ⟨_, rfl, rfl, _, rfl, ite2 (fun c => absurd c (by decide +kernel)) (fun _ => ⟨_, rfl, rfl, _, rfl, ite2 (fun c => absurd c (by decide +kernel)) (fun _ => ⟨_, rfl, rfl, _, rfl, ite2 (fun c => absurd c (by decide +kernel)) (fun _ => ⟨_, rfl, rfl, _, rfl, ite2 (fun c => absurd c (by decide +kernel)) (fun _ => ⟨_, rfl, rfl, _, rfl, ite2 (fun c => absurd c (by decide +kernel)) (fun _ => ⟨_, rfl, rfl, _, rfl, ite2 (fun c => absurd c (by decide +kernel)) (fun _ => ?_)⟩)⟩)⟩)⟩)⟩)⟩)⟩)⟩)⟩)⟩⟩
    refine ⟨_, rfl, by show 4 ≤ sizeLine; decide, fun L hL => ⟨L, _, rfl, .inl (SqL.of upd_same), rfl, rfl, _, rfl, ite2 (fun c => absurd c (by decide +kernel)) (fun _ => ?_)⟩⟩
    have sL := same_new hL (.lst [V.str (Str.ofString "do"), V.str (Str.ofString "say"), V.str (Str.ofString "return"), V.str (Str.ofString "raise")])
    refine ⟨_, rfl, _, tk "self", _, rfl, at1.on_ (same_tups sL), ok, rfl, fun H1 s1 => ⟨by show 2 ≤ sizeLine; decide, fun t ht => ⟨by show 1 ≤ sizeLine; decide, fun L2 hL2 => ?_⟩⟩⟩
    obtain ⟨s2, w2⟩ := LW.one' ht hL2
    exact kq _ L2 ((sL.trans s1).trans s2) w2
  | nam t =>
    obtain ⟨p, rfl, hp⟩ := id at1
    refine ⟨_, rfl, p, _, _, _, rfl, rfl, SqT.of hp, atI_0, ⟨_, rfl, rfl, _, rfl, ite2 (fun c => absurd c (by decide +kernel)) (fun _ => ⟨_, rfl, rfl, _, rfl, ite2 (fun c => absurd c (by decide +kernel)) (fun _ => ⟨_, rfl, rfl, _, rfl, ite2 (fun c => absurd c (by decide +kernel)) (fun _ => ⟨_, rfl, rfl, _, rfl, ite2 (fun c => absurd c (by decide +kernel)) (fun _ => ⟨_, rfl, rfl, _, rfl, ite2 (fun c => absurd c (by decide +kernel)) (fun _ => ⟨_, rfl, rfl, _, rfl, ite2 (fun c => absurd c (by decide +kernel)) (fun _ => ⟨_, rfl, rfl, _, rfl, ite2 (fun c => absurd c (by decide +kernel)) (fun _ => ⟨_, rfl, rfl, _, rfl, ite2 (fun c => absurd c (by decide +kernel)) (fun _ => ⟨_, rfl, rfl, _, rfl, ite2 (fun c => absurd c (by decide +kernel)) (fun _ => ⟨_, rfl, rfl, _, rfl, ite2 (fun c => absurd c (by decide +kernel)) (fun _ => ?_)⟩)⟩)⟩)⟩)⟩)⟩)⟩)⟩)⟩)⟩⟩
    refine ⟨_, rfl, by show 4 ≤ sizeLine; decide, fun L hL => ⟨L, _, rfl, .inl (SqL.of upd_same), rfl, rfl, _, rfl, ite2 (fun c => absurd c (by decide +kernel)) (fun _ => ?_)⟩⟩
    have sL := same_new hL (.lst [V.str (Str.ofString "do"), V.str (Str.ofString "say"), V.str (Str.ofString "return"), V.str (Str.ofString "raise")])
    refine ⟨_, rfl, _, t, _, rfl, at1.on_ (same_tups sL), ok, rfl, fun H1 s1 => ⟨by show 2 ≤ sizeLine; decide, fun t ht => ⟨by show 1 ≤ sizeLine; decide, fun L2 hL2 => ?_⟩⟩⟩
    obtain ⟨s2, w2⟩ := LW.one' ht hL2
    exact kq _ L2 ((sL.trans s1).trans s2) w2
  | fld t =>
    obtain ⟨p, rfl, hp⟩ := id at1
    refine ⟨_, rfl, p, _, _, _, rfl, rfl, SqT.of hp, atI_0, ⟨_, rfl, rfl, _, rfl, ite2 (fun c => absurd c (by decide +kernel)) (fun _ => ⟨_, rfl, rfl, _, rfl, ite2 (fun c => absurd c (by decide +kernel)) (fun _ => ⟨_, rfl, rfl, _, rfl, ite2 (fun c => absurd c (by decide +kernel)) (fun _ => ⟨_, rfl, rfl, _, rfl, ite2 (fun c => absurd c (by decide +kernel)) (fun _ => ⟨_, rfl, rfl, _, rfl, ite2 (fun c => absurd c (by decide +kernel)) (fun _ => ⟨_, rfl, rfl, _, rfl, ite2 (fun c => absurd c (by decide +kernel)) (fun _ => ⟨_, rfl, rfl, _, rfl, ite2 (fun c => absurd c (by decide +kernel)) (fun _ => ⟨_, rfl, rfl, _, rfl, ite2 (fun c => absurd c (by decide +kernel)) (fun _ => ⟨_, rfl, rfl, _, rfl, ite2 (fun c => absurd c (by decide +kernel)) (fun _ => ⟨_, rfl, rfl, _, rfl, ite2 (fun c => absurd c (by decide +kernel)) (fun _ => ?_)⟩)⟩)⟩)⟩)⟩)⟩)⟩)⟩)⟩)⟩⟩
    refine ⟨_, rfl, by show 4 ≤ sizeLine; decide, fun L hL => ⟨L, _, rfl, .inl (SqL.of upd_same), rfl, rfl, _, rfl, ite2 (fun c => absurd c (by decide +kernel)) (fun _ => ?_)⟩⟩
    have sL := same_new hL (.lst [V.str (Str.ofString "do"), V.str (Str.ofString "say"), V.str (Str.ofString "return"), V.str (Str.ofString "raise")])
    refine ⟨_, rfl, _, 64 :: t, _, rfl, at1.on_ (same_tups sL), ok, rfl, fun H1 s1 => ⟨by show 2 ≤ sizeLine; decide, fun t ht => ⟨by show 1 ≤ sizeLine; decide, fun L2 hL2 => ?_⟩⟩⟩
    obtain ⟨s2, w2⟩ := LW.one' ht hL2
    exact kq _ L2 ((sL.trans s1).trans s2) w2
  | tru b =>
    obtain ⟨p, rfl, hp⟩ := id at1
    refine ⟨_, rfl, p, _, _, _, rfl, rfl, SqT.of hp, atI_0, ⟨_, rfl, rfl, _, rfl, ite2 (fun c => absurd c (by decide +kernel)) (fun _ => ⟨_, rfl, rfl, _, rfl, ite2 (fun c => absurd c (by decide +kernel)) (fun _ => ⟨_, rfl, rfl, _, rfl, ite2 (fun c => absurd c (by decide +kernel)) (fun _ => ⟨_, rfl, rfl, _, rfl, ite2 (fun c => absurd c (by decide +kernel)) (fun _ => ⟨_, rfl, rfl, _, rfl, ite2 (fun c => absurd c (by decide +kernel)) (fun _ => ⟨_, rfl, rfl, _, rfl, ite2 (fun c => absurd c (by decide +kernel)) (fun _ => ⟨_, rfl, rfl, _, rfl, ite2 (fun c => absurd c (by decide +kernel)) (fun _ => ⟨_, rfl, rfl, _, rfl, ite2 (fun c => absurd c (by decide +kernel)) (fun _ => ⟨_, rfl, rfl, _, rfl, ite2 (fun c => absurd c (by decide +kernel)) (fun _ => ⟨_, rfl, rfl, _, rfl, ite2 (fun c => absurd c (by decide +kernel)) (fun _ => ?_)⟩)⟩)⟩)⟩)⟩)⟩)⟩)⟩)⟩)⟩⟩
    refine ⟨_, rfl, by show 4 ≤ sizeLine; decide, fun L hL => ⟨L, _, rfl, .inl (SqL.of upd_same), rfl, rfl, _, rfl, ite2 (fun c => absurd c (by decide +kernel)) (fun _ => ?_)⟩⟩
    have sL := same_new hL (.lst [V.str (Str.ofString "do"), V.str (Str.ofString "say"), V.str (Str.ofString "return"), V.str (Str.ofString "raise")])
    cases b with
    | true =>
      refine ⟨_, rfl, _, tk "true", _, rfl, at1.on_ (same_tups sL), ok, rfl, fun H1 s1 => ⟨by show 2 ≤ sizeLine; decide, fun t ht => ⟨by show 1 ≤ sizeLine; decide, fun L2 hL2 => ?_⟩⟩⟩
      obtain ⟨s2, w2⟩ := LW.one' ht hL2
      exact kq _ L2 ((sL.trans s1).trans s2) w2
    | false =>
      refine ⟨_, rfl, _, tk "false", _, rfl, at1.on_ (same_tups sL), ok, rfl, fun H1 s1 => ⟨by show 2 ≤ sizeLine; decide, fun t ht => ⟨by show 1 ≤ sizeLine; decide, fun L2 hL2 => ?_⟩⟩⟩
      obtain ⟨s2, w2⟩ := LW.one' ht hL2
      exact kq _ L2 ((sL.trans s1).trans s2) w2
  | new t =>
    obtain ⟨p, rfl, hp⟩ := at1
    refine ⟨_, rfl, p, _, _, _, rfl, rfl, SqT.of hp, atI_0, ⟨_, rfl, rfl, _, rfl, ite2 (fun c => absurd c (by decide +kernel)) (fun _ => ⟨_, rfl, rfl, _, rfl, ite2 (fun c => absurd c (by decide +kernel)) (fun _ => ⟨_, rfl, rfl, _, rfl, ite2 (fun c => absurd c (by decide +kernel)) (fun _ => ⟨_, rfl, rfl, _, rfl, ite2 (fun c => absurd c (by decide +kernel)) (fun _ => ⟨_, rfl, rfl, _, rfl, ite2 (fun _ => ?_) (fun c => absurd (by decide +kernel) c)⟩)⟩)⟩)⟩)⟩⟩
    refine ⟨by show 2 ≤ sizeLine; decide, fun t1 h1 => ⟨_, rfl, p, _, _, _, rfl, rfl, SqT.of (same_new h1 _ _ _ hp), atI_nat (j := 1) rfl, by show 2 ≤ sizeLine; decide, fun t2 h2 => ⟨by show 2 ≤ sizeLine; decide, fun L hL => ?_⟩⟩⟩
    obtain ⟨s2, w2⟩ := LW.two h1 h2 hL
    exact kq _ L s2 w2
  | send r mm es =>
    obtain ⟨p, vr, q, xs, rfl, hp, hq, hr1, hes⟩ := at1
    have hd0 : ∃ d', d = d' + 1 := by
      cases d with
      | zero => simp only [oE] at oo; omega
      | succ d => exact ⟨d, rfl⟩
    obtain ⟨d, rfl⟩ := hd0
    simp only [oE] at oo
    simp only [nE] at nn
    obtain ⟨ok1, ok2, ok3⟩ := ok
    have b1 := wE_b r ok2
    have b2 := wEs_b es ok3
    rw [eL_w] at b2
    refine ⟨_, rfl, p, _, _, _, rfl, rfl, SqT.of hp, atI_0, ⟨_, rfl, rfl, _, rfl, ite2 (fun _ => ?_) (fun c => absurd (by decide +kernel) c)⟩⟩
    refine ⟨_, rfl, p, _, _, _, rfl, rfl, SqT.of (hp), atI_nat (j := 1) rfl, r, vr, rfl, hr1, ⟨ok2, by omega, by omega⟩, fun H1 a1 s1 w1 => ?_⟩
    refine ⟨_, rfl, p, _, _, _, rfl, rfl, SqT.of (s1 _ _ hp), atI_nat (j := 2) rfl, by show 2 ≤ sizeLine; decide, fun t2 h2 => ⟨by show 1 ≤ sizeLine; decide, fun L2 hL2 => ?_⟩⟩
    obtain ⟨s2, w2⟩ := LW.one' h2 hL2
    obtain ⟨us, vs, g1, g2, l1, l2, c⟩ := (w1.on s2).cat w2
    refine ⟨_, _, us, vs, rfl, rfl, g1, g2, by rw [l1, l2, sizeLine_eq]; simp only [List.length_append, List.length_cons, List.length_nil]; omega, fun p3 hp3 => ?_⟩
    have w3 := c p3 hp3
    have s3 := (s1.trans s2).trans (same_new hp3 (.lst (us ++ vs)))
    generalize upd _ p3 (.lst (us ++ vs)) = H3 at w3 s3 ⊢
    refine ⟨by show 2 ≤ sizeLine; decide, fun t4 h4 => ⟨by show 1 ≤ sizeLine; decide, fun L4 hL4 => ⟨_, rfl, ?_⟩⟩⟩
    obtain ⟨s4, w4⟩ := LW.one' h4 hL4
    obtain ⟨us4, vs4, g3, g4, l3, l4, c4⟩ := w4.cat (w3.on s4)
    refine ⟨_, _, us4, vs4, rfl, rfl, g3, g4, by rw [l3, l4, sizeLine_eq]; simp only [List.length_append, List.length_cons, List.length_nil]; omega, fun p5 hp5 => ?_⟩
    have w5 := c4 p5 hp5
    have s5 := (s3.trans s4).trans (same_new hp5 (.lst (us4 ++ vs4)))
    generalize upd _ p5 (.lst (us4 ++ vs4)) = H5 at w5 s5 ⊢
    refine ⟨_, rfl, p, _, _, _, rfl, rfl, SqT.of (s5 _ _ hp), atI_nat (j := 3) rfl, eL es, q, xs, _, rfl, s5 _ _ hq, eL_at (hes.on_ (same_tups s5)), eL_ok ok3 (by omega) (by omega), by omega, fun H6 a6 s6 w6 => ?_⟩
    obtain ⟨us6, vs6, g5, g6, l5, l6, c6⟩ := (w5.on s6).cat w6
    refine ⟨_, _, us6, vs6, rfl, rfl, g5, g6, by rw [l5, l6, sizeLine_eq]; simp only [List.length_append, List.length_cons, List.length_nil]; omega, fun p7 hp7 => kq _ p7 ((s5.trans s6).trans (same_new hp7 _)) ((c6 p7 hp7).cast ?_)⟩
    simp only [wE, eL_w, List.append_assoc, List.cons_append, List.nil_append]
  | up mm es =>
    obtain ⟨p, q, xs, rfl, hp, hq, hes⟩ := at1
    have hd0 : ∃ d', d = d' + 1 := by
      cases d with
      | zero => simp only [oE] at oo; omega
      | succ d => exact ⟨d, rfl⟩
    obtain ⟨d, rfl⟩ := hd0
    simp only [oE] at oo
    simp only [nE] at nn
    obtain ⟨ok1, ok3⟩ := ok
    have b2 := wEs_b es ok3
    rw [eL_w] at b2
    refine ⟨_, rfl, p, _, _, _, rfl, rfl, SqT.of hp, atI_0, ⟨_, rfl, rfl, _, rfl, ite2 (fun c => absurd c (by decide +kernel)) (fun _ => ⟨_, rfl, rfl, _, rfl, ite2 (fun _ => ?_) (fun c => absurd (by decide +kernel) c)⟩)⟩⟩
    refine ⟨by show 2 ≤ sizeLine; decide, fun t1 h1 => ⟨by show 2 ≤ sizeLine; decide, fun t2 h2 => ⟨_, rfl, p, _, _, _, rfl, rfl, SqT.of (same_new h2 _ _ _ (same_new h1 _ _ _ hp)), atI_nat (j := 1) rfl, by show 2 ≤ sizeLine; decide, fun t3 h3 => ⟨by show 3 ≤ sizeLine; decide, fun L hL => ?_⟩⟩⟩⟩
    obtain ⟨s5, w5⟩ := LW.three h1 h2 h3 hL
    generalize upd _ L (.lst [.ref t1, .ref t2, .ref t3]) = H5 at w5 s5 ⊢
    refine ⟨_, rfl, p, _, _, _, rfl, rfl, SqT.of (s5 _ _ hp), atI_nat (j := 2) rfl, eL es, q, xs, _, rfl, s5 _ _ hq, eL_at (hes.on_ (same_tups s5)), eL_ok ok3 (by omega) (by omega), by omega, fun H6 a6 s6 w6 => ?_⟩
    obtain ⟨us6, vs6, g5, g6, l5, l6, c6⟩ := (w5.on s6).cat w6
    refine ⟨_, _, us6, vs6, rfl, rfl, g5, g6, by rw [l5, l6, sizeLine_eq]; simp only [List.length_append, List.length_cons, List.length_nil]; omega, fun p7 hp7 => kq _ p7 ((s5.trans s6).trans (same_new hp7 _)) ((c6 p7 hp7).cast ?_)⟩
    simp only [wE, eL_w, List.append_assoc, List.cons_append, List.nil_append]
  | lst es =>
    obtain ⟨p, q, xs, rfl, hp, hq, hes⟩ := at1
    have hd0 : ∃ d', d = d' + 1 := by
      cases d with
      | zero => simp only [oE] at oo; omega
      | succ d => exact ⟨d, rfl⟩
    obtain ⟨d, rfl⟩ := hd0
    simp only [oE] at oo
    simp only [nE] at nn
    have b2 := wEs_b es ok
    rw [eL_w] at b2
    refine ⟨_, rfl, p, _, _, _, rfl, rfl, SqT.of hp, atI_0, ⟨_, rfl, rfl, _, rfl, ite2 (fun c => absurd c (by decide +kernel)) (fun _ => ⟨_, rfl, rfl, _, rfl, ite2 (fun c => absurd c (by decide +kernel)) (fun _ => ⟨_, rfl, rfl, _, rfl, ite2 (fun _ => ?_) (fun c => absurd (by decide +kernel) c)⟩)⟩)⟩⟩
    refine ⟨by show 2 ≤ sizeLine; decide, fun t1 h1 => ⟨by show 1 ≤ sizeLine; decide, fun L hL => ?_⟩⟩
    obtain ⟨s5, w5⟩ := LW.one' h1 hL
    generalize upd _ L (.lst [.ref t1]) = H5 at w5 s5 ⊢
    refine ⟨_, rfl, p, _, _, _, rfl, rfl, SqT.of (s5 _ _ hp), atI_nat (j := 1) rfl, eL es, q, xs, _, rfl, s5 _ _ hq, eL_at (hes.on_ (same_tups s5)), eL_ok ok (by omega) (by omega), by omega, fun H6 a6 s6 w6 => ?_⟩
    obtain ⟨us6, vs6, g5, g6, l5, l6, c6⟩ := (w5.on s6).cat w6
    refine ⟨_, _, us6, vs6, rfl, rfl, g5, g6, by rw [l5, l6, sizeLine_eq]; simp only [List.length_append, List.length_cons, List.length_nil]; omega, fun p7 hp7 => kq _ p7 ((s5.trans s6).trans (same_new hp7 _)) ((c6 p7 hp7).cast ?_)⟩
    simp only [wE, eL_w, List.append_assoc, List.cons_append, List.nil_append]
  | blk ps ss =>
    obtain ⟨p, vw, q, xs, rfl, hp, hq, haw, hes⟩ := at1
    have hd0 : ∃ d', d = d' + 1 := by
      cases d with
      | zero => simp only [oE] at oo; omega
      | succ d => exact ⟨d, rfl⟩
    obtain ⟨d, rfl⟩ := hd0
    simp only [oE] at oo
    simp only [nE] at nn
    obtain ⟨ok1, ok2, ok3⟩ := ok
    have b2 := wSs_b ss ok3
    rw [sL_w] at b2
    obtain ⟨pw, rfl, hpw⟩ := haw
    refine ⟨_, rfl, p, _, _, _, rfl, rfl, SqT.of hp, atI_0, ⟨_, rfl, rfl, _, rfl, ite2 (fun c => absurd c (by decide +kernel)) (fun _ => ⟨_, rfl, rfl, _, rfl, ite2 (fun c => absurd c (by decide +kernel)) (fun _ => ⟨_, rfl, rfl, _, rfl, ite2 (fun c => absurd c (by decide +kernel)) (fun _ => ⟨_, rfl, rfl, _, rfl, ite2 (fun _ => ?_) (fun c => absurd (by decide +kernel) c)⟩)⟩)⟩)⟩⟩
    refine ⟨by show 2 ≤ sizeLine; decide, fun t1 h1 => ⟨by show 1 ≤ sizeLine; decide, fun L hL => ?_⟩⟩
    obtain ⟨s1, w1⟩ := LW.one' h1 hL
    generalize upd _ L (.lst [.ref t1]) = H1 at w1 s1 ⊢
    refine ⟨_, rfl, p, _, _, _, rfl, rfl, SqT.of (s1 _ _ hp), atI_nat (j := 1) rfl, ps, pw, rfl, s1 _ _ hpw, by omega, fun H2 a2 s2 w2 => ?_⟩
    obtain ⟨us, vs, g1, g2, l1, l2, c⟩ := (w1.on s2).cat w2
    have lp := plainW_len ps
    refine ⟨_, _, us, vs, rfl, rfl, g1, g2, by rw [l1, l2, sizeLine_eq]; simp only [List.length_append, List.length_cons, List.length_nil]; omega, fun p3 hp3 => ?_⟩
    have w3 := c p3 hp3
    have s3 := (s1.trans s2).trans (same_new hp3 (.lst (us ++ vs)))
    generalize upd _ p3 (.lst (us ++ vs)) = H3 at w3 s3 ⊢
    refine ⟨by show 2 ≤ sizeLine; decide, fun t4 h4 => ⟨by show 1 ≤ sizeLine; decide, fun L4 hL4 => ?_⟩⟩
    obtain ⟨s4, w4⟩ := LW.one' h4 hL4
    obtain ⟨us4, vs4, g3, g4, l3, l4, c4⟩ := (w3.on s4).cat w4
    refine ⟨_, _, us4, vs4, rfl, rfl, g3, g4, by rw [l3, l4, sizeLine_eq]; simp only [List.length_append, List.length_cons, List.length_nil]; omega, fun p5 hp5 => ?_⟩
    have w5 := c4 p5 hp5
    have s5 := (s3.trans s4).trans (same_new hp5 (.lst (us4 ++ vs4)))
    generalize upd _ p5 (.lst (us4 ++ vs4)) = H5 at w5 s5 ⊢
    refine ⟨_, rfl, p, _, _, _, rfl, rfl, SqT.of (s5 _ _ hp), atI_nat (j := 2) rfl, sL ss, q, xs, _, rfl, s5 _ _ hq, sL_at (hes.on_ (same_tups s5)), sL_ok ok3 (by omega) (by omega), by omega, fun H6 a6 s6 w6 => ?_⟩
    obtain ⟨us6, vs6, g5, g6, l5, l6, c6⟩ := (w5.on s6).cat w6
    refine ⟨_, _, us6, vs6, rfl, rfl, g5, g6, by rw [l5, l6, sizeLine_eq]; simp only [List.length_append, List.length_cons, List.length_nil]; omega, fun p7 hp7 => kq _ p7 ((s5.trans s6).trans (same_new hp7 _)) ((c6 p7 hp7).cast ?_)⟩
    simp only [wE, sL_w, List.append_assoc, List.cons_append, List.nil_append]
theorem c_wnS {d k kc : Nat} (TS : TxS K mg) (D : Dn K mg "_law_node_words" sWNode) (GL : C0 P w K mg base 1 "_law_leaf_word" spWLeaf) (GP : C0 P w K mg base 1 "_law_plain" spWPlT) (hk : kc = k + 3) (GX : C0 P w K mg base (k + 4) "_law_node_words" (spNE d)) (GCE : C0 P w K mg base (k + 2) "_law_closed" (pCE d)) (GCS : C0 P w K mg base kc "_law_closed" (pCS d)) : C0 P w K mg base (k + 5) "_law_node_words" (spNS d) := by
  obtain ⟨f, fd, F, m⟩ := D.ex
  refine ⟨f, fd, ["_law_node"], F.ok scWN (fun vs H Q E h => ?_) (fun cdv A outer s H vs Q E hr h => ?_), m, F.kp, F.binds (ps := ["_law_node"]) fun _ _ _ _ _ _ us hl => match us, hl with | [_], _ => rfl⟩
  · obtain ⟨e, v, rfl, _⟩ := h
    rfl
  obtain ⟨e, v, rfl, at1, ⟨ok, oo, nn⟩, kq⟩ := h
  refine ⟨_, pss_cons (ps_set (i := 1) scWN.nd rfl (Or.inl rfl) (pe_ix ix_tup (pv 0) pe_int (fun _ _ => rfl))) <|
    pss_cons (ps_if (pt_cmpR op_eq (pv 1) pe_str (nomark _)) (pss_cons (ps_set (i := 2) scWN.nd rfl (Or.inl rfl) (pe_op op_cat (pe_cc GX hr (by omega) pass0 (pa_cons (pe_ix ix_tup (pv 0) pe_int (fun _ _ => rfl)) pa_nil)) (pe_lst (pa_cons (pe_tup (pa_cons (pe_ix ix_tup (pv 0) pe_int (fun _ _ => rfl)) (pa_cons pe_bl pa_nil))) pa_nil)))) <| pss_one (ps_ret (pe_op op_cat (pe_op op_cat (pe_lst (pa_cons (pe_tup (pa_cons pe_str (pa_cons pe_bl pa_nil))) pa_nil)) (pv 2)) (pe_cc GCE hr (by omega) pass0 (pa_cons pe_str (pa_cons (pe_ix ix_tup (pv 0) pe_int (fun _ _ => rfl)) pa_nil)))))) pss_nil) <|
    pss_cons (ps_if (pt_cmpR op_eq (pv 1) pe_str (nomark _)) (pss_one (ps_ret (pe_op op_cat (pe_lst (pa_cons (pe_tup (pa_cons pe_str (pa_cons pe_bl pa_nil))) (pa_cons (pe_tup (pa_cons pe_str (pa_cons pe_bl pa_nil))) (pa_cons (pe_tup (pa_cons (pe_ix ix_tup (pv 0) pe_int (fun _ _ => rfl)) (pa_cons pe_bl pa_nil))) pa_nil)))) (pe_cc GCE hr (by omega) pass0 (pa_cons pe_str (pa_cons (pe_ix ix_tup (pv 0) pe_int (fun _ _ => rfl)) pa_nil)))))) pss_nil) <|
    pss_cons (ps_if (pt_cmpR op_eq (pv 1) pe_str (nomark _)) (pss_one (ps_ret (pe_op op_cat (pe_lst (pa_cons (pe_tup (pa_cons pe_str (pa_cons pe_bl pa_nil))) pa_nil)) (pe_cc GCE hr (by omega) pass0 (pa_cons pe_str (pa_cons (pe_ix ix_tup (pv 0) pe_int (fun _ _ => rfl)) pa_nil)))))) pss_nil) <|
    pss_cons (ps_if (pt_cmpR op_eq (pv 1) pe_str (nomark _)) (pss_one (ps_ret (pe_op op_cat (pe_op op_cat (pe_op op_cat (pe_lst (pa_cons (pe_tup (pa_cons pe_str (pa_cons pe_bl pa_nil))) pa_nil)) (pe_cc GP hr (by omega) pass0 (pa_cons (pe_ix ix_tup (pv 0) pe_int (fun _ _ => rfl)) pa_nil))) (pe_lst (pa_cons (pe_tup (pa_cons pe_str (pa_cons pe_bl pa_nil))) pa_nil))) (pe_cc GCS hr (by omega) pass0 (pa_cons pe_str (pa_cons (pe_ix ix_tup (pv 0) pe_int (fun _ _ => rfl)) pa_nil)))))) pss_nil) <|
    pss_cons (ps_if (pt_cmpR op_eq (pv 1) pe_str (nomark _)) (pss_one (ps_ret (pe_lst (pa_cons (pe_tup (pa_cons pe_str (pa_cons pe_bl pa_nil))) (pa_cons (pe_tup (pa_cons (pe_ix ix_tup (pv 0) pe_int (fun _ _ => rfl)) (pa_cons pe_bl pa_nil))) pa_nil))))) pss_nil) <|
    pss_cons (ps_if (pt_cmpR op_eq (pv 1) pe_str (nomark _)) (pss_one (ps_ret (pe_op op_cat (pe_lst (pa_cons (pe_tup (pa_cons (pe_ix ix_tup (pv 0) pe_int (fun _ _ => rfl)) (pa_cons pe_bl pa_nil))) (pa_cons (pe_tup (pa_cons pe_str (pa_cons pe_bl pa_nil))) pa_nil))) (pe_cc GX hr (by omega) pass0 (pa_cons (pe_ix ix_tup (pv 0) pe_int (fun _ _ => rfl)) pa_nil))))) pss_nil) <|
    pss_cons (ps_if (pt_cmpR op_eq (pv 1) pe_str (nomark _)) (pss_one (ps_ret (pe_op op_cat (pe_lst (pa_cons (pe_tup (pa_cons (pe_op op_add_str pe_str (pe_ix ix_tup (pv 0) pe_int (fun _ _ => rfl))) (pa_cons pe_bl pa_nil))) (pa_cons (pe_tup (pa_cons pe_str (pa_cons pe_bl pa_nil))) pa_nil))) (pe_cc GX hr (by omega) pass0 (pa_cons (pe_ix ix_tup (pv 0) pe_int (fun _ _ => rfl)) pa_nil))))) pss_nil) <|
    pss_cons (ps_if (pt_cmpR op_eq (pv 1) pe_str (nomark _)) (pss_cons (ps_set (i := 3) scWN.nd rfl (Or.inl rfl) (pe_op op_cat (pe_op op_cat (pe_lst (pa_cons (pe_tup (pa_cons pe_str (pa_cons pe_bl pa_nil))) pa_nil)) (pe_cc GX hr (by omega) pass0 (pa_cons (pe_ix ix_tup (pv 0) pe_int (fun _ _ => rfl)) pa_nil))) (pe_lst (pa_cons (pe_tup (pa_cons pe_str (pa_cons pe_bl pa_nil))) pa_nil)))) <| pss_one (ps_ret (pe_op op_cat (pe_op op_cat (pv 3) (pe_cc GCS hr (by omega) pass0 (pa_cons pe_str (pa_cons (pe_ix ix_tup (pv 0) pe_int (fun _ _ => rfl)) pa_nil)))) (pe_cc GCS hr (by omega) pass0 (pa_cons pe_str (pa_cons (pe_ix ix_tup (pv 0) pe_int (fun _ _ => rfl)) pa_nil)))))) pss_nil) <|
    pss_cons (ps_if (pt_cmpR op_eq (pv 1) pe_str (nomark _)) (pss_one (ps_ret (pe_op op_cat (pe_op op_cat (pe_op op_cat (pe_lst (pa_cons (pe_tup (pa_cons pe_str (pa_cons pe_bl pa_nil))) pa_nil)) (pe_cc GX hr (by omega) pass0 (pa_cons (pe_ix ix_tup (pv 0) pe_int (fun _ _ => rfl)) pa_nil))) (pe_lst (pa_cons (pe_tup (pa_cons pe_str (pa_cons pe_bl pa_nil))) pa_nil))) (pe_cc GCS hr (by omega) pass0 (pa_cons pe_str (pa_cons (pe_ix ix_tup (pv 0) pe_int (fun _ _ => rfl)) pa_nil)))))) pss_nil) <|
    pss_cons (ps_if (pt_cmpR op_eq (pv 1) pe_str (nomark _)) (pss_cons (ps_set (i := 3) scWN.nd rfl (Or.inl rfl) (pe_op op_cat (pe_op op_cat (pe_lst (pa_cons (pe_tup (pa_cons pe_str (pa_cons pe_bl pa_nil))) pa_nil)) (pe_cc GCS hr (by omega) pass0 (pa_cons pe_str (pa_cons (pe_ix ix_tup (pv 0) pe_int (fun _ _ => rfl)) pa_nil)))) (pe_lst (pa_cons (pe_tup (pa_cons (pe_ix ix_tup (pv 0) pe_int (fun _ _ => rfl)) (pa_cons pe_bl pa_nil))) pa_nil)))) <| pss_one (ps_ret (pe_op op_cat (pv 3) (pe_cc GCS hr (by omega) pass0 (pa_cons pe_str (pa_cons (pe_ix ix_tup (pv 0) pe_int (fun _ _ => rfl)) pa_nil)))))) pss_nil) <|
    pss_cons (ps_if (pt_cmpR op_in_seq (pv 1) (pe_lst (pa_cons pe_str (pa_cons pe_str (pa_cons pe_str (pa_cons pe_str pa_nil))))) rfl) (pss_one (ps_ret (pe_op op_cat (pe_lst (pa_cons (pe_tup (pa_cons (pv 1) (pa_cons pe_bl pa_nil))) pa_nil)) (pe_cc GX hr (by omega) pass0 (pa_cons (pe_ix ix_tup (pv 0) pe_int (fun _ _ => rfl)) pa_nil))))) pss_nil) <|
    pss_one (ps_ret (pe_lst (pa_cons (pe_tup (pa_cons (pe_cc GL hr (by omega) pass0 (pa_cons (pv 0) pa_nil)) (pa_cons pe_bl pa_nil))) pa_nil))), ?_⟩
  cases e with
  | set t ee =>
    obtain ⟨p, ve, rfl, hp, hee⟩ := at1
    simp only [oS] at oo
    simp only [nS] at nn
    obtain ⟨ok1, ok2⟩ := ok
    have b1 := wE_b ee ok2
    refine ⟨_, rfl, p, _, _, _, rfl, rfl, SqT.of hp, atI_0, ⟨_, rfl, rfl, _, rfl, ite2 (fun c => absurd c (by decide +kernel)) (fun _ => ⟨_, rfl, rfl, _, rfl, ite2 (fun c => absurd c (by decide +kernel)) (fun _ => ⟨_, rfl, rfl, _, rfl, ite2 (fun c => absurd c (by decide +kernel)) (fun _ => ⟨_, rfl, rfl, _, rfl, ite2 (fun c => absurd c (by decide +kernel)) (fun _ => ⟨_, rfl, rfl, _, rfl, ite2 (fun c => absurd c (by decide +kernel)) (fun _ => ⟨_, rfl, rfl, _, rfl, ite2 (fun _ => ?_) (fun c => absurd (by decide +kernel) c)⟩)⟩)⟩)⟩)⟩)⟩⟩
    refine ⟨_, rfl, p, _, _, _, rfl, rfl, SqT.of (hp), atI_nat (j := 1) rfl, by show 2 ≤ sizeLine; decide, fun t1 h1 => ⟨by show 2 ≤ sizeLine; decide, fun t2 h2 => ⟨by show 2 ≤ sizeLine; decide, fun L hL => ?_⟩⟩⟩
    obtain ⟨s5, w5⟩ := LW.two h1 h2 hL
    generalize upd _ L (.lst [.ref t1, .ref t2]) = H5 at w5 s5 ⊢
    refine ⟨_, rfl, p, _, _, _, rfl, rfl, SqT.of (s5 _ _ hp), atI_nat (j := 2) rfl, ee, ve, rfl, hee.on_ (same_tups s5), ⟨ok2, oo, by omega⟩, fun H6 a6 s6 w6 => ?_⟩
    obtain ⟨us6, vs6, g5, g6, l5, l6, c6⟩ := (w5.on s6).cat w6
    refine ⟨_, _, us6, vs6, rfl, rfl, g5, g6, by rw [l5, l6, sizeLine_eq]; simp only [List.length_append, List.length_cons, List.length_nil]; omega, fun p7 hp7 => kq _ p7 ((s5.trans s6).trans (same_new hp7 _)) ((c6 p7 hp7).cast ?_)⟩
    rfl
  | sfl t ee =>
    obtain ⟨p, ve, rfl, hp, hee⟩ := at1
    simp only [oS] at oo
    simp only [nS] at nn
    obtain ⟨ok1, ok2⟩ := ok
    have b1 := wE_b ee ok2
    refine ⟨_, rfl, p, _, _, _, rfl, rfl, SqT.of hp, atI_0, ⟨_, rfl, rfl, _, rfl, ite2 (fun c => absurd c (by decide +kernel)) (fun _ => ⟨_, rfl, rfl, _, rfl, ite2 (fun c => absurd c (by decide +kernel)) (fun _ => ⟨_, rfl, rfl, _, rfl, ite2 (fun c => absurd c (by decide +kernel)) (fun _ => ⟨_, rfl, rfl, _, rfl, ite2 (fun c => absurd c (by decide +kernel)) (fun _ => ⟨_, rfl, rfl, _, rfl, ite2 (fun c => absurd c (by decide +kernel)) (fun _ => ⟨_, rfl, rfl, _, rfl, ite2 (fun c => absurd c (by decide +kernel)) (fun _ => ⟨_, rfl, rfl, _, rfl, ite2 (fun _ => ?_) (fun c => absurd (by decide +kernel) c)⟩)⟩)⟩)⟩)⟩)⟩)⟩⟩
    refine ⟨_, rfl, p, _, _, _, rfl, rfl, SqT.of (hp), atI_nat (j := 1) rfl, _, _, rfl, rfl, by have := free_len ok1; have e8 : (Str.ofString "@").length = 1 := (by decide +kernel); have e9 : (mk t).length = t.length := mk_len t; rw [e8, e9, sizeLine_eq]; omega, by show 2 ≤ sizeLine; decide, fun t1 h1 => ⟨by show 2 ≤ sizeLine; decide, fun t2 h2 => ⟨by show 2 ≤ sizeLine; decide, fun L hL => ?_⟩⟩⟩
    obtain ⟨s5, w5⟩ := LW.two h1 h2 hL
    generalize upd _ L (.lst [.ref t1, .ref t2]) = H5 at w5 s5 ⊢
    refine ⟨_, rfl, p, _, _, _, rfl, rfl, SqT.of (s5 _ _ hp), atI_nat (j := 2) rfl, ee, ve, rfl, hee.on_ (same_tups s5), ⟨ok2, oo, by omega⟩, fun H6 a6 s6 w6 => ?_⟩
    obtain ⟨us6, vs6, g5, g6, l5, l6, c6⟩ := (w5.on s6).cat w6
    refine ⟨_, _, us6, vs6, rfl, rfl, g5, g6, by rw [l5, l6, sizeLine_eq]; simp only [List.length_append, List.length_cons, List.length_nil]; omega, fun p7 hp7 => kq _ p7 ((s5.trans s6).trans (same_new hp7 _)) ((c6 p7 hp7).cast ?_)⟩
    rw [show tl (Str.ofString "@" ++ mk t) = 64 :: t by rw [tl_add]; rfl]
    rfl
  | iff ee sa sb =>
    obtain ⟨p, ve, q1, xs, q2, ys, rfl, hp, hq1, hq2, hee, ha, hb⟩ := at1
    have hd0 : ∃ d', d = d' + 1 := by
      cases d with
      | zero => simp only [oS] at oo; omega
      | succ d => exact ⟨d, rfl⟩
    obtain ⟨d, rfl⟩ := hd0
    simp only [oS] at oo
    simp only [nS] at nn
    obtain ⟨ok1, ok2, ok3⟩ := ok
    have b1 := wE_b ee ok1
    have b2 := wSs_b sa ok2
    have b3 := wSs_b sb ok3
    rw [sL_w] at b2 b3
    refine ⟨_, rfl, p, _, _, _, rfl, rfl, SqT.of hp, atI_0, ⟨_, rfl, rfl, _, rfl, ite2 (fun c => absurd c (by decide +kernel)) (fun _ => ⟨_, rfl, rfl, _, rfl, ite2 (fun c => absurd c (by decide +kernel)) (fun _ => ⟨_, rfl, rfl, _, rfl, ite2 (fun c => absurd c (by decide +kernel)) (fun _ => ⟨_, rfl, rfl, _, rfl, ite2 (fun c => absurd c (by decide +kernel)) (fun _ => ⟨_, rfl, rfl, _, rfl, ite2 (fun c => absurd c (by decide +kernel)) (fun _ => ⟨_, rfl, rfl, _, rfl, ite2 (fun c => absurd c (by decide +kernel)) (fun _ => ⟨_, rfl, rfl, _, rfl, ite2 (fun c => absurd c (by decide +kernel)) (fun _ => ⟨_, rfl, rfl, _, rfl, ite2 (fun _ => ?_) (fun c => absurd (by decide +kernel) c)⟩)⟩)⟩)⟩)⟩)⟩)⟩)⟩⟩
    refine ⟨by show 2 ≤ sizeLine; decide, fun t1 h1 => ⟨by show 1 ≤ sizeLine; decide, fun L hL => ?_⟩⟩
    obtain ⟨s1, w1⟩ := LW.one' h1 hL
    generalize upd _ L (.lst [.ref t1]) = H1 at w1 s1 ⊢
    refine ⟨_, rfl, p, _, _, _, rfl, rfl, SqT.of (s1 _ _ hp), atI_nat (j := 1) rfl, ee, ve, rfl, hee.on_ (same_tups s1), ⟨ok1, by omega, by omega⟩, fun H2 a2 s2 w2 => ?_⟩
    obtain ⟨us, vs, g1, g2, l1, l2, c⟩ := (w1.on s2).cat w2
    refine ⟨_, _, us, vs, rfl, rfl, g1, g2, by rw [l1, l2, sizeLine_eq]; simp only [List.length_append, List.length_cons, List.length_nil]; omega, fun p3 hp3 => ?_⟩
    have w3 := c p3 hp3
    have s3 := (s1.trans s2).trans (same_new hp3 (.lst (us ++ vs)))
    generalize upd _ p3 (.lst (us ++ vs)) = H3 at w3 s3 ⊢
    refine ⟨by show 2 ≤ sizeLine; decide, fun t4 h4 => ⟨by show 1 ≤ sizeLine; decide, fun L4 hL4 => ?_⟩⟩
    obtain ⟨s4, w4⟩ := LW.one' h4 hL4
    obtain ⟨us4, vs4, g3, g4, l3, l4, c4⟩ := (w3.on s4).cat w4
    refine ⟨_, _, us4, vs4, rfl, rfl, g3, g4, by rw [l3, l4, sizeLine_eq]; simp only [List.length_append, List.length_cons, List.length_nil]; omega, fun p5 hp5 => ?_⟩
    have w5 := c4 p5 hp5
    have s5 := (s3.trans s4).trans (same_new hp5 (.lst (us4 ++ vs4)))
    generalize upd _ p5 (.lst (us4 ++ vs4)) = H5 at w5 s5 ⊢
    refine ⟨_, rfl, _, rfl, p, _, _, _, rfl, rfl, SqT.of (s5 _ _ hp), atI_nat (j := 2) rfl, sL sa, q1, xs, _, rfl, s5 _ _ hq1, sL_at (ha.on_ (same_tups s5)), sL_ok ok2 (by omega) (by omega), by omega, fun H6 a6 s6 w6 => ?_⟩
    obtain ⟨us6, vs6, g5, g6, l5, l6, c6⟩ := (w5.on s6).cat w6
    refine ⟨_, _, us6, vs6, rfl, rfl, g5, g6, by rw [l5, l6, sizeLine_eq]; simp only [List.length_append, List.length_cons, List.length_nil]; omega, fun p7 hp7 => ?_⟩
    have w7 := c6 p7 hp7
    have s7 := (s5.trans s6).trans (same_new hp7 (.lst (us6 ++ vs6)))
    generalize upd _ p7 (.lst (us6 ++ vs6)) = H7 at w7 s7 ⊢
    refine ⟨_, rfl, p, _, _, _, rfl, rfl, SqT.of (s7 _ _ hp), atI_nat (j := 3) rfl, sL sb, q2, ys, _, rfl, s7 _ _ hq2, sL_at (hb.on_ (same_tups s7)), sL_ok ok3 (by omega) (by omega), by omega, fun H8 a8 s8 w8 => ?_⟩
    obtain ⟨us8, vs8, g7, g8, l7, l8, c8⟩ := (w7.on s8).cat w8
    refine ⟨_, _, us8, vs8, rfl, rfl, g7, g8, by rw [l7, l8, sizeLine_eq]; simp only [List.length_append, List.length_cons, List.length_nil]; omega, fun p9 hp9 => kq _ p9 ((s7.trans s8).trans (same_new hp9 _)) ((c8 p9 hp9).cast ?_)⟩
    simp only [wS, sL_w, List.append_assoc, List.cons_append, List.nil_append]
  | whl ee sa =>
    obtain ⟨p, ve, q1, xs, rfl, hp, hq1, hee, ha⟩ := at1
    have hd0 : ∃ d', d = d' + 1 := by
      cases d with
      | zero => simp only [oS] at oo; omega
      | succ d => exact ⟨d, rfl⟩
    obtain ⟨d, rfl⟩ := hd0
    simp only [oS] at oo
    simp only [nS] at nn
    obtain ⟨ok1, ok2⟩ := ok
    have b1 := wE_b ee ok1
    have b2 := wSs_b sa ok2
    rw [sL_w] at b2
    refine ⟨_, rfl, p, _, _, _, rfl, rfl, SqT.of hp, atI_0, ⟨_, rfl, rfl, _, rfl, ite2 (fun c => absurd c (by decide +kernel)) (fun _ => ⟨_, rfl, rfl, _, rfl, ite2 (fun c => absurd c (by decide +kernel)) (fun _ => ⟨_, rfl, rfl, _, rfl, ite2 (fun c => absurd c (by decide +kernel)) (fun _ => ⟨_, rfl, rfl, _, rfl, ite2 (fun c => absurd c (by decide +kernel)) (fun _ => ⟨_, rfl, rfl, _, rfl, ite2 (fun c => absurd c (by decide +kernel)) (fun _ => ⟨_, rfl, rfl, _, rfl, ite2 (fun c => absurd c (by decide +kernel)) (fun _ => ⟨_, rfl, rfl, _, rfl, ite2 (fun c => absurd c (by decide +kernel)) (fun _ => ⟨_, rfl, rfl, _, rfl, ite2 (fun c => absurd c (by decide +kernel)) (fun _ => ⟨_, rfl, rfl, _, rfl, ite2 (fun _ => ?_) (fun c => absurd (by decide +kernel) c)⟩)⟩)⟩)⟩)⟩)⟩)⟩)⟩)⟩⟩
    refine ⟨by show 2 ≤ sizeLine; decide, fun t1 h1 => ⟨by show 1 ≤ sizeLine; decide, fun L hL => ?_⟩⟩
    obtain ⟨s1, w1⟩ := LW.one' h1 hL
    generalize upd _ L (.lst [.ref t1]) = H1 at w1 s1 ⊢
    refine ⟨_, rfl, p, _, _, _, rfl, rfl, SqT.of (s1 _ _ hp), atI_nat (j := 1) rfl, ee, ve, rfl, hee.on_ (same_tups s1), ⟨ok1, by omega, by omega⟩, fun H2 a2 s2 w2 => ?_⟩
    obtain ⟨us, vs, g1, g2, l1, l2, c⟩ := (w1.on s2).cat w2
    refine ⟨_, _, us, vs, rfl, rfl, g1, g2, by rw [l1, l2, sizeLine_eq]; simp only [List.length_append, List.length_cons, List.length_nil]; omega, fun p3 hp3 => ?_⟩
    have w3 := c p3 hp3
    have s3 := (s1.trans s2).trans (same_new hp3 (.lst (us ++ vs)))
    generalize upd _ p3 (.lst (us ++ vs)) = H3 at w3 s3 ⊢
    refine ⟨by show 2 ≤ sizeLine; decide, fun t4 h4 => ⟨by show 1 ≤ sizeLine; decide, fun L4 hL4 => ?_⟩⟩
    obtain ⟨s4, w4⟩ := LW.one' h4 hL4
    obtain ⟨us4, vs4, g3, g4, l3, l4, c4⟩ := (w3.on s4).cat w4
    refine ⟨_, _, us4, vs4, rfl, rfl, g3, g4, by rw [l3, l4, sizeLine_eq]; simp only [List.length_append, List.length_cons, List.length_nil]; omega, fun p5 hp5 => ?_⟩
    have w5 := c4 p5 hp5
    have s5 := (s3.trans s4).trans (same_new hp5 (.lst (us4 ++ vs4)))
    generalize upd _ p5 (.lst (us4 ++ vs4)) = H5 at w5 s5 ⊢
    refine ⟨_, rfl, p, _, _, _, rfl, rfl, SqT.of (s5 _ _ hp), atI_nat (j := 2) rfl, sL sa, q1, xs, _, rfl, s5 _ _ hq1, sL_at (ha.on_ (same_tups s5)), sL_ok ok2 (by omega) (by omega), by omega, fun H6 a6 s6 w6 => ?_⟩
    obtain ⟨us6, vs6, g5, g6, l5, l6, c6⟩ := (w5.on s6).cat w6
    refine ⟨_, _, us6, vs6, rfl, rfl, g5, g6, by rw [l5, l6, sizeLine_eq]; simp only [List.length_append, List.length_cons, List.length_nil]; omega, fun p7 hp7 => kq _ p7 ((s5.trans s6).trans (same_new hp7 _)) ((c6 p7 hp7).cast ?_)⟩
    simp only [wS, sL_w, List.append_assoc, List.cons_append, List.nil_append]
  | tri sa t sb =>
    obtain ⟨p, q1, xs, q2, ys, rfl, hp, hq1, hq2, ha, hb⟩ := at1
    have hd0 : ∃ d', d = d' + 1 := by
      cases d with
      | zero => simp only [oS] at oo; omega
      | succ d => exact ⟨d, rfl⟩
    obtain ⟨d, rfl⟩ := hd0
    simp only [oS] at oo
    simp only [nS] at nn
    obtain ⟨ok1, ok2, ok3⟩ := ok
    have b2 := wSs_b sa ok2
    have b3 := wSs_b sb ok3
    rw [sL_w] at b2 b3
    refine ⟨_, rfl, p, _, _, _, rfl, rfl, SqT.of hp, atI_0, ⟨_, rfl, rfl, _, rfl, ite2 (fun c => absurd c (by decide +kernel)) (fun _ => ⟨_, rfl, rfl, _, rfl, ite2 (fun c => absurd c (by decide +kernel)) (fun _ => ⟨_, rfl, rfl, _, rfl, ite2 (fun c => absurd c (by decide +kernel)) (fun _ => ⟨_, rfl, rfl, _, rfl, ite2 (fun c => absurd c (by decide +kernel)) (fun _ => ⟨_, rfl, rfl, _, rfl, ite2 (fun c => absurd c (by decide +kernel)) (fun _ => ⟨_, rfl, rfl, _, rfl, ite2 (fun c => absurd c (by decide +kernel)) (fun _ => ⟨_, rfl, rfl, _, rfl, ite2 (fun c => absurd c (by decide +kernel)) (fun _ => ⟨_, rfl, rfl, _, rfl, ite2 (fun c => absurd c (by decide +kernel)) (fun _ => ⟨_, rfl, rfl, _, rfl, ite2 (fun c => absurd c (by decide +kernel)) (fun _ => ⟨_, rfl, rfl, _, rfl, ite2 (fun _ => ?_) (fun c => absurd (by decide +kernel) c)⟩)⟩)⟩)⟩)⟩)⟩)⟩)⟩)⟩)⟩⟩
    refine ⟨by show 2 ≤ sizeLine; decide, fun t1 h1 => ⟨by show 1 ≤ sizeLine; decide, fun L hL => ?_⟩⟩
    obtain ⟨s1, w1⟩ := LW.one' h1 hL
    generalize upd _ L (.lst [.ref t1]) = H1 at w1 s1 ⊢
    refine ⟨_, rfl, p, _, _, _, rfl, rfl, SqT.of (s1 _ _ hp), atI_nat (j := 1) rfl, sL sa, q1, xs, _, rfl, s1 _ _ hq1, sL_at (ha.on_ (same_tups s1)), sL_ok ok2 (by omega) (by omega), by omega, fun H2 a2 s2 w2 => ?_⟩
    obtain ⟨us, vs, g1, g2, l1, l2, c⟩ := (w1.on s2).cat w2
    refine ⟨_, _, us, vs, rfl, rfl, g1, g2, by rw [l1, l2, sizeLine_eq]; simp only [List.length_append, List.length_cons, List.length_nil]; omega, fun p3 hp3 => ?_⟩
    have w3 := c p3 hp3
    have s3 := (s1.trans s2).trans (same_new hp3 (.lst (us ++ vs)))
    generalize upd _ p3 (.lst (us ++ vs)) = H3 at w3 s3 ⊢
    refine ⟨_, rfl, p, _, _, _, rfl, rfl, SqT.of (s3 _ _ hp), atI_nat (j := 2) rfl, by show 2 ≤ sizeLine; decide, fun t4 h4 => ⟨by show 1 ≤ sizeLine; decide, fun L4 hL4 => ?_⟩⟩
    obtain ⟨s4, w4⟩ := LW.one' h4 hL4
    obtain ⟨us4, vs4, g3, g4, l3, l4, c4⟩ := (w3.on s4).cat w4
    refine ⟨_, _, us4, vs4, rfl, rfl, g3, g4, by rw [l3, l4, sizeLine_eq]; simp only [List.length_append, List.length_cons, List.length_nil]; omega, fun p5 hp5 => ?_⟩
    have w5 := c4 p5 hp5
    have s5 := (s3.trans s4).trans (same_new hp5 (.lst (us4 ++ vs4)))
    generalize upd _ p5 (.lst (us4 ++ vs4)) = H5 at w5 s5 ⊢
    refine ⟨_, rfl, _, rfl, p, _, _, _, rfl, rfl, SqT.of (s5 _ _ hp), atI_nat (j := 3) rfl, sL sb, q2, ys, _, rfl, s5 _ _ hq2, sL_at (hb.on_ (same_tups s5)), sL_ok ok3 (by omega) (by omega), by omega, fun H8 a8 s8 w8 => ?_⟩
    obtain ⟨us8, vs8, g7, g8, l7, l8, c8⟩ := (w5.on s8).cat w8
    refine ⟨_, _, us8, vs8, rfl, rfl, g7, g8, by rw [l7, l8, sizeLine_eq]; simp only [List.length_append, List.length_cons, List.length_nil]; omega, fun p9 hp9 => kq _ p9 ((s5.trans s8).trans (same_new hp9 _)) ((c8 p9 hp9).cast ?_)⟩
    simp only [wS, sL_w, List.append_assoc, List.cons_append, List.nil_append]
  | pl t ee =>
    obtain ⟨p, ve, rfl, hp, hee⟩ := at1
    simp only [oS] at oo
    simp only [nS] at nn
    obtain ⟨ok1, ok2⟩ := ok
    have b1 := wE_b ee ok2
    rcases pl_cases ok1 with rfl | rfl | rfl | rfl
    · rw [mk_tl] at hp
      refine ⟨_, rfl, p, _, _, _, rfl, rfl, SqT.of hp, atI_0, ⟨_, rfl, rfl, _, rfl, ite2 (fun c => absurd c (by decide +kernel)) (fun _ => ⟨_, rfl, rfl, _, rfl, ite2 (fun c => absurd c (by decide +kernel)) (fun _ => ⟨_, rfl, rfl, _, rfl, ite2 (fun c => absurd c (by decide +kernel)) (fun _ => ⟨_, rfl, rfl, _, rfl, ite2 (fun c => absurd c (by decide +kernel)) (fun _ => ⟨_, rfl, rfl, _, rfl, ite2 (fun c => absurd c (by decide +kernel)) (fun _ => ⟨_, rfl, rfl, _, rfl, ite2 (fun c => absurd c (by decide +kernel)) (fun _ => ⟨_, rfl, rfl, _, rfl, ite2 (fun c => absurd c (by decide +kernel)) (fun _ => ⟨_, rfl, rfl, _, rfl, ite2 (fun c => absurd c (by decide +kernel)) (fun _ => ⟨_, rfl, rfl, _, rfl, ite2 (fun c => absurd c (by decide +kernel)) (fun _ => ⟨_, rfl, rfl, _, rfl, ite2 (fun c => absurd c (by decide +kernel)) (fun _ => ?_)⟩)⟩)⟩)⟩)⟩)⟩)⟩)⟩)⟩)⟩⟩
      refine ⟨_, rfl, by show 4 ≤ sizeLine; decide, fun L0 hL0 => ⟨L0, _, rfl, .inl (SqL.of upd_same), rfl, rfl, _, rfl, ite2 (fun _ => ?_) (fun c => absurd (by decide +kernel) c)⟩⟩
      have s0 := same_new hL0 (.lst [V.str (Str.ofString "do"), V.str (Str.ofString "say"), V.str (Str.ofString "return"), V.str (Str.ofString "raise")])
      generalize upd H L0 _ = H0 at s0 ⊢
      refine ⟨_, rfl, by show 2 ≤ sizeLine; decide, fun t1 h1 => ⟨by show 1 ≤ sizeLine; decide, fun L hL => ?_⟩⟩
      obtain ⟨s5, w5⟩ := LW.one' h1 hL
      generalize upd _ L (.lst [.ref t1]) = H5 at w5 s5 ⊢
      refine ⟨_, rfl, p, _, _, _, rfl, rfl, SqT.of (s5 _ _ (s0 _ _ hp)), atI_nat (j := 1) rfl, ee, ve, rfl, (hee.on_ (same_tups s0)).on_ (same_tups s5), ⟨ok2, oo, by omega⟩, fun H6 a6 s6 w6 => ?_⟩
      obtain ⟨us6, vs6, g5, g6, l5, l6, c6⟩ := (w5.on s6).cat w6
      exact ⟨_, _, us6, vs6, rfl, rfl, g5, g6, by rw [l5, l6, sizeLine_eq]; simp only [List.length_append, List.length_cons, List.length_nil]; omega, fun p7 hp7 => kq _ p7 (((s0.trans s5).trans s6).trans (same_new hp7 _)) (c6 p7 hp7)⟩
    · rw [mk_tl] at hp
      refine ⟨_, rfl, p, _, _, _, rfl, rfl, SqT.of hp, atI_0, ⟨_, rfl, rfl, _, rfl, ite2 (fun c => absurd c (by decide +kernel)) (fun _ => ⟨_, rfl, rfl, _, rfl, ite2 (fun c => absurd c (by decide +kernel)) (fun _ => ⟨_, rfl, rfl, _, rfl, ite2 (fun c => absurd c (by decide +kernel)) (fun _ => ⟨_, rfl, rfl, _, rfl, ite2 (fun c => absurd c (by decide +kernel)) (fun _ => ⟨_, rfl, rfl, _, rfl, ite2 (fun c => absurd c (by decide +kernel)) (fun _ => ⟨_, rfl, rfl, _, rfl, ite2 (fun c => absurd c (by decide +kernel)) (fun _ => ⟨_, rfl, rfl, _, rfl, ite2 (fun c => absurd c (by decide +kernel)) (fun _ => ⟨_, rfl, rfl, _, rfl, ite2 (fun c => absurd c (by decide +kernel)) (fun _ => ⟨_, rfl, rfl, _, rfl, ite2 (fun c => absurd c (by decide +kernel)) (fun _ => ⟨_, rfl, rfl, _, rfl, ite2 (fun c => absurd c (by decide +kernel)) (fun _ => ?_)⟩)⟩)⟩)⟩)⟩)⟩)⟩)⟩)⟩)⟩⟩
      refine ⟨_, rfl, by show 4 ≤ sizeLine; decide, fun L0 hL0 => ⟨L0, _, rfl, .inl (SqL.of upd_same), rfl, rfl, _, rfl, ite2 (fun _ => ?_) (fun c => absurd (by decide +kernel) c)⟩⟩
      have s0 := same_new hL0 (.lst [V.str (Str.ofString "do"), V.str (Str.ofString "say"), V.str (Str.ofString "return"), V.str (Str.ofString "raise")])
      generalize upd H L0 _ = H0 at s0 ⊢
      refine ⟨_, rfl, by show 2 ≤ sizeLine; decide, fun t1 h1 => ⟨by show 1 ≤ sizeLine; decide, fun L hL => ?_⟩⟩
      obtain ⟨s5, w5⟩ := LW.one' h1 hL
      generalize upd _ L (.lst [.ref t1]) = H5 at w5 s5 ⊢
      refine ⟨_, rfl, p, _, _, _, rfl, rfl, SqT.of (s5 _ _ (s0 _ _ hp)), atI_nat (j := 1) rfl, ee, ve, rfl, (hee.on_ (same_tups s0)).on_ (same_tups s5), ⟨ok2, oo, by omega⟩, fun H6 a6 s6 w6 => ?_⟩
      obtain ⟨us6, vs6, g5, g6, l5, l6, c6⟩ := (w5.on s6).cat w6
      exact ⟨_, _, us6, vs6, rfl, rfl, g5, g6, by rw [l5, l6, sizeLine_eq]; simp only [List.length_append, List.length_cons, List.length_nil]; omega, fun p7 hp7 => kq _ p7 (((s0.trans s5).trans s6).trans (same_new hp7 _)) (c6 p7 hp7)⟩
    · rw [mk_tl] at hp
      refine ⟨_, rfl, p, _, _, _, rfl, rfl, SqT.of hp, atI_0, ⟨_, rfl, rfl, _, rfl, ite2 (fun c => absurd c (by decide +kernel)) (fun _ => ⟨_, rfl, rfl, _, rfl, ite2 (fun c => absurd c (by decide +kernel)) (fun _ => ⟨_, rfl, rfl, _, rfl, ite2 (fun c => absurd c (by decide +kernel)) (fun _ => ⟨_, rfl, rfl, _, rfl, ite2 (fun c => absurd c (by decide +kernel)) (fun _ => ⟨_, rfl, rfl, _, rfl, ite2 (fun c => absurd c (by decide +kernel)) (fun _ => ⟨_, rfl, rfl, _, rfl, ite2 (fun c => absurd c (by decide +kernel)) (fun _ => ⟨_, rfl, rfl, _, rfl, ite2 (fun c => absurd c (by decide +kernel)) (fun _ => ⟨_, rfl, rfl, _, rfl, ite2 (fun c => absurd c (by decide +kernel)) (fun _ => ⟨_, rfl, rfl, _, rfl, ite2 (fun c => absurd c (by decide +kernel)) (fun _ => ⟨_, rfl, rfl, _, rfl, ite2 (fun c => absurd c (by decide +kernel)) (fun _ => ?_)⟩)⟩)⟩)⟩)⟩)⟩)⟩)⟩)⟩)⟩⟩
      refine ⟨_, rfl, by show 4 ≤ sizeLine; decide, fun L0 hL0 => ⟨L0, _, rfl, .inl (SqL.of upd_same), rfl, rfl, _, rfl, ite2 (fun _ => ?_) (fun c => absurd (by decide +kernel) c)⟩⟩
      have s0 := same_new hL0 (.lst [V.str (Str.ofString "do"), V.str (Str.ofString "say"), V.str (Str.ofString "return"), V.str (Str.ofString "raise")])
      generalize upd H L0 _ = H0 at s0 ⊢
      refine ⟨_, rfl, by show 2 ≤ sizeLine; decide, fun t1 h1 => ⟨by show 1 ≤ sizeLine; decide, fun L hL => ?_⟩⟩
      obtain ⟨s5, w5⟩ := LW.one' h1 hL
      generalize upd _ L (.lst [.ref t1]) = H5 at w5 s5 ⊢
      refine ⟨_, rfl, p, _, _, _, rfl, rfl, SqT.of (s5 _ _ (s0 _ _ hp)), atI_nat (j := 1) rfl, ee, ve, rfl, (hee.on_ (same_tups s0)).on_ (same_tups s5), ⟨ok2, oo, by omega⟩, fun H6 a6 s6 w6 => ?_⟩
      obtain ⟨us6, vs6, g5, g6, l5, l6, c6⟩ := (w5.on s6).cat w6
      exact ⟨_, _, us6, vs6, rfl, rfl, g5, g6, by rw [l5, l6, sizeLine_eq]; simp only [List.length_append, List.length_cons, List.length_nil]; omega, fun p7 hp7 => kq _ p7 (((s0.trans s5).trans s6).trans (same_new hp7 _)) (c6 p7 hp7)⟩
    · rw [mk_tl] at hp
      refine ⟨_, rfl, p, _, _, _, rfl, rfl, SqT.of hp, atI_0, ⟨_, rfl, rfl, _, rfl, ite2 (fun c => absurd c (by decide +kernel)) (fun _ => ⟨_, rfl, rfl, _, rfl, ite2 (fun c => absurd c (by decide +kernel)) (fun _ => ⟨_, rfl, rfl, _, rfl, ite2 (fun c => absurd c (by decide +kernel)) (fun _ => ⟨_, rfl, rfl, _, rfl, ite2 (fun c => absurd c (by decide +kernel)) (fun _ => ⟨_, rfl, rfl, _, rfl, ite2 (fun c => absurd c (by decide +kernel)) (fun _ => ⟨_, rfl, rfl, _, rfl, ite2 (fun c => absurd c (by decide +kernel)) (fun _ => ⟨_, rfl, rfl, _, rfl, ite2 (fun c => absurd c (by decide +kernel)) (fun _ => ⟨_, rfl, rfl, _, rfl, ite2 (fun c => absurd c (by decide +kernel)) (fun _ => ⟨_, rfl, rfl, _, rfl, ite2 (fun c => absurd c (by decide +kernel)) (fun _ => ⟨_, rfl, rfl, _, rfl, ite2 (fun c => absurd c (by decide +kernel)) (fun _ => ?_)⟩)⟩)⟩)⟩)⟩)⟩)⟩)⟩)⟩)⟩⟩
      refine ⟨_, rfl, by show 4 ≤ sizeLine; decide, fun L0 hL0 => ⟨L0, _, rfl, .inl (SqL.of upd_same), rfl, rfl, _, rfl, ite2 (fun _ => ?_) (fun c => absurd (by decide +kernel) c)⟩⟩
      have s0 := same_new hL0 (.lst [V.str (Str.ofString "do"), V.str (Str.ofString "say"), V.str (Str.ofString "return"), V.str (Str.ofString "raise")])
      generalize upd H L0 _ = H0 at s0 ⊢
      refine ⟨_, rfl, by show 2 ≤ sizeLine; decide, fun t1 h1 => ⟨by show 1 ≤ sizeLine; decide, fun L hL => ?_⟩⟩
      obtain ⟨s5, w5⟩ := LW.one' h1 hL
      generalize upd _ L (.lst [.ref t1]) = H5 at w5 s5 ⊢
      refine ⟨_, rfl, p, _, _, _, rfl, rfl, SqT.of (s5 _ _ (s0 _ _ hp)), atI_nat (j := 1) rfl, ee, ve, rfl, (hee.on_ (same_tups s0)).on_ (same_tups s5), ⟨ok2, oo, by omega⟩, fun H6 a6 s6 w6 => ?_⟩
      obtain ⟨us6, vs6, g5, g6, l5, l6, c6⟩ := (w5.on s6).cat w6
      exact ⟨_, _, us6, vs6, rfl, rfl, g5, g6, by rw [l5, l6, sizeLine_eq]; simp only [List.length_append, List.length_cons, List.length_nil]; omega, fun p7 hp7 => kq _ p7 (((s0.trans s5).trans s6).trans (same_new hp7 _)) (c6 p7 hp7)⟩
end
end My
set_option Elab.async false
set_option linter.all false
set_option maxRecDepth 100000
set_option maxHeartbeats 4000000
namespace My
open PySem L2 SS
abbrev lSs (s : Sts) : Nat := (wSs s).length
def wM (m : Me) : List WB := (tk "method", false) :: (m.m, false) :: (plainW m.ps ++ (tk ":", false) :: (wSs m.ss ++ [(tk "end", false)]))
def wMs (ms : List Me) : List WB := ms.flatMap wM
def wFd (fs : List T) : List WB := fs.flatMap fun f => [(tk "field", false), (f, false)]
def wT : Tr → List WB
  | .kind n p fs ms => (tk "kind", false) :: (n, false) :: (tk "under", false) :: (p, false) :: (wFd fs ++ (wMs ms ++ [(tk "end", false)]))
  | .more n ms => (tk "more", false) :: (n, false) :: (wMs ms ++ [(tk "end", false)])
abbrev lM (m : Me) : Nat := (wM m).length
abbrev lT (t : Tr) : Nat := (wT t).length
def lMs (ms : List Me) : Nat := (wMs ms).length
theorem lM_eq (m : Me) : lM m = 2 + (m.ps.length + 1) + (lSs m.ss + 1) := by
  show (wM m).length = 2 + (m.ps.length + 1) + ((wSs m.ss).length + 1)
  simp [wM, plainW_len]
  omega
theorem wMs_snoc (ms : List Me) (m : Me) : wMs (ms ++ [m]) = wMs ms ++ wM m := by unfold wMs; rw [List.flatMap_append]; simp
theorem lMs_snoc (ms : List Me) (m : Me) : lMs (ms ++ [m]) = lMs ms + lM m := by unfold lMs; rw [wMs_snoc, List.length_append]
theorem wFd_len : ∀ fs : List T, (wFd fs).length = 2 * fs.length
  | [] => rfl
  | f :: r => by
    show ([(tk "field", false), (f, false)] ++ wFd r).length = _
    rw [List.length_append, wFd_len r]
    simp only [List.length_cons, List.length_nil]
    omega
def wTs (ts : List Tr) : List WB := ts.flatMap wT
theorem wTs_snoc (ts : List Tr) (t : Tr) : wTs (ts ++ [t]) = wTs ts ++ wT t := by unfold wTs; rw [List.flatMap_append]; simp
theorem AtL.get' {α : Type} {R : Hp → α → V → Prop} {H : Hp} : ∀ {xs : List α} {vs : List V} {i : Nat} {x : α}, AtL R H xs vs → xs[i]? = some x → ∃ v, vs[i]? = some v ∧ R H x v
  | [], vs, i, x, h, hx => by simp at hx
  | y :: r, vs, 0, x, ⟨u, us, h1, h2, h3⟩, hx => by
    subst h1
    simp at hx
    subst hx
    exact ⟨u, rfl, h2⟩
  | y :: r, vs, i + 1, x, ⟨u, us, h1, h2, h3⟩, hx => by
    subst h1
    obtain ⟨v, g1, g2⟩ := AtL.get' (i := i) h3 (by simpa using hx)
    exact ⟨v, by simpa using g1, g2⟩
end My
set_option Elab.async false
set_option linter.all false
set_option maxRecDepth 100000
set_option maxHeartbeats 4000000
namespace My
open PySem L2 SS
abbrev sWMe : Stmt := top 29
abbrev sWTr : Stmt := top 30
section
variable {P : Program} {w : World} {K : PySem.W.Frag} {mg : Str → Option Value} {base : Heap}
theorem Cc.mono {CX : CXT} {j k : Nat} {x : Str} {sp : Sp} (h : Cc P w K mg base CX j x sp) (hk : j ≤ k) : Cc P w K mg base CX k x sp := by
  obtain ⟨f, fd, ps, F, r⟩ := h.ex
  exact ⟨f, fd, ps, F.mono hk, r⟩
theorem c_noneWN (k : Nat) (D : Dn K mg "_law_node_words" sWNode) : C0 P w K mg base (k + 1) "_law_node_words" spF := by
  obtain ⟨f, fd, F, m⟩ := D.ex
  exact ⟨f, fd, ["_law_node"], F.ok scWN (fun vs H Q E h => h.elim) (fun cdv A outer s H vs Q E hr h => h.elim), m, F.kp, F.binds (ps := ["_law_node"]) fun _ _ _ _ _ _ us hl => match us, hl with | [_], _ => rfl⟩
theorem c_noneWC (k : Nat) (D : Dn K mg "_law_closed" sWClosed) : C0 P w K mg base (k + 1) "_law_closed" spF := by
  obtain ⟨f, fd, F, m⟩ := D.ex
  exact ⟨f, fd, ["_law_word_here", "_law_nodes"], F.ok scWCl (fun vs H Q E h => h.elim) (fun cdv A outer s H vs Q E hr h => h.elim), m, F.kp, F.binds (ps := ["_law_word_here", "_law_nodes"]) fun _ _ _ _ _ _ us hl => match us, hl with | [_, _], _ => rfl⟩
theorem knotW (TS : TxS K mg) (D : Dn K mg "_law_node_words" sWNode) (DA : Dn K mg "_law_all_words" sWAll) (DC : Dn K mg "_law_closed" sWClosed) (GL : C0 P w K mg base 1 "_law_leaf_word" spWLeaf) (GP : C0 P w K mg base 1 "_law_plain" spWPlT) :
    ∀ d : Nat, C0 P w K mg base (4 * d + 8) "_law_node_words" (spNE d) ∧ C0 P w K mg base (4 * d + 10) "_law_closed" (spCE d) ∧ C0 P w K mg base (4 * d + 11) "_law_closed" (spCS d)
  | 0 => by
    have e := c_wnE (P := P) (w := w) (base := base) (d := 0) (k := 4) TS D GL GP rfl (c_noneWN 3 D) (c_noneWC 5 DC) (c_noneWC 6 DC)
    have s := c_wnS (P := P) (w := w) (base := base) (d := 0) (k := 4) TS D GL GP rfl e (c_noneWC 5 DC) (c_noneWC 6 DC)
    exact ⟨e, c_wcl (fun H H' x v t h => h.on_ t) DC (c_wall (fun H H' x v t h => h.on_ t) DA e), c_wcl (fun H H' x v t h => h.on_ t) DC (c_wall (fun H H' x v t h => h.on_ t) DA s)⟩
  | d + 1 => by
    obtain ⟨h1, h2, h3⟩ := knotW TS D DA DC GL GP d
    have e := c_wnE (P := P) (w := w) (base := base) (d := d + 1) (k := 4 * d + 8) TS D GL GP rfl h1 h2 h3
    have s := c_wnS (P := P) (w := w) (base := base) (d := d + 1) (k := 4 * d + 8) TS D GL GP rfl e h2 h3
    exact ⟨e, c_wcl (fun H H' x v t h => h.on_ t) DC (c_wall (fun H H' x v t h => h.on_ t) DA e), c_wcl (fun H H' x v t h => h.on_ t) DC (c_wall (fun H H' x v t h => h.on_ t) DA s)⟩
/-! a method's words -/
def spWMe : Sp := fun vs H Q _ => ∃ (m : Me) (v : V), vs = [v] ∧ AtM H m v ∧ okM m ∧ nSs m.ss ≤ 1000 ∧ ∀ H' a, Same H H' → LW H' a (wM m) → Q (.ref a) H'
theorem scWMe : FnScope ["_law_method_here", "_law_head"] ["_law_method_here"] (defScope sWMe) := ⟨rfl, rfl, rfl, by decide +kernel, rfl, by decide +kernel, by decide +kernel⟩
theorem wM_len (m : Me) (h : okM m) (hn : nSs m.ss ≤ 1000) : (wM m).length ≤ 6000 := by
  have h1 := lM_eq m
  have h2 := (wSs_b m.ss h.ss).1
  have h3 := h.pl
  have e : lM m = (wM m).length := rfl
  have e2 : lSs m.ss = (wSs m.ss).length := rfl
  omega
theorem c_wme {k : Nat} (hk : 1 ≤ k) (TS : TxS K mg) (gL : mg "list" = none) (D : Dn K mg "_law_method_words" sWMe) (GP : C0 P w K mg base 1 "_law_plain" spWPlL) (GC : C0 P w K mg base k "_law_closed" (spCS 12)) : C0 P w K mg base (k + 1) "_law_method_words" spWMe := by
  obtain ⟨f, fd, F, m⟩ := D.ex
  refine ⟨f, fd, ["_law_method_here"], F.ok scWMe (fun vs H Q E h => ?_) (fun cdv A outer s H vs Q E hr h => ?_), m, F.kp, F.binds (ps := ["_law_method_here"]) fun _ _ _ _ _ _ us hl => match us, hl with | [_], _ => rfl⟩
  · obtain ⟨mm, v, rfl, _⟩ := h
    rfl
  obtain ⟨mm, v, rfl, ⟨p, vw, q, xs, rfl, hp, hvw, hq, hat⟩, ok, hn, kq⟩ := h
  obtain ⟨pw, rfl, hpw⟩ := hvw
  refine ⟨_, pss_cons (ps_set (i := 1) scWMe.nd rfl (Or.inl rfl) (pe_cc GP hr hk pass0 (pa_cons (pe_op op_cat (pe_op op_cat (pe_lst (pa_cons pe_str (pa_cons (pe_ix ix_tup (pv 0) pe_int (fun _ _ => rfl)) pa_nil))) (pe_callTy call_list_of (by rfl) gL (by decide +kernel) (pa_cons (pe_ix ix_tup (pv 0) pe_int (fun _ _ => rfl)) pa_nil))) (pe_lst (pa_cons pe_str pa_nil))) pa_nil))) <|
    pss_one (ps_ret (pe_op op_cat (pv 1) (pe_cc GC hr (Nat.le_refl _) pass0 (pa_cons pe_str (pa_cons (pe_ix ix_tup (pv 0) pe_int (fun _ _ => rfl)) pa_nil))))), ?_⟩
  refine ⟨_, rfl, p, _, _, _, rfl, rfl, SqT.of hp, atI_nat (j := 1) rfl, by show 2 ≤ sizeLine; decide, fun L1 hL1 => ?_⟩
  have s1 := same_new hL1 (.lst [S_ "method", .str (mk mm.m)])
  have f1 : upd H L1 (.lst [S_ "method", .str (mk mm.m)]) L1 = some (.lst [S_ "method", .str (mk mm.m)]) := upd_same
  generalize upd H L1 (.lst [S_ "method", .str (mk mm.m)]) = H1 at s1 f1 ⊢
  refine ⟨_, rfl, p, _, _, _, rfl, rfl, SqT.of (s1 _ _ hp), atI_nat (j := 2) rfl, pw, _, rfl, .inr (SqT.of (s1 _ _ hpw)), fun L2 hL2 => ?_⟩
  have s2 := s1.trans (same_new hL2 (.lst (wsV mm.ps)))
  have f2 : upd H1 L2 (.lst (wsV mm.ps)) L2 = some (.lst (wsV mm.ps)) := upd_same
  have f1' := same_new hL2 (.lst (wsV mm.ps)) _ _ f1
  generalize upd H1 L2 (.lst (wsV mm.ps)) = H2 at s2 f2 f1' ⊢
  have hpl := ok.pl
  have hwl : (wsV mm.ps).length = mm.ps.length := List.length_map _
  refine ⟨_, _, _, _, rfl, rfl, f1', f2, by rw [hwl, sizeLine_eq]; simp only [List.length_cons, List.length_nil]; omega, fun L3 hL3 => ?_⟩
  have s3 := s2.trans (same_new hL3 (.lst ([S_ "method", .str (mk mm.m)] ++ wsV mm.ps)))
  have f3 : upd H2 L3 (.lst ([S_ "method", .str (mk mm.m)] ++ wsV mm.ps)) L3 = some (.lst ([S_ "method", .str (mk mm.m)] ++ wsV mm.ps)) := upd_same
  generalize upd H2 L3 (.lst ([S_ "method", .str (mk mm.m)] ++ wsV mm.ps)) = H3 at s3 f3 ⊢
  refine ⟨by show 1 ≤ sizeLine; decide, fun L4 hL4 => ?_⟩
  have s4 := s3.trans (same_new hL4 (.lst [S_ ":"]))
  have f4 : upd H3 L4 (.lst [S_ ":"]) L4 = some (.lst [S_ ":"]) := upd_same
  have f3' := same_new hL4 (.lst [S_ ":"]) _ _ f3
  generalize upd H3 L4 (.lst [S_ ":"]) = H4 at s4 f4 f3' ⊢
  refine ⟨_, _, _, _, rfl, rfl, f3', f4, by rw [List.length_append, hwl, sizeLine_eq]; simp only [List.length_cons, List.length_nil]; omega, fun L5 hL5 => ?_⟩
  have ew : [S_ "method", .str (mk mm.m)] ++ wsV mm.ps ++ [S_ ":"] = wsV (tk "method" :: mm.m :: (mm.ps ++ [tk ":"])) := by
    unfold wsV
    simp [mk_tl]
  rw [ew]
  have s5 := s4.trans (same_new hL5 (.lst (wsV (tk "method" :: mm.m :: (mm.ps ++ [tk ":"])))))
  have f5 : upd H4 L5 (.lst (wsV (tk "method" :: mm.m :: (mm.ps ++ [tk ":"])))) L5 = some (.lst (wsV (tk "method" :: mm.m :: (mm.ps ++ [tk ":"])))) := upd_same
  generalize upd H4 L5 (.lst (wsV (tk "method" :: mm.m :: (mm.ps ++ [tk ":"])))) = H5 at s5 f5 ⊢
  refine ⟨_, L5, rfl, f5, by simp; omega, fun H6 a6 s6 w6 => ?_⟩
  have s6' := s5.trans s6
  have hln := wSs_b mm.ss ok.ss
  refine ⟨_, rfl, _, rfl, p, _, _, _, rfl, rfl, SqT.of (s6' _ _ hp), atI_nat (j := 3) rfl, sL mm.ss, q, xs, _, rfl, s6' _ _ hq, (sL_at (hat.on_ (same_tups s6'))), sL_ok ok.ss ok.o hn, by rw [← sL_w]; omega, fun H7 a7 s7 w7 => ?_⟩
  obtain ⟨us, vs, h1, h2, l1, l2, c⟩ := (w6.on s7).cat w7
  have hlm := wM_len mm ok hn
  have e7 : plainW (tk "method" :: mm.m :: (mm.ps ++ [tk ":"])) ++ ((sL mm.ss).flatMap wS ++ [(tl (Str.ofString "end"), false)]) = wM mm := by
    rw [← sL_w]
    unfold plainW wM
    simp [plainW]
  have e8 := congrArg List.length e7
  rw [List.length_append] at e8
  refine ⟨_, _, us, vs, rfl, rfl, h1, h2, by rw [l1, l2, sizeLine_eq]; omega, fun r hr7 => ?_⟩
  exact kq _ r ((s6'.trans s7).trans (same_new hr7 _)) ((c r hr7).cast e7)
/-! a tree's words -/
def spWTr : Sp := fun vs H Q _ => ∃ (t : Tr) (v : V), vs = [v] ∧ AtTr H t v ∧ okTr t ∧ nMs t.ms ≤ 1000 ∧ ∀ H' a, Same H H' → LW H' a (wT t) → Q (.ref a) H'
theorem scWTr : FnScope ["_law_tree", "_law_found", "_law_field", "_law_method_here"] ["_law_tree"] (defScope sWTr) := ⟨rfl, rfl, rfl, by decide +kernel, rfl, by decide +kernel, by decide +kernel⟩
theorem nMs_mem : ∀ {ms : List Me} {m : Me}, m ∈ ms → nSs m.ss ≤ nMs ms
  | x :: r, m, h => by
    have e : nMs (x :: r) = nSs x.ss + nMs r := by unfold nMs; rw [List.map_cons, List.sum_cons]
    rcases List.mem_cons.mp h with h | h
    · subst h; omega
    · have := nMs_mem h; omega
theorem wMs_len : ∀ (ms : List Me), (∀ m ∈ ms, okM m) → nMs ms ≤ 1000 → (wMs ms).length ≤ 6000 * ms.length
  | [], _, _ => Nat.le_refl _
  | x :: r, h, hn => by
    have e : nMs (x :: r) = nSs x.ss + nMs r := by unfold nMs; rw [List.map_cons, List.sum_cons]
    have h1 := wM_len x (h x List.mem_cons_self) (by omega)
    have h2 := wMs_len r (fun m hm => h m (List.mem_cons_of_mem _ hm)) (by omega)
    show (wM x ++ wMs r).length ≤ _
    rw [List.length_append, List.length_cons]
    omega
end
end My
set_option Elab.async false
set_option linter.all false
set_option maxRecDepth 100000
set_option maxHeartbeats 4000000
namespace My
open PySem L2 SS
def hdW : Tr → List WB
  | .kind n p fs _ => (tk "kind", false) :: (n, false) :: (tk "under", false) :: (p, false) :: wFd fs
  | .more n _ => [(tk "more", false), (n, false)]
theorem hdW_eq (t : Tr) : wT t = hdW t ++ (wMs t.ms ++ [(tk "end", false)]) := by cases t <;> rfl
theorem hdW_len (t : Tr) (h : okTr t) : (hdW t).length ≤ 10 := by
  cases t with
  | kind n p fs ms =>
    have := h.hd.2.2.1
    show (wFd fs).length + 1 + 1 + 1 + 1 ≤ 10
    rw [wFd_len]
    omega
  | more n ms => show 2 ≤ 10; decide
theorem wFd_take (fs : List T) {i : Nat} {f : T} (h : fs[i]? = some f) : wFd (fs.take (i + 1)) = wFd (fs.take i) ++ plainW [tk "field", f] := by
  rw [List.take_add_one, h]
  unfold wFd
  rw [List.flatMap_append]
  rfl
theorem wMs_take (ms : List Me) {i : Nat} {m : Me} (h : ms[i]? = some m) : wMs (ms.take (i + 1)) = wMs (ms.take i) ++ wM m := by
  rw [List.take_add_one, h]
  exact wMs_snoc _ _
theorem wMs_take_le (ms : List Me) (i : Nat) : (wMs (ms.take i)).length ≤ (wMs ms).length := by
  have e : wMs ms = wMs (ms.take i) ++ wMs (ms.drop i) := by
    unfold wMs
    rw [← List.flatMap_append, List.take_append_drop]
  rw [e, List.length_append]
  omega
section
variable {P : Program} {w : World} {K : PySem.W.Frag} {mg : Str → Option Value} {base : Heap}
theorem c_wtr {k : Nat} (hk : 1 ≤ k) (TS : TxS K mg) (D : Dn K mg "_law_tree_words" sWTr) (GP : C0 P w K mg base 1 "_law_plain" spWPlL) (GM : C0 P w K mg base k "_law_method_words" spWMe) : C0 P w K mg base (k + 1) "_law_tree_words" spWTr := by
  obtain ⟨f, fd, F, m⟩ := D.ex
  refine ⟨f, fd, ["_law_tree"], F.ok scWTr (fun vs H Q E h => ?_) (fun cdv A outer s H vs Q E hr h => ?_), m, F.kp, F.binds (ps := ["_law_tree"]) fun _ _ _ _ _ _ us hl => match us, hl with | [_], _ => rfl⟩
  · obtain ⟨t, v, rfl, _⟩ := h
    rfl
  obtain ⟨t, v, rfl, hat, ok, hn, kq⟩ := h
  refine ⟨_, pss_cons (ps_set (i := 1) scWTr.nd rfl (Or.inl rfl) (pe_cc GP hr hk pass0 (pa_cons (pe_lst (pa_cons (pe_ix ix_tup (pv 0) pe_int (fun _ _ => rfl)) (pa_cons (pe_ix ix_tup (pv 0) pe_int (fun _ _ => rfl)) pa_nil))) pa_nil))) <|
    C8.pss_cut (ps_if (pt_cmpR op_eq (pe_ix ix_tup (pv 0) pe_int (fun _ _ => rfl)) pe_str (nomark _))
      (pss_cons (ps_set (i := 1) scWTr.nd rfl (Or.inl rfl) (pe_op op_cat (pv 1) (pe_cc GP hr hk pass0 (pa_cons (pe_lst (pa_cons pe_str (pa_cons (pe_ix ix_tup (pv 0) pe_int (fun _ _ => rfl)) pa_nil))) pa_nil)))) <|
        pss_one (ps_for PassesOwn.never rfl (pi_tup (pe_ix ix_tup (pv 0) pe_int (fun _ _ => rfl))) (pg_name (i := 2) scWTr.nd rfl (Or.inl rfl)) (pss_one (ps_set (i := 1) scWTr.nd rfl (Or.inl rfl) (pe_op op_cat (pv 1) (pe_cc GP hr hk pass0 (pa_cons (pe_lst (pa_cons pe_str (pa_cons (pv 2) pa_nil))) pa_nil)))))))
      pss_nil) <|
    pss_cons (ps_for PassesOwn.never rfl (pi_tup (pe_ix ix_tup (pv 0) (pe_un un_neg pe_int) (fun _ _ => rfl))) (pg_name (i := 3) scWTr.nd rfl (Or.inl rfl)) (pss_one (ps_set (i := 1) scWTr.nd rfl (Or.inl rfl) (pe_op op_cat (pv 1) (pe_cc GM hr (Nat.le_refl _) pass0 (pa_cons (pv 3) pa_nil)))))) <|
    pss_one (ps_ret (pe_op op_cat (pv 1) (pe_lst (pa_cons (pe_tup (pa_cons pe_str (pa_cons pe_bl pa_nil))) pa_nil)))), ?_⟩
  have hhl := hdW_len t ok
  have hml := ok.ml
  have hmw := wMs_len t.ms ok.ms hn
  -- two words in a new list
  have two : ∀ (H1 : Hp) (z1 z2 : Str), ∀ l, H1 l = none → upd H1 l (.lst [.str z1, .str z2]) l = some (.lst (wsV [tl z1, tl z2])) := fun H1 z1 z2 l hl => by
    rw [upd_same]
    unfold wsV
    simp [mk_tl]
  cases t with
  | kind n q fs ms =>
    obtain ⟨p, vw, r, xs, rfl, hp, hvw, hr2, hms⟩ := hat
    obtain ⟨pw, rfl, hpw⟩ := hvw
    refine ⟨_, rfl, p, _, _, _, rfl, rfl, SqT.of hp, atI_0, _, rfl, p, _, _, _, rfl, rfl, SqT.of hp, atI_nat (j := 1) rfl, by show 2 ≤ sizeLine; decide, fun L1 hL1 => ?_⟩
    have g1 := two H (Str.ofString "kind") (mk n) L1 hL1
    have s1 := same_new hL1 (.lst [.str (Str.ofString "kind"), .str (mk n)])
    generalize upd H L1 (.lst [.str (Str.ofString "kind"), .str (mk n)]) = H1 at g1 s1 ⊢
    refine ⟨[tk "kind", n], L1, rfl, g1, by simp, fun H2 a2 s2 w2 => ?_⟩
    have s2' := s1.trans s2
    refine ⟨fun σ' H' => ∃ (a : Addr) (v2 : Option V), σ' = [some (.ref p), some (.ref a), v2, none] ∧ Same H H' ∧ LW H' a (hdW (.kind n q fs ms)), ?_, ?_⟩
    · refine ⟨_, rfl, p, _, _, _, rfl, rfl, SqT.of (s2' _ _ hp), atI_0, rfl, _, rfl, ?_⟩
      refine ite2 (fun _ => ?_) (fun c => absurd (by decide +kernel) c)
      refine ⟨_, rfl, _, rfl, p, _, _, _, rfl, rfl, SqT.of (s2' _ _ hp), atI_nat (j := 2) rfl, by show 2 ≤ sizeLine; decide, fun L3 hL3 => ?_⟩
      have g3 := two H2 (Str.ofString "under") (mk q) L3 hL3
      have s3 := same_new hL3 (.lst [.str (Str.ofString "under"), .str (mk q)])
      generalize upd H2 L3 (.lst [.str (Str.ofString "under"), .str (mk q)]) = H3 at g3 s3 ⊢
      refine ⟨[tk "under", q], L3, rfl, g3, by simp, fun H4 a4 s4 w4 => ?_⟩
      have s4' := s2'.trans (s3.trans s4)
      obtain ⟨us, vs, h1, h2, l1, l2, c⟩ := ((w2.on s3).on s4).cat w4
      refine ⟨_, _, us, vs, rfl, rfl, h1, h2, by rw [l1, l2, sizeLine_eq]; show 2 + 2 ≤ 16777216; decide, fun L5 hL5 => ?_⟩
      have w5 := c L5 hL5
      have s5 := s4'.trans (same_new hL5 (.lst (us ++ vs)))
      generalize upd H4 L5 (.lst (us ++ vs)) = H5 at w5 s5 ⊢
      refine ⟨_, rfl, p, _, _, _, rfl, rfl, SqT.of (s5 _ _ hp), atI_nat (j := 3) rfl, pw, rfl, ⟨_, SqT.of (s5 _ _ hpw)⟩, ?_⟩
      refine for_tup (xs := wsV fs) (fun i σ H6 => ∃ (a : Addr) (v2 : Option V), σ = [some (.ref p), some (.ref a), v2, none] ∧ Same H H6 ∧ LW H6 a (plainW [tk "kind", n] ++ plainW [tk "under", q] ++ wFd (fs.take i))) ⟨L5, none, rfl, s5, by (have : wFd (fs.take 0) = [] := rfl); rw [this, List.append_nil]; exact w5⟩ (fun i σ H6 _ ⟨a, v2, _, s6, _⟩ => SqT.of (s6 _ _ hpw)) ?_ ?_
      · rintro i u σ H6 hu ⟨a, v2, rfl, s6, w6⟩
        have hu' : (fs.map fun w => V.str (mk w))[i]? = some u := hu
        rw [List.getElem?_map] at hu'
        cases e : fs[i]? with
        | none => rw [e] at hu'; cases hu'
        | some fz =>
          rw [e] at hu'
          obtain rfl := Option.some.inj hu'
          refine ⟨_, rfl, _, rfl, by show 2 ≤ sizeLine; decide, fun L7 hL7 => ?_⟩
          have g7 := two H6 (Str.ofString "field") (mk fz) L7 hL7
          have s7 := same_new hL7 (.lst [.str (Str.ofString "field"), .str (mk fz)])
          generalize upd H6 L7 (.lst [.str (Str.ofString "field"), .str (mk fz)]) = H7 at g7 s7 ⊢
          refine ⟨[tk "field", fz], L7, rfl, g7, by simp, fun H8 a8 s8 w8 => ?_⟩
          obtain ⟨us, vs, h1, h2, l1, l2, c⟩ := ((w6.on s7).on s8).cat w8
          have hfl := ok.hd.2.2.1
          have l3 : us.length ≤ 20 := by
            rw [l1, List.length_append, wFd_len, List.length_take]
            have : (plainW [tk "kind", n] ++ plainW [tk "under", q]).length = 4 := rfl
            omega
          have l4 : vs.length = 2 := l2
          refine ⟨_, _, us, vs, rfl, rfl, h1, h2, by rw [l4, sizeLine_eq]; omega, fun L9 hL9 => ?_⟩
          refine ⟨L9, _, rfl, ((s6.trans s7).trans s8).trans (same_new hL9 _), ?_⟩
          rw [wFd_take fs e, ← List.append_assoc]
          exact c L9 hL9
      · rintro σ H6 ⟨a, v2, rfl, s6, w6⟩
        refine ⟨a, v2, rfl, s6, ?_⟩
        have e : (wsV fs).length = fs.length := List.length_map _
        rw [e, List.take_length] at w6
        exact w6
    · rintro σ' H' ⟨a, v2, rfl, s6, w6⟩
      refine ⟨_, rfl, 1, rfl, p, _, _, _, rfl, rfl, SqT.of (s6 _ _ hp), atI_last [_, _, _, _] _, r, rfl, ⟨xs, SqT.of (s6 _ _ hr2)⟩, ?_⟩
      refine for_tup (xs := xs) (fun i σ H7 => ∃ (a : Addr) (v3 : Option V), σ = [some (.ref p), some (.ref a), v2, v3] ∧ Same H H7 ∧ LW H7 a (hdW (.kind n q fs ms) ++ wMs (ms.take i))) ⟨a, none, rfl, s6, by (have : wMs (ms.take 0) = [] := rfl); rw [this, List.append_nil]; exact w6⟩ (fun i σ H7 _ ⟨a, v3, _, s7, _⟩ => SqT.of (s7 _ _ hr2)) ?_ ?_
      · rintro i u σ H7 hu ⟨a, v3, rfl, s7, w7⟩
        obtain ⟨mm, hm1, hm2⟩ := hms.get hu
        have okm := ok.ms mm (List.mem_of_getElem? hm1)
        refine ⟨_, rfl, _, rfl, mm, u, rfl, hm2.on (same_tups s7), okm, Nat.le_trans (nMs_mem (List.mem_of_getElem? hm1)) hn, fun H8 a8 s8 w8 => ?_⟩
        obtain ⟨us, vs, h1, h2, l1, l2, c⟩ := (w7.on s8).cat w8
        have l3 := wMs_take_le ms i
        have l5 := wM_len mm okm (Nat.le_trans (nMs_mem (List.mem_of_getElem? hm1)) hn)
        have hml' : ms.length ≤ 2 := hml
        have hmw' : (wMs ms).length ≤ 6000 * ms.length := hmw
        refine ⟨_, _, us, vs, rfl, rfl, h1, h2, by rw [l1, l2, List.length_append, sizeLine_eq]; omega, fun L9 hL9 => ?_⟩
        refine ⟨L9, _, rfl, (s7.trans s8).trans (same_new hL9 _), ?_⟩
        rw [wMs_take ms hm1, ← List.append_assoc]
        exact c L9 hL9
      · rintro σ H7 ⟨a, v3, rfl, s7, w7⟩
        rw [hms.len, List.take_length] at w7
        refine ⟨_, rfl, by show 2 ≤ sizeLine; decide, fun t1 h1 => ⟨by show 1 ≤ sizeLine; decide, fun L hL => ?_⟩⟩
        obtain ⟨s8, w8⟩ := LW.one' h1 hL
        obtain ⟨us, vs, h1, h2, l1, l2, c⟩ := (w7.on s8).cat w8
        have hml' : ms.length ≤ 2 := hml
        have hmw' : (wMs ms).length ≤ 6000 * ms.length := hmw
        exact ⟨_, _, us, vs, rfl, rfl, h1, h2, by rw [l1, l2, List.length_append, sizeLine_eq]; simp only [List.length_cons, List.length_nil]; omega, fun L9 hL9 => kq _ L9 ((s7.trans s8).trans (same_new hL9 _)) ((c L9 hL9).cast (by rw [hdW_eq, List.append_assoc]; rfl))⟩
  | more n ms =>
    obtain ⟨p, r, xs, rfl, hp, hr2, hms⟩ := hat
    refine ⟨_, rfl, p, _, _, _, rfl, rfl, SqT.of hp, atI_0, _, rfl, p, _, _, _, rfl, rfl, SqT.of hp, atI_nat (j := 1) rfl, by show 2 ≤ sizeLine; decide, fun L1 hL1 => ?_⟩
    have g1 := two H (Str.ofString "more") (mk n) L1 hL1
    have s1 := same_new hL1 (.lst [.str (Str.ofString "more"), .str (mk n)])
    generalize upd H L1 (.lst [.str (Str.ofString "more"), .str (mk n)]) = H1 at g1 s1 ⊢
    refine ⟨[tk "more", n], L1, rfl, g1, by simp, fun H2 a2 s2 w2 => ?_⟩
    have s2' := s1.trans s2
    refine ⟨fun σ' H' => ∃ (a : Addr) (v2 : Option V), σ' = [some (.ref p), some (.ref a), v2, none] ∧ Same H H' ∧ LW H' a (hdW (.more n ms)), ?_, ?_⟩
    · refine ⟨_, rfl, p, _, _, _, rfl, rfl, SqT.of (s2' _ _ hp), atI_0, rfl, _, rfl, ?_⟩
      refine ite2 (fun c => absurd c (by decide +kernel)) (fun _ => ?_)
      exact ⟨a2, none, rfl, s2', w2⟩
    · rintro σ' H' ⟨a, v2, rfl, s6, w6⟩
      refine ⟨_, rfl, 1, rfl, p, _, _, _, rfl, rfl, SqT.of (s6 _ _ hp), atI_last [_, _] _, r, rfl, ⟨xs, SqT.of (s6 _ _ hr2)⟩, ?_⟩
      refine for_tup (xs := xs) (fun i σ H7 => ∃ (a : Addr) (v3 : Option V), σ = [some (.ref p), some (.ref a), v2, v3] ∧ Same H H7 ∧ LW H7 a (hdW (.more n ms) ++ wMs (ms.take i))) ⟨a, none, rfl, s6, by (have : wMs (ms.take 0) = [] := rfl); rw [this, List.append_nil]; exact w6⟩ (fun i σ H7 _ ⟨a, v3, _, s7, _⟩ => SqT.of (s7 _ _ hr2)) ?_ ?_
      · rintro i u σ H7 hu ⟨a, v3, rfl, s7, w7⟩
        obtain ⟨mm, hm1, hm2⟩ := hms.get hu
        have okm := ok.ms mm (List.mem_of_getElem? hm1)
        refine ⟨_, rfl, _, rfl, mm, u, rfl, hm2.on (same_tups s7), okm, Nat.le_trans (nMs_mem (List.mem_of_getElem? hm1)) hn, fun H8 a8 s8 w8 => ?_⟩
        obtain ⟨us, vs, h1, h2, l1, l2, c⟩ := (w7.on s8).cat w8
        have l3 := wMs_take_le ms i
        have l5 := wM_len mm okm (Nat.le_trans (nMs_mem (List.mem_of_getElem? hm1)) hn)
        have hml' : ms.length ≤ 2 := hml
        have hmw' : (wMs ms).length ≤ 6000 * ms.length := hmw
        refine ⟨_, _, us, vs, rfl, rfl, h1, h2, by rw [l1, l2, List.length_append, sizeLine_eq]; omega, fun L9 hL9 => ?_⟩
        refine ⟨L9, _, rfl, (s7.trans s8).trans (same_new hL9 _), ?_⟩
        rw [wMs_take ms hm1, ← List.append_assoc]
        exact c L9 hL9
      · rintro σ H7 ⟨a, v3, rfl, s7, w7⟩
        rw [hms.len, List.take_length] at w7
        refine ⟨_, rfl, by show 2 ≤ sizeLine; decide, fun t1 h1 => ⟨by show 1 ≤ sizeLine; decide, fun L hL => ?_⟩⟩
        obtain ⟨s8, w8⟩ := LW.one' h1 hL
        obtain ⟨us, vs, h1, h2, l1, l2, c⟩ := (w7.on s8).cat w8
        have hml' : ms.length ≤ 2 := hml
        have hmw' : (wMs ms).length ≤ 6000 * ms.length := hmw
        exact ⟨_, _, us, vs, rfl, rfl, h1, h2, by rw [l1, l2, List.length_append, sizeLine_eq]; simp only [List.length_cons, List.length_nil]; omega, fun L9 hL9 => kq _ L9 ((s7.trans s8).trans (same_new hL9 _)) ((c L9 hL9).cast (by rw [hdW_eq, List.append_assoc]; rfl))⟩
end
end My
set_option Elab.async false
set_option linter.all false
set_option maxRecDepth 100000
set_option maxHeartbeats 4000000
namespace My
open PySem L2 SS
theorem joinL_app (y : T) : ∀ (a : List T) (b : T), a ≠ [] → TL.joinL y (a ++ [b]) = TL.joinL y a ++ (y ++ b)
  | [], _, h => absurd rfl h
  | [x], b, _ => rfl
  | x :: z :: r, b, _ => by
    show x ++ (y ++ TL.joinL y (z :: r ++ [b])) = (x ++ (y ++ TL.joinL y (z :: r))) ++ (y ++ b)
    rw [joinL_app y (z :: r) b (by simp)]
    simp only [List.append_assoc]
theorem joinL_cons (y : T) (x : T) : ∀ (a : List T), a ≠ [] → TL.joinL y (x :: a) = x ++ (y ++ TL.joinL y a)
  | [], h => absurd rfl h
  | z :: r, _ => rfl
theorem str_eq {a b : Str} (h : TL.tl a = TL.tl b) : a = b := by
  rw [← mk_tl a, ← mk_tl b]
  show mk (TL.tl a) = mk (TL.tl b)
  rw [h]
def pend : T → T → T
  | cur, [] => cur
  | cur, c :: r => if isSep c = true then pend [] r else pend (cur ++ [c]) r
def emit : T → Nat → T → List (T × Nat)
  | _, _, [] => []
  | cur, k, c :: r => if isSep c = true then flush cur k ++ (if c = 32 then [] else [([c], k)]) ++ emit [] (k + 1) r else emit (cur ++ [c]) (k + 1) r
theorem rw_app : ∀ (a b cur : T) (k : Nat), rw_ cur k (a ++ b) = emit cur k a ++ rw_ (pend cur a) (k + a.length) b
  | [], b, cur, k => rfl
  | c :: r, b, cur, k => by
    rw [List.cons_append, rw_, emit, pend]
    by_cases h : isSep c = true
    · rw [if_pos h, if_pos h, if_pos h, rw_app r b [] (k + 1), List.length_cons, show k + 1 + r.length = k + (r.length + 1) by omega]
      simp only [List.append_assoc]
    · rw [if_neg h, if_neg h, if_neg h, rw_app r b _ (k + 1), List.length_cons, show k + 1 + r.length = k + (r.length + 1) by omega]
theorem rw_end (a cur : T) (k : Nat) : rw_ cur k a = emit cur k a ++ flush (pend cur a) (k + a.length) := by
  have := rw_app a [] cur k
  rw [List.append_nil] at this
  rw [this]
  rfl
theorem pend_app : ∀ (a b cur : T), pend cur (a ++ b) = pend (pend cur a) b
  | [], b, cur => rfl
  | c :: r, b, cur => by
    rw [List.cons_append, pend, pend]
    by_cases h : isSep c = true
    · rw [if_pos h, if_pos h, pend_app r b]
    · rw [if_neg h, if_neg h, pend_app r b]
theorem pend_blanks : ∀ (n : Nat), 0 < n → ∀ cur : T, pend cur (List.replicate n 32) = []
  | n + 1, _, cur => by
    rw [List.replicate_succ, pend, if_pos (by decide)]
    cases n with
    | zero => rfl
    | succ n => exact pend_blanks (n + 1) (by omega) []
def Solid (w : T) : Prop := w ≠ [] ∧ (w.all fun c => !isSep c) = true
def Br1 (w : T) : Prop := ∃ c, c ∈ BR ∧ w = [c]
theorem br_sep {c : Nat} (h : c ∈ BR) : isSep c = true ∧ c ≠ 32 := by
  constructor
  · unfold isSep
    rw [decide_eq_true h, Bool.or_true]
  · intro e
    rw [e] at h
    revert h
    decide
theorem rowWords_app {cur w : T} {n : Nat} (hw : Solid w ∨ Br1 w) (h : 0 < n ∨ pend [] cur = [] ∨ Br1 w) : rowWords (cur ++ (List.replicate n 32 ++ w)) = rowWords cur ++ [(w, cur.length + n + 1)] := by
  unfold rowWords
  rw [rw_app cur _ [] 1, rw_end cur [] 1, List.append_assoc]
  congr 1
  -- the word from an empty pending
  have one : ∀ k, rw_ [] k w = [(w, k)] := fun k => by
    rcases hw with ⟨h1, h2⟩ | ⟨c, hc, rfl⟩
    · have := rw_wordEnd (w := w) (k := k) (n := 0) h1 h2
      rw [List.replicate_zero, List.append_nil] at this
      exact this
    · obtain ⟨b1, b2⟩ := br_sep hc
      rw [rw_sep b1, if_neg b2]
      rfl
  have e0 : 1 + cur.length + n = cur.length + n + 1 := by omega
  cases n with
  | zero =>
    rw [List.replicate_zero, List.nil_append]
    rcases h with h | h | ⟨c, hc, rfl⟩
    · omega
    · rw [h, one, flush_nil, List.nil_append, show 1 + cur.length = cur.length + 0 + 1 by omega]
    · obtain ⟨b1, b2⟩ := br_sep hc
      rw [rw_sep b1, if_neg b2]
      show flush _ _ ++ [([c], 1 + cur.length)] ++ [] = _
      rw [List.append_nil, show cur.length + 0 + 1 = 1 + cur.length by omega]
  | succ n =>
    rw [List.replicate_succ, List.cons_append, rw_blank, rw_blanks, one]
    congr 3
    omega
theorem pend_word {cur w : T} {n : Nat} (h : Br1 w) : pend [] (cur ++ (List.replicate n 32 ++ w)) = [] := by
  obtain ⟨c, hc, rfl⟩ := h
  rw [pend_app, pend_app, pend, if_pos (br_sep hc).1]
  rfl
def allW : Nat → List T → List W
  | _, [] => []
  | r, l :: ls => lay r (rowWords l) ++ allW (r + 1) ls
theorem allW_app : ∀ (a b : List T) (r : Nat), allW r (a ++ b) = allW r a ++ allW (r + a.length) b
  | [], b, r => rfl
  | l :: ls, b, r => by
    rw [List.cons_append, allW, allW, allW_app ls b (r + 1), List.append_assoc, List.length_cons, show r + 1 + ls.length = r + (ls.length + 1) by omega]
theorem allW_empty : ∀ (E : List T) (r : Nat), (∀ l ∈ E, rowWords l = []) → allW r E = []
  | [], r, _ => rfl
  | l :: ls, r, h => by
    rw [allW, h l List.mem_cons_self, allW_empty ls (r + 1) fun x hx => h x (List.mem_cons_of_mem _ hx)]
    rfl
theorem rowWords_blank (n : Nat) : rowWords (List.replicate n 32) = [] := by
  unfold rowWords
  rw [rw_tail]
  rfl
theorem lay_app (r : Nat) (a b : List (T × Nat)) : lay r (a ++ b) = lay r a ++ lay r b := by unfold lay; rw [List.map_append]
structure LayW (w : T) : Prop where
  sh : Solid w ∨ Br1 w
  wd : isWord w = true
  ln : w.length ≤ 41
  nl : 10 ∉ w
end My
set_option Elab.async false
set_option linter.all false
set_option maxRecDepth 100000
set_option maxHeartbeats 4000000
namespace My
open PySem L2 SS
/-! ### the words of trees may be laid -/
theorem mem_small {c : Nat} : c ∈ SMALL ↔ 97 ≤ c ∧ c ≤ 122 := by
  unfold SMALL
  simp only [List.mem_map, List.mem_range]
  constructor
  · rintro ⟨x, h1, h2⟩; omega
  · rintro ⟨h1, h2⟩; exact ⟨c - 97, by omega, by omega⟩
theorem mem_caps {c : Nat} : c ∈ CAPS ↔ 65 ≤ c ∧ c ≤ 90 := by
  unfold CAPS
  simp only [List.mem_map, List.mem_range]
  constructor
  · rintro ⟨x, h1, h2⟩; omega
  · rintro ⟨h1, h2⟩; exact ⟨c - 65, by omega, by omega⟩
theorem mem_figs {c : Nat} : c ∈ FIGS ↔ 48 ≤ c ∧ c ≤ 57 := by
  unfold FIGS
  simp only [List.mem_map, List.mem_range]
  constructor
  · rintro ⟨x, h1, h2⟩; omega
  · rintro ⟨h1, h2⟩; exact ⟨c - 48, by omega, by omega⟩
/-- signs of names, texts, numbers -/
def Sg (c : Nat) : Prop := (48 ≤ c ∧ c ≤ 57) ∨ (65 ≤ c ∧ c ≤ 90) ∨ (97 ≤ c ∧ c ≤ 122) ∨ c = 95 ∨ c = 64 ∨ c = 39 ∨ c = 45
theorem sg_sep {c : Nat} (h : Sg c) : isSep c = false ∧ c ≠ 10 := by
  unfold Sg at h
  refine ⟨?_, by omega⟩
  unfold isSep
  rw [decide_eq_false (by omega), Bool.false_or]
  refine decide_eq_false fun q => ?_
  unfold BR at q
  simp only [List.mem_cons, List.not_mem_nil, or_false] at q
  omega
theorem solid_sg {w : T} (h0 : w ≠ []) (h : ∀ c ∈ w, Sg c) : Solid w ∧ 10 ∉ w := by
  refine ⟨⟨h0, List.all_eq_true.mpr fun c hc => ?_⟩, fun q => ?_⟩
  · rw [(sg_sep (h c hc)).1]; rfl
  · exact (sg_sep (h 10 q)).2 rfl
theorem name_sg {w first others : T} (h : isName w first others = true) (ho : ∀ c ∈ others, Sg c) : w ≠ [] ∧ w.length ≤ 12 ∧ (∀ c ∈ w, Sg c) ∧ w.getD 0 0 ∈ first := by
  unfold isName at h
  simp only [Bool.and_eq_true, decide_eq_true_eq] at h
  obtain ⟨⟨h1, h2⟩, h3, h4⟩ := h
  refine ⟨fun e => by rw [e] at h1; simp at h1, h2, fun c hc => ?_, h3⟩
  unfold hasOnly at h4
  exact ho c (of_decide_eq_true (List.all_eq_true.mp h4 c hc))
theorem sg_small {c : Nat} (h : c ∈ SMALL ++ FIGS) : Sg c := by
  rcases List.mem_append.mp h with h | h
  · have := mem_small.mp h; unfold Sg; omega
  · have := mem_figs.mp h; unfold Sg; omega
theorem sg_kind {c : Nat} (h : c ∈ SMALL ++ CAPS ++ FIGS) : Sg c := by
  rcases List.mem_append.mp h with h | h
  · rcases List.mem_append.mp h with h | h
    · have := mem_small.mp h; unfold Sg; omega
    · have := mem_caps.mp h; unfold Sg; omega
  · have := mem_figs.mp h; unfold Sg; omega
theorem sg_text {c : Nat} (h : c ∈ TEXTS) : Sg c := by
  unfold TEXTS at h
  rcases List.mem_append.mp h with h | h
  · exact sg_kind h
  · obtain rfl : c = 95 := by simpa using h
    unfold Sg; omega
theorem small_facts {w : T} (h : isSmall w = true) : w ≠ [] ∧ w.length ≤ 12 ∧ (∀ c ∈ w, Sg c) ∧ ∃ c r, w = c :: r ∧ 97 ≤ c ∧ c ≤ 122 := by
  obtain ⟨h1, h2, h3, h4⟩ := name_sg h fun c hc => sg_small hc
  refine ⟨h1, h2, h3, ?_⟩
  cases w with
  | nil => exact absurd rfl h1
  | cons c r => exact ⟨c, r, rfl, mem_small.mp h4⟩
theorem free_small {w : T} (h : isFree w = true) : isSmall w = true := by
  unfold isFree at h
  rw [Bool.and_eq_true] at h
  exact h.1
theorem kind_facts {w : T} (h : isKindName w = true) : w ≠ [] ∧ w.length ≤ 12 ∧ (∀ c ∈ w, Sg c) ∧ ∃ c r, w = c :: r ∧ 65 ≤ c ∧ c ≤ 90 := by
  obtain ⟨h1, h2, h3, h4⟩ := name_sg h fun c hc => sg_kind hc
  refine ⟨h1, h2, h3, ?_⟩
  cases w with
  | nil => exact absurd rfl h1
  | cons c r => exact ⟨c, r, rfl, mem_caps.mp h4⟩
theorem text_facts {w : T} (h : isText w = true) : w.length ≤ 40 ∧ ∀ c ∈ w, Sg c := by
  unfold isText at h
  simp only [Bool.and_eq_true, decide_eq_true_eq] at h
  refine ⟨h.1, fun c hc => ?_⟩
  have h4 := h.2
  unfold hasOnly at h4
  exact sg_text (of_decide_eq_true (List.all_eq_true.mp h4 c hc))
/-- a word by its head -/
theorem word_of {w : T} (h : w.head? ≠ some 64) (h2 : w.head? ≠ some 39) (h3 : (isSmall w || (isKindName w || isNum w)) = true) : isWord w = true := by
  unfold isWord
  split
  · rfl
  · first
    | exact h3
    | (rw [if_neg h, if_neg h2]; exact h3)
theorem layw_small {w : T} (h : isSmall w = true) : LayW w := by
  obtain ⟨h1, h2, h3, c, r, rfl, h4, h5⟩ := small_facts h
  obtain ⟨s1, s2⟩ := solid_sg h1 h3
  refine ⟨.inl s1, word_of (by simp; omega) (by simp; omega) (by rw [h]; rfl), by omega, s2⟩
theorem layw_free {w : T} (h : isFree w = true) : LayW w := layw_small (free_small h)
theorem layw_kind {w : T} (h : isKindName w = true) : LayW w := by
  obtain ⟨h1, h2, h3, c, r, rfl, h4, h5⟩ := kind_facts h
  obtain ⟨s1, s2⟩ := solid_sg h1 h3
  refine ⟨.inl s1, word_of (by simp; omega) (by simp; omega) (by rw [h]; simp), by omega, s2⟩
theorem layw_text {w : T} (h : isText w = true) : LayW (39 :: w) := by
  obtain ⟨h1, h2⟩ := text_facts h
  obtain ⟨s1, s2⟩ := solid_sg (w := 39 :: w) (by simp) fun c hc => by
    rcases List.mem_cons.mp hc with rfl | hc
    · unfold Sg; omega
    · exact h2 c hc
  refine ⟨.inl s1, ?_, by rw [List.length_cons]; omega, s2⟩
  unfold isWord
  split
  · rfl
  · rw [if_neg (by simp), if_pos (by simp)]
    exact h
theorem layw_fld {w : T} (h : isFree w = true) : LayW (64 :: w) := by
  obtain ⟨h1, h2, h3, _⟩ := small_facts (free_small h)
  obtain ⟨s1, s2⟩ := solid_sg (w := 64 :: w) (by simp) fun c hc => by
    rcases List.mem_cons.mp hc with rfl | hc
    · unfold Sg; omega
    · exact h3 c hc
  refine ⟨.inl s1, ?_, by rw [List.length_cons]; omega, s2⟩
  unfold isWord
  split
  · rfl
  · rw [if_pos (by simp)]
    exact free_small h
/-! numbers -/
theorem num_facts2 {n : Int} (h1 : -1000000000000 < n) (h2 : n < 1000000000000) : isNum (numT n) = true ∧ numOf (numT n) = n ∧ (numT n).length ≤ 13 ∧ (∃ c r, numT n = c :: r ∧ (c = 45 ∨ (48 ≤ c ∧ c ≤ 57))) ∧ ∀ c ∈ numT n, Sg c := by
  obtain ⟨b1, b2, b3⟩ := numT_back n
  have hl := numT_len h1 h2
  have hcases : numT n = figsOf (numT n) ∨ numT n = 45 :: figsOf (numT n) := by
    cases e : numT n with
    | nil => exact .inl rfl
    | cons c r =>
      by_cases hc : c = 45
      · subst hc; exact .inr rfl
      · refine .inl ?_
        unfold figsOf
        split
        · rename_i q; exact absurd (List.cons.inj q).1 hc
        · rfl
  have hfl : (figsOf (numT n)).length ≤ 13 := by
    rcases hcases with h | h
    · rw [← h]; exact hl
    · have := congrArg List.length h
      rw [List.length_cons] at this
      omega
  have hf0 : 1 ≤ (figsOf (numT n)).length := by
    cases e : figsOf (numT n) with
    | nil => exact absurd e b3
    | cons c r => simp
  have hho : hasOnly (figsOf (numT n)) FIGS = true := List.all_eq_true.mpr fun c hc => decide_eq_true (mem_figs.mpr (b2 c hc))
  refine ⟨?_, b1, hl, ?_, ?_⟩
  · unfold isNum
    rw [decide_eq_true ⟨hf0, hfl⟩, hho, b1]
    have e : numStr n = mk (numT n) := (mk_tl _).symm
    rw [decide_eq_true e, decide_eq_true h1, decide_eq_true h2]
    rfl
  · cases e : figsOf (numT n) with
    | nil => exact absurd e b3
    | cons c r =>
      have hd := b2 c (by rw [e]; exact List.mem_cons_self)
      rcases hcases with h | h
      · exact ⟨c, r, by rw [h, e], .inr ⟨hd.1, hd.2⟩⟩
      · exact ⟨45, c :: r, by rw [h, e], .inl rfl⟩
  · have hs : ∀ c ∈ figsOf (numT n), Sg c := fun c hc => by
      have := b2 c hc
      unfold Sg; omega
    intro c hc
    rcases hcases with h | h
    · rw [h] at hc; exact hs c hc
    · rw [h] at hc
      rcases List.mem_cons.mp hc with rfl | hc
      · unfold Sg; omega
      · exact hs c hc
theorem layw_num {n : Int} (h1 : -1000000000000 < n) (h2 : n < 1000000000000) : LayW (numT n) := by
  obtain ⟨n1, n2, n3, ⟨c, r, n4, n5⟩, n6⟩ := num_facts2 h1 h2
  obtain ⟨s1, s2⟩ := solid_sg (by rw [n4]; simp) n6
  refine ⟨.inl s1, word_of (by rw [n4]; simp; omega) (by rw [n4]; simp; omega) (by rw [n1]; simp), by omega, s2⟩
theorem layw_fix : ∀ w ∈ ([tk "true", tk "false", tk "none", tk "self", tk "new", tk "up", tk ":=", tk "if", tk "then", tk "else", tk "end", tk "while", tk "try", tk "taken", tk "do", tk "say", tk "return", tk "raise", tk "kind", tk "under", tk "field", tk "more", tk "method", tk ":", [43], [45], [42], [47], [60], [61]] : List T), LayW w := by
  intro w hw
  have h : ((w ≠ [] ∧ (w.all fun c => !isSep c) = true) ∧ isWord w = true ∧ w.length ≤ 41 ∧ 10 ∉ w) := by
    revert w
    decide +kernel
  exact ⟨.inl h.1, h.2.1, h.2.2.1, h.2.2.2⟩
theorem layw_br : ∀ c ∈ BR, LayW [c] := fun c hc => by
  refine ⟨.inr ⟨c, hc, rfl⟩, ?_, by simp, ?_⟩
  · revert c; decide +kernel
  · revert c; decide +kernel
theorem layw_msg {w : T} (h : isMsg w = true) : LayW w := by
  unfold isMsg at h
  rcases Bool.or_eq_true_iff.mp h with h | h
  · exact layw_free h
  · unfold inS at h
    simp only [List.any_cons, List.any_nil, Bool.or_false, Bool.or_eq_true] at h
    have e : ∀ l : T, (mk l == mk w) = true → w = l := fun l hz => by
      have := congrArg tl (eq_of_beq hz)
      exact this.symm
    rcases h with h | h | h | h | h | h <;> (rw [e _ h]; exact layw_fix _ (by simp))
def LayAll (ws : List WB) : Prop := ∀ q ∈ ws, LayW q.1
theorem LayAll.app {a b : List WB} (h : LayAll a) (g : LayAll b) : LayAll (a ++ b) := fun q hq => by
  rcases List.mem_append.mp hq with hq | hq
  · exact h q hq
  · exact g q hq
theorem LayAll.cons {q : WB} {b : List WB} (h : LayW q.1) (g : LayAll b) : LayAll (q :: b) := fun x hx => by
  rcases List.mem_cons.mp hx with rfl | hx
  · exact h
  · exact g x hx
theorem LayAll.nil : LayAll [] := fun q hq => by simp at hq
theorem layw_tk (s : String) (h : tk s ∈ ([tk "true", tk "false", tk "none", tk "self", tk "new", tk "up", tk ":=", tk "if", tk "then", tk "else", tk "end", tk "while", tk "try", tk "taken", tk "do", tk "say", tk "return", tk "raise", tk "kind", tk "under", tk "field", tk "more", tk "method", tk ":", [43], [45], [42], [47], [60], [61]] : List T)) : LayW (tk s) := layw_fix _ h
theorem layw_b (s : String) (c : Nat) (hc : c ∈ BR) (h : tk s = [c]) : LayW (tk s) := by rw [h]; exact layw_br c hc
theorem lay_plain : ∀ {ps : List T}, (∀ w ∈ ps, isFree w = true) → LayAll (plainW ps) := fun {ps} h q hq => by
  obtain ⟨w, hw, rfl⟩ := List.mem_map.mp hq
  exact layw_free (h w hw)
theorem pl_lay {k : T} (h : isPl k = true) : LayW k := by
  unfold isPl inS at h
  have e : ∀ z : Str, (z == mk k) = true → k = tl z := fun z hz => by rw [eq_of_beq hz]
  simp only [List.any_cons, List.any_nil, Bool.or_false, Bool.or_eq_true] at h
  rcases h with h | h | h | h <;> (rw [e _ h]; exact layw_fix _ (by simp))
abbrev lp1 : LayW (tk "(") := layw_b "(" 40 (by decide) (by decide +kernel)
abbrev lp2 : LayW (tk ")") := layw_b ")" 41 (by decide) (by decide +kernel)
abbrev lp3 : LayW (tk "[") := layw_b "[" 91 (by decide) (by decide +kernel)
abbrev lp4 : LayW (tk "]") := layw_b "]" 93 (by decide) (by decide +kernel)
abbrev lp5 : LayW (tk "{") := layw_b "{" 123 (by decide) (by decide +kernel)
abbrev lp6 : LayW (tk "}") := layw_b "}" 125 (by decide) (by decide +kernel)
abbrev lp7 : LayW (tk "|") := layw_b "|" 124 (by decide) (by decide +kernel)
mutual
theorem layE : ∀ e : Ex, okE e → LayAll (wE e)
  | .num n, h => .cons (layw_num h.1 h.2) .nil
  | .txt s, h => .cons (layw_text h) .nil
  | .tru true, h => .cons (layw_tk "true" (by simp)) .nil
  | .tru false, h => .cons (layw_tk "false" (by simp)) .nil
  | .non, h => .cons (layw_tk "none" (by simp)) .nil
  | .slf, h => .cons (layw_tk "self" (by simp)) .nil
  | .nam w, h => .cons (layw_free h) .nil
  | .fld w, h => .cons (layw_fld h) .nil
  | .new w, h => .cons (layw_tk "new" (by simp)) (.cons (layw_kind h) .nil)
  | .send r m es, h => .cons lp1 ((layE r h.2.1).app (.cons (layw_msg h.1) ((layEs es h.2.2).app (.cons lp2 .nil))))
  | .up m es, h => .cons lp1 (.cons (layw_tk "up" (by simp)) (.cons (layw_free h.1) ((layEs es h.2).app (.cons lp2 .nil))))
  | .lst es, h => .cons lp3 ((layEs es h).app (.cons lp4 .nil))
  | .blk ps ss, h => .cons lp5 ((lay_plain h.2.1).app (.cons lp7 ((laySs ss h.2.2).app (.cons lp6 .nil))))
theorem layEs : ∀ e : Exs, okEs e → LayAll (wEs e)
  | .nil, _ => .nil
  | .cons e r, h => (layE e h.1).app (layEs r h.2)
theorem layS : ∀ s : St_, okS s → LayAll (wS s)
  | .set w e, h => .cons (layw_free h.1) (.cons (layw_tk ":=" (by simp)) (layE e h.2))
  | .sfl w e, h => .cons (layw_fld h.1) (.cons (layw_tk ":=" (by simp)) (layE e h.2))
  | .pl k e, h => .cons (pl_lay h.1) (layE e h.2)
  | .iff e a b, h => .cons (layw_tk "if" (by simp)) ((layE e h.1).app (.cons (layw_tk "then" (by simp)) ((laySs a h.2.1).app (.cons (layw_tk "else" (by simp)) ((laySs b h.2.2).app (.cons (layw_tk "end" (by simp)) .nil))))))
  | .whl e a, h => .cons (layw_tk "while" (by simp)) ((layE e h.1).app (.cons (layw_tk "then" (by simp)) ((laySs a h.2).app (.cons (layw_tk "end" (by simp)) .nil))))
  | .tri a w b, h => .cons (layw_tk "try" (by simp)) ((laySs a h.2.1).app (.cons (layw_tk "taken" (by simp)) (.cons (layw_free h.1) ((laySs b h.2.2).app (.cons (layw_tk "end" (by simp)) .nil)))))
theorem laySs : ∀ e : Sts, okSs e → LayAll (wSs e)
  | .nil, _ => .nil
  | .cons e r, h => (layS e h.1).app (laySs r h.2)
end
end My
set_option Elab.async false
set_option linter.all false
set_option maxRecDepth 100000
set_option maxHeartbeats 4000000
namespace My
open PySem L2 SS
theorem kept_not {w : T} (h : isFree w = true) : inS KEPTs w = false := by
  unfold isFree at h
  rw [Bool.and_eq_true] at h
  unfold inS
  have := h.2
  simpa using this
theorem free_kept {w : T} (h : isFree w = true) {s : String} (hs : Str.ofString s ∈ KEPTs) : w ≠ tk s := fun e => by
  have h2 := kept_not h
  unfold inS at h2
  have : (KEPTs.any fun k => k == mk w) = true := List.any_eq_true.mpr ⟨_, hs, by rw [e, mk_tl]; simp⟩
  rw [this] at h2
  cases h2
theorem layM (m : Me) (h : okM m) : LayAll (wM m) := .cons (layw_tk "method" (by simp)) (.cons (layw_free h.fr) ((lay_plain h.ps).app (.cons (layw_tk ":" (by simp)) ((laySs m.ss h.ss).app (.cons (layw_tk "end" (by simp)) .nil)))))
theorem layMs : ∀ ms : List Me, (∀ m ∈ ms, okM m) → LayAll (wMs ms)
  | [], _ => .nil
  | m :: r, h => (layM m (h m List.mem_cons_self)).app (layMs r fun x hx => h x (List.mem_cons_of_mem _ hx))
theorem layFd : ∀ fs : List T, (∀ w ∈ fs, isFree w = true) → LayAll (wFd fs)
  | [], _ => .nil
  | f :: r, h => .cons (layw_tk "field" (by simp)) (.cons (layw_free (h f List.mem_cons_self)) (layFd r fun x hx => h x (List.mem_cons_of_mem _ hx)))
theorem layT (t : Tr) (h : okTr t) : LayAll (wT t) := by
  cases t with
  | kind n p fs ms => exact .cons (layw_tk "kind" (by simp)) (.cons (layw_kind h.hd.1) (.cons (layw_tk "under" (by simp)) (.cons (layw_kind h.hd.2.1) ((layFd fs h.hd.2.2.2).app ((layMs ms h.ms).app (.cons (layw_tk "end" (by simp)) .nil))))))
  | more n ms => exact .cons (layw_tk "more" (by simp)) (.cons (layw_kind h.hd) ((layMs ms h.ms).app (.cons (layw_tk "end" (by simp)) .nil)))
theorem layTs : ∀ ts : List Tr, (∀ t ∈ ts, okTr t) → LayAll (wTs ts)
  | [], _ => .nil
  | t :: r, h => (layT t (h t List.mem_cons_self)).app (layTs r fun x hx => h x (List.mem_cons_of_mem _ hx))
end My
set_option Elab.async false
set_option linter.all false
set_option maxRecDepth 100000
set_option maxHeartbeats 4000000
namespace My
open PySem L2 SS
/-! ### how trees are written: their words, each with whether a new row begins at it -/
mutual
def tE : Ex → List WB
  | .num n => [(numT n, false)]
  | .txt s => [(39 :: s, false)]
  | .tru true => [(tk "true", false)]
  | .tru false => [(tk "false", false)]
  | .non => [(tk "none", false)]
  | .slf => [(tk "self", false)]
  | .nam w => [(w, false)]
  | .fld w => [(64 :: w, false)]
  | .new w => [(tk "new", false), (w, false)]
  | .send r m es => (tk "(", false) :: (tE r ++ (m, false) :: (tEs es ++ [(tk ")", false)]))
  | .up m es => (tk "(", false) :: (tk "up", false) :: (m, false) :: (tEs es ++ [(tk ")", false)])
  | .lst es => (tk "[", false) :: (tEs es ++ [(tk "]", false)])
  | .blk ps ss => (tk "{", false) :: (plainW ps ++ (tk "|", false) :: (tSs ss ++ [(tk "}", false)]))
def tEs : Exs → List WB
  | .nil => []
  | .cons e r => tE e ++ tEs r
def tS : St_ → List WB
  | .set w e => (w, true) :: (tk ":=", false) :: tE e
  | .sfl w e => (64 :: w, true) :: (tk ":=", false) :: tE e
  | .pl k e => (k, true) :: tE e
  | .iff e a b => (tk "if", true) :: (tE e ++ (tk "then", false) :: (tSs a ++ (tk "else", true) :: (tSs b ++ [(tk "end", true)])))
  | .whl e a => (tk "while", true) :: (tE e ++ (tk "then", false) :: (tSs a ++ [(tk "end", true)]))
  | .tri a w b => (tk "try", true) :: (tSs a ++ (tk "taken", true) :: (w, false) :: (tSs b ++ [(tk "end", true)]))
def tSs : Sts → List WB
  | .nil => []
  | .cons s r => tS s ++ tSs r
end
def tM (m : Me) : List WB := (tk "method", true) :: (m.m, false) :: (plainW m.ps ++ (tk ":", false) :: (tSs m.ss ++ [(tk "end", true)]))
def tMs (ms : List Me) : List WB := ms.flatMap tM
def tFd (fs : List T) : List WB := fs.flatMap fun f => [(tk "field", true), (f, false)]
def tT : Tr → List WB
  | .kind n p fs ms => (tk "kind", true) :: (n, false) :: (tk "under", false) :: (p, false) :: (tFd fs ++ (tMs ms ++ [(tk "end", true)]))
  | .more n ms => (tk "more", true) :: (n, false) :: (tMs ms ++ [(tk "end", true)])
def tTs (ts : List Tr) : List WB := ts.flatMap tT
abbrev w1 (ws : List WB) : List T := ws.map (·.1)
mutual
theorem tE_w : ∀ e : Ex, w1 (tE e) = w1 (wE e)
  | .num n => rfl
  | .txt s => rfl
  | .tru true => rfl
  | .tru false => rfl
  | .non => rfl
  | .slf => rfl
  | .nam w => rfl
  | .fld w => rfl
  | .new w => rfl
  | .send r m es => by
    have h1 := tE_w r
    have h2 := tEs_w es
    simp only [tE, wE, w1, List.map_cons, List.map_append] at h1 h2 ⊢
    rw [h1, h2]
  | .up m es => by
    have h2 := tEs_w es
    simp only [tE, wE, w1, List.map_cons, List.map_append] at h2 ⊢
    rw [h2]
  | .lst es => by
    have h2 := tEs_w es
    simp only [tE, wE, w1, List.map_cons, List.map_append] at h2 ⊢
    rw [h2]
  | .blk ps ss => by
    have h2 := tSs_w ss
    simp only [tE, wE, w1, List.map_cons, List.map_append] at h2 ⊢
    rw [h2]
theorem tEs_w : ∀ e : Exs, w1 (tEs e) = w1 (wEs e)
  | .nil => rfl
  | .cons e r => by
    have h1 := tE_w e
    have h2 := tEs_w r
    simp only [tEs, wEs, w1, List.map_append] at h1 h2 ⊢
    rw [h1, h2]
theorem tS_w : ∀ e : St_, w1 (tS e) = w1 (wS e)
  | .set w e => by
    have h1 := tE_w e
    simp only [tS, wS, w1, List.map_cons] at h1 ⊢
    rw [h1]
  | .sfl w e => by
    have h1 := tE_w e
    simp only [tS, wS, w1, List.map_cons] at h1 ⊢
    rw [h1]
  | .pl k e => by
    have h1 := tE_w e
    simp only [tS, wS, w1, List.map_cons] at h1 ⊢
    rw [h1]
  | .iff e a b => by
    have h1 := tE_w e
    have h2 := tSs_w a
    have h3 := tSs_w b
    simp only [tS, wS, w1, List.map_cons, List.map_append] at h1 h2 h3 ⊢
    rw [h1, h2, h3]
  | .whl e a => by
    have h1 := tE_w e
    have h2 := tSs_w a
    simp only [tS, wS, w1, List.map_cons, List.map_append] at h1 h2 ⊢
    rw [h1, h2]
  | .tri a w b => by
    have h2 := tSs_w a
    have h3 := tSs_w b
    simp only [tS, wS, w1, List.map_cons, List.map_append] at h2 h3 ⊢
    rw [h2, h3]
theorem tSs_w : ∀ e : Sts, w1 (tSs e) = w1 (wSs e)
  | .nil => rfl
  | .cons e r => by
    have h1 := tS_w e
    have h2 := tSs_w r
    simp only [tSs, wSs, w1, List.map_append] at h1 h2 ⊢
    rw [h1, h2]
end
theorem tM_w (m : Me) : w1 (tM m) = w1 (wM m) := by
  have h := tSs_w m.ss
  simp only [tM, wM, w1, List.map_cons, List.map_append] at h ⊢
  rw [h]
theorem flat_w {α : Type} {f g : α → List WB} (h : ∀ x, w1 (f x) = w1 (g x)) : ∀ xs : List α, w1 (xs.flatMap f) = w1 (xs.flatMap g)
  | [] => rfl
  | x :: r => by
    have ih := flat_w h r
    simp only [w1] at h ih ⊢
    rw [List.flatMap_cons, List.flatMap_cons, List.map_append, List.map_append, h x, ih]
theorem tT_w (t : Tr) : w1 (tT t) = w1 (wT t) := by
  have h1 : ∀ ms, w1 (tMs ms) = w1 (wMs ms) := flat_w tM_w
  have h2 : ∀ fs, w1 (tFd fs) = w1 (wFd fs) := flat_w fun _ => rfl
  cases t with
  | kind n p fs ms =>
    have e1 := h1 ms
    have e2 := h2 fs
    simp only [tT, wT, w1, List.map_cons, List.map_append] at e1 e2 ⊢
    rw [e1, e2]
  | more n ms =>
    have e1 := h1 ms
    simp only [tT, wT, w1, List.map_cons, List.map_append] at e1 ⊢
    rw [e1]
theorem tTs_w (ts : List Tr) : w1 (tTs ts) = w1 (wTs ts) := flat_w tT_w ts
/-! ### laid in rows -/
def step (s : List T × T) (q : WB) : List T × T :=
  if s.2 = [] then (s.1, q.1) else if q.2 = true ∨ 100 < s.2.length + 1 + q.1.length then (s.1 ++ [s.2], q.1) else (s.1, s.2 ++ 32 :: q.1)
def layd (ws : List WB) : List T × T := ws.foldl step ([], [])
def rowsOf (s : List T × T) : List T := if s.2 = [] then [] else s.1 ++ [s.2]
/-- no blank beside another -/
def nd : T → Prop
  | c :: d :: r => ¬ (c = 32 ∧ d = 32) ∧ nd (d :: r)
  | _ => True
structure RowOk (l : T) : Prop where
  ne : l ≠ []
  ln : l.length ≤ 100
  hd : l.head? ≠ some 32
  la : l.getLast? ≠ some 32
  nd : nd l
  nl : 10 ∉ l
theorem nd_free : ∀ {w : T}, 32 ∉ w → nd w
  | [], _ => trivial
  | [c], _ => trivial
  | c :: d :: r, h => ⟨fun e => h (by rw [e.1]; exact List.mem_cons_self), nd_free fun k => h (List.mem_cons_of_mem _ k)⟩
theorem nd_join : ∀ {l w : T}, nd l → l ≠ [] → l.getLast? ≠ some 32 → nd w → w.head? ≠ some 32 → nd (l ++ 32 :: w)
  | [], w, _, h, _, _, _ => absurd rfl h
  | [c], w, _, _, hl, hw, hh => by
    refine ⟨fun e => hl (by rw [e.1]; rfl), ?_⟩
    cases w with
    | nil => trivial
    | cons d r => exact ⟨fun e => hh (by rw [e.2]; rfl), hw⟩
  | c :: d :: r, w, h, _, hl, hw, hh => by
    have ih := nd_join (l := d :: r) (w := w) h.2 (by simp) (by rw [List.getLast?_cons_cons] at hl; exact hl) hw hh
    exact ⟨h.1, ih⟩
theorem lay_free {w : T} (h : LayW w) : w ≠ [] ∧ 32 ∉ w := by
  rcases h.sh with ⟨h1, h2⟩ | ⟨c, hc, rfl⟩
  · refine ⟨h1, fun k => ?_⟩
    have := List.all_eq_true.mp h2 32 k
    exact absurd this (by decide)
  · refine ⟨by simp, fun k => ?_⟩
    have e : 32 = c := by simpa using k
    exact (br_sep hc).2 e.symm
theorem row_word {w : T} (h : LayW w) : RowOk w := by
  obtain ⟨h1, h2⟩ := lay_free h
  refine ⟨h1, by have := h.ln; omega, fun e => h2 (List.mem_of_head? e), fun e => h2 (List.mem_of_getLast? e), nd_free h2, h.nl⟩
theorem row_join {l w : T} (h : RowOk l) (lw : LayW w) (hl : l.length + 1 + w.length ≤ 100) : RowOk (l ++ 32 :: w) := by
  obtain ⟨h1, h2⟩ := lay_free lw
  refine ⟨by simp, by rw [List.length_append, List.length_cons]; omega, fun e => h.hd ?_, fun e => ?_, nd_join h.nd h.ne h.la (nd_free h2) (fun e => h2 (List.mem_of_head? e)), fun k => ?_⟩
  · rw [List.head?_append] at e
    cases hh : l.head? with
    | none => exact absurd (List.head?_eq_none_iff.mp hh) h.ne
    | some c => rw [hh] at e; exact e
  · rw [List.getLast?_append] at e
    have : (32 :: w).getLast? = w.getLast? := by
      cases w with
      | nil => exact absurd rfl h1
      | cons c r => rw [List.getLast?_cons_cons]
    rw [this] at e
    cases hh : w.getLast? with
    | none => exact absurd (List.getLast?_eq_none_iff.mp hh) h1
    | some c =>
      rw [hh] at e
      obtain rfl : c = 32 := by simpa using e
      exact h2 (List.mem_of_getLast? hh)
  · rcases List.mem_append.mp k with k | k
    · exact h.nl k
    · rcases List.mem_cons.mp k with k | k
      · exact absurd k (by decide)
      · exact lw.nl k
structure LyOk (ws : List T) (s : List T × T) : Prop where
  z : s.2 = [] → s.1 = [] ∧ ws = []
  row : ∀ l ∈ rowsOf s, RowOk l
  wd : (allW 1 (s.1 ++ [s.2])).map (·.1) = ws
theorem lay_fst (r : Nat) (ws : List (T × Nat)) : (lay r ws).map (·.1) = ws.map (·.1) := by
  unfold lay
  rw [List.map_map]
  rfl
theorem allW_snoc (r : Nat) (a : List T) (l : T) : (allW r (a ++ [l])).map (·.1) = (allW r a).map (·.1) ++ (rowWords l).map (·.1) := by
  rw [allW_app, List.map_append]
  show _ ++ List.map (fun (q : W) => q.1) (lay (r + a.length) (rowWords l) ++ []) = _
  rw [List.append_nil, lay_fst]
theorem rowWords_one {w : T} (h : LayW w) : (rowWords w).map (·.1) = [w] := by
  have := rowWords_app (cur := []) (w := w) (n := 0) h.sh (.inr (.inl rfl))
  rw [List.replicate_zero, List.nil_append, List.nil_append] at this
  rw [this]
  rfl
theorem LyOk.step {ws : List T} {s : List T × T} {q : WB} (h : LyOk ws s) (lw : LayW q.1) : LyOk (ws ++ [q.1]) (step s q) := by
  obtain ⟨h1, h2⟩ := lay_free lw
  unfold My.step
  by_cases c : s.2 = []
  · rw [if_pos c]
    obtain ⟨e1, e2⟩ := h.z c
    refine ⟨fun e => absurd e h1, fun l hl => ?_, ?_⟩
    · have : rowsOf (s.1, q.1) = [q.1] := by unfold rowsOf; rw [if_neg h1, e1]; rfl
      rw [this] at hl
      obtain rfl : l = q.1 := by simpa using hl
      exact row_word lw
    · show (allW 1 (s.1 ++ [q.1])).map (·.1) = _
      rw [allW_snoc, e1, e2, rowWords_one lw]
      rfl
  rw [if_neg c]
  have hr : rowsOf s = s.1 ++ [s.2] := by unfold rowsOf; rw [if_neg c]
  by_cases d : q.2 = true ∨ 100 < s.2.length + 1 + q.1.length
  · rw [if_pos d]
    refine ⟨fun e => absurd e h1, fun l hl => ?_, ?_⟩
    · have : rowsOf (s.1 ++ [s.2], q.1) = (s.1 ++ [s.2]) ++ [q.1] := by unfold rowsOf; rw [if_neg h1]
      rw [this] at hl
      rcases List.mem_append.mp hl with hl | hl
      · exact h.row l (by rw [hr]; exact hl)
      · obtain rfl : l = q.1 := by simpa using hl
        exact row_word lw
    · show (allW 1 ((s.1 ++ [s.2]) ++ [q.1])).map (·.1) = _
      rw [allW_snoc, h.wd, rowWords_one lw]
  · rw [if_neg d]
    have hlen : s.2.length + 1 + q.1.length ≤ 100 := by
      have : ¬ 100 < s.2.length + 1 + q.1.length := fun k => d (.inr k)
      omega
    refine ⟨fun e => absurd e (by simp), fun l hl => ?_, ?_⟩
    · have : rowsOf (s.1, s.2 ++ 32 :: q.1) = s.1 ++ [s.2 ++ 32 :: q.1] := by unfold rowsOf; rw [if_neg (by simp)]
      rw [this] at hl
      rcases List.mem_append.mp hl with hl | hl
      · exact h.row l (by rw [hr]; exact List.mem_append_left _ hl)
      · obtain rfl : l = s.2 ++ 32 :: q.1 := by simpa using hl
        exact row_join (h.row s.2 (by rw [hr]; simp)) lw hlen
    · show (allW 1 (s.1 ++ [s.2 ++ 32 :: q.1])).map (·.1) = _
      have e := rowWords_app (cur := s.2) (w := q.1) (n := 1) lw.sh (.inl (by decide))
      have e2 : s.2 ++ (List.replicate 1 32 ++ q.1) = s.2 ++ 32 :: q.1 := rfl
      rw [e2] at e
      rw [allW_snoc, e, List.map_append, ← List.append_assoc, ← allW_snoc, h.wd]
      rfl
theorem layd_ok : ∀ (ws : List WB), (∀ q ∈ ws, LayW q.1) → ∀ (us : List T) (s : List T × T), LyOk us s → LyOk (us ++ w1 ws) (ws.foldl step s)
  | [], _, us, s, h => by simpa using h
  | q :: r, hw, us, s, h => by
    rw [List.foldl_cons]
    have := layd_ok r (fun x hx => hw x (List.mem_cons_of_mem _ hx)) _ _ (h.step (hw q List.mem_cons_self))
    rw [List.append_assoc] at this
    exact this
theorem layd_all (ws : List WB) (hw : ∀ q ∈ ws, LayW q.1) : LyOk (w1 ws) (layd ws) := by
  have := layd_ok ws hw [] ([], []) ⟨fun _ => ⟨rfl, rfl⟩, fun l hl => by simp [rowsOf] at hl, rfl⟩
  rw [List.nil_append] at this
  exact this
end My
set_option Elab.async false
set_option linter.all false
set_option maxRecDepth 100000
set_option maxHeartbeats 4000000
namespace My
open PySem L2 SS
theorem tT_head (t : Tr) : ∃ k ws, tT t = (tk k, true) :: ws ∧ (tk k).length = 4 ∧ tk k ≠ [] := by
  cases t with
  | kind n p fs ms => exact ⟨"kind", _, rfl, by decide +kernel, by decide +kernel⟩
  | more n ms => exact ⟨"more", _, rfl, by decide +kernel, by decide +kernel⟩
def wrRows (ts : List Tr) : List T := (layd (tTs ts)).1 ++ [(layd (tTs ts)).2]
def wrT (ts : List Tr) : T := TL.joinL [10] (wrRows ts)
theorem tTs_lay (ts : List Tr) (h : ∀ t ∈ ts, okTr t) : ∀ q ∈ tTs ts, LayW q.1 := fun q hq => by
  have hm : q.1 ∈ w1 (wTs ts) := by rw [← tTs_w]; exact List.mem_map.mpr ⟨q, hq, rfl⟩
  obtain ⟨x, hx, e⟩ := List.mem_map.mp hm
  rw [← e]
  exact layTs ts h x hx
theorem wr_ly (ts : List Tr) (h : ∀ t ∈ ts, okTr t) : LyOk (w1 (tTs ts)) (layd (tTs ts)) := layd_all _ (tTs_lay ts h)
theorem tTs_ne {ts : List Tr} (h : ts ≠ []) : tTs ts ≠ [] := fun e => by
  cases ts with
  | nil => exact h rfl
  | cons t r =>
    obtain ⟨k, ws, e1, _, _⟩ := tT_head t
    unfold tTs at e
    rw [List.flatMap_cons, e1] at e
    cases e
theorem wr_rows {ts : List Tr} (hne : ts ≠ []) (h : ∀ t ∈ ts, okTr t) : rowsOf (layd (tTs ts)) = wrRows ts := by
  unfold rowsOf
  rw [if_neg fun e => ?_]
  · rfl
  · have := ((wr_ly ts h).z e).2
    exact tTs_ne hne (List.map_eq_nil_iff.mp this)
theorem wr_rowok {ts : List Tr} (hne : ts ≠ []) (h : ∀ t ∈ ts, okTr t) : ∀ l ∈ wrRows ts, RowOk l := by
  rw [← wr_rows hne h]
  exact (wr_ly ts h).row
theorem wr_nil : wrRows [] = [[]] := rfl
theorem mk_tl_map (rs : List T) : (rs.map mk).map tl = rs := by
  rw [List.map_map]
  exact (List.map_congr_left fun x _ => rfl).trans (List.map_id rs)
end My
set_option Elab.async false
set_option linter.all false
set_option maxRecDepth 100000
set_option maxHeartbeats 4000000
namespace My
open PySem L2 SS
/-! ### turns told by marks, one for each node in order -/
abbrev TURNs : List T := [tk "kind", tk "more", tk "field", tk "method", tk "else", tk "taken", tk "end"]
def isTurn (w : T) : Bool := decide (w ∈ TURNs)
def turnW : List WB → List Bool → List WB
  | [], _ => []
  | (w, true) :: r, m :: ms => (w, m) :: turnW r ms
  | (w, true) :: r, [] => (w, false) :: turnW r []
  | (w, false) :: r, ms => (w, isTurn w) :: turnW r ms
mutual
def mkE : Ex → List Bool
  | .send r _ es => false :: (mkE r ++ mkEs es)
  | .up _ es => false :: mkEs es
  | .lst es => false :: mkEs es
  | .blk _ ss => false :: mkSs ss
  | _ => [false]
def mkEs : Exs → List Bool
  | .nil => []
  | .cons e r => mkE e ++ mkEs r
def mkS : St_ → List Bool
  | .set _ e => true :: mkE e
  | .sfl _ e => true :: mkE e
  | .pl _ e => true :: mkE e
  | .iff e a b => true :: (mkE e ++ (mkSs a ++ mkSs b))
  | .whl e a => true :: (mkE e ++ mkSs a)
  | .tri a _ b => true :: (mkSs a ++ mkSs b)
def mkSs : Sts → List Bool
  | .nil => []
  | .cons s r => mkS s ++ mkSs r
end
def mkMs (ms : List Me) : List Bool := ms.flatMap fun m => mkSs m.ss
theorem free_turn {w : T} (h : isFree w = true) : isTurn w = false := decide_eq_false fun hm => by
  simp only [List.mem_cons, List.not_mem_nil, or_false] at hm
  rcases hm with e | e | e | e | e | e | e
  · exact free_kept h (s := "kind") (by decide +kernel) e
  · exact free_kept h (s := "more") (by decide +kernel) e
  · exact free_kept h (s := "field") (by decide +kernel) e
  · exact free_kept h (s := "method") (by decide +kernel) e
  · exact free_kept h (s := "else") (by decide +kernel) e
  · exact free_kept h (s := "taken") (by decide +kernel) e
  · exact free_kept h (s := "end") (by decide +kernel) e
theorem kind_turn {w : T} (h : isKindName w = true) : isTurn w = false := decide_eq_false fun hm => by
  obtain ⟨_, _, _, c, r, e, h1, h2⟩ := kind_facts h
  have key : ∀ z ∈ TURNs, (decide (97 ≤ z.headD 0)) = true := by decide +kernel
  have := of_decide_eq_true (key w hm)
  rw [e] at this
  have h3 : 97 ≤ c := this
  omega
theorem msg_turn {w : T} (h : isMsg w = true) : isTurn w = false := by
  unfold isMsg at h
  rcases Bool.or_eq_true_iff.mp h with h | h
  · exact free_turn h
  · unfold inS at h
    obtain ⟨z, hz, e⟩ := List.any_eq_true.mp h
    have ez : w = tl z := by rw [eq_of_beq e]
    rw [ez]
    clear e h ez
    revert z
    decide +kernel
theorem turn_plain : ∀ {ps : List T}, (∀ w ∈ ps, isFree w = true) → ∀ (r : List WB) (ms : List Bool), turnW (plainW ps ++ r) ms = plainW ps ++ turnW r ms
  | [], _, r, ms => rfl
  | w :: ps, h, r, ms => by
    show turnW ((w, false) :: (plainW ps ++ r)) ms = (w, false) :: (plainW ps ++ turnW r ms)
    rw [turnW, free_turn (h w List.mem_cons_self), turn_plain fun x hx => h x (List.mem_cons_of_mem _ hx)]
theorem tw_t (w : T) (r : List WB) (m : Bool) (ms : List Bool) : turnW ((w, true) :: r) (m :: ms) = (w, m) :: turnW r ms := rfl
theorem tw_f (w : T) (r : List WB) (ms : List Bool) : turnW ((w, false) :: r) ms = (w, isTurn w) :: turnW r ms := by cases ms <;> rfl
theorem tw_k (s : String) (b : Bool) (h : isTurn (tk s) = b) (r : List WB) (ms : List Bool) : turnW ((tk s, false) :: r) ms = (tk s, b) :: turnW r ms := by rw [tw_f, h]
mutual
theorem turn_E : ∀ e : Ex, okE e → ∀ (r : List WB) (ms : List Bool), turnW (wE e ++ r) (mkE e ++ ms) = tE e ++ turnW r ms
  | .num n, _, r, ms => rfl
  | .txt s, _, r, ms => rfl
  | .tru true, _, r, ms => rfl
  | .tru false, _, r, ms => rfl
  | .non, _, r, ms => rfl
  | .slf, _, r, ms => rfl
  | .nam w, _, r, ms => rfl
  | .fld w, _, r, ms => rfl
  | .new w, h, r, ms => by
    show turnW ((tk "new", true) :: (w, false) :: r) (false :: ms) = (tk "new", false) :: (w, false) :: turnW r ms
    rw [tw_t, tw_f, kind_turn h]
  | .send x m es, h, r, ms => by
    have e1 : wE (.send x m es) ++ r = (tk "(", true) :: (wE x ++ ((m, false) :: (wEs es ++ ((tk ")", false) :: r)))) := by simp [wE]
    have e2 : mkE (.send x m es) ++ ms = false :: (mkE x ++ (mkEs es ++ ms)) := by simp [mkE]
    have e3 : tE (.send x m es) ++ turnW r ms = (tk "(", false) :: (tE x ++ ((m, false) :: (tEs es ++ ((tk ")", false) :: turnW r ms)))) := by simp [tE]
    rw [e1, e2, e3, tw_t, turn_E x h.2.1, tw_f, msg_turn h.1, turn_Es es h.2.2, tw_k ")" false (by decide +kernel)]
  | .up m es, h, r, ms => by
    have e1 : wE (.up m es) ++ r = (tk "(", true) :: (tk "up", false) :: (m, false) :: (wEs es ++ ((tk ")", false) :: r)) := by simp [wE]
    have e2 : mkE (.up m es) ++ ms = false :: (mkEs es ++ ms) := by simp [mkE]
    have e3 : tE (.up m es) ++ turnW r ms = (tk "(", false) :: (tk "up", false) :: (m, false) :: (tEs es ++ ((tk ")", false) :: turnW r ms)) := by simp [tE]
    rw [e1, e2, e3, tw_t, tw_k "up" false (by decide +kernel), tw_f, free_turn h.1, turn_Es es h.2, tw_k ")" false (by decide +kernel)]
  | .lst es, h, r, ms => by
    have e1 : wE (.lst es) ++ r = (tk "[", true) :: (wEs es ++ ((tk "]", false) :: r)) := by simp [wE]
    have e2 : mkE (.lst es) ++ ms = false :: (mkEs es ++ ms) := by simp [mkE]
    have e3 : tE (.lst es) ++ turnW r ms = (tk "[", false) :: (tEs es ++ ((tk "]", false) :: turnW r ms)) := by simp [tE]
    rw [e1, e2, e3, tw_t, turn_Es es h, tw_k "]" false (by decide +kernel)]
  | .blk ps ss, h, r, ms => by
    have e1 : wE (.blk ps ss) ++ r = (tk "{", true) :: (plainW ps ++ ((tk "|", false) :: (wSs ss ++ ((tk "}", false) :: r)))) := by simp [wE]
    have e2 : mkE (.blk ps ss) ++ ms = false :: (mkSs ss ++ ms) := by simp [mkE]
    have e3 : tE (.blk ps ss) ++ turnW r ms = (tk "{", false) :: (plainW ps ++ ((tk "|", false) :: (tSs ss ++ ((tk "}", false) :: turnW r ms)))) := by simp [tE]
    rw [e1, e2, e3, tw_t, turn_plain h.2.1, tw_k "|" false (by decide +kernel), turn_Ss ss h.2.2, tw_k "}" false (by decide +kernel)]
theorem turn_Es : ∀ e : Exs, okEs e → ∀ (r : List WB) (ms : List Bool), turnW (wEs e ++ r) (mkEs e ++ ms) = tEs e ++ turnW r ms
  | .nil, _, r, ms => rfl
  | .cons e x, h, r, ms => by
    have e1 : wEs (.cons e x) ++ r = wE e ++ (wEs x ++ r) := by simp [wEs]
    have e2 : mkEs (.cons e x) ++ ms = mkE e ++ (mkEs x ++ ms) := by simp [mkEs]
    have e3 : tEs (.cons e x) ++ turnW r ms = tE e ++ (tEs x ++ turnW r ms) := by simp [tEs]
    rw [e1, e2, e3, turn_E e h.1, turn_Es x h.2]
theorem turn_S : ∀ e : St_, okS e → ∀ (r : List WB) (ms : List Bool), turnW (wS e ++ r) (mkS e ++ ms) = tS e ++ turnW r ms
  | .set w e, h, r, ms => by
    show turnW ((w, true) :: (tk ":=", false) :: (wE e ++ r)) (true :: (mkE e ++ ms)) = (w, true) :: (tk ":=", false) :: (tE e ++ turnW r ms)
    rw [tw_t, tw_k ":=" false (by decide +kernel), turn_E e h.2]
  | .sfl w e, h, r, ms => by
    show turnW ((64 :: w, true) :: (tk ":=", false) :: (wE e ++ r)) (true :: (mkE e ++ ms)) = (64 :: w, true) :: (tk ":=", false) :: (tE e ++ turnW r ms)
    rw [tw_t, tw_k ":=" false (by decide +kernel), turn_E e h.2]
  | .pl k e, h, r, ms => by
    show turnW ((k, true) :: (wE e ++ r)) (true :: (mkE e ++ ms)) = (k, true) :: (tE e ++ turnW r ms)
    rw [tw_t, turn_E e h.2]
  | .iff e a b, h, r, ms => by
    have e1 : wS (.iff e a b) ++ r = (tk "if", true) :: (wE e ++ ((tk "then", false) :: (wSs a ++ ((tk "else", false) :: (wSs b ++ ((tk "end", false) :: r)))))) := by simp [wS]
    have e2 : mkS (.iff e a b) ++ ms = true :: (mkE e ++ (mkSs a ++ (mkSs b ++ ms))) := by simp [mkS]
    have e3 : tS (.iff e a b) ++ turnW r ms = (tk "if", true) :: (tE e ++ ((tk "then", false) :: (tSs a ++ ((tk "else", true) :: (tSs b ++ ((tk "end", true) :: turnW r ms)))))) := by simp [tS]
    rw [e1, e2, e3, tw_t, turn_E e h.1, tw_k "then" false (by decide +kernel), turn_Ss a h.2.1, tw_k "else" true (by decide +kernel), turn_Ss b h.2.2, tw_k "end" true (by decide +kernel)]
  | .whl e a, h, r, ms => by
    have e1 : wS (.whl e a) ++ r = (tk "while", true) :: (wE e ++ ((tk "then", false) :: (wSs a ++ ((tk "end", false) :: r)))) := by simp [wS]
    have e2 : mkS (.whl e a) ++ ms = true :: (mkE e ++ (mkSs a ++ ms)) := by simp [mkS]
    have e3 : tS (.whl e a) ++ turnW r ms = (tk "while", true) :: (tE e ++ ((tk "then", false) :: (tSs a ++ ((tk "end", true) :: turnW r ms)))) := by simp [tS]
    rw [e1, e2, e3, tw_t, turn_E e h.1, tw_k "then" false (by decide +kernel), turn_Ss a h.2, tw_k "end" true (by decide +kernel)]
  | .tri a w b, h, r, ms => by
    have e1 : wS (.tri a w b) ++ r = (tk "try", true) :: (wSs a ++ ((tk "taken", false) :: (w, false) :: (wSs b ++ ((tk "end", false) :: r)))) := by simp [wS]
    have e2 : mkS (.tri a w b) ++ ms = true :: (mkSs a ++ (mkSs b ++ ms)) := by simp [mkS]
    have e3 : tS (.tri a w b) ++ turnW r ms = (tk "try", true) :: (tSs a ++ ((tk "taken", true) :: (w, false) :: (tSs b ++ ((tk "end", true) :: turnW r ms)))) := by simp [tS]
    rw [e1, e2, e3, tw_t, turn_Ss a h.2.1, tw_k "taken" true (by decide +kernel), tw_f, free_turn h.1, turn_Ss b h.2.2, tw_k "end" true (by decide +kernel)]
theorem turn_Ss : ∀ e : Sts, okSs e → ∀ (r : List WB) (ms : List Bool), turnW (wSs e ++ r) (mkSs e ++ ms) = tSs e ++ turnW r ms
  | .nil, _, r, ms => rfl
  | .cons e x, h, r, ms => by
    have e1 : wSs (.cons e x) ++ r = wS e ++ (wSs x ++ r) := by simp [wSs]
    have e2 : mkSs (.cons e x) ++ ms = mkS e ++ (mkSs x ++ ms) := by simp [mkSs]
    have e3 : tSs (.cons e x) ++ turnW r ms = tS e ++ (tSs x ++ turnW r ms) := by simp [tSs]
    rw [e1, e2, e3, turn_S e h.1, turn_Ss x h.2]
end
theorem turn_M (m : Me) (h : okM m) (r : List WB) (ms : List Bool) : turnW (wM m ++ r) (mkSs m.ss ++ ms) = tM m ++ turnW r ms := by
  have e1 : wM m ++ r = (tk "method", false) :: (m.m, false) :: (plainW m.ps ++ ((tk ":", false) :: (wSs m.ss ++ ((tk "end", false) :: r)))) := by simp [wM]
  have e3 : tM m ++ turnW r ms = (tk "method", true) :: (m.m, false) :: (plainW m.ps ++ ((tk ":", false) :: (tSs m.ss ++ ((tk "end", true) :: turnW r ms)))) := by simp [tM]
  rw [e1, e3, tw_k "method" true (by decide +kernel), tw_f, free_turn h.fr, turn_plain h.ps, tw_k ":" false (by decide +kernel), turn_Ss m.ss h.ss, tw_k "end" true (by decide +kernel)]
theorem turn_Ms : ∀ xs : List Me, (∀ m ∈ xs, okM m) → ∀ (r : List WB) (ms : List Bool), turnW (wMs xs ++ r) (mkMs xs ++ ms) = tMs xs ++ turnW r ms
  | [], _, r, ms => rfl
  | m :: xs, h, r, ms => by
    have e1 : wMs (m :: xs) ++ r = wM m ++ (wMs xs ++ r) := by simp [wMs]
    have e2 : mkMs (m :: xs) ++ ms = mkSs m.ss ++ (mkMs xs ++ ms) := by simp [mkMs]
    have e3 : tMs (m :: xs) ++ turnW r ms = tM m ++ (tMs xs ++ turnW r ms) := by simp [tMs]
    rw [e1, e2, e3, turn_M m (h m List.mem_cons_self), turn_Ms xs fun x hx => h x (List.mem_cons_of_mem _ hx)]
theorem turn_Fd : ∀ fs : List T, (∀ w ∈ fs, isFree w = true) → ∀ (r : List WB) (ms : List Bool), turnW (wFd fs ++ r) ms = tFd fs ++ turnW r ms
  | [], _, r, ms => rfl
  | f :: fs, h, r, ms => by
    show turnW ((tk "field", false) :: (f, false) :: (wFd fs ++ r)) ms = (tk "field", true) :: (f, false) :: (tFd fs ++ turnW r ms)
    rw [tw_k "field" true (by decide +kernel), tw_f, free_turn (h f List.mem_cons_self), turn_Fd fs fun x hx => h x (List.mem_cons_of_mem _ hx)]
theorem turn_T (t : Tr) (h : okTr t) : turnW (wT t) (mkMs t.ms) = tT t := by
  have ee : turnW ([] : List WB) [] = [] := rfl
  cases t with
  | kind n p fs ms =>
    have h1 : isKindName n = true := h.hd.1
    have h2 : isKindName p = true := h.hd.2.1
    have h4 : ∀ w ∈ fs, isFree w = true := h.hd.2.2.2
    show turnW ((tk "kind", false) :: (n, false) :: (tk "under", false) :: (p, false) :: (wFd fs ++ (wMs ms ++ [(tk "end", false)]))) (mkMs ms) = (tk "kind", true) :: (n, false) :: (tk "under", false) :: (p, false) :: (tFd fs ++ (tMs ms ++ [(tk "end", true)]))
    have e := turn_Ms ms h.ms [(tk "end", false)] []
    rw [List.append_nil] at e
    rw [tw_k "kind" true (by decide +kernel), tw_f, kind_turn h1, tw_k "under" false (by decide +kernel), tw_f, kind_turn h2, turn_Fd fs h4, e, tw_k "end" true (by decide +kernel), ee]
  | more n ms =>
    have h1 : isKindName n = true := h.hd
    show turnW ((tk "more", false) :: (n, false) :: (wMs ms ++ [(tk "end", false)])) (mkMs ms) = (tk "more", true) :: (n, false) :: (tMs ms ++ [(tk "end", true)])
    have e := turn_Ms ms h.ms [(tk "end", false)] []
    rw [List.append_nil] at e
    rw [tw_k "more" true (by decide +kernel), tw_f, kind_turn h1, e, tw_k "end" true (by decide +kernel), ee]
end My

set_option Elab.async false
set_option linter.all false
set_option maxRecDepth 100000
set_option maxHeartbeats 4000000
namespace My
open PySem L2 SS
abbrev sVLf : Stmt := top 11
abbrev sVAW : Stmt := top 5
abbrev sVFd : Stmt := top 7
/-! ### words, a row's beginning marked by a word ahead -/
def nlT : T := [10]
def mkd : List WB → List T
  | [] => []
  | (w, true) :: r => nlT :: w :: mkd r
  | (w, false) :: r => w :: mkd r
theorem mkd_app : ∀ a b : List WB, mkd (a ++ b) = mkd a ++ mkd b
  | [], b => rfl
  | (w, true) :: r, b => by show nlT :: w :: mkd (r ++ b) = _; rw [mkd_app r b]; rfl
  | (w, false) :: r, b => by show w :: mkd (r ++ b) = _; rw [mkd_app r b]; rfl
theorem mkd_len : ∀ a : List WB, (mkd a).length ≤ 2 * a.length
  | [] => Nat.le_refl _
  | (w, true) :: r => by have := mkd_len r; show (mkd r).length + 1 + 1 ≤ 2 * (r.length + 1); omega
  | (w, false) :: r => by have := mkd_len r; show (mkd r).length + 1 ≤ 2 * (r.length + 1); omega
theorem mkd_plain : ∀ ws : List T, mkd (plainW ws) = ws
  | [] => rfl
  | w :: r => by show w :: mkd (plainW r) = _; rw [mkd_plain r]
theorem wsV_app (a b : List T) : wsV a ++ wsV b = wsV (a ++ b) := (List.map_append ..).symm
theorem wsV_len (a : List T) : (wsV a).length = a.length := List.length_map _
theorem wsV_cons (a : T) (b : List T) : wsV (a :: b) = V.str (mk a) :: wsV b := rfl
theorem wsV_nil : wsV [] = [] := rfl
theorem S_mk (s : String) : V.str (mk (tk s)) = V.str (Str.ofString s) := by rw [mk_tl]
theorem nl_mk : V.str (mk nlT) = V.str (Str.ofString "\n") := by decide +kernel
/-- the words as a list of the heap -/
def LM (H : Hp) (a : Addr) (b : List WB) : Prop := H a = some (.lst (wsV (mkd b)))
theorem LM.on {H H' : Hp} {a : Addr} {b : List WB} (h : LM H a b) (s : Same H H') : LM H' a b := s _ _ h
section
variable {P : Program} {w : World} {K : PySem.W.Frag} {mg : Str → Option Value} {base : Heap} {α : Type}
def spWA (R : Hp → α → V → Prop) (wf : α → List WB) (ok : α → Prop) : Sp := fun vs H Q _ => ∃ (x : α) (v : V), vs = [v] ∧ R H x v ∧ ok x ∧ ∀ H' a, Same H H' → H a = none → LM H' a (wf x) → Q (.ref a) H'
def spAW (f : Addr) (R : Hp → α → V → Prop) (wf : α → List WB) (ok : α → Prop) : Sp := fun vs H Q _ => ∃ (xs : List α) (q : Addr) (ys : List V), vs = [.ref f, .ref q] ∧ H q = some (.tup ys) ∧ AtL R H xs ys ∧ (∀ x ∈ xs, ok x) ∧ (xs.flatMap wf).length ≤ 100000 ∧ ∀ H' a, Same H H' → LM H' a (xs.flatMap wf) → Q (.ref a) H'
theorem held_of {k : Nat} {x : Str} {sp : Sp} {f : Addr} (c : C0 P w K mg base k x sp) (hm : mg x = some (.ref f)) : Held P w K mg base k f sp := by
  obtain ⟨f1, fd, ps, F, m, kp, hb⟩ := c.ex
  have e : f1 = f := by
    have := m.symm.trans hm
    injection this with this
    injection this
  subst e
  exact ⟨fd, ps, F, kp, hb⟩
/-! a leaf's word -/
def spLf : Sp := fun vs H Q _ => ∃ (e : Ex) (z : T) (v : V), vs = [v] ∧ AtE H e v ∧ okE e ∧ leafT e = some z ∧ ∀ H', Same H H' → Q (.str (mk z)) H'
theorem scVLf : FnScope ["node", "sort", "worth"] ["node"] (defScope sVLf) := ⟨rfl, rfl, rfl, by decide +kernel, rfl, by decide +kernel, by decide +kernel⟩
theorem in_testX {K : PySem.W.Frag} {σ : L2.St} {H : Hp} {Qb : Bool → Hp → Prop} {z : Str} {zs : List V} {te : TE} {t : TA} (he : ∀ Q' : VK, Q' (V.str z) H → te σ H Q') (ht : ∀ H Q, Q zs H → t σ H Q) (hl : zs.length ≤ sizeLine) (hf : zs.all flatV = true) {b : Bool} (hb : inV (.str z) zs = b) (k : ∀ H', Same H H' → Qb b H') : tTest (tOp (rIn K false) te (tTup t)) σ H Qb := by
  refine he _ (ht _ _ ⟨hl, fun L hL => ⟨L, _, rfl, .inr (SqT.of upd_same), rfl, hf, _, rfl, ?_⟩⟩)
  show Qb (inV (.str z) zs) _
  rw [hb]
  exact k _ (same_new hL _)
theorem c_lf (TS : TxS K mg) (D : Dn K mg "leaf_word" sVLf) : C0 P w K mg base 1 "leaf_word" spLf := by
  obtain ⟨f, fd, F, m⟩ := D.ex
  refine ⟨f, fd, ["node"], F.ok scVLf (fun vs H Q E h => ?_) (fun cdv A outer s H vs Q E hr h => ?_), m, F.kp, F.binds (ps := ["node"]) fun _ _ _ _ _ _ us hl => match us, hl with | [_], _ => rfl⟩
  · obtain ⟨e, z, v, rfl, _⟩ := h
    rfl
  obtain ⟨e, z, v, rfl, at1, ok, hz, k⟩ := h
  refine ⟨_, pss_cons (ps_if (pt_cmpR op_in_seq (pe_ix (r := rIxT K) ix_tup (pv 0) pe_int (fun _ _ => rfl)) (pe_tup (pa_cons pe_str (pa_cons pe_str pa_nil))) (by rfl)) (pss_one (ps_ret (pe_ix (r := rIxT K) ix_tup (pv 0) pe_int (fun _ _ => rfl)))) pss_nil) <|
    pss_cons (ps_asg (pv 0) (pg_tup (by rfl) (pgs_cons (pg_name (i := 1) scVLf.nd rfl (Or.inl rfl)) (pgs_cons (pg_name (i := 2) scVLf.nd rfl (Or.inl rfl)) pgs_nil)))) <|
    pss_cons (ps_if (pt_cmpR op_eq (pv 1) pe_str (nomark _)) (pss_one (ps_ret (pe_ifExp (pt_truth (pv 2) (fun _ => rfl)) pe_str pe_str))) pss_nil) <|
    pss_cons (ps_if (pt_cmpR op_eq (pv 1) pe_str (nomark _)) (pss_one (ps_ret (pe_joined (.cons pe_str (.cons (pe_fmt (pv 2)) .nil))))) pss_nil) <|
    pss_cons (ps_if (pt_cmpR op_eq (pv 1) pe_str (nomark _)) (pss_one (ps_ret (pe_joined (.cons pe_str (.cons (pe_fmt (pv 2)) .nil))))) pss_nil) <|
    pss_one (ps_ret (pe_callTy call_str2 (by rfl) TS.str (by decide +kernel) (pa_cons (pv 2) pa_nil))), ?_⟩
  have first : ∀ (p : Addr) (z : Str) (r : List V) (b : Bool) (Qb : Bool → Hp → Prop), H p = some (.tup (.str z :: r)) → inV (.str z) [V.str (Str.ofString "none"), V.str (Str.ofString "self")] = b → (∀ H', Same H H' → Qb b H') →
      tTest (tOp (rIn K false) (tOp (rIxT K) (tVar 0) (tC (.int 0))) (tTup (tCons (tC (.str (Str.ofString "none"))) (tCons (tC (.str (Str.ofString "self"))) tNil)))) [some (.ref p), none, none] H Qb := fun p z r b Qb hp hb k =>
    in_testX (fun Q' q' => ⟨_, rfl, p, _, _, _, rfl, rfl, SqT.of hp, atI_0, q'⟩) (fun _ _ q => q) (by show 2 ≤ sizeLine; decide) rfl hb k
  have fs : ∀ (pre : String) (c : Nat) (t : T) (H1 : Hp) (Q : VK) (p : Addr) (a : V), tl (Str.ofString pre) = [c] → t.length ≤ 1000 → Q (.str (mk (c :: t))) H1 →
      tJs [tC (.str (Str.ofString pre)), tFmt (tVar 2)] Str.empty [some (.ref p), some a, some (.str (mk t))] H1 (fun out H2 => Q (.str out) H2) := fun pre c t H1 Q p a hp hl q => by
    have e0 : Str.empty ++ Str.ofString pre = mk [c] := by rw [add_mk, hp]; rfl
    refine ⟨_, rfl, by rw [e0, mk_len, sizeLine_eq]; exact (by decide : 1 ≤ 16777216), _, rfl, .inl ⟨_, rfl, by rw [mk_len, sizeLine_eq]; omega, _, rfl, ?_, ?_⟩⟩
    · rw [e0, add_mk, mk_len]
      show (c :: t).length ≤ _
      rw [List.length_cons, sizeLine_eq]
      omega
    · rw [e0, add_mk]
      exact q
  cases e with
  | num n =>
    obtain ⟨p, rfl, hp⟩ := at1
    obtain rfl : numT n = z := Option.some.inj hz
    refine first p _ _ false _ hp (by decide +kernel) fun H1 s1 => iteF ?_
    refine ⟨_, rfl, p, _, rfl, SqT.of (s1 _ _ hp), rfl, _, _, rfl, _, _, rfl, rfl, ?_⟩
    refine ⟨_, rfl, rfl, _, rfl, ite2 (fun c => absurd c (by decide +kernel)) (fun _ => ?_)⟩
    refine ⟨_, rfl, rfl, _, rfl, ite2 (fun c => absurd c (by decide +kernel)) (fun _ => ?_)⟩
    refine ⟨_, rfl, rfl, _, rfl, ite2 (fun c => absurd c (by decide +kernel)) (fun _ => ?_)⟩
    refine ⟨_, rfl, .inl ⟨n, rfl, log_small ?_, ?_⟩⟩
    · have := ok.1; have := ok.2; omega
    · have := k H1 s1
      have e : mk (numT n) = toString n := by show mk (tl (Str.ofString (toString n))) = _; rw [mk_tl]
      rw [e] at this
      exact this
  | txt t =>
    obtain ⟨p, rfl, hp⟩ := at1
    obtain rfl : 39 :: t = z := Option.some.inj hz
    have hl := text_len ok
    refine first p _ _ false _ hp (by decide +kernel) fun H1 s1 => iteF ?_
    refine ⟨_, rfl, p, _, rfl, SqT.of (s1 _ _ hp), rfl, _, _, rfl, _, _, rfl, rfl, ?_⟩
    refine ⟨_, rfl, rfl, _, rfl, ite2 (fun c => absurd c (by decide +kernel)) (fun _ => ?_)⟩
    refine ⟨_, rfl, rfl, _, rfl, ite2 (fun _ => ?_) (fun c => absurd (by decide +kernel) c)⟩
    exact fs "'" 39 t H1 Q p _ (by decide +kernel) (by omega) (k H1 s1)
  | tru b =>
    obtain ⟨p, rfl, hp⟩ := at1
    refine first p _ _ false _ hp (by decide +kernel) fun H1 s1 => iteF ?_
    refine ⟨_, rfl, p, _, rfl, SqT.of (s1 _ _ hp), rfl, _, _, rfl, _, _, rfl, rfl, ?_⟩
    refine ⟨_, rfl, rfl, _, rfl, ite2 (fun _ => ?_) (fun c => absurd (by decide +kernel) c)⟩
    have k1 := k H1 s1
    refine ⟨_, rfl, b, rfl, ?_⟩
    cases b with
    | true =>
      obtain rfl : tk "true" = z := Option.some.inj hz
      rw [mk_tl] at k1
      exact iteT k1
    | false =>
      obtain rfl : tk "false" = z := Option.some.inj hz
      rw [mk_tl] at k1
      exact iteF k1
  | non =>
    obtain ⟨p, rfl, hp⟩ := at1
    obtain rfl : tk "none" = z := Option.some.inj hz
    refine first p _ _ true _ hp (by decide +kernel) fun H1 s1 => iteT ?_
    have k1 := k H1 s1
    rw [mk_tl] at k1
    exact ⟨_, rfl, p, _, _, _, rfl, rfl, SqT.of (s1 _ _ hp), atI_0, k1⟩
  | slf =>
    obtain ⟨p, rfl, hp⟩ := at1
    obtain rfl : tk "self" = z := Option.some.inj hz
    refine first p _ _ true _ hp (by decide +kernel) fun H1 s1 => iteT ?_
    have k1 := k H1 s1
    rw [mk_tl] at k1
    exact ⟨_, rfl, p, _, _, _, rfl, rfl, SqT.of (s1 _ _ hp), atI_0, k1⟩
  | nam t =>
    obtain ⟨p, rfl, hp⟩ := at1
    obtain rfl : t = z := Option.some.inj hz
    refine first p _ _ false _ hp (by decide +kernel) fun H1 s1 => iteF ?_
    refine ⟨_, rfl, p, _, rfl, SqT.of (s1 _ _ hp), rfl, _, _, rfl, _, _, rfl, rfl, ?_⟩
    refine ⟨_, rfl, rfl, _, rfl, ite2 (fun c => absurd c (by decide +kernel)) (fun _ => ?_)⟩
    refine ⟨_, rfl, rfl, _, rfl, ite2 (fun c => absurd c (by decide +kernel)) (fun _ => ?_)⟩
    refine ⟨_, rfl, rfl, _, rfl, ite2 (fun c => absurd c (by decide +kernel)) (fun _ => ?_)⟩
    exact ⟨_, rfl, .inr ⟨_, rfl, k H1 s1⟩⟩
  | fld t =>
    obtain ⟨p, rfl, hp⟩ := at1
    obtain rfl : 64 :: t = z := Option.some.inj hz
    have hl := free_len ok
    refine first p _ _ false _ hp (by decide +kernel) fun H1 s1 => iteF ?_
    refine ⟨_, rfl, p, _, rfl, SqT.of (s1 _ _ hp), rfl, _, _, rfl, _, _, rfl, rfl, ?_⟩
    refine ⟨_, rfl, rfl, _, rfl, ite2 (fun c => absurd c (by decide +kernel)) (fun _ => ?_)⟩
    refine ⟨_, rfl, rfl, _, rfl, ite2 (fun c => absurd c (by decide +kernel)) (fun _ => ?_)⟩
    refine ⟨_, rfl, rfl, _, rfl, ite2 (fun _ => ?_) (fun c => absurd (by decide +kernel) c)⟩
    exact fs "@" 64 t H1 Q p _ (by decide +kernel) (by omega) (k H1 s1)
  | _ => cases hz
/-! a field's words -/
def atFd : Hp → T → V → Prop := fun _ x v => v = .str (mk x)
def wFd1 (f : T) : List WB := [(tk "field", true), (f, false)]
theorem scVFd : FnScope ["word"] ["word"] (defScope sVFd) := ⟨rfl, rfl, rfl, by decide +kernel, rfl, by decide +kernel, by decide +kernel⟩
theorem c_fd (gN : GS mg "NEW_ROW" "\n") (D : Dn K mg "field_words" sVFd) : C0 P w K mg base 1 "field_words" (spWA atFd wFd1 fun _ => True) := by
  obtain ⟨f, fd, F, m⟩ := D.ex
  refine ⟨f, fd, ["word"], F.ok scVFd (fun vs H Q E h => ?_) (fun cdv A outer s H vs Q E hr h => ?_), m, F.kp, F.binds (ps := ["word"]) fun _ _ _ _ _ _ us hl => match us, hl with | [_], _ => rfl⟩
  · obtain ⟨e, v, rfl, _⟩ := h
    rfl
  obtain ⟨x, v, rfl, rfl, _, kq⟩ := h
  refine ⟨_, pss_one (ps_ret (pe_lst (pa_cons (pe_gs gN) (pa_cons pe_str (pa_cons (pv 0) pa_nil))))), ?_⟩
  refine ⟨_, rfl, by show 3 ≤ sizeLine; decide, fun L hL => kq _ L (same_new hL _) hL ?_⟩
  unfold LM
  rw [upd_same]
  show some (HO.lst [V.str (Str.ofString "\n"), V.str (Str.ofString "field"), V.str (mk x)]) = some (.lst (wsV [nlT, tk "field", x]))
  rw [wsV_cons, wsV_cons, wsV_cons, wsV_nil, nl_mk, S_mk]
/-! all words, one behind the other -/
theorem scVAW : FnScope ["words_of_one", "trees", "tree", "word"] ["words_of_one", "trees"] (defScope sVAW) := ⟨rfl, rfl, rfl, by decide +kernel, rfl, by decide +kernel, by decide +kernel⟩
theorem c_aw {k : Nat} {R : Hp → α → V → Prop} {wf : α → List WB} {ok : α → Prop} {fo : Addr} (hR : ∀ H H' x v, Tups H H' → R H x v → R H' x v) (D : Dn K mg "all_words" sVAW) (hh : Held P w K mg base k fo (spWA R wf ok)) : C0 P w K mg base (k + 1) "all_words" (spAW fo R wf ok) := by
  obtain ⟨f, fd, F, m⟩ := D.ex
  refine ⟨f, fd, ["words_of_one", "trees"], F.ok scVAW (fun vs H Q E h => ?_) (fun cdv A outer s H vs Q E hr h => ?_), m, F.kp, F.binds (ps := ["words_of_one", "trees"]) fun _ _ _ _ _ _ us hl => match us, hl with | [_, _], _ => rfl⟩
  · obtain ⟨xs, q, ys, rfl, _⟩ := h
    rfl
  obtain ⟨xs, q, ys, rfl, hq, hat, hok, hlen, kq⟩ := h
  have hA : ∀ g sp, (fun g => if g = fo then some (spWA R wf ok) else none : Addr → Option Sp) g = some sp → Held P w K mg base k g sp := fun g sp hg => by
    have hg' : (if g = fo then some (spWA R wf ok) else none) = some sp := hg
    by_cases c : g = fo
    · rw [if_pos c] at hg'
      obtain rfl := Option.some.inj hg'
      rw [c]
      exact hh
    · rw [if_neg c] at hg'
      cases hg'
  refine ⟨_, pss_one (ps_ret (pe_lc2 (own := [("tree", 2), ("word", 3)]) (vs1 := [3]) (g := gName 2) (g1 := gName 3) (tt := tYes) (tt1 := tYes) (wi1 := iList K (tCallA 0 (fun g => if g = fo then some (spWA R wf ok) else none) (tCons (tVar 2) tNil))) rfl scVAW.nd (pi_tup (pv 1))
      (blkOk_by (own := [("tree", 2), ("word", 3)]) (N := ["words_of_one", "trees", "tree", "word"]) (sc := defScope sVAW) (by decide +kernel)) (by decide)
      (fun _ _ _ _ _ => pg_name (i := 2) scVAW.nd rfl (Or.inl rfl)) (fun _ _ _ _ _ => pts_nil)
      (fun _ _ _ _ _ => pi_list (pe_callA (i := 0) (S := fun g => if g = fo then some (spWA R wf ok) else none) hA hr rfl (by first | exact Or.inl rfl | exact Or.inr (Or.inl rfl) | exact Or.inr (Or.inr rfl)) (pa_cons (pv 2) pa_nil)))
      (fun _ _ _ _ _ => pg_name (i := 3) scVAW.nd rfl (Or.inl rfl)) (fun _ _ _ _ _ => pts_nil) (fun _ _ _ _ _ => pv 3))), ?_⟩
  refine ⟨_, rfl, q, rfl, ⟨ys, SqT.of hq⟩, fun D0 hD0 => ?_⟩
  have hyl := hat.len
  have s0 := same_new hD0 (.lst [])
  refine ⟨fun i m H1 => m = xs.length - i ∧ i ≤ xs.length ∧ Same H H1 ∧ LM H1 D0 ((xs.take i).flatMap wf), ⟨xs.length, by simp, Nat.zero_le _, s0, upd_same⟩, ?_⟩
  rintro i m0 H1 ⟨rfl, hi, s1, w1⟩
  by_cases hlt : i < xs.length
  · obtain ⟨x, hx⟩ : ∃ x, xs[i]? = some x := ⟨_, List.getElem?_eq_getElem hlt⟩
    obtain ⟨v, hv, hRv⟩ := hat.get' hx
    refine .inr ⟨⟨ys, v, SqT.of (s1 _ _ hq), hv⟩, fun H2 => Same H H2 ∧ LM H2 D0 ((xs.take (i + 1)).flatMap wf), fun H' p' => ⟨xs.length - (i + 1), by omega, rfl, hlt, p'⟩, ?_⟩
    rintro x' H' ⟨rfl, hy⟩
    have e := hy ys (SqT.of (s1 _ _ hq))
    rw [hv] at e
    obtain rfl := Option.some.inj e
    refine ⟨rfl, ?_⟩
    unfold tYes
    refine iteT ?_
    refine ⟨fo, _, rfl, if_pos rfl, _, rfl, x, v, rfl, hR _ _ _ _ (same_tups s1) hRv, hok x (List.mem_of_getElem? hx), fun H2 L s2 hL0 w2 => ?_⟩
    refine ⟨L, rfl, ⟨_, SqL.of w2⟩, ?_⟩
    have et : xs.take (i + 1) = xs.take i ++ [x] := by rw [List.take_add_one, hx]; rfl
    have hl2 : ((xs.take (i + 1)).flatMap wf).length ≤ (xs.flatMap wf).length := by
      have e : xs.flatMap wf = (xs.take (i + 1)).flatMap wf ++ (xs.drop (i + 1)).flatMap wf := by rw [← List.flatMap_append, List.take_append_drop]
      rw [e, List.length_append]
      omega
    have e1 : [x].flatMap wf = wf x := by simp
    rw [et, List.flatMap_append, e1] at hl2 ⊢
    have hm := mkd_len ((xs.take i).flatMap wf ++ wf x)
    rw [mkd_app] at hm
    have w12 := s2 _ _ w1
    have hDL : D0 ≠ L := fun e => by rw [← e] at hL0; rw [w1] at hL0; cases hL0
    refine ⟨fun j n H3 => n = (mkd (wf x)).length - j ∧ j ≤ (mkd (wf x)).length ∧ Same H H3 ∧ H3 L = some (.lst (wsV (mkd (wf x)))) ∧ H3 D0 = some (.lst (wsV (mkd ((xs.take i).flatMap wf) ++ (mkd (wf x)).take j))), ⟨_, rfl, Nat.zero_le _, s1.trans s2, w2, by rw [List.take_zero, List.append_nil]; exact w12⟩, ?_⟩
    rintro j n H3 ⟨rfl, hj, s3, hL3, hD3⟩
    by_cases hjl : j < (mkd (wf x)).length
    · have hg : (wsV (mkd (wf x)))[j]? = some (V.str (mk ((mkd (wf x))[j]'hjl))) := by
        unfold wsV
        rw [List.getElem?_map, List.getElem?_eq_getElem hjl]
        rfl
      refine .inr ⟨⟨_, _, SqL.of hL3, hg⟩, fun H4 => Same H H4 ∧ H4 L = some (.lst (wsV (mkd (wf x)))) ∧ H4 D0 = some (.lst (wsV (mkd ((xs.take i).flatMap wf) ++ (mkd (wf x)).take (j + 1)))), fun H' p' => ⟨(mkd (wf x)).length - (j + 1), by omega, rfl, by omega, p'⟩, ?_⟩
      rintro y H' ⟨rfl, hy2⟩
      have e2 := hy2 _ (SqL.of hL3)
      rw [hg] at e2
      obtain rfl := Option.some.inj e2
      refine ⟨rfl, ?_⟩
      refine iteT ?_
      refine ⟨_, rfl, _, hD3, ?_, fun b o hb => ?_, ?_, ?_⟩
      · rw [wsV_len, List.length_append, List.length_take, sizeLine_eq]
        simp only [List.length_append] at hm hl2
        omega
      · rw [upd_ne (ne_of_none hb hD0)]
        exact s3 _ _ hb
      · rw [upd_ne hDL.symm]
        exact hL3
      · rw [upd_same, List.take_add_one, List.getElem?_eq_getElem hjl, ← List.append_assoc]
        simp only [← wsV_app]
        rfl
    · have ej : j = (mkd (wf x)).length := by omega
      subst ej
      refine .inl ⟨⟨_, SqL.of hL3, by rw [wsV_len]; exact Nat.le_refl _⟩, s3, ?_⟩
      rw [List.take_length, ← mkd_app] at hD3
      exact hD3
  · have ei : i = xs.length := by omega
    subst ei
    rw [List.take_length] at w1
    exact .inl ⟨⟨ys, SqT.of (s1 _ _ hq), by omega⟩, kq H1 D0 s1 w1⟩
end
end My
set_option Elab.async false
set_option linter.all false
set_option maxRecDepth 100000
set_option maxHeartbeats 8000000
namespace My
open PySem L2 SS
abbrev sVSt : Stmt := top 9
abbrev sVEx : Stmt := top 10
theorem eL_t : ∀ es : Exs, tEs es = (eL es).flatMap tE
  | .nil => rfl
  | .cons e r => by rw [tEs, eL, List.flatMap_cons, eL_t r]
theorem sL_t : ∀ es : Sts, tSs es = (sL es).flatMap tS
  | .nil => rfl
  | .cons e r => by rw [tSs, sL, List.flatMap_cons, sL_t r]
theorem tE_len (e : Ex) (h : okE e) : (tE e).length ≤ 5 * nE e := by
  have h1 := congrArg List.length (tE_w e)
  simp only [w1, List.length_map] at h1
  rw [h1]
  exact (wE_b e h).1
theorem tEs_len (e : Exs) (h : okEs e) : (tEs e).length ≤ 5 * nEs e := by
  have h1 := congrArg List.length (tEs_w e)
  simp only [w1, List.length_map] at h1
  rw [h1]
  exact (wEs_b e h).1
theorem tS_len (e : St_) (h : okS e) : (tS e).length ≤ 5 * nS e := by
  have h1 := congrArg List.length (tS_w e)
  simp only [w1, List.length_map] at h1
  rw [h1]
  exact (wS_b e h).1
theorem tSs_len (e : Sts) (h : okSs e) : (tSs e).length ≤ 5 * nSs e := by
  have h1 := congrArg List.length (tSs_w e)
  simp only [w1, List.length_map] at h1
  rw [h1]
  exact (wSs_b e h).1
theorem LM.cast {H : Hp} {a : Addr} {ws zs : List WB} (h : LM H a ws) (e : ws = zs) : LM H a zs := e ▸ h
section
variable {P : Program} {w : World} {K : PySem.W.Frag} {mg : Str → Option Value} {base : Heap}
abbrev spXE (d : Nat) : Sp := spWA AtE tE (okNE d)
abbrev spXS (d : Nat) : Sp := spWA AtS tS (okNS d)
def pXE : Nat → Sp
  | 0 => spF
  | d + 1 => spXE d
def pAE (f : Addr) : Nat → Sp
  | 0 => spF
  | d + 1 => spAW f AtE tE (okNE d)
def pAS (f : Addr) : Nat → Sp
  | 0 => spF
  | d + 1 => spAW f AtS tS (okNS d)
theorem len_ws {b : List WB} {n : Nat} (h : b.length ≤ n) : (wsV (mkd b)).length ≤ 2 * n := by
  rw [wsV_len]
  have := mkd_len b
  omega
theorem scVEx : FnScope ["node", "sort", "_", "receiver", "message", "worths", "parameters", "statements", "kind"] ["node"] (defScope sVEx) := ⟨rfl, rfl, rfl, by decide +kernel, rfl, by decide +kernel, by decide +kernel⟩
theorem scVSt : FnScope ["node", "sort", "_", "test", "first", "second", "head", "statements", "word"] ["node"] (defScope sVSt) := ⟨rfl, rfl, rfl, by decide +kernel, rfl, by decide +kernel, by decide +kernel⟩
theorem c_ex {d k : Nat} {fE fS : Addr} (gfE : mg "expression_words" = some (.ref fE)) (gfS : mg "statement_words" = some (.ref fS)) (D : Dn K mg "expression_words" sVEx) (GL : C0 P w K mg base 1 "leaf_word" spLf) (GX : C0 P w K mg base k "expression_words" (pXE d)) (GAE : C0 P w K mg base (k + 1) "all_words" (pAE fE d)) (GAS : C0 P w K mg base (k + 2) "all_words" (pAS fS d)) : C0 P w K mg base (k + 3) "expression_words" (spXE d) := by
  obtain ⟨f, fd, F, m⟩ := D.ex
  refine ⟨f, fd, ["node"], F.ok scVEx (fun vs H Q E h => ?_) (fun cdv A outer s H vs Q E hr h => ?_), m, F.kp, F.binds (ps := ["node"]) fun _ _ _ _ _ _ us hl => match us, hl with | [_], _ => rfl⟩
  · obtain ⟨e, v, rfl, _⟩ := h
    rfl
  obtain ⟨e, v, rfl, at1, ⟨ok, oo, nn⟩, kq⟩ := h
  refine ⟨_, pss_cons (ps_set (i := 1) scVEx.nd rfl (Or.inl rfl) (pe_ix (r := rIxT K) ix_tup (pv 0) pe_int (fun _ _ => rfl))) <|
    pss_cons (ps_if (pt_cmpR op_eq (pv 1) pe_str (nomark _)) (pss_cons (ps_asg (pv 0) (pg_tup (by rfl) (pgs_cons (pg_name (i := 2) scVEx.nd rfl (Or.inl rfl)) (pgs_cons (pg_name (i := 3) scVEx.nd rfl (Or.inl rfl)) (pgs_cons (pg_name (i := 4) scVEx.nd rfl (Or.inl rfl)) (pgs_cons (pg_name (i := 5) scVEx.nd rfl (Or.inl rfl)) pgs_nil)))))) (pss_one (ps_ret (pe_lst (pa_cons pe_str (StX.pa_star (pe_cc GX hr (by omega) pass0 (pa_cons (pv 3) pa_nil)) (pa_cons (pv 4) (StX.pa_star (pe_cc GAE hr (by omega) pass0 (pa_cons (pe_glob (v := .ref fE) (by rfl) gfE rfl) (pa_cons (pv 5) pa_nil))) (pa_cons pe_str pa_nil))))))))) pss_nil) <|
    pss_cons (ps_if (pt_cmpR op_eq (pv 1) pe_str (nomark _)) (pss_cons (ps_asg (pv 0) (pg_tup (by rfl) (pgs_cons (pg_name (i := 2) scVEx.nd rfl (Or.inl rfl)) (pgs_cons (pg_name (i := 4) scVEx.nd rfl (Or.inl rfl)) (pgs_cons (pg_name (i := 5) scVEx.nd rfl (Or.inl rfl)) pgs_nil))))) (pss_one (ps_ret (pe_lst (pa_cons pe_str (pa_cons pe_str (pa_cons (pv 4) (StX.pa_star (pe_cc GAE hr (by omega) pass0 (pa_cons (pe_glob (v := .ref fE) (by rfl) gfE rfl) (pa_cons (pv 5) pa_nil))) (pa_cons pe_str pa_nil))))))))) pss_nil) <|
    pss_cons (ps_if (pt_cmpR op_eq (pv 1) pe_str (nomark _)) (pss_cons (ps_asg (pv 0) (pg_tup (by rfl) (pgs_cons (pg_name (i := 2) scVEx.nd rfl (Or.inl rfl)) (pgs_cons (pg_name (i := 5) scVEx.nd rfl (Or.inl rfl)) pgs_nil)))) (pss_one (ps_ret (pe_lst (pa_cons pe_str (StX.pa_star (pe_cc GAE hr (by omega) pass0 (pa_cons (pe_glob (v := .ref fE) (by rfl) gfE rfl) (pa_cons (pv 5) pa_nil))) (pa_cons pe_str pa_nil))))))) pss_nil) <|
    pss_cons (ps_if (pt_cmpR op_eq (pv 1) pe_str (nomark _)) (pss_cons (ps_asg (pv 0) (pg_tup (by rfl) (pgs_cons (pg_name (i := 2) scVEx.nd rfl (Or.inl rfl)) (pgs_cons (pg_name (i := 6) scVEx.nd rfl (Or.inl rfl)) (pgs_cons (pg_name (i := 7) scVEx.nd rfl (Or.inl rfl)) pgs_nil))))) (pss_one (ps_ret (pe_lst (pa_cons pe_str (StX.pa_star (pv 6) (pa_cons pe_str (StX.pa_star (pe_cc GAS hr (by omega) pass0 (pa_cons (pe_glob (v := .ref fS) (by rfl) gfS rfl) (pa_cons (pv 7) pa_nil))) (pa_cons pe_str pa_nil))))))))) pss_nil) <|
    pss_cons (ps_if (pt_cmpR op_eq (pv 1) pe_str (nomark _)) (pss_cons (ps_asg (pv 0) (pg_tup (by rfl) (pgs_cons (pg_name (i := 2) scVEx.nd rfl (Or.inl rfl)) (pgs_cons (pg_name (i := 8) scVEx.nd rfl (Or.inl rfl)) pgs_nil)))) (pss_one (ps_ret (pe_lst (pa_cons pe_str (pa_cons (pv 8) pa_nil)))))) pss_nil) <|
    pss_one (ps_ret (pe_lst (pa_cons (pe_cc GL hr (by omega) pass0 (pa_cons (pv 0) pa_nil)) pa_nil))), ?_⟩
  cases e with
  | num n =>
    have at0 := at1
    obtain ⟨p, rfl, hp⟩ := at1
    refine ⟨_, rfl, p, _, _, _, rfl, rfl, SqT.of hp, atI_0, ?_⟩
    refine ⟨_, rfl, rfl, _, rfl, ite2 (fun c => absurd c (by decide +kernel)) (fun _ => ?_)⟩
    refine ⟨_, rfl, rfl, _, rfl, ite2 (fun c => absurd c (by decide +kernel)) (fun _ => ?_)⟩
    refine ⟨_, rfl, rfl, _, rfl, ite2 (fun c => absurd c (by decide +kernel)) (fun _ => ?_)⟩
    refine ⟨_, rfl, rfl, _, rfl, ite2 (fun c => absurd c (by decide +kernel)) (fun _ => ?_)⟩
    refine ⟨_, rfl, rfl, _, rfl, ite2 (fun c => absurd c (by decide +kernel)) (fun _ => ?_)⟩
    refine ⟨_, rfl, _, _, _, rfl, at0, ok, rfl, fun H1 s1 => ⟨by show 1 ≤ sizeLine; decide, fun L hL => kq _ L (s1.trans (same_new hL _)) (s1.free hL) ?_⟩⟩
    unfold LM
    rw [upd_same]
    rfl
  | txt t =>
    have at0 := at1
    obtain ⟨p, rfl, hp⟩ := at1
    refine ⟨_, rfl, p, _, _, _, rfl, rfl, SqT.of hp, atI_0, ?_⟩
    refine ⟨_, rfl, rfl, _, rfl, ite2 (fun c => absurd c (by decide +kernel)) (fun _ => ?_)⟩
    refine ⟨_, rfl, rfl, _, rfl, ite2 (fun c => absurd c (by decide +kernel)) (fun _ => ?_)⟩
    refine ⟨_, rfl, rfl, _, rfl, ite2 (fun c => absurd c (by decide +kernel)) (fun _ => ?_)⟩
    refine ⟨_, rfl, rfl, _, rfl, ite2 (fun c => absurd c (by decide +kernel)) (fun _ => ?_)⟩
    refine ⟨_, rfl, rfl, _, rfl, ite2 (fun c => absurd c (by decide +kernel)) (fun _ => ?_)⟩
    refine ⟨_, rfl, _, _, _, rfl, at0, ok, rfl, fun H1 s1 => ⟨by show 1 ≤ sizeLine; decide, fun L hL => kq _ L (s1.trans (same_new hL _)) (s1.free hL) ?_⟩⟩
    unfold LM
    rw [upd_same]
    rfl
  | tru b =>
    have at0 := at1
    obtain ⟨p, rfl, hp⟩ := at1
    refine ⟨_, rfl, p, _, _, _, rfl, rfl, SqT.of hp, atI_0, ?_⟩
    refine ⟨_, rfl, rfl, _, rfl, ite2 (fun c => absurd c (by decide +kernel)) (fun _ => ?_)⟩
    refine ⟨_, rfl, rfl, _, rfl, ite2 (fun c => absurd c (by decide +kernel)) (fun _ => ?_)⟩
    refine ⟨_, rfl, rfl, _, rfl, ite2 (fun c => absurd c (by decide +kernel)) (fun _ => ?_)⟩
    refine ⟨_, rfl, rfl, _, rfl, ite2 (fun c => absurd c (by decide +kernel)) (fun _ => ?_)⟩
    refine ⟨_, rfl, rfl, _, rfl, ite2 (fun c => absurd c (by decide +kernel)) (fun _ => ?_)⟩
    cases b with
    | true =>
      refine ⟨_, rfl, _, _, _, rfl, at0, ok, rfl, fun H1 s1 => ⟨by show 1 ≤ sizeLine; decide, fun L hL => kq _ L (s1.trans (same_new hL _)) (s1.free hL) ?_⟩⟩
      unfold LM
      rw [upd_same]
      rfl
    | false =>
      refine ⟨_, rfl, _, _, _, rfl, at0, ok, rfl, fun H1 s1 => ⟨by show 1 ≤ sizeLine; decide, fun L hL => kq _ L (s1.trans (same_new hL _)) (s1.free hL) ?_⟩⟩
      unfold LM
      rw [upd_same]
      rfl
  | non =>
    have at0 := at1
    obtain ⟨p, rfl, hp⟩ := at1
    refine ⟨_, rfl, p, _, _, _, rfl, rfl, SqT.of hp, atI_0, ?_⟩
    refine ⟨_, rfl, rfl, _, rfl, ite2 (fun c => absurd c (by decide +kernel)) (fun _ => ?_)⟩
    refine ⟨_, rfl, rfl, _, rfl, ite2 (fun c => absurd c (by decide +kernel)) (fun _ => ?_)⟩
    refine ⟨_, rfl, rfl, _, rfl, ite2 (fun c => absurd c (by decide +kernel)) (fun _ => ?_)⟩
    refine ⟨_, rfl, rfl, _, rfl, ite2 (fun c => absurd c (by decide +kernel)) (fun _ => ?_)⟩
    refine ⟨_, rfl, rfl, _, rfl, ite2 (fun c => absurd c (by decide +kernel)) (fun _ => ?_)⟩
    refine ⟨_, rfl, _, _, _, rfl, at0, ok, rfl, fun H1 s1 => ⟨by show 1 ≤ sizeLine; decide, fun L hL => kq _ L (s1.trans (same_new hL _)) (s1.free hL) ?_⟩⟩
    unfold LM
    rw [upd_same]
    rfl
  | slf =>
    have at0 := at1
    obtain ⟨p, rfl, hp⟩ := at1
    refine ⟨_, rfl, p, _, _, _, rfl, rfl, SqT.of hp, atI_0, ?_⟩
    refine ⟨_, rfl, rfl, _, rfl, ite2 (fun c => absurd c (by decide +kernel)) (fun _ => ?_)⟩
    refine ⟨_, rfl, rfl, _, rfl, ite2 (fun c => absurd c (by decide +kernel)) (fun _ => ?_)⟩
    refine ⟨_, rfl, rfl, _, rfl, ite2 (fun c => absurd c (by decide +kernel)) (fun _ => ?_)⟩
    refine ⟨_, rfl, rfl, _, rfl, ite2 (fun c => absurd c (by decide +kernel)) (fun _ => ?_)⟩
    refine ⟨_, rfl, rfl, _, rfl, ite2 (fun c => absurd c (by decide +kernel)) (fun _ => ?_)⟩
    refine ⟨_, rfl, _, _, _, rfl, at0, ok, rfl, fun H1 s1 => ⟨by show 1 ≤ sizeLine; decide, fun L hL => kq _ L (s1.trans (same_new hL _)) (s1.free hL) ?_⟩⟩
    unfold LM
    rw [upd_same]
    rfl
  | nam t =>
    have at0 := at1
    obtain ⟨p, rfl, hp⟩ := at1
    refine ⟨_, rfl, p, _, _, _, rfl, rfl, SqT.of hp, atI_0, ?_⟩
    refine ⟨_, rfl, rfl, _, rfl, ite2 (fun c => absurd c (by decide +kernel)) (fun _ => ?_)⟩
    refine ⟨_, rfl, rfl, _, rfl, ite2 (fun c => absurd c (by decide +kernel)) (fun _ => ?_)⟩
    refine ⟨_, rfl, rfl, _, rfl, ite2 (fun c => absurd c (by decide +kernel)) (fun _ => ?_)⟩
    refine ⟨_, rfl, rfl, _, rfl, ite2 (fun c => absurd c (by decide +kernel)) (fun _ => ?_)⟩
    refine ⟨_, rfl, rfl, _, rfl, ite2 (fun c => absurd c (by decide +kernel)) (fun _ => ?_)⟩
    refine ⟨_, rfl, _, _, _, rfl, at0, ok, rfl, fun H1 s1 => ⟨by show 1 ≤ sizeLine; decide, fun L hL => kq _ L (s1.trans (same_new hL _)) (s1.free hL) ?_⟩⟩
    unfold LM
    rw [upd_same]
    rfl
  | fld t =>
    have at0 := at1
    obtain ⟨p, rfl, hp⟩ := at1
    refine ⟨_, rfl, p, _, _, _, rfl, rfl, SqT.of hp, atI_0, ?_⟩
    refine ⟨_, rfl, rfl, _, rfl, ite2 (fun c => absurd c (by decide +kernel)) (fun _ => ?_)⟩
    refine ⟨_, rfl, rfl, _, rfl, ite2 (fun c => absurd c (by decide +kernel)) (fun _ => ?_)⟩
    refine ⟨_, rfl, rfl, _, rfl, ite2 (fun c => absurd c (by decide +kernel)) (fun _ => ?_)⟩
    refine ⟨_, rfl, rfl, _, rfl, ite2 (fun c => absurd c (by decide +kernel)) (fun _ => ?_)⟩
    refine ⟨_, rfl, rfl, _, rfl, ite2 (fun c => absurd c (by decide +kernel)) (fun _ => ?_)⟩
    refine ⟨_, rfl, _, _, _, rfl, at0, ok, rfl, fun H1 s1 => ⟨by show 1 ≤ sizeLine; decide, fun L hL => kq _ L (s1.trans (same_new hL _)) (s1.free hL) ?_⟩⟩
    unfold LM
    rw [upd_same]
    rfl
  | new t =>
    obtain ⟨p, rfl, hp⟩ := at1
    refine ⟨_, rfl, p, _, _, _, rfl, rfl, SqT.of hp, atI_0, ?_⟩
    refine ⟨_, rfl, rfl, _, rfl, ite2 (fun c => absurd c (by decide +kernel)) (fun _ => ?_)⟩
    refine ⟨_, rfl, rfl, _, rfl, ite2 (fun c => absurd c (by decide +kernel)) (fun _ => ?_)⟩
    refine ⟨_, rfl, rfl, _, rfl, ite2 (fun c => absurd c (by decide +kernel)) (fun _ => ?_)⟩
    refine ⟨_, rfl, rfl, _, rfl, ite2 (fun c => absurd c (by decide +kernel)) (fun _ => ?_)⟩
    refine ⟨_, rfl, rfl, _, rfl, ite2 (fun _ => ?_) (fun c => absurd (by decide +kernel) c)⟩
    refine ⟨_, rfl, p, _, rfl, SqT.of hp, rfl, _, _, rfl, _, _, rfl, rfl, ?_⟩
    refine ⟨_, rfl, by show 2 ≤ sizeLine; decide, fun L hL => kq _ L (same_new hL _) hL ?_⟩
    unfold LM
    rw [upd_same]
    show some (HO.lst [V.str (Str.ofString "new"), V.str (mk t)]) = some (.lst (wsV [tk "new", t]))
    rw [wsV_cons, wsV_cons, wsV_nil, S_mk]
  | send r m_ es =>
    obtain ⟨p, vr, q, xs, rfl, hp, hq, h3, h4⟩ := at1
    cases d with
    | zero => simp only [oE] at oo; omega
    | succ d =>
      refine ⟨_, rfl, p, _, _, _, rfl, rfl, SqT.of hp, atI_0, ?_⟩
      refine ⟨_, rfl, rfl, _, rfl, ite2 (fun _ => ?_) (fun c => absurd (by decide +kernel) c)⟩
      refine ⟨_, rfl, p, _, rfl, SqT.of hp, rfl, _, _, rfl, _, _, rfl, _, _, rfl, _, _, rfl, rfl, ?_⟩
      simp only [oE, nE] at oo nn
      have hl1 := tE_len r ok.2.1
      have hl2 := tEs_len es ok.2.2
      rw [eL_t] at hl2
      refine ⟨_, rfl, r, vr, rfl, h3, ⟨ok.2.1, by omega, by omega⟩, fun H1 a1 s1 _ w1 => ?_⟩
      refine ⟨a1, _, rfl, .inr (SqL.of w1), _, rfl, ?_⟩
      refine ⟨_, rfl, eL es, q, xs, rfl, s1 _ _ hq, eL_at (AtEs.on (same_tups s1) _ _ h4), eL_ok ok.2.2 (by omega) (by omega), by omega, fun H2 a2 s2 w2 => ?_⟩
      refine ⟨a2, _, rfl, .inr (SqL.of w2), ?_, fun L hL => kq _ L ((s1.trans s2).trans (same_new hL _)) ((s1.trans s2).free hL) ?_⟩
      · have e1 := len_ws hl1
        have e2 := len_ws hl2
        simp only [List.length_append, List.length_cons, List.length_nil, sizeLine_eq]
        omega
      · unfold LM
        rw [upd_same]
        congr 2
        show V.str (Str.ofString "(") :: (wsV (mkd (tE r)) ++ V.str (mk m_) :: (wsV (mkd ((eL es).flatMap tE)) ++ [V.str (Str.ofString ")")])) = wsV (mkd ((tk "(", false) :: (tE r ++ (m_, false) :: (tEs es ++ [(tk ")", false)]))))
        rw [eL_t]
        simp only [mkd, mkd_app, ← wsV_app, wsV_cons, wsV_nil, S_mk]
  | up m_ es =>
    obtain ⟨p, q, xs, rfl, hp, hq, h4⟩ := at1
    cases d with
    | zero => simp only [oE] at oo; omega
    | succ d =>
      refine ⟨_, rfl, p, _, _, _, rfl, rfl, SqT.of hp, atI_0, ?_⟩
      refine ⟨_, rfl, rfl, _, rfl, ite2 (fun c => absurd c (by decide +kernel)) (fun _ => ?_)⟩
      refine ⟨_, rfl, rfl, _, rfl, ite2 (fun _ => ?_) (fun c => absurd (by decide +kernel) c)⟩
      refine ⟨_, rfl, p, _, rfl, SqT.of hp, rfl, _, _, rfl, _, _, rfl, _, _, rfl, rfl, ?_⟩
      simp only [oE, nE] at oo nn
      have hl2 := tEs_len es ok.2
      rw [eL_t] at hl2
      refine ⟨_, rfl, ?_⟩
      refine ⟨_, rfl, eL es, q, xs, rfl, hq, eL_at h4, eL_ok ok.2 (by omega) (by omega), by omega, fun H2 a2 s2 w2 => ?_⟩
      refine ⟨a2, _, rfl, .inr (SqL.of w2), ?_, fun L hL => kq _ L (s2.trans (same_new hL _)) (s2.free hL) ?_⟩
      · have e2 := len_ws hl2
        simp only [List.length_append, List.length_cons, List.length_nil, sizeLine_eq]
        omega
      · unfold LM
        rw [upd_same]
        congr 2
        show V.str (Str.ofString "(") :: V.str (Str.ofString "up") :: V.str (mk m_) :: (wsV (mkd ((eL es).flatMap tE)) ++ [V.str (Str.ofString ")")]) = wsV (mkd ((tk "(", false) :: (tk "up", false) :: (m_, false) :: (tEs es ++ [(tk ")", false)])))
        rw [eL_t]
        simp only [mkd, mkd_app, ← wsV_app, wsV_cons, wsV_nil, S_mk]
  | lst es =>
    obtain ⟨p, q, xs, rfl, hp, hq, h4⟩ := at1
    cases d with
    | zero => simp only [oE] at oo; omega
    | succ d =>
      refine ⟨_, rfl, p, _, _, _, rfl, rfl, SqT.of hp, atI_0, ?_⟩
      refine ⟨_, rfl, rfl, _, rfl, ite2 (fun c => absurd c (by decide +kernel)) (fun _ => ?_)⟩
      refine ⟨_, rfl, rfl, _, rfl, ite2 (fun c => absurd c (by decide +kernel)) (fun _ => ?_)⟩
      refine ⟨_, rfl, rfl, _, rfl, ite2 (fun _ => ?_) (fun c => absurd (by decide +kernel) c)⟩
      refine ⟨_, rfl, p, _, rfl, SqT.of hp, rfl, _, _, rfl, _, _, rfl, rfl, ?_⟩
      simp only [oE, nE] at oo nn
      have hl2 := tEs_len es ok
      rw [eL_t] at hl2
      refine ⟨_, rfl, eL es, q, xs, rfl, hq, eL_at h4, eL_ok ok (by omega) (by omega), by omega, fun H2 a2 s2 w2 => ?_⟩
      refine ⟨a2, _, rfl, .inr (SqL.of w2), ?_, fun L hL => kq _ L (s2.trans (same_new hL _)) (s2.free hL) ?_⟩
      · have e2 := len_ws hl2
        simp only [List.length_append, List.length_cons, List.length_nil, sizeLine_eq]
        omega
      · unfold LM
        rw [upd_same]
        congr 2
        show V.str (Str.ofString "[") :: (wsV (mkd ((eL es).flatMap tE)) ++ [V.str (Str.ofString "]")]) = wsV (mkd ((tk "[", false) :: (tEs es ++ [(tk "]", false)])))
        rw [eL_t]
        simp only [mkd, mkd_app, ← wsV_app, wsV_cons, wsV_nil, S_mk]
  | blk ps ss =>
    obtain ⟨p, vw, q, xs, rfl, hp, hq, ⟨pw, rfl, hpw⟩, h4⟩ := at1
    cases d with
    | zero => simp only [oE] at oo; omega
    | succ d =>
      refine ⟨_, rfl, p, _, _, _, rfl, rfl, SqT.of hp, atI_0, ?_⟩
      refine ⟨_, rfl, rfl, _, rfl, ite2 (fun c => absurd c (by decide +kernel)) (fun _ => ?_)⟩
      refine ⟨_, rfl, rfl, _, rfl, ite2 (fun c => absurd c (by decide +kernel)) (fun _ => ?_)⟩
      refine ⟨_, rfl, rfl, _, rfl, ite2 (fun c => absurd c (by decide +kernel)) (fun _ => ?_)⟩
      refine ⟨_, rfl, rfl, _, rfl, ite2 (fun _ => ?_) (fun c => absurd (by decide +kernel) c)⟩
      refine ⟨_, rfl, p, _, rfl, SqT.of hp, rfl, _, _, rfl, _, _, rfl, _, _, rfl, rfl, ?_⟩
      simp only [oE, nE] at oo nn
      have hps := ok.1
      have hl2 := tSs_len ss ok.2.2
      rw [sL_t] at hl2
      refine ⟨_, rfl, pw, _, rfl, .inl (SqT.of hpw), ?_⟩
      refine ⟨_, rfl, sL ss, q, xs, rfl, hq, sL_at h4, sL_ok ok.2.2 (by omega) (by omega), by omega, fun H2 a2 s2 w2 => ?_⟩
      refine ⟨a2, _, rfl, .inr (SqL.of w2), ?_, fun L hL => kq _ L (s2.trans (same_new hL _)) (s2.free hL) ?_⟩
      · have e2 := len_ws hl2
        simp only [List.length_append, List.length_cons, List.length_nil, sizeLine_eq, wsV_len ps]
        omega
      · unfold LM
        rw [upd_same]
        congr 2
        show V.str (Str.ofString "{") :: (wsV ps ++ V.str (Str.ofString "|") :: (wsV (mkd ((sL ss).flatMap tS)) ++ [V.str (Str.ofString "}")])) = wsV (mkd ((tk "{", false) :: (plainW ps ++ (tk "|", false) :: (tSs ss ++ [(tk "}", false)]))))
        rw [sL_t]
        simp only [mkd, mkd_app, mkd_plain, ← wsV_app, wsV_cons, wsV_nil, S_mk]
theorem c_st {d k : Nat} {fS : Addr} (gfS : mg "statement_words" = some (.ref fS)) (gN : GS mg "NEW_ROW" "\n") (D : Dn K mg "statement_words" sVSt) (GX : C0 P w K mg base (k + 3) "expression_words" (spXE d)) (GAS : C0 P w K mg base (k + 2) "all_words" (pAS fS d)) : C0 P w K mg base (k + 4) "statement_words" (spXS d) := by
  obtain ⟨f, fd, F, m⟩ := D.ex
  refine ⟨f, fd, ["node"], F.ok scVSt (fun vs H Q E h => ?_) (fun cdv A outer s H vs Q E hr h => ?_), m, F.kp, F.binds (ps := ["node"]) fun _ _ _ _ _ _ us hl => match us, hl with | [_], _ => rfl⟩
  · obtain ⟨e, v, rfl, _⟩ := h
    rfl
  obtain ⟨e, v, rfl, at1, ⟨ok, oo, nn⟩, kq⟩ := h
  refine ⟨_, pss_cons (ps_set (i := 1) scVSt.nd rfl (Or.inl rfl) (pe_ix (r := rIxT K) ix_tup (pv 0) pe_int (fun _ _ => rfl))) <|
    pss_cons (ps_if (pt_cmpR op_eq (pv 1) pe_str (nomark _)) (pss_cons (ps_asg (pv 0) (pg_tup (by rfl) (pgs_cons (pg_name (i := 2) scVSt.nd rfl (Or.inl rfl)) (pgs_cons (pg_name (i := 3) scVSt.nd rfl (Or.inl rfl)) (pgs_cons (pg_name (i := 4) scVSt.nd rfl (Or.inl rfl)) (pgs_cons (pg_name (i := 5) scVSt.nd rfl (Or.inl rfl)) pgs_nil)))))) <| pss_cons (ps_set (i := 6) scVSt.nd rfl (Or.inl rfl) (pe_lst (pa_cons pe_str (StX.pa_star (pe_cc GX hr (by omega) pass0 (pa_cons (pv 3) pa_nil)) (pa_cons pe_str (StX.pa_star (pe_cc GAS hr (by omega) pass0 (pa_cons (pe_glob (v := .ref fS) (by rfl) gfS rfl) (pa_cons (pv 4) pa_nil))) pa_nil)))))) <| pss_one (ps_ret (pe_lst (pa_cons (pe_gs gN) (StX.pa_star (pv 6) (pa_cons (pe_gs gN) (pa_cons pe_str (StX.pa_star (pe_cc GAS hr (by omega) pass0 (pa_cons (pe_glob (v := .ref fS) (by rfl) gfS rfl) (pa_cons (pv 5) pa_nil))) (pa_cons (pe_gs gN) (pa_cons pe_str pa_nil)))))))))) pss_nil) <|
    pss_cons (ps_if (pt_cmpR op_eq (pv 1) pe_str (nomark _)) (pss_cons (ps_asg (pv 0) (pg_tup (by rfl) (pgs_cons (pg_name (i := 2) scVSt.nd rfl (Or.inl rfl)) (pgs_cons (pg_name (i := 3) scVSt.nd rfl (Or.inl rfl)) (pgs_cons (pg_name (i := 7) scVSt.nd rfl (Or.inl rfl)) pgs_nil))))) <| pss_cons (ps_set (i := 6) scVSt.nd rfl (Or.inl rfl) (pe_lst (pa_cons pe_str (StX.pa_star (pe_cc GX hr (by omega) pass0 (pa_cons (pv 3) pa_nil)) (pa_cons pe_str pa_nil))))) <| pss_one (ps_ret (pe_lst (pa_cons (pe_gs gN) (StX.pa_star (pv 6) (StX.pa_star (pe_cc GAS hr (by omega) pass0 (pa_cons (pe_glob (v := .ref fS) (by rfl) gfS rfl) (pa_cons (pv 7) pa_nil))) (pa_cons (pe_gs gN) (pa_cons pe_str pa_nil)))))))) pss_nil) <|
    pss_cons (ps_if (pt_cmpR op_eq (pv 1) pe_str (nomark _)) (pss_cons (ps_asg (pv 0) (pg_tup (by rfl) (pgs_cons (pg_name (i := 2) scVSt.nd rfl (Or.inl rfl)) (pgs_cons (pg_name (i := 4) scVSt.nd rfl (Or.inl rfl)) (pgs_cons (pg_name (i := 8) scVSt.nd rfl (Or.inl rfl)) (pgs_cons (pg_name (i := 5) scVSt.nd rfl (Or.inl rfl)) pgs_nil)))))) <| pss_cons (ps_set (i := 6) scVSt.nd rfl (Or.inl rfl) (pe_lst (pa_cons pe_str (StX.pa_star (pe_cc GAS hr (by omega) pass0 (pa_cons (pe_glob (v := .ref fS) (by rfl) gfS rfl) (pa_cons (pv 4) pa_nil))) pa_nil)))) <| pss_one (ps_ret (pe_lst (pa_cons (pe_gs gN) (StX.pa_star (pv 6) (pa_cons (pe_gs gN) (pa_cons pe_str (pa_cons (pv 8) (StX.pa_star (pe_cc GAS hr (by omega) pass0 (pa_cons (pe_glob (v := .ref fS) (by rfl) gfS rfl) (pa_cons (pv 5) pa_nil))) (pa_cons (pe_gs gN) (pa_cons pe_str pa_nil))))))))))) pss_nil) <|
    C8.pss_cut (ps_if (pt_cmpR op_eq (pv 1) pe_str (nomark _)) (pss_one (ps_set (i := 6) scVSt.nd rfl (Or.inl rfl) (pe_lst (pa_cons (pe_ix (r := rIxT K) ix_tup (pv 0) pe_int (fun _ _ => rfl)) (pa_cons pe_str pa_nil))))) (pss_one (ps_if (pt_cmpR op_eq (pv 1) pe_str (nomark _)) (pss_one (ps_set (i := 6) scVSt.nd rfl (Or.inl rfl) (pe_lst (pa_cons (pe_joined (.cons pe_str (.cons (pe_fmt (pe_ix (r := rIxT K) ix_tup (pv 0) pe_int (fun _ _ => rfl))) .nil))) (pa_cons pe_str pa_nil))))) (pss_one (ps_set (i := 6) scVSt.nd rfl (Or.inl rfl) (pe_lst (pa_cons (pv 1) pa_nil))))))) <|
    pss_one (ps_ret (pe_lst (pa_cons (pe_gs gN) (StX.pa_star (pv 6) (StX.pa_star (pe_cc GX hr (by omega) pass0 (pa_cons (pe_ix (r := rIxT K) ix_tup (pv 0) (pe_un un_neg pe_int) (fun _ _ => rfl)) pa_nil)) pa_nil))))), ?_⟩
  cases e with
  | iff e a b =>
    obtain ⟨p, ve, q, xs, r, ys, rfl, hp, hq, hr_, h5, h6, h7⟩ := at1
    cases d with
    | zero => simp only [oS] at oo; omega
    | succ d =>
      refine ⟨_, rfl, p, _, _, _, rfl, rfl, SqT.of hp, atI_0, ?_⟩
      refine ⟨_, rfl, rfl, _, rfl, ite2 (fun _ => ?_) (fun c => absurd (by decide +kernel) c)⟩
      refine ⟨_, rfl, p, _, rfl, SqT.of hp, rfl, _, _, rfl, _, _, rfl, _, _, rfl, _, _, rfl, rfl, ?_⟩
      simp only [oS, nS] at oo nn
      have hl1 := tE_len e ok.1
      have hl2 := tSs_len a ok.2.1
      have hl3 := tSs_len b ok.2.2
      rw [sL_t] at hl2 hl3
      refine ⟨_, rfl, e, ve, rfl, h5, ⟨ok.1, by omega, by omega⟩, fun H1 a1 s1 _ w1 => ?_⟩
      refine ⟨a1, _, rfl, .inr (SqL.of w1), ?_⟩
      refine ⟨_, rfl, sL a, q, xs, rfl, s1 _ _ hq, sL_at (AtSs.on (same_tups s1) _ _ h6), sL_ok ok.2.1 (by omega) (by omega), by omega, fun H2 a2 s2 w2 => ?_⟩
      refine ⟨a2, _, rfl, .inr (SqL.of w2), ?_, fun L1 hL1 => ?_⟩
      · have e1 := len_ws hl1
        have e2 := len_ws hl2
        simp only [List.length_append, List.length_cons, List.length_nil, sizeLine_eq]
        omega
      have s3 := (s1.trans s2).trans (same_new hL1 (.lst (V.str (Str.ofString "if") :: (wsV (mkd (tE e)) ++ V.str (Str.ofString "then") :: (wsV (mkd ((sL a).flatMap tS)) ++ [])))))
      refine ⟨_, rfl, L1, _, rfl, .inr (SqL.of upd_same), ?_⟩
      refine ⟨_, rfl, sL b, r, ys, rfl, s3 _ _ hr_, sL_at (AtSs.on (same_tups s3) _ _ h7), sL_ok ok.2.2 (by omega) (by omega), by omega, fun H4 a4 s4 w4 => ?_⟩
      refine ⟨a4, _, rfl, .inr (SqL.of w4), ?_, fun L hL => kq _ L ((s3.trans s4).trans (same_new hL _)) ((s3.trans s4).free hL) ?_⟩
      · have e1 := len_ws hl1
        have e2 := len_ws hl2
        have e3 := len_ws hl3
        simp only [List.length_append, List.length_cons, List.length_nil, sizeLine_eq]
        omega
      · unfold LM
        rw [upd_same]
        congr 2
        show V.str (Str.ofString "\n") :: ((V.str (Str.ofString "if") :: (wsV (mkd (tE e)) ++ V.str (Str.ofString "then") :: (wsV (mkd ((sL a).flatMap tS)) ++ []))) ++ V.str (Str.ofString "\n") :: V.str (Str.ofString "else") :: (wsV (mkd ((sL b).flatMap tS)) ++ [V.str (Str.ofString "\n"), V.str (Str.ofString "end")])) =
          wsV (mkd ((tk "if", true) :: (tE e ++ (tk "then", false) :: (tSs a ++ (tk "else", true) :: (tSs b ++ [(tk "end", true)])))))
        rw [sL_t, sL_t]
        simp only [mkd, mkd_app, ← wsV_app, wsV_cons, wsV_nil, S_mk, nl_mk, List.append_nil, List.cons_append, List.append_assoc, List.nil_append]
  | whl e a =>
    obtain ⟨p, ve, q, xs, rfl, hp, hq, h5, h6⟩ := at1
    cases d with
    | zero => simp only [oS] at oo; omega
    | succ d =>
      refine ⟨_, rfl, p, _, _, _, rfl, rfl, SqT.of hp, atI_0, ?_⟩
      refine ⟨_, rfl, rfl, _, rfl, ite2 (fun c => absurd c (by decide +kernel)) (fun _ => ?_)⟩
      refine ⟨_, rfl, rfl, _, rfl, ite2 (fun _ => ?_) (fun c => absurd (by decide +kernel) c)⟩
      refine ⟨_, rfl, p, _, rfl, SqT.of hp, rfl, _, _, rfl, _, _, rfl, _, _, rfl, rfl, ?_⟩
      simp only [oS, nS] at oo nn
      have hl1 := tE_len e ok.1
      have hl2 := tSs_len a ok.2
      rw [sL_t] at hl2
      refine ⟨_, rfl, e, ve, rfl, h5, ⟨ok.1, by omega, by omega⟩, fun H1 a1 s1 _ w1 => ?_⟩
      refine ⟨a1, _, rfl, .inr (SqL.of w1), ?_, fun L1 hL1 => ?_⟩
      · have e1 := len_ws hl1
        simp only [List.length_append, List.length_cons, List.length_nil, sizeLine_eq]
        omega
      have s3 := s1.trans (same_new hL1 (.lst (V.str (Str.ofString "while") :: (wsV (mkd (tE e)) ++ [V.str (Str.ofString "then")]))))
      refine ⟨_, rfl, L1, _, rfl, .inr (SqL.of upd_same), ?_⟩
      refine ⟨_, rfl, sL a, q, xs, rfl, s3 _ _ hq, sL_at (AtSs.on (same_tups s3) _ _ h6), sL_ok ok.2 (by omega) (by omega), by omega, fun H4 a4 s4 w4 => ?_⟩
      refine ⟨a4, _, rfl, .inr (SqL.of w4), ?_, fun L hL => kq _ L ((s3.trans s4).trans (same_new hL _)) ((s3.trans s4).free hL) ?_⟩
      · have e1 := len_ws hl1
        have e2 := len_ws hl2
        simp only [List.length_append, List.length_cons, List.length_nil, sizeLine_eq]
        omega
      · unfold LM
        rw [upd_same]
        congr 2
        show V.str (Str.ofString "\n") :: ((V.str (Str.ofString "while") :: (wsV (mkd (tE e)) ++ [V.str (Str.ofString "then")])) ++ (wsV (mkd ((sL a).flatMap tS)) ++ [V.str (Str.ofString "\n"), V.str (Str.ofString "end")])) =
          wsV (mkd ((tk "while", true) :: (tE e ++ (tk "then", false) :: (tSs a ++ [(tk "end", true)]))))
        rw [sL_t]
        simp only [mkd, mkd_app, ← wsV_app, wsV_cons, wsV_nil, S_mk, nl_mk, List.append_nil, List.cons_append, List.append_assoc, List.nil_append]
  | tri a z b =>
    obtain ⟨p, q, xs, r, ys, rfl, hp, hq, hr_, h6, h7⟩ := at1
    cases d with
    | zero => simp only [oS] at oo; omega
    | succ d =>
      refine ⟨_, rfl, p, _, _, _, rfl, rfl, SqT.of hp, atI_0, ?_⟩
      refine ⟨_, rfl, rfl, _, rfl, ite2 (fun c => absurd c (by decide +kernel)) (fun _ => ?_)⟩
      refine ⟨_, rfl, rfl, _, rfl, ite2 (fun c => absurd c (by decide +kernel)) (fun _ => ?_)⟩
      refine ⟨_, rfl, rfl, _, rfl, ite2 (fun _ => ?_) (fun c => absurd (by decide +kernel) c)⟩
      refine ⟨_, rfl, p, _, rfl, SqT.of hp, rfl, _, _, rfl, _, _, rfl, _, _, rfl, _, _, rfl, rfl, ?_⟩
      simp only [oS, nS] at oo nn
      have hl2 := tSs_len a ok.2.1
      have hl3 := tSs_len b ok.2.2
      rw [sL_t] at hl2 hl3
      refine ⟨_, rfl, sL a, q, xs, rfl, hq, sL_at h6, sL_ok ok.2.1 (by omega) (by omega), by omega, fun H2 a2 s2 w2 => ?_⟩
      refine ⟨a2, _, rfl, .inr (SqL.of w2), ?_, fun L1 hL1 => ?_⟩
      · have e2 := len_ws hl2
        simp only [List.length_append, List.length_cons, List.length_nil, sizeLine_eq]
        omega
      have s3 := s2.trans (same_new hL1 (.lst (V.str (Str.ofString "try") :: (wsV (mkd ((sL a).flatMap tS)) ++ []))))
      refine ⟨_, rfl, L1, _, rfl, .inr (SqL.of upd_same), _, rfl, ?_⟩
      refine ⟨_, rfl, sL b, r, ys, rfl, s3 _ _ hr_, sL_at (AtSs.on (same_tups s3) _ _ h7), sL_ok ok.2.2 (by omega) (by omega), by omega, fun H4 a4 s4 w4 => ?_⟩
      refine ⟨a4, _, rfl, .inr (SqL.of w4), ?_, fun L hL => kq _ L ((s3.trans s4).trans (same_new hL _)) ((s3.trans s4).free hL) ?_⟩
      · have e2 := len_ws hl2
        have e3 := len_ws hl3
        simp only [List.length_append, List.length_cons, List.length_nil, sizeLine_eq]
        omega
      · unfold LM
        rw [upd_same]
        congr 2
        show V.str (Str.ofString "\n") :: ((V.str (Str.ofString "try") :: (wsV (mkd ((sL a).flatMap tS)) ++ [])) ++ V.str (Str.ofString "\n") :: V.str (Str.ofString "taken") :: V.str (mk z) :: (wsV (mkd ((sL b).flatMap tS)) ++ [V.str (Str.ofString "\n"), V.str (Str.ofString "end")])) =
          wsV (mkd ((tk "try", true) :: (tSs a ++ (tk "taken", true) :: (z, false) :: (tSs b ++ [(tk "end", true)]))))
        rw [sL_t, sL_t]
        simp only [mkd, mkd_app, ← wsV_app, wsV_cons, wsV_nil, S_mk, nl_mk, List.append_nil, List.cons_append, List.append_assoc, List.nil_append]
  | set z e =>
    obtain ⟨p, ve, rfl, hp, he⟩ := at1
    refine ⟨_, rfl, p, _, _, _, rfl, rfl, SqT.of hp, atI_0, ?_⟩
    refine ⟨_, rfl, rfl, _, rfl, ite2 (fun c => absurd c (by decide +kernel)) (fun _ => ?_)⟩
    refine ⟨_, rfl, rfl, _, rfl, ite2 (fun c => absurd c (by decide +kernel)) (fun _ => ?_)⟩
    refine ⟨_, rfl, rfl, _, rfl, ite2 (fun c => absurd c (by decide +kernel)) (fun _ => ?_)⟩
    simp only [oS, nS] at oo nn
    have hl1 := tE_len e ok.2
    refine ⟨fun σ H2 => ∃ L1, σ = [some (.ref p), some (.str (Str.ofString "set")), none, none, none, none, some (.ref L1), none, none] ∧ Same H H2 ∧ H2 L1 = some (.lst [V.str (mk z), V.str (Str.ofString ":=")]), ?_, ?_⟩
    · refine ⟨_, rfl, rfl, _, rfl, ite2 (fun _ => ?_) (fun c => absurd (by decide +kernel) c)⟩
      exact ⟨_, rfl, p, _, _, _, rfl, rfl, SqT.of hp, atI_nat (j := 1) rfl, by show 2 ≤ sizeLine; decide, fun L1 hL1 => ⟨L1, rfl, same_new hL1 _, upd_same⟩⟩
    rintro σ H2 ⟨L1, rfl, s2, f2⟩
    refine ⟨_, rfl, L1, _, rfl, .inr (SqL.of f2), ?_⟩
    refine ⟨_, rfl, 1, rfl, p, _, -1, ve, rfl, rfl, SqT.of (s2 _ _ hp), rfl, ?_⟩
    refine ⟨e, ve, rfl, AtE.on (same_tups s2) _ _ he, ⟨ok.2, by omega, by omega⟩, fun H3 a3 s3 _ w3 => ?_⟩
    refine ⟨a3, _, rfl, .inr (SqL.of w3), ?_, fun L hL => kq _ L ((s2.trans s3).trans (same_new hL _)) ((s2.trans s3).free hL) ?_⟩
    · have e1 := len_ws hl1
      simp only [List.length_append, List.length_cons, List.length_nil, sizeLine_eq]
      omega
    · unfold LM
      rw [upd_same]
      congr 2
      show V.str (Str.ofString "\n") :: ([V.str (mk z), V.str (Str.ofString ":=")] ++ (wsV (mkd (tE e)) ++ [])) = wsV (mkd ((z, true) :: (tk ":=", false) :: tE e))
      simp only [mkd, mkd_app, ← wsV_app, wsV_cons, wsV_nil, S_mk, nl_mk, List.append_nil, List.cons_append, List.append_assoc, List.nil_append]
  | sfl z e =>
    obtain ⟨p, ve, rfl, hp, he⟩ := at1
    refine ⟨_, rfl, p, _, _, _, rfl, rfl, SqT.of hp, atI_0, ?_⟩
    refine ⟨_, rfl, rfl, _, rfl, ite2 (fun c => absurd c (by decide +kernel)) (fun _ => ?_)⟩
    refine ⟨_, rfl, rfl, _, rfl, ite2 (fun c => absurd c (by decide +kernel)) (fun _ => ?_)⟩
    refine ⟨_, rfl, rfl, _, rfl, ite2 (fun c => absurd c (by decide +kernel)) (fun _ => ?_)⟩
    simp only [oS, nS] at oo nn
    have hl1 := tE_len e ok.2
    refine ⟨fun σ H2 => ∃ L1, σ = [some (.ref p), some (.str (Str.ofString "setfield")), none, none, none, none, some (.ref L1), none, none] ∧ Same H H2 ∧ H2 L1 = some (.lst [V.str (mk (64 :: z)), V.str (Str.ofString ":=")]), ?_, ?_⟩
    · refine ⟨_, rfl, rfl, _, rfl, ite2 (fun c => absurd c (by decide +kernel)) (fun _ => ?_)⟩
      refine ⟨_, rfl, rfl, _, rfl, ite2 (fun _ => ?_) (fun c => absurd (by decide +kernel) c)⟩
      have hz := free_len ok.1
      have e0 : Str.empty ++ Str.ofString "@" = mk [64] := by rw [add_mk]; decide +kernel
      have e2 : Str.empty ++ Str.ofString "@" ++ mk z = mk (64 :: z) := by rw [e0, add_mk]; rfl
      refine ⟨_, rfl, by rw [e0, mk_len, sizeLine_eq]; exact (by decide : 1 ≤ 16777216), _, rfl, p, _, _, _, rfl, rfl, SqT.of hp, atI_nat (j := 1) rfl, .inl ⟨mk z, rfl, by rw [mk_len, sizeLine_eq]; omega, mk z, rfl, by rw [e2, mk_len, List.length_cons, sizeLine_eq]; omega, ?_⟩⟩
      rw [e2]
      exact ⟨by show 2 ≤ sizeLine; decide, fun L1 hL1 => ⟨L1, rfl, same_new hL1 _, upd_same⟩⟩
    rintro σ H2 ⟨L1, rfl, s2, f2⟩
    refine ⟨_, rfl, L1, _, rfl, .inr (SqL.of f2), ?_⟩
    refine ⟨_, rfl, 1, rfl, p, _, -1, ve, rfl, rfl, SqT.of (s2 _ _ hp), rfl, ?_⟩
    refine ⟨e, ve, rfl, AtE.on (same_tups s2) _ _ he, ⟨ok.2, by omega, by omega⟩, fun H3 a3 s3 _ w3 => ?_⟩
    refine ⟨a3, _, rfl, .inr (SqL.of w3), ?_, fun L hL => kq _ L ((s2.trans s3).trans (same_new hL _)) ((s2.trans s3).free hL) ?_⟩
    · have e1 := len_ws hl1
      simp only [List.length_append, List.length_cons, List.length_nil, sizeLine_eq]
      omega
    · unfold LM
      rw [upd_same]
      congr 2
      show V.str (Str.ofString "\n") :: ([V.str (mk (64 :: z)), V.str (Str.ofString ":=")] ++ (wsV (mkd (tE e)) ++ [])) = wsV (mkd ((64 :: z, true) :: (tk ":=", false) :: tE e))
      simp only [mkd, mkd_app, ← wsV_app, wsV_cons, wsV_nil, S_mk, nl_mk, List.append_nil, List.cons_append, List.append_assoc, List.nil_append]
  | pl z e =>
    obtain ⟨p, ve, rfl, hp, he⟩ := at1
    have hpl : ∀ s : String, s ∉ ["do", "say", "return", "raise"] → (∀ t ∈ ["do", "say", "return", "raise"], decide (V.str (Str.ofString t) = V.str (Str.ofString s)) = false) → ¬ decide (V.str (mk z) = V.str (Str.ofString s)) = true := fun s _ hs c => by
      have hz : isPl z = true := ok.1
      rcases pl_cases hz with h | h | h | h <;> (rw [h, mk_tl] at c; rw [hs _ (by simp)] at c; cases c)
    refine ⟨_, rfl, p, _, _, _, rfl, rfl, SqT.of hp, atI_0, ?_⟩
    refine ⟨_, rfl, rfl, _, rfl, ite2 (fun c => absurd c (hpl "if" (by decide) (by decide +kernel))) (fun _ => ?_)⟩
    refine ⟨_, rfl, rfl, _, rfl, ite2 (fun c => absurd c (hpl "while" (by decide) (by decide +kernel))) (fun _ => ?_)⟩
    refine ⟨_, rfl, rfl, _, rfl, ite2 (fun c => absurd c (hpl "try" (by decide) (by decide +kernel))) (fun _ => ?_)⟩
    simp only [oS, nS] at oo nn
    have hl1 := tE_len e ok.2
    refine ⟨fun σ H2 => ∃ L1, σ = [some (.ref p), some (.str (mk z)), none, none, none, none, some (.ref L1), none, none] ∧ Same H H2 ∧ H2 L1 = some (.lst [V.str (mk z)]), ?_, ?_⟩
    · refine ⟨_, rfl, rfl, _, rfl, ite2 (fun c => absurd c (hpl "set" (by decide) (by decide +kernel))) (fun _ => ?_)⟩
      refine ⟨_, rfl, rfl, _, rfl, ite2 (fun c => absurd c (hpl "setfield" (by decide) (by decide +kernel))) (fun _ => ?_)⟩
      exact ⟨_, rfl, by show 1 ≤ sizeLine; decide, fun L1 hL1 => ⟨L1, rfl, same_new hL1 _, upd_same⟩⟩
    rintro σ H2 ⟨L1, rfl, s2, f2⟩
    refine ⟨_, rfl, L1, _, rfl, .inr (SqL.of f2), ?_⟩
    refine ⟨_, rfl, 1, rfl, p, _, -1, ve, rfl, rfl, SqT.of (s2 _ _ hp), rfl, ?_⟩
    refine ⟨e, ve, rfl, AtE.on (same_tups s2) _ _ he, ⟨ok.2, by omega, by omega⟩, fun H3 a3 s3 _ w3 => ?_⟩
    refine ⟨a3, _, rfl, .inr (SqL.of w3), ?_, fun L hL => kq _ L ((s2.trans s3).trans (same_new hL _)) ((s2.trans s3).free hL) ?_⟩
    · have e1 := len_ws hl1
      simp only [List.length_append, List.length_cons, List.length_nil, sizeLine_eq]
      omega
    · unfold LM
      rw [upd_same]
      congr 2
      show V.str (Str.ofString "\n") :: ([V.str (mk z)] ++ (wsV (mkd (tE e)) ++ [])) = wsV (mkd ((z, true) :: tE e))
      simp only [mkd, mkd_app, ← wsV_app, wsV_cons, wsV_nil, S_mk, nl_mk, List.append_nil, List.cons_append, List.append_assoc, List.nil_append]
end
end My
set_option Elab.async false
set_option linter.all false
set_option maxRecDepth 100000
set_option maxHeartbeats 8000000
namespace My
open PySem L2 SS
abbrev sVWr : Stmt := top 3
abbrev sVRw : Stmt := top 4
abbrev sVTr : Stmt := top 6
abbrev sVMe : Stmt := top 8
section
variable {P : Program} {w : World} {K : PySem.W.Frag} {mg : Str → Option Value} {base : Heap}
theorem c_noneEx (k : Nat) (D : Dn K mg "expression_words" sVEx) : C0 P w K mg base (k + 1) "expression_words" spF := by
  obtain ⟨f, fd, F, m⟩ := D.ex
  exact ⟨f, fd, ["node"], F.ok scVEx (fun vs H Q E h => h.elim) (fun cdv A outer s H vs Q E hr h => h.elim), m, F.kp, F.binds (ps := ["node"]) fun _ _ _ _ _ _ us hl => match us, hl with | [_], _ => rfl⟩
theorem c_noneAW (k : Nat) (D : Dn K mg "all_words" sVAW) : C0 P w K mg base (k + 1) "all_words" spF := by
  obtain ⟨f, fd, F, m⟩ := D.ex
  exact ⟨f, fd, ["words_of_one", "trees"], F.ok scVAW (fun vs H Q E h => h.elim) (fun cdv A outer s H vs Q E hr h => h.elim), m, F.kp, F.binds (ps := ["words_of_one", "trees"]) fun _ _ _ _ _ _ us hl => match us, hl with | [_, _], _ => rfl⟩
theorem knotX {fE fS : Addr} (gfE : mg "expression_words" = some (.ref fE)) (gfS : mg "statement_words" = some (.ref fS)) (gN : GS mg "NEW_ROW" "\n") (D : Dn K mg "expression_words" sVEx) (DS : Dn K mg "statement_words" sVSt) (DA : Dn K mg "all_words" sVAW) (GL : C0 P w K mg base 1 "leaf_word" spLf) :
    ∀ d : Nat, C0 P w K mg base (3 * d + 4) "expression_words" (spXE d) ∧ C0 P w K mg base (3 * d + 5) "statement_words" (spXS d) ∧ C0 P w K mg base (3 * d + 5) "all_words" (spAW fE AtE tE (okNE d)) ∧ C0 P w K mg base (3 * d + 6) "all_words" (spAW fS AtS tS (okNS d))
  | 0 => by
    have e := c_ex (P := P) (w := w) (base := base) (d := 0) (k := 1) gfE gfS D GL (c_noneEx 0 D) (c_noneAW 1 DA) (c_noneAW 2 DA)
    have s := c_st (P := P) (w := w) (base := base) (d := 0) (k := 1) gfS gN DS e (c_noneAW 2 DA)
    exact ⟨e, s, c_aw (fun H H' x v t h => h.on_ t) DA (held_of e gfE), c_aw (fun H H' x v t h => h.on_ t) DA (held_of s gfS)⟩
  | d + 1 => by
    obtain ⟨h1, h2, h3, h4⟩ := knotX gfE gfS gN D DS DA GL d
    have e := c_ex (P := P) (w := w) (base := base) (d := d + 1) (k := 3 * d + 4) gfE gfS D GL h1 h3 h4
    have s := c_st (P := P) (w := w) (base := base) (d := d + 1) (k := 3 * d + 4) gfS gN DS e h4
    exact ⟨e, s, c_aw (fun H H' x v t h => h.on_ t) DA (held_of e gfE), c_aw (fun H H' x v t h => h.on_ t) DA (held_of s gfS)⟩
/-! a method's words -/
def okNM (m : Me) : Prop := okM m ∧ nSs m.ss ≤ 1000
theorem tM_len (m : Me) (h : okM m) (hn : nSs m.ss ≤ 1000) : (tM m).length ≤ 6000 := by
  have h1 := tSs_len m.ss h.ss
  have h2 := h.pl
  unfold tM plainW
  simp only [List.length_cons, List.length_append, List.length_map, List.length_nil]
  omega
theorem scVMe : FnScope ["method", "_", "message", "parameters", "statements"] ["method"] (defScope sVMe) := ⟨rfl, rfl, rfl, by decide +kernel, rfl, by decide +kernel, by decide +kernel⟩
theorem c_me {k : Nat} {fS : Addr} (gfS : mg "statement_words" = some (.ref fS)) (gN : GS mg "NEW_ROW" "\n") (D : Dn K mg "method_words" sVMe) (GA : C0 P w K mg base k "all_words" (spAW fS AtS tS (okNS 12))) : C0 P w K mg base (k + 1) "method_words" (spWA AtM tM okNM) := by
  obtain ⟨f, fd, F, m⟩ := D.ex
  refine ⟨f, fd, ["method"], F.ok scVMe (fun vs H Q E h => ?_) (fun cdv A outer s H vs Q E hr h => ?_), m, F.kp, F.binds (ps := ["method"]) fun _ _ _ _ _ _ us hl => match us, hl with | [_], _ => rfl⟩
  · obtain ⟨e, v, rfl, _⟩ := h
    rfl
  obtain ⟨e, v, rfl, at1, ⟨ok, nn⟩, kq⟩ := h
  refine ⟨_, pss_cons (ps_asg (pv 0) (pg_tup (by rfl) (pgs_cons (pg_name (i := 1) scVMe.nd rfl (Or.inl rfl)) (pgs_cons (pg_name (i := 2) scVMe.nd rfl (Or.inl rfl)) (pgs_cons (pg_name (i := 3) scVMe.nd rfl (Or.inl rfl)) (pgs_cons (pg_name (i := 4) scVMe.nd rfl (Or.inl rfl)) pgs_nil)))))) <|
    pss_one (ps_ret (pe_lst (pa_cons (pe_gs gN) (pa_cons pe_str (pa_cons (pv 2) (StX.pa_star (pv 3) (pa_cons pe_str (StX.pa_star (pe_cc GA hr (Nat.le_refl _) pass0 (pa_cons (pe_glob (v := .ref fS) (by rfl) gfS rfl) (pa_cons (pv 4) pa_nil))) (pa_cons (pe_gs gN) (pa_cons pe_str pa_nil)))))))))), ?_⟩
  obtain ⟨p, vw, q, xs, rfl, hp, ⟨pw, rfl, hpw⟩, hq, h4⟩ := at1
  have hpl := ok.pl
  have hl2 := tSs_len e.ss ok.ss
  rw [sL_t] at hl2
  refine ⟨_, rfl, p, _, rfl, SqT.of hp, rfl, _, _, rfl, _, _, rfl, _, _, rfl, _, _, rfl, rfl, ?_⟩
  refine ⟨_, rfl, _, rfl, pw, _, rfl, .inl (SqT.of hpw), ?_⟩
  refine ⟨_, rfl, sL e.ss, q, xs, rfl, hq, sL_at h4, sL_ok ok.ss ok.o nn, by omega, fun H2 a2 s2 w2 => ?_⟩
  refine ⟨a2, _, rfl, .inr (SqL.of w2), ?_, fun L hL => kq _ L (s2.trans (same_new hL _)) (s2.free hL) ?_⟩
  · have e2 := len_ws hl2
    simp only [List.length_append, List.length_cons, List.length_nil, sizeLine_eq, wsV_len e.ps]
    omega
  · unfold LM
    rw [upd_same]
    congr 2
    show V.str (Str.ofString "\n") :: V.str (Str.ofString "method") :: V.str (mk e.m) :: (wsV e.ps ++ V.str (Str.ofString ":") :: (wsV (mkd ((sL e.ss).flatMap tS)) ++ [V.str (Str.ofString "\n"), V.str (Str.ofString "end")])) = wsV (mkd (tM e))
    unfold tM
    rw [sL_t]
    simp only [mkd, mkd_app, mkd_plain, ← wsV_app, wsV_cons, wsV_nil, S_mk, nl_mk, List.append_nil, List.cons_append, List.append_assoc, List.nil_append]
/-! a tree's words -/
def okNT (t : Tr) : Prop := okTr t ∧ nMs t.ms ≤ 1000
theorem nMs_mem' : ∀ {ms : List Me} {m : Me}, m ∈ ms → nSs m.ss ≤ nMs ms
  | x :: r, m, h => by
    have e : nMs (x :: r) = nSs x.ss + nMs r := by unfold nMs; rw [List.map_cons, List.sum_cons]
    rcases List.mem_cons.mp h with h | h
    · subst h; omega
    · have := nMs_mem' h; omega
theorem tMs_len : ∀ (ms : List Me), (∀ m ∈ ms, okNM m) → (ms.flatMap tM).length ≤ 6000 * ms.length
  | [], _ => Nat.le_refl _
  | x :: r, h => by
    have hx := h x List.mem_cons_self
    have h1 := tM_len x hx.1 hx.2
    have h2 := tMs_len r fun m hm => h m (List.mem_cons_of_mem _ hm)
    rw [List.flatMap_cons, List.length_append, List.length_cons]
    omega
theorem ms_ok {t : Tr} (h : okNT t) : ∀ m ∈ t.ms, okNM m := fun m hm => ⟨h.1.ms m hm, by have := nMs_mem' hm; have := h.2; omega⟩
theorem fd_at {H : Hp} : ∀ fs : List T, AtL atFd H fs (wsV fs)
  | [] => rfl
  | x :: r => ⟨_, _, rfl, rfl, fd_at r⟩
theorem fd_flat (fs : List T) : fs.flatMap wFd1 = tFd fs := rfl
theorem tFd_len (fs : List T) : (tFd fs).length = 2 * fs.length := by
  unfold tFd
  induction fs with
  | nil => rfl
  | cons x r ih => rw [List.flatMap_cons, List.length_append, ih, List.length_cons]; simp only [List.length_cons, List.length_nil]; omega
theorem tT_len (t : Tr) (h : okNT t) : (tT t).length ≤ 12100 := by
  have h1 := tMs_len t.ms (ms_ok h)
  have h2 := h.1.ml
  cases t with
  | kind n p fs ms =>
    have h3 : fs.length ≤ 3 := h.1.hd.2.2.1
    have h4 := tFd_len fs
    have h1' : (ms.flatMap tM).length ≤ 6000 * ms.length := h1
    have h2' : ms.length ≤ 2 := h2
    unfold tT tMs
    simp only [List.length_cons, List.length_append, List.length_nil]
    omega
  | more n ms =>
    have h1' : (ms.flatMap tM).length ≤ 6000 * ms.length := h1
    have h2' : ms.length ≤ 2 := h2
    unfold tT tMs
    simp only [List.length_cons, List.length_append, List.length_nil]
    omega
theorem scVTr : FnScope ["tree", "_", "name", "parent", "fields", "methods", "head"] ["tree"] (defScope sVTr) := ⟨rfl, rfl, rfl, by decide +kernel, rfl, by decide +kernel, by decide +kernel⟩
theorem c_tr {k : Nat} (hk : 2 ≤ k) {fF fM : Addr} (gfF : mg "field_words" = some (.ref fF)) (gfM : mg "method_words" = some (.ref fM)) (gN : GS mg "NEW_ROW" "\n") (D : Dn K mg "tree_words" sVTr) (GF : C0 P w K mg base 2 "all_words" (spAW fF atFd wFd1 fun _ => True)) (GM : C0 P w K mg base k "all_words" (spAW fM AtM tM okNM)) : C0 P w K mg base (k + 1) "tree_words" (spWA AtTr tT okNT) := by
  obtain ⟨f, fd, F, m⟩ := D.ex
  refine ⟨f, fd, ["tree"], F.ok scVTr (fun vs H Q E h => ?_) (fun cdv A outer s H vs Q E hr h => ?_), m, F.kp, F.binds (ps := ["tree"]) fun _ _ _ _ _ _ us hl => match us, hl with | [_], _ => rfl⟩
  · obtain ⟨e, v, rfl, _⟩ := h
    rfl
  obtain ⟨e, v, rfl, at1, ok, kq⟩ := h
  have hms := ms_ok ok
  have hml := ok.1.ml
  refine ⟨_, C8.pss_cut (ps_if (pt_cmpR op_eq (pe_ix (r := rIxT K) ix_tup (pv 0) pe_int (fun _ _ => rfl)) pe_str (nomark _))
      (pss_cons (ps_asg (pv 0) (pg_tup (by rfl) (pgs_cons (pg_name (i := 1) scVTr.nd rfl (Or.inl rfl)) (pgs_cons (pg_name (i := 2) scVTr.nd rfl (Or.inl rfl)) (pgs_cons (pg_name (i := 3) scVTr.nd rfl (Or.inl rfl)) (pgs_cons (pg_name (i := 4) scVTr.nd rfl (Or.inl rfl)) (pgs_cons (pg_name (i := 5) scVTr.nd rfl (Or.inl rfl)) pgs_nil))))))) <|
        pss_one (ps_set (i := 6) scVTr.nd rfl (Or.inl rfl) (pe_lst (pa_cons pe_str (pa_cons (pv 2) (pa_cons pe_str (pa_cons (pv 3) (StX.pa_star (pe_cc GF hr hk pass0 (pa_cons (pe_glob (v := .ref fF) (by rfl) gfF rfl) (pa_cons (pv 4) pa_nil))) pa_nil))))))))
      (pss_cons (ps_asg (pv 0) (pg_tup (by rfl) (pgs_cons (pg_name (i := 1) scVTr.nd rfl (Or.inl rfl)) (pgs_cons (pg_name (i := 2) scVTr.nd rfl (Or.inl rfl)) (pgs_cons (pg_name (i := 5) scVTr.nd rfl (Or.inl rfl)) pgs_nil))))) <|
        pss_one (ps_set (i := 6) scVTr.nd rfl (Or.inl rfl) (pe_lst (pa_cons pe_str (pa_cons (pv 2) pa_nil)))))) <|
    pss_one (ps_ret (pe_lst (pa_cons (pe_gs gN) (StX.pa_star (pv 6) (StX.pa_star (pe_cc GM hr (Nat.le_refl _) pass0 (pa_cons (pe_glob (v := .ref fM) (by rfl) gfM rfl) (pa_cons (pv 5) pa_nil))) (pa_cons (pe_gs gN) (pa_cons pe_str pa_nil))))))), ?_⟩
  refine ⟨fun σ H2 => ∃ (v0 v1 v2 v3 v4 : Option V) (r L1 : Addr) (xs : List V) (hd : List T), σ = [v0, v1, v2, v3, v4, some (.ref r), some (.ref L1)] ∧ Same H H2 ∧ H2 L1 = some (.lst (wsV hd)) ∧ hd.length ≤ 20 ∧ H2 r = some (.tup xs) ∧ AtL AtM H2 e.ms xs ∧ nlT :: (hd ++ (mkd (e.ms.flatMap tM) ++ [nlT, tk "end"])) = mkd (tT e), ?_, ?_⟩
  · cases e with
    | kind n pn fs ms =>
      obtain ⟨p, vw, r, xs, rfl, hp, ⟨pw, rfl, hpw⟩, hr_, hat⟩ := at1
      have h3 : fs.length ≤ 3 := ok.1.hd.2.2.1
      refine ⟨_, rfl, p, _, _, _, rfl, rfl, SqT.of hp, atI_0, rfl, _, rfl, ite2 (fun _ => ?_) (fun c => absurd (by decide +kernel) c)⟩
      refine ⟨_, rfl, p, _, rfl, SqT.of hp, rfl, _, _, rfl, _, _, rfl, _, _, rfl, _, _, rfl, _, _, rfl, rfl, ?_⟩
      have hfl := tFd_len fs
      refine ⟨_, rfl, _, rfl, _, rfl, fs, pw, _, rfl, hpw, fd_at fs, fun _ _ => trivial, by rw [fd_flat]; omega, fun H1 a1 s1 w1 => ?_⟩
      have w1' : H1 a1 = some (.lst (wsV (mkd (tFd fs)))) := w1
      have hfm := mkd_len (tFd fs)
      refine ⟨a1, _, rfl, .inr (SqL.of w1'), by rw [List.append_nil, sizeLine_eq]; simp only [List.length_cons, wsV_len]; omega, fun L1 hL1 => ?_⟩
      have s2 := s1.trans (same_new hL1 (.lst (V.str (Str.ofString "kind") :: V.str (mk n) :: V.str (Str.ofString "under") :: V.str (mk pn) :: (wsV (mkd (tFd fs)) ++ []))))
      refine ⟨_, _, _, _, _, r, L1, xs, tk "kind" :: n :: tk "under" :: pn :: mkd (tFd fs), rfl, s2, ?_, by simp only [List.length_cons]; omega, s2 _ _ hr_, hat.on_ (same_tups s2), ?_⟩
      · rw [upd_same, List.append_nil]
        simp only [wsV_cons, S_mk]
      · unfold tT tMs
        simp only [mkd, mkd_app, List.cons_append, List.append_assoc, List.nil_append, List.append_nil]
        rfl
    | more n ms =>
      obtain ⟨p, r, xs, rfl, hp, hr_, hat⟩ := at1
      refine ⟨_, rfl, p, _, _, _, rfl, rfl, SqT.of hp, atI_0, rfl, _, rfl, ite2 (fun c => absurd c (by decide +kernel)) (fun _ => ?_)⟩
      refine ⟨_, rfl, p, _, rfl, SqT.of hp, rfl, _, _, rfl, _, _, rfl, _, _, rfl, rfl, ?_⟩
      refine ⟨_, rfl, by show 2 ≤ sizeLine; decide, fun L1 hL1 => ?_⟩
      have s2 := same_new hL1 (.lst [V.str (Str.ofString "more"), V.str (mk n)])
      refine ⟨_, _, _, _, _, r, L1, xs, [tk "more", n], rfl, s2, ?_, by simp only [List.length_cons, List.length_nil]; omega, s2 _ _ hr_, hat.on_ (same_tups s2), ?_⟩
      · rw [upd_same]
        simp only [wsV_cons, wsV_nil, S_mk]
      · unfold tT tMs
        simp only [mkd, mkd_app, List.cons_append, List.append_assoc, List.nil_append, List.append_nil]
        rfl
  rintro σ H2 ⟨v0, v1, v2, v3, v4, r, L1, xs, hd, rfl, s2, f2, hhd, hr2, hat2, heq⟩
  refine ⟨_, rfl, L1, _, rfl, .inr (SqL.of f2), ?_⟩
  have hl := tMs_len e.ms hms
  refine ⟨_, rfl, e.ms, r, xs, rfl, hr2, hat2, hms, by omega, fun H3 a3 s3 w3 => ?_⟩
  have hm := mkd_len (e.ms.flatMap tM)
  refine ⟨a3, _, rfl, .inr (SqL.of w3), ?_, fun L hL => kq _ L ((s2.trans s3).trans (same_new hL _)) ((s2.trans s3).free hL) ?_⟩
  · simp only [List.length_append, List.length_cons, List.length_nil, sizeLine_eq, wsV_len]
    omega
  · unfold LM
    rw [upd_same]
    congr 2
    show V.str (Str.ofString "\n") :: (wsV hd ++ (wsV (mkd (e.ms.flatMap tM)) ++ [V.str (Str.ofString "\n"), V.str (Str.ofString "end")])) = wsV (mkd (tT e))
    rw [← heq]
    simp only [← wsV_app, wsV_cons, wsV_nil, S_mk, nl_mk]
end
end My
set_option Elab.async false
set_option linter.all false
set_option maxRecDepth 100000
set_option maxHeartbeats 8000000
namespace My
open PySem L2 SS
/-! ### rows, word by word -/
def pst (s : List T × Bool) (w : T) : List T × Bool :=
  if w = nlT then (s.1, true) else if s.2 = true ∨ 100 < (s.1.getLastD []).length + 1 + w.length then (s.1 ++ [w], false) else (s.1.dropLast ++ [s.1.getLastD [] ++ 32 :: w], s.2)
def prun (ws : List T) : List T × Bool := ws.foldl pst ([], true)
theorem prun_snoc (ws : List T) (w : T) : prun (ws ++ [w]) = pst (prun ws) w := by unfold prun; rw [List.foldl_append]; rfl
theorem nl_ne {w : T} (h : LayW w) : w ≠ nlT := fun e => h.nl (by rw [e]; exact List.mem_singleton.mpr rfl)
theorem pst_step {s : List T × T} {bg : Bool} {q : WB} (lw : LayW q.1) (hb : bg = true → s.2 = [] ∨ q.2 = true) (hs : s.2 = [] → s.1 = [] ∧ bg = true) (hq : q.2 = true → bg = true) : pst (rowsOf s, bg) q.1 = (rowsOf (step s q), false) ∧ (step s q).2 ≠ [] := by
  obtain ⟨h1, h2⟩ := lay_free lw
  have hn := nl_ne lw
  unfold pst
  rw [if_neg hn]
  by_cases c : s.2 = []
  · obtain ⟨e1, e2⟩ := hs c
    rw [if_pos (.inl e2)]
    unfold step
    rw [if_pos c]
    refine ⟨?_, h1⟩
    unfold rowsOf
    rw [if_pos c, if_neg h1, e1]
  · have hr : rowsOf s = s.1 ++ [s.2] := by unfold rowsOf; rw [if_neg c]
    have hl : (rowsOf s).getLastD [] = s.2 := by rw [hr]; simp
    have hd : (rowsOf s).dropLast = s.1 := by rw [hr, List.dropLast_concat]
    unfold step
    rw [if_neg c]
    by_cases d : q.2 = true ∨ 100 < s.2.length + 1 + q.1.length
    · have d' : bg = true ∨ 100 < ((rowsOf s).getLastD []).length + 1 + q.1.length := by
        rw [hl]
        exact d.elim (fun z => .inl (hq z)) .inr
      rw [if_pos d, if_pos d']
      refine ⟨?_, h1⟩
      have e : rowsOf (s.1 ++ [s.2], q.1) = (s.1 ++ [s.2]) ++ [q.1] := by unfold rowsOf; rw [if_neg h1]
      rw [e, hr]
    · have hbg : bg = false := by
        cases bg with
        | false => rfl
        | true => exact absurd ((hb rfl).elim (fun z => absurd z c) .inl) d
      have d' : ¬ (bg = true ∨ 100 < ((rowsOf s).getLastD []).length + 1 + q.1.length) := by
        rw [hl, hbg]
        exact fun z => z.elim (fun y => by cases y) fun y => d (.inr y)
      rw [if_neg d, if_neg d']
      refine ⟨?_, by simp⟩
      have e : rowsOf (s.1, s.2 ++ 32 :: q.1) = s.1 ++ [s.2 ++ 32 :: q.1] := by unfold rowsOf; rw [if_neg (by simp)]
      show ((rowsOf s).dropLast ++ [(rowsOf s).getLastD [] ++ 32 :: q.1], bg) = _
      rw [e, hl, hd, hbg]
theorem pst_nl (s : List T × Bool) : pst s nlT = (s.1, true) := by unfold pst; rw [if_pos rfl]
theorem prun_mkd : ∀ (b : List WB) (s : List T × T) (bg : Bool), (∀ q ∈ b, LayW q.1) → (s.2 = [] → s.1 = [] ∧ bg = true) → (bg = true → s.2 = []) → ((mkd b).foldl pst (rowsOf s, bg)).1 = rowsOf (b.foldl step s)
  | [], s, bg, _, _, _ => rfl
  | (w, true) :: r, s, bg, h, h1, h2 => by
    have lw := h (w, true) List.mem_cons_self
    have e := pst_step (s := s) (bg := true) (q := (w, true)) lw (fun _ => .inr rfl) (fun c => ⟨(h1 c).1, rfl⟩) (fun _ => rfl)
    show ((mkd r).foldl pst (pst (pst (rowsOf s, bg) nlT) w)).1 = rowsOf (r.foldl step (step s (w, true)))
    rw [pst_nl, e.1]
    exact prun_mkd r _ false (fun q hq => h q (List.mem_cons_of_mem _ hq)) (fun c => absurd c e.2) (fun c => by cases c)
  | (w, false) :: r, s, bg, h, h1, h2 => by
    have lw := h (w, false) List.mem_cons_self
    have e := pst_step (s := s) (bg := bg) (q := (w, false)) lw (fun c => .inl (h2 c)) h1 (fun c => by cases c)
    show ((mkd r).foldl pst (pst (rowsOf s, bg) w)).1 = rowsOf (r.foldl step (step s (w, false)))
    rw [e.1]
    exact prun_mkd r _ false (fun q hq => h q (List.mem_cons_of_mem _ hq)) (fun c => absurd c e.2) (fun c => by cases c)
theorem prun_rows {b : List WB} (h : ∀ q ∈ b, LayW q.1) : (prun (mkd b)).1 = rowsOf (layd b) := prun_mkd b ([], []) true h (fun _ => ⟨rfl, rfl⟩) (fun _ => rfl)
/-- what holds of the rows on the way -/
structure PrOk (s : List T × Bool) (n : Nat) : Prop where
  ne : s.2 = false → s.1 ≠ []
  ln : ∀ l ∈ s.1, l.length ≤ 100
  ct : s.1.length ≤ n
theorem getLastD_mem {l : List T} (h : l ≠ []) : l.getLastD [] ∈ l := by
  obtain ⟨x, hx⟩ : ∃ x, l.getLast? = some x := by
    cases hh : l.getLast? with
    | none => exact absurd (List.getLast?_eq_none_iff.mp hh) h
    | some x => exact ⟨x, rfl⟩
  have e : l.getLastD [] = x := by rw [List.getLastD_eq_getLast?, hx]; rfl
  rw [e]
  exact List.mem_of_getLast? hx
theorem PrOk.step {s : List T × Bool} {n : Nat} (h : PrOk s n) {w : T} (hw : w.length ≤ 100) : PrOk (pst s w) (n + 1) := by
  unfold pst
  by_cases c : w = nlT
  · rw [if_pos c]
    exact ⟨fun e => (by cases e), h.ln, by have := h.ct; show s.1.length ≤ n + 1; omega⟩
  rw [if_neg c]
  by_cases d : s.2 = true ∨ 100 < (s.1.getLastD []).length + 1 + w.length
  · rw [if_pos d]
    refine ⟨fun _ => by simp, fun l hl => ?_, by have := h.ct; show (s.1 ++ [w]).length ≤ n + 1; rw [List.length_append]; simp only [List.length_cons, List.length_nil]; omega⟩
    rcases List.mem_append.mp hl with hl | hl
    · exact h.ln l hl
    · obtain rfl : l = w := by simpa using hl
      exact hw
  · rw [if_neg d]
    have hlen : (s.1.getLastD []).length + 1 + w.length ≤ 100 := by
      have : ¬ 100 < (s.1.getLastD []).length + 1 + w.length := fun k => d (.inr k)
      omega
    refine ⟨fun _ => by simp, fun l hl => ?_, by have := h.ct; show (s.1.dropLast ++ [_]).length ≤ n + 1; rw [List.length_append, List.length_dropLast]; simp only [List.length_cons, List.length_nil]; omega⟩
    rcases List.mem_append.mp hl with hl | hl
    · exact h.ln l (List.dropLast_subset _ hl)
    · obtain rfl : l = s.1.getLastD [] ++ 32 :: w := by simpa using hl
      rw [List.length_append, List.length_cons]
      omega
theorem prun_ok : ∀ (ws : List T), (∀ w ∈ ws, w.length ≤ 100) → ∀ (s : List T × Bool) (n : Nat), PrOk s n → PrOk (ws.foldl pst s) (n + ws.length)
  | [], _, s, n, h => h
  | w :: r, hw, s, n, h => by
    rw [List.foldl_cons, List.length_cons]
    have := prun_ok r (fun x hx => hw x (List.mem_cons_of_mem _ hx)) _ _ (h.step (hw w List.mem_cons_self))
    rw [show n + (r.length + 1) = n + 1 + r.length by omega]
    exact this
theorem prun_take {ws : List T} (hw : ∀ w ∈ ws, w.length ≤ 100) (i : Nat) (hi : i ≤ ws.length) : PrOk (prun (ws.take i)) i := by
  have := prun_ok (ws.take i) (fun w h => hw w (List.mem_of_mem_take h)) ([], true) 0 ⟨fun e => (by cases e), fun l hl => (by cases hl), Nat.le_refl _⟩
  rw [List.length_take, Nat.min_eq_left hi, Nat.zero_add] at this
  exact this
section
variable {P : Program} {w : World} {K : PySem.W.Frag} {mg : Str → Option Value} {base : Heap}
def spRw : Sp := fun vs H Q _ => ∃ (a : Addr) (ws : List T), vs = [.ref a] ∧ H a = some (.lst (wsV ws)) ∧ (∀ w ∈ ws, w.length ≤ 100) ∧ ws.length ≤ 200000 ∧ ∀ H' p, Same H H' → H' p = some (.lst (wsV (prun ws).1)) → Q (.ref p) H'
theorem scVRw : FnScope ["words", "rows", "begins", "word"] ["words"] (defScope sVRw) := ⟨rfl, rfl, rfl, by decide +kernel, rfl, by decide +kernel, by decide +kernel⟩
theorem nl_dec (w : T) : decide (V.str (mk w) = V.str (Str.ofString "\n")) = decide (w = nlT) := by
  rw [← nl_mk]
  by_cases c : w = nlT
  · rw [c]; simp
  · rw [decide_eq_false c]
    refine decide_eq_false fun e => c ?_
    injection e with e
    have := congrArg tl e
    exact this
theorem split_last {l : List T} (h : l ≠ []) : l = l.dropLast ++ [l.getLastD []] := by
  have e : l.getLastD [] = l.getLast h := by rw [List.getLastD_eq_getLast?, List.getLast?_eq_getLast h]; rfl
  rw [e, List.dropLast_concat_getLast]
theorem c_rw (TS : TxS K mg) (gN : GS mg "NEW_ROW" "\n") (gM : GI mg "MOST_SIGNS" 100) (D : Dn K mg "rows_with" sVRw) : C0 P w K mg base 1 "rows_with" spRw := by
  obtain ⟨f, fd, F, m⟩ := D.ex
  refine ⟨f, fd, ["words"], F.ok scVRw (fun vs H Q E h => ?_) (fun cdv A outer s H vs Q E hr h => ?_), m, F.kp, F.binds (ps := ["words"]) fun _ _ _ _ _ _ us hl => match us, hl with | [_], _ => rfl⟩
  · obtain ⟨e, v, rfl, _⟩ := h
    rfl
  obtain ⟨a, ws, rfl, ha, hw, hl, kq⟩ := h
  refine ⟨_, pss_cons (ps_set (i := 1) scVRw.nd rfl (Or.inl rfl) (pe_lst pa_nil)) <|
    pss_cons (ps_set (i := 2) scVRw.nd rfl (Or.inl rfl) pe_bl) <|
    pss_cons (ps_for PassesOwn.never rfl (pi_list (pv 0)) (pg_name (i := 3) scVRw.nd rfl (Or.inl rfl))
      (pss_one (ps_if (pt_cmpR op_eq (pv 3) (pe_gs gN) (nomark _)) (pss_one (ps_set (i := 2) scVRw.nd rfl (Or.inl rfl) pe_bl))
        (pss_one (ps_if (PW.pt (pw_or (pt_truth (pv 2) (fun _ => rfl)) (pw_or1 (pt_cmpR op_gt (pe_op op_add (pe_op op_add (pe_callB call_len_str (by rfl) TS.len PySem.boot_len (pa_cons (pe_ix (r := rIxL K) ix_list (pv 1) (pe_un un_neg pe_int) (fun _ _ => rfl)) pa_nil)) pe_int) (pe_callB call_len_str (by rfl) TS.len PySem.boot_len (pa_cons (pv 3) pa_nil))) (pe_gi gM) (nomark _)))))
          (pss_cons (ps_expr (pe_bm PySem.F.plainAttrs_list PySem.F.slot_list_append PySem.F.type_list_append mt_append (pv 1) (pa_cons (pv 3) pa_nil))) <|
            pss_one (ps_set (i := 2) scVRw.nd rfl (Or.inl rfl) pe_bl))
          (pss_one (ps_asg (pe_joined (.cons (pe_fmt (pe_ix (r := rIxL K) ix_list (pv 1) (pe_un un_neg pe_int) (fun _ _ => rfl))) (.cons pe_str (.cons (pe_fmt (pv 3)) .nil)))) (pg_sub (pv 1) (pe_un un_neg pe_int) set_list)))))))) <|
    pss_one (ps_ret (pv 1)), ?_⟩
  refine ⟨Nat.zero_le _, fun L hL => ?_⟩
  have s0 := same_new hL (.lst [])
  refine ⟨_, rfl, a, rfl, ⟨_, SqL.of (s0 _ _ ha)⟩, ?_⟩
  refine for_list (xs := wsV ws) (fun i σ H1 => ∃ (v3 : Option V), σ = [some (.ref a), some (.ref L), some (.bl (prun (ws.take i)).2), v3] ∧ Same H H1 ∧ H1 L = some (.lst (wsV (prun (ws.take i)).1))) ⟨none, rfl, s0, upd_same⟩ (fun i σ H1 _ ⟨_, _, s1, _⟩ => SqL.of (s1 _ _ ha)) ?_ ?_
  · rintro i u σ H1 hu ⟨v3, rfl, s1, f1⟩
    have hi : i < ws.length := by
      have := (List.getElem?_eq_some_iff.mp hu).1
      rw [wsV_len] at this
      exact this
    obtain ⟨z, hz⟩ : ∃ z, ws[i]? = some z := ⟨_, List.getElem?_eq_getElem hi⟩
    have hu' : u = .str (mk z) := by
      unfold wsV at hu
      rw [List.getElem?_map, hz] at hu
      exact (Option.some.inj hu).symm
    subst hu'
    have et : ws.take (i + 1) = ws.take i ++ [z] := by rw [List.take_add_one, hz]; rfl
    have eP : prun (ws.take (i + 1)) = pst (prun (ws.take i)) z := by rw [et, prun_snoc]
    have ok := prun_take hw i (by omega)
    have hzl := hw z (List.mem_of_getElem? hz)
    rw [eP]
    generalize prun (ws.take i) = S at f1 ok ⊢
    obtain ⟨R, bg⟩ := S
    have hct : R.length ≤ i := ok.ct
    refine ⟨_, rfl, rfl, _, rfl, ?_⟩
    rw [nl_dec]
    by_cases c : z = nlT
    · rw [decide_eq_true c]
      refine iteT ?_
      have e : pst (R, bg) z = (R, true) := by unfold pst; rw [if_pos c]
      rw [e]
      exact ⟨_, rfl, s1, f1⟩
    rw [decide_eq_false c]
    refine iteF ?_
    cases bg with
    | true =>
      have e : pst (R, true) z = (R ++ [z], false) := by unfold pst; rw [if_neg c, if_pos (.inl rfl)]
      rw [e]
      refine ⟨_, rfl, true, rfl, ?_⟩
      refine iteT ?_
      refine iteT ?_
      refine ⟨_, rfl, .inl ⟨rfl, _, SqL.of f1⟩, _, rfl, L, _, _, rfl, rfl, f1, by rw [wsV_len, sizeLine_eq]; show R.length < _; omega, ?_⟩
      exact ⟨_, rfl, fun b o hb => by rw [upd_ne (ne_of_none hb hL)]; exact s1 _ _ hb, by rw [upd_same, ← wsV_app]; rfl⟩
    | false =>
      have hne : R ≠ [] := ok.ne rfl
      have hsp := split_last hne
      have hll := ok.ln _ (getLastD_mem hne)
      generalize hR : R.getLastD [] = last at hsp hll
      generalize hR0 : R.dropLast = R0 at hsp
      have hat : atI (wsV R) (-1) = some (V.str (mk last)) := by
        rw [hsp, ← wsV_app]
        exact atI_last _ _
      refine ⟨_, rfl, false, rfl, ?_⟩
      refine iteF ?_
      refine ⟨_, rfl, 1, rfl, L, _, _, _, rfl, rfl, SqL.of f1, hat, mk last, rfl, by rw [mk_len, sizeLine_eq]; omega, _, _, rfl, rfl, _, rfl, mk z, rfl, by rw [mk_len, sizeLine_eq]; omega, _, _, rfl, rfl, _, _, rfl, rfl, _, rfl, ?_⟩
      rw [mk_len, mk_len]
      by_cases d : 100 < last.length + 1 + z.length
      · rw [decide_eq_true (show (100 : Int) < ((last.length : Nat) : Int) + 1 + ((z.length : Nat) : Int) by omega)]
        refine iteT ?_
        have e : pst (R, false) z = (R ++ [z], false) := by unfold pst; rw [if_neg c, if_pos (.inr (by rw [hR]; exact d))]
        rw [e]
        refine ⟨_, rfl, .inl ⟨rfl, _, SqL.of f1⟩, _, rfl, L, _, _, rfl, rfl, f1, by rw [wsV_len, sizeLine_eq]; show R.length < _; omega, ?_⟩
        exact ⟨_, rfl, fun b o hb => by rw [upd_ne (ne_of_none hb hL)]; exact s1 _ _ hb, by rw [upd_same, ← wsV_app]; rfl⟩
      · rw [decide_eq_false (show ¬ (100 : Int) < ((last.length : Nat) : Int) + 1 + ((z.length : Nat) : Int) by omega)]
        refine iteF ?_
        have e : pst (R, false) z = (R0 ++ [last ++ 32 :: z], false) := by
          unfold pst
          rw [if_neg c, if_neg]
          · show (R.dropLast ++ [R.getLastD [] ++ 32 :: z], false) = _
            rw [hR, hR0]
          · rw [hR]
            exact fun y => y.elim (fun y => by cases y) d
        rw [e]
        have e1 : Str.empty ++ mk last = mk last := by rw [add_mk]; rfl
        have e2 : mk last ++ Str.ofString " " = mk (last ++ [32]) := by
          rw [add_mk]
          have : tl (Str.ofString " ") = [32] := by decide +kernel
          rw [this]
        have e3 : mk (last ++ [32]) ++ mk z = mk (last ++ 32 :: z) := by
          rw [add_mk]
          show mk ((last ++ [32]) ++ z) = _
          rw [List.append_assoc]
          rfl
        refine ⟨_, rfl, 1, rfl, L, _, _, _, rfl, rfl, SqL.of f1, hat, .inl ⟨mk last, rfl, by rw [mk_len, sizeLine_eq]; omega, mk last, rfl, by rw [e1, mk_len, sizeLine_eq]; omega, ?_⟩⟩
        rw [e1]
        refine ⟨_, rfl, by rw [e2, mk_len, List.length_append, sizeLine_eq]; simp only [List.length_cons, List.length_nil]; omega, ?_⟩
        rw [e2]
        refine ⟨_, rfl, .inl ⟨mk z, rfl, by rw [mk_len, sizeLine_eq]; omega, mk z, rfl, by rw [e3, mk_len, List.length_append, List.length_cons, sizeLine_eq]; omega, ?_⟩⟩
        rw [e3]
        have hj : ixN (wsV R).length (-1) = some R0.length := by
          rw [wsV_len, hsp]
          unfold ixN
          rw [if_neg (by decide), List.length_append]
          rw [if_pos (by simp only [List.length_cons, List.length_nil]; omega)]
          congr 1
          simp only [List.length_cons, List.length_nil]
          omega
        refine ⟨_, rfl, 1, rfl, L, _, -1, R0.length, rfl, rfl, f1, hj, ?_⟩
        refine ⟨_, rfl, fun b o hb => by rw [upd_ne (ne_of_none hb hL)]; exact s1 _ _ hb, ?_⟩
        rw [upd_same]
        congr 2
        rw [hsp]
        unfold wsV
        rw [List.map_append, List.map_append, ← List.length_map (f := fun w => V.str (mk w)) (as := R0), List.set_append_right _ _ (Nat.le_refl _), Nat.sub_self]
        rfl
  rintro σ H1 ⟨v3, rfl, s1, f1⟩
  rw [wsV_len, List.take_length] at f1
  exact ⟨_, rfl, kq H1 L s1 f1⟩
/-! the written text -/
def spWr : Sp := fun vs H Q _ => ∃ (ts : List Tr) (q : Addr) (ys : List V), vs = [.ref q] ∧ H q = some (.tup ys) ∧ AtL AtTr H ts ys ∧ (∀ t ∈ ts, okTr t) ∧ (∀ t ∈ ts, nMs t.ms ≤ 1000) ∧ ts.length ≤ 5 ∧ ∀ H', Same H H' → Q (.str (mk (wrT ts))) H'
theorem scVWr : FnScope ["trees"] ["trees"] (defScope sVWr) := ⟨rfl, rfl, rfl, by decide +kernel, rfl, by decide +kernel, by decide +kernel⟩
theorem mkd_mem : ∀ {b : List WB} {w : T}, w ∈ mkd b → w = nlT ∨ ∃ q ∈ b, w = q.1
  | (x, true) :: r, w, h => by
    have h' : w ∈ nlT :: x :: mkd r := h
    rcases List.mem_cons.mp h' with h | h
    · exact .inl h
    rcases List.mem_cons.mp h with h | h
    · exact .inr ⟨_, List.mem_cons_self, h⟩
    · exact (mkd_mem h).imp id fun ⟨q, h1, h2⟩ => ⟨q, List.mem_cons_of_mem _ h1, h2⟩
  | (x, false) :: r, w, h => by
    have h' : w ∈ x :: mkd r := h
    rcases List.mem_cons.mp h' with h | h
    · exact .inr ⟨_, List.mem_cons_self, h⟩
    · exact (mkd_mem h).imp id fun ⟨q, h1, h2⟩ => ⟨q, List.mem_cons_of_mem _ h1, h2⟩
theorem tTs_len : ∀ ts : List Tr, (∀ t ∈ ts, okNT t) → (tTs ts).length ≤ 12100 * ts.length
  | [], _ => Nat.le_refl _
  | t :: r, h => by
    have h1 := tT_len t (h t List.mem_cons_self)
    have h2 := tTs_len r fun x hx => h x (List.mem_cons_of_mem _ hx)
    unfold tTs at h2 ⊢
    rw [List.flatMap_cons, List.length_append, List.length_cons]
    omega
theorem wr_join (ts : List Tr) (h : ∀ t ∈ ts, okTr t) : Txt.join (Str.ofString "\n") ((rowsOf (layd (tTs ts))).map mk) = mk (wrT ts) := by
  have e : TL.joinL [10] (rowsOf (layd (tTs ts))) = wrT ts := by
    by_cases c : ts = []
    · subst c
      rfl
    · unfold wrT
      rw [wr_rows c h]
  rw [TL.join_eq]
  refine str_eq ?_
  rw [TL.tl_join]
  have e1 : TL.tl (Str.ofString "\n") = [10] := by decide +kernel
  have e2 : ((rowsOf (layd (tTs ts))).map mk).map TL.tl = rowsOf (layd (tTs ts)) := mk_tl_map _
  rw [e1, e2, e]
theorem c_wr {k : Nat} (hk : 1 ≤ k) {fT : Addr} (gfT : mg "tree_words" = some (.ref fT)) (D : Dn K mg "written" sVWr) (GR : C0 P w K mg base 1 "rows_with" spRw) (GA : C0 P w K mg base k "all_words" (spAW fT AtTr tT okNT)) : C0 P w K mg base (k + 1) "written" spWr := by
  obtain ⟨f, fd, F, m⟩ := D.ex
  refine ⟨f, fd, ["trees"], F.ok scVWr (fun vs H Q E h => ?_) (fun cdv A outer s H vs Q E hr h => ?_), m, F.kp, F.binds (ps := ["trees"]) fun _ _ _ _ _ _ us hl => match us, hl with | [_], _ => rfl⟩
  · obtain ⟨e, v, ys, rfl, _⟩ := h
    rfl
  obtain ⟨ts, q, ys, rfl, hq, hat, hok, hnn, hts, kq⟩ := h
  have ok2 : ∀ t ∈ ts, okNT t := fun t ht => ⟨hok t ht, hnn t ht⟩
  refine ⟨_, pss_one (ps_ret (pe_join pe_str (pe_cc GR hr hk pass0 (pa_cons (pe_cc GA hr (Nat.le_refl _) pass0 (pa_cons (pe_glob (v := .ref fT) (by rfl) gfT rfl) (pa_cons (pv 0) pa_nil))) pa_nil)))), ?_⟩
  have hl := tTs_len ts ok2
  have hlay := tTs_lay ts hok
  have hm := mkd_len (tTs ts)
  refine ⟨⟨_, rfl⟩, ?_⟩
  refine ⟨_, rfl, ts, q, ys, rfl, hq, hat, ok2, by show (tTs ts).length ≤ _; omega, fun H1 a1 s1 w1 => ?_⟩
  have w1' : H1 a1 = some (.lst (wsV (mkd (tTs ts)))) := w1
  refine ⟨a1, mkd (tTs ts), rfl, w1', fun x hx => ?_, by omega, fun H2 p s2 f2 => ?_⟩
  · rcases mkd_mem hx with h | ⟨y, hy, h⟩
    · rw [h]; decide
    · rw [h]
      have := (hlay y hy).ln
      omega
  rw [prun_rows hlay] at f2
  have hro : ∀ l ∈ rowsOf (layd (tTs ts)), l.length ≤ 100 := fun l hl => ((wr_ly ts hok).row l hl).ln
  have hrl : (rowsOf (layd (tTs ts))).length ≤ 130000 := by
    have h0 := prun_take (ws := mkd (tTs ts)) (fun x hx => by
      rcases mkd_mem hx with h | ⟨y, hy, h⟩
      · rw [h]; decide
      · rw [h]
        have := (hlay y hy).ln
        omega) (mkd (tTs ts)).length (Nat.le_refl _)
    rw [List.take_length] at h0
    have h1 := h0.ct
    rw [prun_rows hlay] at h1
    omega
  refine ⟨_, p, (rowsOf (layd (tTs ts))).map mk, rfl, rfl, .inl ?_, ?_, ?_⟩
  · have : ((rowsOf (layd (tTs ts))).map mk).map V.str = wsV (rowsOf (layd (tTs ts))) := by unfold wsV; rw [List.map_map]; rfl
    rw [this]
    exact SqL.of f2
  · have e1 : (Str.ofString "\n").length = 1 := by decide +kernel
    rw [e1, List.length_map]
    have : ∀ rs : List T, (∀ l ∈ rs, l.length ≤ 100) → ((rs.map mk).map (·.length)).sum ≤ 100 * rs.length := fun rs => by
      induction rs with
      | nil => intro _; exact Nat.le_refl _
      | cons x r ih =>
        intro h
        have h1 := h x List.mem_cons_self
        have h2 := ih fun y hy => h y (List.mem_cons_of_mem _ hy)
        rw [List.map_cons, List.map_cons, List.sum_cons, mk_len, List.length_cons]
        omega
    have := this _ hro
    omega
  · rw [wr_join ts hok]
    exact kq H2 (s1.trans s2)
end
end My
set_option Elab.async false
set_option linter.all false
set_option maxRecDepth 100000
set_option maxHeartbeats 8000000
namespace My
open PySem L2 SS
abbrev sKMa : Stmt := top 31
abbrev sKSt : Stmt := top 32
abbrev sKIn : Stmt := top 33
abbrev sKEm : Stmt := top 34
theorem pi_or {X : Cx} {tg l : Expr} {wi wj : TI} (h1 : PI X tg l wi) (h2 : PI X tg l wj) : PI X tg l (fun σ H R => wi σ H R ∨ wj σ H R) := ⟨fun pins s σ H R I h => h.elim (fun h => h1.run pins s σ H R I h) (fun h => h2.run pins s σ H R I h)⟩
theorem for_lt {K : PySem.W.Frag} {a : Addr} {xs : List V} {i0 : Nat} {g : TG} {tb : TS} {D : Ends} {σ : L2.St} {H : Hp} (hσ : σ[i0]? = some (some (.ref a))) (Pv : Nat → L2.St → Hp → Prop) (h0 : Pv 0 σ H)
    (hl : (∀ i σ H, i ≤ xs.length → Pv i σ H → SqL K H a xs) ∨ (∀ i σ H, i ≤ xs.length → Pv i σ H → SqT K H a xs))
    (hs : ∀ i x σ H, xs[i]? = some x → Pv i σ H → g x σ H fun σ2 H2 => tb { D with nx := Pv (i + 1), ct := Pv (i + 1), bk := D.nx } σ2 H2) (hd : ∀ σ H, Pv xs.length σ H → D.nx σ H) :
    tFor (fun σ H R => iList K (tVar i0) σ H R ∨ iTup K (tVar i0) σ H R) g tb D σ H := by
  rcases hl with hl | hl
  · exact .inl ⟨_, hσ, a, rfl, ⟨_, hl 0 σ H (Nat.zero_le _) h0⟩, for_list Pv h0 hl hs hd⟩
  · exact .inr ⟨_, hσ, a, rfl, ⟨_, hl 0 σ H (Nat.zero_le _) h0⟩, for_tup Pv h0 hl hs hd⟩
/-! ### marks -/
mutual
theorem mkE_n : ∀ e : Ex, (mkE e).length = nE e
  | .send r m es => by
    have h1 := mkE_n r
    have h2 := mkEs_n es
    show (false :: (mkE r ++ mkEs es)).length = 1 + nE r + nEs es
    rw [List.length_cons, List.length_append]
    omega
  | .up m es => by
    have h2 := mkEs_n es
    show (false :: mkEs es).length = 1 + nEs es
    rw [List.length_cons]
    omega
  | .lst es => by
    have h2 := mkEs_n es
    show (false :: mkEs es).length = 1 + nEs es
    rw [List.length_cons]
    omega
  | .blk ps ss => by
    have h2 := mkSs_n ss
    show (false :: mkSs ss).length = 1 + nSs ss
    rw [List.length_cons]
    omega
  | .num _ => rfl
  | .txt _ => rfl
  | .tru _ => rfl
  | .non => rfl
  | .slf => rfl
  | .nam _ => rfl
  | .fld _ => rfl
  | .new _ => rfl
theorem mkEs_n : ∀ e : Exs, (mkEs e).length = nEs e
  | .nil => rfl
  | .cons e r => by
    have h1 := mkE_n e
    have h2 := mkEs_n r
    show (mkE e ++ mkEs r).length = nE e + nEs r
    rw [List.length_append]
    omega
theorem mkS_n : ∀ s : St_, (mkS s).length = nS s
  | .set w e => by have h1 := mkE_n e; show (true :: mkE e).length = 1 + nE e; rw [List.length_cons]; omega
  | .sfl w e => by have h1 := mkE_n e; show (true :: mkE e).length = 1 + nE e; rw [List.length_cons]; omega
  | .pl w e => by have h1 := mkE_n e; show (true :: mkE e).length = 1 + nE e; rw [List.length_cons]; omega
  | .iff e a b => by
    have h1 := mkE_n e
    have h2 := mkSs_n a
    have h3 := mkSs_n b
    show (true :: (mkE e ++ (mkSs a ++ mkSs b))).length = 1 + nE e + nSs a + nSs b
    rw [List.length_cons, List.length_append, List.length_append]
    omega
  | .whl e a => by
    have h1 := mkE_n e
    have h2 := mkSs_n a
    show (true :: (mkE e ++ mkSs a)).length = 1 + nE e + nSs a
    rw [List.length_cons, List.length_append]
    omega
  | .tri a w b => by
    have h2 := mkSs_n a
    have h3 := mkSs_n b
    show (true :: (mkSs a ++ mkSs b)).length = 1 + nSs a + nSs b
    rw [List.length_cons, List.length_append]
    omega
theorem mkSs_n : ∀ e : Sts, (mkSs e).length = nSs e
  | .nil => rfl
  | .cons e r => by
    have h1 := mkS_n e
    have h2 := mkSs_n r
    show (mkS e ++ mkSs r).length = nS e + nSs r
    rw [List.length_append]
    omega
end
theorem eL_m : ∀ es : Exs, mkEs es = (eL es).flatMap mkE
  | .nil => rfl
  | .cons e r => by rw [mkEs, eL, List.flatMap_cons, eL_m r]
theorem sL_m : ∀ es : Sts, mkSs es = (sL es).flatMap mkS
  | .nil => rfl
  | .cons e r => by rw [mkSs, sL, List.flatMap_cons, sL_m r]
theorem flat_n {α : Type} {f : α → List Bool} {g : α → Nat} (h : ∀ x, (f x).length = g x) : ∀ xs : List α, (xs.flatMap f).length = (xs.map g).sum
  | [] => rfl
  | x :: r => by rw [List.flatMap_cons, List.length_append, h x, flat_n h r, List.map_cons, List.sum_cons]
theorem eL_sum : ∀ es : Exs, ((eL es).map nE).sum = nEs es
  | .nil => rfl
  | .cons e r => by rw [eL, List.map_cons, List.sum_cons, eL_sum r]; rfl
theorem sL_sum : ∀ es : Sts, ((sL es).map nS).sum = nSs es
  | .nil => rfl
  | .cons e r => by rw [sL, List.map_cons, List.sum_cons, sL_sum r]; rfl
theorem sum_take {α : Type} (g : α → Nat) : ∀ (xs : List α) {i : Nat} {x : α}, xs[i]? = some x → ((xs.take i).map g).sum + g x ≤ (xs.map g).sum
  | [], i, x, h => by simp at h
  | y :: r, 0, x, h => by
    have e : y = x := by simpa using h
    rw [e]
    show 0 + g x ≤ g x + (r.map g).sum
    omega
  | y :: r, i + 1, x, h => by
    have := sum_take g r (i := i) (x := x) (by simpa using h)
    show g y + ((r.take i).map g).sum + g x ≤ g y + (r.map g).sum
    omega
def bsV (bs : List Bool) : List V := bs.map V.bl
theorem bsV_app (a b : List Bool) : bsV a ++ bsV b = bsV (a ++ b) := (List.map_append ..).symm
theorem bsV_len (a : List Bool) : (bsV a).length = a.length := List.length_map _
/-- marks as a list of the heap -/
def LB (H : Hp) (a : Addr) (bs : List Bool) : Prop := H a = some (.lst (bsV bs))
theorem LB.on {H H' : Hp} {a : Addr} {b : List Bool} (h : LB H a b) (s : Same H H') : LB H' a b := s _ _ h
/-- the rest of a statement's marks -/
def inM : St_ → List Bool
  | .set _ e => mkE e
  | .sfl _ e => mkE e
  | .pl _ e => mkE e
  | .iff e a b => mkE e ++ (mkSs a ++ mkSs b)
  | .whl e a => mkE e ++ mkSs a
  | .tri a _ b => mkSs a ++ mkSs b
theorem mkS_in (s : St_) : mkS s = true :: inM s := by cases s <;> rfl
section
variable {P : Program} {w : World} {K : PySem.W.Frag} {mg : Str → Option Value} {base : Heap}
def spEm (d : Nat) : Sp := fun vs H Q _ => ∃ (a : Addr) (us : List V) (es : List Ex), vs = [.ref a] ∧ (H a = some (.lst us) ∨ H a = some (.tup us)) ∧ AtL AtE H es us ∧ (∀ e ∈ es, okNE d e) ∧ (es.map nE).sum ≤ 1000 ∧ ∀ H' L, Same H H' → LB H' L (es.flatMap mkE) → Q (.ref L) H'
def spSt (d : Nat) : Sp := fun vs H Q _ => ∃ (q : Addr) (us : List V) (ss : List St_), vs = [.ref q] ∧ H q = some (.tup us) ∧ AtL AtS H ss us ∧ (∀ e ∈ ss, okNS d e) ∧ (ss.map nS).sum ≤ 1000 ∧ ∀ H' L, Same H H' → LB H' L (ss.flatMap mkS) → Q (.ref L) H'
def spIn (d : Nat) : Sp := fun vs H Q _ => ∃ (v : V) (s : St_), vs = [v] ∧ AtS H s v ∧ okNS d s ∧ ∀ H' L, Same H H' → LB H' L (inM s) → Q (.ref L) H'
def pEm : Nat → Sp
  | 0 => spF
  | d + 1 => spEm d
def pSt : Nat → Sp
  | 0 => spF
  | d + 1 => spSt d
/-- lists of marks, one behind the other -/
theorem cat_marks {H : Hp} {a b : Addr} {x y : List Bool} {Q : VK} (ha : LB H a x) (hb : LB H b y) (hl : x.length + y.length ≤ 5000) (k : ∀ p, H p = none → LB (upd H p (.lst (bsV (x ++ y)))) p (x ++ y) → Q (.ref p) (upd H p (.lst (bsV (x ++ y))))) : rCat (.ref a) (.ref b) H Q :=
  ⟨a, b, bsV x, bsV y, rfl, rfl, ha, hb, by rw [bsV_len, bsV_len, sizeLine_eq]; omega, fun p hp => by rw [bsV_app]; exact k p hp upd_same⟩
theorem scKEm : FnScope ["_law_nodes", "_law_found", "_law_node"] ["_law_nodes"] (defScope sKEm) := ⟨rfl, rfl, rfl, by decide +kernel, rfl, by decide +kernel, by decide +kernel⟩
theorem c_em {d k : Nat} (D : Dn K mg "_law_e_marks" sKEm) (GX : C0 P w K mg base k "_law_e_marks" (pEm d)) (GS : C0 P w K mg base (k + 2) "_law_statements" (pSt d)) : C0 P w K mg base (k + 3) "_law_e_marks" (spEm d) := by
  obtain ⟨f, fd, F, m⟩ := D.ex
  refine ⟨f, fd, ["_law_nodes"], F.ok scKEm (fun vs H Q E h => ?_) (fun cdv A outer s H vs Q E hr h => ?_), m, F.kp, F.binds (ps := ["_law_nodes"]) fun _ _ _ _ _ _ us hl => match us, hl with | [_], _ => rfl⟩
  · obtain ⟨a, us, es, rfl, _⟩ := h
    rfl
  obtain ⟨a, us, es, rfl, ha, hat, hok, hsum, kq⟩ := h
  have hul := hat.len
  refine ⟨_, pss_cons (ps_set (i := 1) scKEm.nd rfl (Or.inl rfl) (pe_lst pa_nil)) <|
    pss_cons (ps_for PassesOwn.never rfl (pi_or (pi_list (pv 0)) (pi_tup (pv 0))) (pg_name (i := 2) scKEm.nd rfl (Or.inl rfl))
      (pss_cons (ps_expr (pe_bm PySem.F.plainAttrs_list PySem.F.slot_list_append PySem.F.type_list_append mt_append (pv 1) (pa_cons pe_bl pa_nil))) <|
        pss_one (ps_if (pt_cmpR op_eq (pe_ix (r := rIxT K) ix_tup (pv 2) pe_int (fun _ _ => rfl)) pe_str (nomark _))
          (pss_one (ps_set (i := 1) scKEm.nd rfl (Or.inl rfl) (pe_op op_cat (pe_op op_cat (pv 1) (pe_cc GX hr (by omega) pass0 (pa_cons (pe_lst (pa_cons (pe_ix (r := rIxT K) ix_tup (pv 2) pe_int (fun _ _ => rfl)) pa_nil)) pa_nil))) (pe_cc GX hr (by omega) pass0 (pa_cons (pe_ix (r := rIxT K) ix_tup (pv 2) pe_int (fun _ _ => rfl)) pa_nil)))))
          (pss_one (ps_if (pt_cmpR op_eq (pe_ix (r := rIxT K) ix_tup (pv 2) pe_int (fun _ _ => rfl)) pe_str (nomark _))
            (pss_one (ps_set (i := 1) scKEm.nd rfl (Or.inl rfl) (pe_op op_cat (pv 1) (pe_cc GX hr (by omega) pass0 (pa_cons (pe_ix (r := rIxT K) ix_tup (pv 2) pe_int (fun _ _ => rfl)) pa_nil)))))
            (pss_one (ps_if (pt_cmpR op_eq (pe_ix (r := rIxT K) ix_tup (pv 2) pe_int (fun _ _ => rfl)) pe_str (nomark _))
              (pss_one (ps_set (i := 1) scKEm.nd rfl (Or.inl rfl) (pe_op op_cat (pv 1) (pe_cc GX hr (by omega) pass0 (pa_cons (pe_ix (r := rIxT K) ix_tup (pv 2) pe_int (fun _ _ => rfl)) pa_nil)))))
              (pss_one (ps_if (pt_cmpR op_eq (pe_ix (r := rIxT K) ix_tup (pv 2) pe_int (fun _ _ => rfl)) pe_str (nomark _))
                (pss_one (ps_set (i := 1) scKEm.nd rfl (Or.inl rfl) (pe_op op_cat (pv 1) (pe_cc GS hr (by omega) pass0 (pa_cons (pe_ix (r := rIxT K) ix_tup (pv 2) pe_int (fun _ _ => rfl)) pa_nil)))))
                pss_nil))))))))) <|
    pss_one (ps_ret (pv 1)), ?_⟩
  refine ⟨Nat.zero_le _, fun L0 hL0 => ?_⟩
  have s0 := same_new hL0 (.lst [])
  have b0 : LB (upd H L0 (.lst [])) L0 [] := upd_same
  generalize upd H L0 (.lst []) = H0 at s0 b0 ⊢
  refine for_lt (K := K) (a := a) (xs := us) (i0 := 0) rfl (fun i σ H1 => ∃ (L : Addr) (v2 : Option V), σ = [some (.ref a), some (.ref L), v2] ∧ Same H H1 ∧ H L = none ∧ LB H1 L ((es.take i).flatMap mkE)) ⟨L0, none, rfl, s0, hL0, b0⟩
    (ha.elim (fun ha => .inl fun i σ H1 _ ⟨_, _, _, s1, _⟩ => SqL.of (s1 _ _ ha)) (fun ha => .inr fun i σ H1 _ ⟨_, _, _, s1, _⟩ => SqT.of (s1 _ _ ha))) ?s ?d
  case d =>
    rintro σ H1 ⟨L, v2, rfl, s1, hL, b1⟩
    rw [hul, List.take_length] at b1
    exact ⟨_, rfl, kq H1 L s1 b1⟩
  case s =>
    rintro i u σ H1 hu ⟨L, v2, rfl, s1, hL, b1⟩
    obtain ⟨e, he1, hat0⟩ := hat.get hu
    obtain ⟨ok, oo, nn⟩ := hok e (List.mem_of_getElem? he1)
    have et : (es.take (i + 1)).flatMap mkE = (es.take i).flatMap mkE ++ mkE e := by rw [List.take_add_one, he1, List.flatMap_append]; simp
    have hlen := flat_n mkE_n (es.take i)
    have hst := sum_take nE es he1
    have hen := mkE_n e
    rw [et]
    generalize (es.take i).flatMap mkE = fi at b1 hlen ⊢
    have hfi : fi.length + nE e ≤ 1000 := by omega
    refine ⟨_, rfl, .inl ⟨rfl, _, SqL.of b1⟩, L, _, _, rfl, rfl, b1, by rw [bsV_len, sizeLine_eq]; omega, ?_⟩
    have t2 : Tups H1 (upd H1 L (.lst (bsV fi ++ [V.bl false]))) := tups_lst b1
    have s2 : Same H (upd H1 L (.lst (bsV fi ++ [V.bl false]))) := fun b o hb => by rw [upd_ne (ne_of_none hb hL)]; exact s1 _ _ hb
    have b2 : LB (upd H1 L (.lst (bsV fi ++ [V.bl false]))) L (fi ++ [false]) := by unfold LB; rw [upd_same, ← bsV_app]; rfl
    have at2 := AtE.on ((same_tups s1).trans t2) _ _ hat0
    generalize upd H1 L (.lst (bsV fi ++ [V.bl false])) = H2 at s2 b2 at2 ⊢
    have hf1 : (fi ++ [false]).length = fi.length + 1 := by rw [List.length_append]; rfl
    cases e with
    | num n =>
      obtain ⟨p, rfl, hp⟩ := at2
      refine ⟨_, rfl, p, _, _, _, rfl, rfl, SqT.of hp, atI_0, rfl, _, rfl, ite2 (fun c => absurd c (by decide +kernel)) (fun _ => ?_)⟩
      refine ⟨_, rfl, p, _, _, _, rfl, rfl, SqT.of hp, atI_0, rfl, _, rfl, ite2 (fun c => absurd c (by decide +kernel)) (fun _ => ?_)⟩
      refine ⟨_, rfl, p, _, _, _, rfl, rfl, SqT.of hp, atI_0, rfl, _, rfl, ite2 (fun c => absurd c (by decide +kernel)) (fun _ => ?_)⟩
      refine ⟨_, rfl, p, _, _, _, rfl, rfl, SqT.of hp, atI_0, rfl, _, rfl, ite2 (fun c => absurd c (by decide +kernel)) (fun _ => ?_)⟩
      exact ⟨L, _, rfl, s2, hL, b2⟩
    | txt n =>
      obtain ⟨p, rfl, hp⟩ := at2
      refine ⟨_, rfl, p, _, _, _, rfl, rfl, SqT.of hp, atI_0, rfl, _, rfl, ite2 (fun c => absurd c (by decide +kernel)) (fun _ => ?_)⟩
      refine ⟨_, rfl, p, _, _, _, rfl, rfl, SqT.of hp, atI_0, rfl, _, rfl, ite2 (fun c => absurd c (by decide +kernel)) (fun _ => ?_)⟩
      refine ⟨_, rfl, p, _, _, _, rfl, rfl, SqT.of hp, atI_0, rfl, _, rfl, ite2 (fun c => absurd c (by decide +kernel)) (fun _ => ?_)⟩
      refine ⟨_, rfl, p, _, _, _, rfl, rfl, SqT.of hp, atI_0, rfl, _, rfl, ite2 (fun c => absurd c (by decide +kernel)) (fun _ => ?_)⟩
      exact ⟨L, _, rfl, s2, hL, b2⟩
    | tru n =>
      obtain ⟨p, rfl, hp⟩ := at2
      refine ⟨_, rfl, p, _, _, _, rfl, rfl, SqT.of hp, atI_0, rfl, _, rfl, ite2 (fun c => absurd c (by decide +kernel)) (fun _ => ?_)⟩
      refine ⟨_, rfl, p, _, _, _, rfl, rfl, SqT.of hp, atI_0, rfl, _, rfl, ite2 (fun c => absurd c (by decide +kernel)) (fun _ => ?_)⟩
      refine ⟨_, rfl, p, _, _, _, rfl, rfl, SqT.of hp, atI_0, rfl, _, rfl, ite2 (fun c => absurd c (by decide +kernel)) (fun _ => ?_)⟩
      refine ⟨_, rfl, p, _, _, _, rfl, rfl, SqT.of hp, atI_0, rfl, _, rfl, ite2 (fun c => absurd c (by decide +kernel)) (fun _ => ?_)⟩
      exact ⟨L, _, rfl, s2, hL, b2⟩
    | non =>
      obtain ⟨p, rfl, hp⟩ := at2
      refine ⟨_, rfl, p, _, _, _, rfl, rfl, SqT.of hp, atI_0, rfl, _, rfl, ite2 (fun c => absurd c (by decide +kernel)) (fun _ => ?_)⟩
      refine ⟨_, rfl, p, _, _, _, rfl, rfl, SqT.of hp, atI_0, rfl, _, rfl, ite2 (fun c => absurd c (by decide +kernel)) (fun _ => ?_)⟩
      refine ⟨_, rfl, p, _, _, _, rfl, rfl, SqT.of hp, atI_0, rfl, _, rfl, ite2 (fun c => absurd c (by decide +kernel)) (fun _ => ?_)⟩
      refine ⟨_, rfl, p, _, _, _, rfl, rfl, SqT.of hp, atI_0, rfl, _, rfl, ite2 (fun c => absurd c (by decide +kernel)) (fun _ => ?_)⟩
      exact ⟨L, _, rfl, s2, hL, b2⟩
    | slf =>
      obtain ⟨p, rfl, hp⟩ := at2
      refine ⟨_, rfl, p, _, _, _, rfl, rfl, SqT.of hp, atI_0, rfl, _, rfl, ite2 (fun c => absurd c (by decide +kernel)) (fun _ => ?_)⟩
      refine ⟨_, rfl, p, _, _, _, rfl, rfl, SqT.of hp, atI_0, rfl, _, rfl, ite2 (fun c => absurd c (by decide +kernel)) (fun _ => ?_)⟩
      refine ⟨_, rfl, p, _, _, _, rfl, rfl, SqT.of hp, atI_0, rfl, _, rfl, ite2 (fun c => absurd c (by decide +kernel)) (fun _ => ?_)⟩
      refine ⟨_, rfl, p, _, _, _, rfl, rfl, SqT.of hp, atI_0, rfl, _, rfl, ite2 (fun c => absurd c (by decide +kernel)) (fun _ => ?_)⟩
      exact ⟨L, _, rfl, s2, hL, b2⟩
    | nam n =>
      obtain ⟨p, rfl, hp⟩ := at2
      refine ⟨_, rfl, p, _, _, _, rfl, rfl, SqT.of hp, atI_0, rfl, _, rfl, ite2 (fun c => absurd c (by decide +kernel)) (fun _ => ?_)⟩
      refine ⟨_, rfl, p, _, _, _, rfl, rfl, SqT.of hp, atI_0, rfl, _, rfl, ite2 (fun c => absurd c (by decide +kernel)) (fun _ => ?_)⟩
      refine ⟨_, rfl, p, _, _, _, rfl, rfl, SqT.of hp, atI_0, rfl, _, rfl, ite2 (fun c => absurd c (by decide +kernel)) (fun _ => ?_)⟩
      refine ⟨_, rfl, p, _, _, _, rfl, rfl, SqT.of hp, atI_0, rfl, _, rfl, ite2 (fun c => absurd c (by decide +kernel)) (fun _ => ?_)⟩
      exact ⟨L, _, rfl, s2, hL, b2⟩
    | fld n =>
      obtain ⟨p, rfl, hp⟩ := at2
      refine ⟨_, rfl, p, _, _, _, rfl, rfl, SqT.of hp, atI_0, rfl, _, rfl, ite2 (fun c => absurd c (by decide +kernel)) (fun _ => ?_)⟩
      refine ⟨_, rfl, p, _, _, _, rfl, rfl, SqT.of hp, atI_0, rfl, _, rfl, ite2 (fun c => absurd c (by decide +kernel)) (fun _ => ?_)⟩
      refine ⟨_, rfl, p, _, _, _, rfl, rfl, SqT.of hp, atI_0, rfl, _, rfl, ite2 (fun c => absurd c (by decide +kernel)) (fun _ => ?_)⟩
      refine ⟨_, rfl, p, _, _, _, rfl, rfl, SqT.of hp, atI_0, rfl, _, rfl, ite2 (fun c => absurd c (by decide +kernel)) (fun _ => ?_)⟩
      exact ⟨L, _, rfl, s2, hL, b2⟩
    | new n =>
      obtain ⟨p, rfl, hp⟩ := at2
      refine ⟨_, rfl, p, _, _, _, rfl, rfl, SqT.of hp, atI_0, rfl, _, rfl, ite2 (fun c => absurd c (by decide +kernel)) (fun _ => ?_)⟩
      refine ⟨_, rfl, p, _, _, _, rfl, rfl, SqT.of hp, atI_0, rfl, _, rfl, ite2 (fun c => absurd c (by decide +kernel)) (fun _ => ?_)⟩
      refine ⟨_, rfl, p, _, _, _, rfl, rfl, SqT.of hp, atI_0, rfl, _, rfl, ite2 (fun c => absurd c (by decide +kernel)) (fun _ => ?_)⟩
      refine ⟨_, rfl, p, _, _, _, rfl, rfl, SqT.of hp, atI_0, rfl, _, rfl, ite2 (fun c => absurd c (by decide +kernel)) (fun _ => ?_)⟩
      exact ⟨L, _, rfl, s2, hL, b2⟩
    | send r m_ xs =>
      obtain ⟨p, vr, q, ys, rfl, hp, hq, h3, h4⟩ := at2
      cases d with
      | zero => simp only [oE] at oo; omega
      | succ d =>
        simp only [oE, nE] at oo nn
        have hn2 := mkE_n r
        have hn3 := mkEs_n xs
        refine ⟨_, rfl, p, _, _, _, rfl, rfl, SqT.of hp, atI_0, rfl, _, rfl, ite2 (fun _ => ?_) (fun c => absurd (by decide +kernel) c)⟩
        refine ⟨_, rfl, _, rfl, p, _, _, _, rfl, rfl, SqT.of hp, atI_nat (j := 1) rfl, by show 1 ≤ sizeLine; decide, fun La hLa => ?_⟩
        have sa := same_new hLa (.lst [vr])
        refine ⟨La, [vr], [r], rfl, .inl upd_same, ⟨vr, [], rfl, AtE.on (same_tups sa) _ _ h3, rfl⟩, fun x hx => ?_, by show nE r + 0 ≤ 1000; omega, fun H3 L1 s3 b3 => ?_⟩
        · obtain rfl : x = r := by simpa using hx
          exact ⟨ok.2.1, by omega, by omega⟩
        have e3 : [r].flatMap mkE = mkE r := by simp
        rw [e3] at b3
        have sb := sa.trans s3
        refine cat_marks (b2.on sb) b3 (by omega) fun L2 hL2 b4 => ?_
        have s4 := sb.trans (same_new hL2 (.lst (bsV ((fi ++ [false]) ++ mkE r))))
        generalize upd H3 L2 (.lst (bsV ((fi ++ [false]) ++ mkE r))) = H4 at s4 b4 ⊢
        refine ⟨_, rfl, p, _, _, _, rfl, rfl, SqT.of (s4 _ _ hp), atI_nat (j := 3) rfl, q, ys, eL xs, rfl, .inr (s4 _ _ hq), eL_at (AtEs.on (same_tups s4) _ _ h4), eL_ok ok.2.2 (by omega) (by omega), by rw [eL_sum]; omega, fun H5 L3 s5 b5 => ?_⟩
        rw [← eL_m] at b5
        have s6 := s4.trans s5
        refine cat_marks (b4.on s5) b5 (by rw [List.length_append]; omega) fun L4 hL4 b6 => ?_
        refine ⟨L4, _, rfl, (s2.trans s6).trans (same_new hL4 _), (s2.trans s6).free hL4, ?_⟩
        have e6 : fi ++ [false] ++ mkE r ++ mkEs xs = fi ++ mkE (.send r m_ xs) := by rw [mkE]; simp
        rw [← e6]
        exact b6
    | up m_ xs =>
      obtain ⟨p, q, ys, rfl, hp, hq, h4⟩ := at2
      cases d with
      | zero => simp only [oE] at oo; omega
      | succ d =>
        simp only [oE, nE] at oo nn
        have hn3 := mkEs_n xs
        refine ⟨_, rfl, p, _, _, _, rfl, rfl, SqT.of hp, atI_0, rfl, _, rfl, ite2 (fun c => absurd c (by decide +kernel)) (fun _ => ?_)⟩
        refine ⟨_, rfl, p, _, _, _, rfl, rfl, SqT.of hp, atI_0, rfl, _, rfl, ite2 (fun _ => ?_) (fun c => absurd (by decide +kernel) c)⟩
        refine ⟨_, rfl, _, rfl, p, _, _, _, rfl, rfl, SqT.of hp, atI_nat (j := 2) rfl, q, ys, eL xs, rfl, .inr hq, eL_at h4, eL_ok ok.2 (by omega) (by omega), by rw [eL_sum]; omega, fun H5 L3 s5 b5 => ?_⟩
        rw [← eL_m] at b5
        refine cat_marks (b2.on s5) b5 (by omega) fun L4 hL4 b6 => ?_
        refine ⟨L4, _, rfl, (s2.trans s5).trans (same_new hL4 _), (s2.trans s5).free hL4, ?_⟩
        have e6 : fi ++ [false] ++ mkEs xs = fi ++ mkE (.up m_ xs) := by rw [mkE]; simp
        rw [← e6]
        exact b6
    | lst xs =>
      obtain ⟨p, q, ys, rfl, hp, hq, h4⟩ := at2
      cases d with
      | zero => simp only [oE] at oo; omega
      | succ d =>
        simp only [oE, nE] at oo nn
        have hn3 := mkEs_n xs
        refine ⟨_, rfl, p, _, _, _, rfl, rfl, SqT.of hp, atI_0, rfl, _, rfl, ite2 (fun c => absurd c (by decide +kernel)) (fun _ => ?_)⟩
        refine ⟨_, rfl, p, _, _, _, rfl, rfl, SqT.of hp, atI_0, rfl, _, rfl, ite2 (fun c => absurd c (by decide +kernel)) (fun _ => ?_)⟩
        refine ⟨_, rfl, p, _, _, _, rfl, rfl, SqT.of hp, atI_0, rfl, _, rfl, ite2 (fun _ => ?_) (fun c => absurd (by decide +kernel) c)⟩
        refine ⟨_, rfl, _, rfl, p, _, _, _, rfl, rfl, SqT.of hp, atI_nat (j := 1) rfl, q, ys, eL xs, rfl, .inr hq, eL_at h4, eL_ok ok (by omega) (by omega), by rw [eL_sum]; omega, fun H5 L3 s5 b5 => ?_⟩
        rw [← eL_m] at b5
        refine cat_marks (b2.on s5) b5 (by omega) fun L4 hL4 b6 => ?_
        refine ⟨L4, _, rfl, (s2.trans s5).trans (same_new hL4 _), (s2.trans s5).free hL4, ?_⟩
        have e6 : fi ++ [false] ++ mkEs xs = fi ++ mkE (.lst xs) := by rw [mkE]; simp
        rw [← e6]
        exact b6
    | blk ps ss =>
      obtain ⟨p, vw, q, ys, rfl, hp, hq, hw, h4⟩ := at2
      cases d with
      | zero => simp only [oE] at oo; omega
      | succ d =>
        simp only [oE, nE] at oo nn
        have hn3 := mkSs_n ss
        refine ⟨_, rfl, p, _, _, _, rfl, rfl, SqT.of hp, atI_0, rfl, _, rfl, ite2 (fun c => absurd c (by decide +kernel)) (fun _ => ?_)⟩
        refine ⟨_, rfl, p, _, _, _, rfl, rfl, SqT.of hp, atI_0, rfl, _, rfl, ite2 (fun c => absurd c (by decide +kernel)) (fun _ => ?_)⟩
        refine ⟨_, rfl, p, _, _, _, rfl, rfl, SqT.of hp, atI_0, rfl, _, rfl, ite2 (fun c => absurd c (by decide +kernel)) (fun _ => ?_)⟩
        refine ⟨_, rfl, p, _, _, _, rfl, rfl, SqT.of hp, atI_0, rfl, _, rfl, ite2 (fun _ => ?_) (fun c => absurd (by decide +kernel) c)⟩
        refine ⟨_, rfl, _, rfl, p, _, _, _, rfl, rfl, SqT.of hp, atI_nat (j := 2) rfl, q, ys, sL ss, rfl, hq, sL_at h4, sL_ok ok.2.2 (by omega) (by omega), by rw [sL_sum]; omega, fun H5 L3 s5 b5 => ?_⟩
        rw [← sL_m] at b5
        refine cat_marks (b2.on s5) b5 (by omega) fun L4 hL4 b6 => ?_
        refine ⟨L4, _, rfl, (s2.trans s5).trans (same_new hL4 _), (s2.trans s5).free hL4, ?_⟩
        have e6 : fi ++ [false] ++ mkSs ss = fi ++ mkE (.blk ps ss) := by rw [mkE]; simp
        rw [← e6]
        exact b6
end
end My
set_option Elab.async false
set_option linter.all false
set_option maxRecDepth 100000
set_option maxHeartbeats 8000000
namespace My
open PySem L2 SS
section
variable {P : Program} {w : World} {K : PySem.W.Frag} {mg : Str → Option Value} {base : Heap}
theorem in_testL {K : PySem.W.Frag} {σ : L2.St} {H : Hp} {Qb : Bool → Hp → Prop} {z : Str} {zs : List V} {t : TA} (hσ : σ[1]? = some (some (V.str z))) (ht : ∀ H Q, Q zs H → t σ H Q) (hl : zs.length ≤ sizeLine) (hf : zs.all flatV = true) {b : Bool} (hb : inV (.str z) zs = b) (k : ∀ H', Same H H' → Qb b H') : tTest (tOp (rIn K false) (tVar 1) (tLst t)) σ H Qb := by
  refine ⟨_, hσ, ht _ _ ⟨hl, fun L hL => ⟨L, _, rfl, .inl (SqL.of upd_same), rfl, hf, _, rfl, ?_⟩⟩⟩
  show Qb (inV (.str z) zs) _
  rw [hb]
  exact k _ (same_new hL _)
abbrev z2 : List V := [V.str (Str.ofString "set"), V.str (Str.ofString "setfield")]
abbrev z4 : List V := [V.str (Str.ofString "do"), V.str (Str.ofString "say"), V.str (Str.ofString "return"), V.str (Str.ofString "raise")]
theorem scKIn : FnScope ["_law_node", "_law_word_here"] ["_law_node"] (defScope sKIn) := ⟨rfl, rfl, rfl, by decide +kernel, rfl, by decide +kernel, by decide +kernel⟩
theorem one_e {H : Hp} {e : Ex} {v : V} (h : AtE H e v) : AtL AtE H [e] [v] := ⟨v, [], rfl, h, rfl⟩
theorem one_flat (e : Ex) : [e].flatMap mkE = mkE e := by simp
theorem c_in {d k : Nat} (D : Dn K mg "_law_inner" sKIn) (GE : C0 P w K mg base (k + 3) "_law_e_marks" (spEm d)) (GS : C0 P w K mg base (k + 2) "_law_statements" (pSt d)) : C0 P w K mg base (k + 4) "_law_inner" (spIn d) := by
  obtain ⟨f, fd, F, m⟩ := D.ex
  refine ⟨f, fd, ["_law_node"], F.ok scKIn (fun vs H Q E h => ?_) (fun cdv A outer s H vs Q E hr h => ?_), m, F.kp, F.binds (ps := ["_law_node"]) fun _ _ _ _ _ _ us hl => match us, hl with | [_], _ => rfl⟩
  · obtain ⟨v, s, rfl, _⟩ := h
    rfl
  obtain ⟨v, s, rfl, hat, ⟨ok, oo, nn⟩, kq⟩ := h
  refine ⟨_, pss_cons (ps_set (i := 1) scKIn.nd rfl (Or.inl rfl) (pe_ix (r := rIxT K) ix_tup (pv 0) pe_int (fun _ _ => rfl))) <|
    pss_cons (ps_if (pt_cmpR op_in_seq (pv 1) (pe_lst (pa_cons pe_str (pa_cons pe_str pa_nil))) (by rfl)) (pss_one (ps_ret (pe_cc GE hr (by omega) pass0 (pa_cons (pe_lst (pa_cons (pe_ix (r := rIxT K) ix_tup (pv 0) pe_int (fun _ _ => rfl)) pa_nil)) pa_nil)))) pss_nil) <|
    pss_cons (ps_if (pt_cmpR op_in_seq (pv 1) (pe_lst (pa_cons pe_str (pa_cons pe_str (pa_cons pe_str (pa_cons pe_str pa_nil))))) (by rfl)) (pss_one (ps_ret (pe_cc GE hr (by omega) pass0 (pa_cons (pe_lst (pa_cons (pe_ix (r := rIxT K) ix_tup (pv 0) pe_int (fun _ _ => rfl)) pa_nil)) pa_nil)))) pss_nil) <|
    pss_cons (ps_if (pt_cmpR op_eq (pv 1) pe_str (nomark _)) (pss_one (ps_ret (pe_op op_cat (pe_op op_cat (pe_cc GE hr (by omega) pass0 (pa_cons (pe_lst (pa_cons (pe_ix (r := rIxT K) ix_tup (pv 0) pe_int (fun _ _ => rfl)) pa_nil)) pa_nil)) (pe_cc GS hr (by omega) pass0 (pa_cons (pe_ix (r := rIxT K) ix_tup (pv 0) pe_int (fun _ _ => rfl)) pa_nil))) (pe_cc GS hr (by omega) pass0 (pa_cons (pe_ix (r := rIxT K) ix_tup (pv 0) pe_int (fun _ _ => rfl)) pa_nil))))) pss_nil) <|
    pss_cons (ps_if (pt_cmpR op_eq (pv 1) pe_str (nomark _)) (pss_one (ps_ret (pe_op op_cat (pe_cc GE hr (by omega) pass0 (pa_cons (pe_lst (pa_cons (pe_ix (r := rIxT K) ix_tup (pv 0) pe_int (fun _ _ => rfl)) pa_nil)) pa_nil)) (pe_cc GS hr (by omega) pass0 (pa_cons (pe_ix (r := rIxT K) ix_tup (pv 0) pe_int (fun _ _ => rfl)) pa_nil))))) pss_nil) <|
    pss_one (ps_ret (pe_op op_cat (pe_cc GS hr (by omega) pass0 (pa_cons (pe_ix (r := rIxT K) ix_tup (pv 0) pe_int (fun _ _ => rfl)) pa_nil)) (pe_cc GS hr (by omega) pass0 (pa_cons (pe_ix (r := rIxT K) ix_tup (pv 0) pe_int (fun _ _ => rfl)) pa_nil)))), ?_⟩
  have one : ∀ (H0 : Hp) (La : Addr) (e : Ex) (ve : V), Same H H0 → H0 La = none → AtE H e ve → okE e → oE e ≤ d → nE e ≤ 1000 → ∀ (k : ∀ H' L, Same H H' → LB H' L (mkE e) → Q (.ref L) H'), spEm d [.ref La] (upd H0 La (.lst [ve])) Q E0 := fun H0 La e ve s0 hLa h3 oke ooe nne kk =>
    ⟨La, [ve], [e], rfl, .inl upd_same, one_e (AtE.on (same_tups (s0.trans (same_new hLa _))) _ _ h3), fun x hx => by
      obtain rfl : x = e := by simpa using hx
      exact ⟨oke, ooe, nne⟩, by show nE e + 0 ≤ 1000; omega, fun H' L s' b' => kk H' L ((s0.trans (same_new hLa _)).trans s') (by rw [one_flat] at b'; exact b')⟩
  cases s with
  | set z e =>
    obtain ⟨p, ve, rfl, hp, he⟩ := hat
    simp only [oS, nS] at oo nn
    refine ⟨_, rfl, p, _, _, _, rfl, rfl, SqT.of hp, atI_0, ?_⟩
    refine in_testL (zs := z2) rfl (fun _ _ q => q) (by show 2 ≤ sizeLine; decide) rfl (b := true) (by decide +kernel) fun H1 s1 => iteT ?_
    exact ⟨_, rfl, p, _, _, _, rfl, rfl, SqT.of (s1 _ _ hp), atI_nat (j := 2) rfl, by show 1 ≤ sizeLine; decide, fun La hLa => one H1 La e ve s1 hLa he ok.2 oo (by omega) kq⟩
  | sfl z e =>
    obtain ⟨p, ve, rfl, hp, he⟩ := hat
    simp only [oS, nS] at oo nn
    refine ⟨_, rfl, p, _, _, _, rfl, rfl, SqT.of hp, atI_0, ?_⟩
    refine in_testL (zs := z2) rfl (fun _ _ q => q) (by show 2 ≤ sizeLine; decide) rfl (b := true) (by decide +kernel) fun H1 s1 => iteT ?_
    exact ⟨_, rfl, p, _, _, _, rfl, rfl, SqT.of (s1 _ _ hp), atI_nat (j := 2) rfl, by show 1 ≤ sizeLine; decide, fun La hLa => one H1 La e ve s1 hLa he ok.2 oo (by omega) kq⟩
  | pl z e =>
    obtain ⟨p, ve, rfl, hp, he⟩ := hat
    simp only [oS, nS] at oo nn
    have hpl : inV (.str (mk z)) z2 = false ∧ inV (.str (mk z)) z4 = true := by
      have hz : isPl z = true := ok.1
      rcases pl_cases hz with h | h | h | h <;> (rw [h, mk_tl]; decide +kernel)
    refine ⟨_, rfl, p, _, _, _, rfl, rfl, SqT.of hp, atI_0, ?_⟩
    refine in_testL (zs := z2) rfl (fun _ _ q => q) (by show 2 ≤ sizeLine; decide) rfl (b := false) hpl.1 fun H1 s1 => iteF ?_
    refine in_testL (zs := z4) rfl (fun _ _ q => q) (by show 4 ≤ sizeLine; decide) rfl (b := true) hpl.2 fun H2 s2 => iteT ?_
    exact ⟨_, rfl, p, _, _, _, rfl, rfl, SqT.of (s2 _ _ (s1 _ _ hp)), atI_nat (j := 1) rfl, by show 1 ≤ sizeLine; decide, fun La hLa => one H2 La e ve (s1.trans s2) hLa he ok.2 oo (by omega) kq⟩
  | iff e a b =>
    obtain ⟨p, ve, q, xs, r, ys, rfl, hp, hq, hr_, h5, h6, h7⟩ := hat
    cases d with
    | zero => simp only [oS] at oo; omega
    | succ d =>
      simp only [oS, nS] at oo nn
      have n1 := mkE_n e
      have n2 := mkSs_n a
      have n3 := mkSs_n b
      refine ⟨_, rfl, p, _, _, _, rfl, rfl, SqT.of hp, atI_0, ?_⟩
      refine in_testL (zs := z2) rfl (fun _ _ q => q) (by show 2 ≤ sizeLine; decide) rfl (b := false) (by decide +kernel) fun H1 s1 => iteF ?_
      refine in_testL (zs := z4) rfl (fun _ _ q => q) (by show 4 ≤ sizeLine; decide) rfl (b := false) (by decide +kernel) fun H2 s2' => iteF ?_
      have s2 := s1.trans s2'
      refine ⟨_, rfl, rfl, _, rfl, ite2 (fun _ => ?_) (fun c => absurd (by decide +kernel) c)⟩
      refine ⟨_, rfl, p, _, _, _, rfl, rfl, SqT.of (s2 _ _ hp), atI_nat (j := 1) rfl, by show 1 ≤ sizeLine; decide, fun La hLa => ?_⟩
      have sa := s2.trans (same_new hLa (.lst [ve]))
      refine ⟨La, [ve], [e], rfl, .inl upd_same, one_e (AtE.on (same_tups sa) _ _ h5), fun x hx => ?_, by show nE e + 0 ≤ 1000; omega, fun H3 L1 s3 b3 => ?_⟩
      · obtain rfl : x = e := by simpa using hx
        exact ⟨ok.1, by omega, by omega⟩
      rw [one_flat] at b3
      have sb := sa.trans s3
      refine ⟨_, rfl, p, _, _, _, rfl, rfl, SqT.of (sb _ _ hp), atI_nat (j := 2) rfl, q, xs, sL a, rfl, sb _ _ hq, sL_at (AtSs.on (same_tups sb) _ _ h6), sL_ok ok.2.1 (by omega) (by omega), by rw [sL_sum]; omega, fun H5 L3 s5 b5 => ?_⟩
      rw [← sL_m] at b5
      have sc := sb.trans s5
      refine cat_marks (b3.on s5) b5 (by omega) fun L4 hL4 b6 => ?_
      have sd := sc.trans (same_new hL4 (.lst (bsV (mkE e ++ mkSs a))))
      generalize upd H5 L4 (.lst (bsV (mkE e ++ mkSs a))) = H6 at sd b6 ⊢
      refine ⟨_, rfl, p, _, _, _, rfl, rfl, SqT.of (sd _ _ hp), atI_nat (j := 3) rfl, r, ys, sL b, rfl, sd _ _ hr_, sL_at (AtSs.on (same_tups sd) _ _ h7), sL_ok ok.2.2 (by omega) (by omega), by rw [sL_sum]; omega, fun H7 L5 s7 b7 => ?_⟩
      rw [← sL_m] at b7
      refine cat_marks (b6.on s7) b7 (by rw [List.length_append]; omega) fun L8 hL8 b8 => kq _ L8 ((sd.trans s7).trans (same_new hL8 _)) ?_
      have e6 : mkE e ++ mkSs a ++ mkSs b = inM (.iff e a b) := by rw [inM]; simp
      rw [← e6]
      exact b8
  | whl e a =>
    obtain ⟨p, ve, q, xs, rfl, hp, hq, h5, h6⟩ := hat
    cases d with
    | zero => simp only [oS] at oo; omega
    | succ d =>
      simp only [oS, nS] at oo nn
      have n1 := mkE_n e
      have n2 := mkSs_n a
      refine ⟨_, rfl, p, _, _, _, rfl, rfl, SqT.of hp, atI_0, ?_⟩
      refine in_testL (zs := z2) rfl (fun _ _ q => q) (by show 2 ≤ sizeLine; decide) rfl (b := false) (by decide +kernel) fun H1 s1 => iteF ?_
      refine in_testL (zs := z4) rfl (fun _ _ q => q) (by show 4 ≤ sizeLine; decide) rfl (b := false) (by decide +kernel) fun H2 s2' => iteF ?_
      have s2 := s1.trans s2'
      refine ⟨_, rfl, rfl, _, rfl, ite2 (fun c => absurd c (by decide +kernel)) (fun _ => ?_)⟩
      refine ⟨_, rfl, rfl, _, rfl, ite2 (fun _ => ?_) (fun c => absurd (by decide +kernel) c)⟩
      refine ⟨_, rfl, p, _, _, _, rfl, rfl, SqT.of (s2 _ _ hp), atI_nat (j := 1) rfl, by show 1 ≤ sizeLine; decide, fun La hLa => ?_⟩
      have sa := s2.trans (same_new hLa (.lst [ve]))
      refine ⟨La, [ve], [e], rfl, .inl upd_same, one_e (AtE.on (same_tups sa) _ _ h5), fun x hx => ?_, by show nE e + 0 ≤ 1000; omega, fun H3 L1 s3 b3 => ?_⟩
      · obtain rfl : x = e := by simpa using hx
        exact ⟨ok.1, by omega, by omega⟩
      rw [one_flat] at b3
      have sb := sa.trans s3
      refine ⟨_, rfl, p, _, _, _, rfl, rfl, SqT.of (sb _ _ hp), atI_nat (j := 2) rfl, q, xs, sL a, rfl, sb _ _ hq, sL_at (AtSs.on (same_tups sb) _ _ h6), sL_ok ok.2 (by omega) (by omega), by rw [sL_sum]; omega, fun H5 L3 s5 b5 => ?_⟩
      rw [← sL_m] at b5
      exact cat_marks (b3.on s5) b5 (by omega) fun L4 hL4 b6 => kq _ L4 ((sb.trans s5).trans (same_new hL4 _)) b6
  | tri a z b =>
    obtain ⟨p, q, xs, r, ys, rfl, hp, hq, hr_, h6, h7⟩ := hat
    cases d with
    | zero => simp only [oS] at oo; omega
    | succ d =>
      simp only [oS, nS] at oo nn
      have n2 := mkSs_n a
      have n3 := mkSs_n b
      refine ⟨_, rfl, p, _, _, _, rfl, rfl, SqT.of hp, atI_0, ?_⟩
      refine in_testL (zs := z2) rfl (fun _ _ q => q) (by show 2 ≤ sizeLine; decide) rfl (b := false) (by decide +kernel) fun H1 s1 => iteF ?_
      refine in_testL (zs := z4) rfl (fun _ _ q => q) (by show 4 ≤ sizeLine; decide) rfl (b := false) (by decide +kernel) fun H2 s2' => iteF ?_
      have s2 := s1.trans s2'
      refine ⟨_, rfl, rfl, _, rfl, ite2 (fun c => absurd c (by decide +kernel)) (fun _ => ?_)⟩
      refine ⟨_, rfl, rfl, _, rfl, ite2 (fun c => absurd c (by decide +kernel)) (fun _ => ?_)⟩
      refine ⟨_, rfl, p, _, _, _, rfl, rfl, SqT.of (s2 _ _ hp), atI_nat (j := 1) rfl, q, xs, sL a, rfl, s2 _ _ hq, sL_at (AtSs.on (same_tups s2) _ _ h6), sL_ok ok.2.1 (by omega) (by omega), by rw [sL_sum]; omega, fun H5 L3 s5 b5 => ?_⟩
      rw [← sL_m] at b5
      have sd := s2.trans s5
      refine ⟨_, rfl, p, _, _, _, rfl, rfl, SqT.of (sd _ _ hp), atI_nat (j := 3) rfl, r, ys, sL b, rfl, sd _ _ hr_, sL_at (AtSs.on (same_tups sd) _ _ h7), sL_ok ok.2.2 (by omega) (by omega), by rw [sL_sum]; omega, fun H7 L5 s7 b7 => ?_⟩
      rw [← sL_m] at b7
      exact cat_marks (b5.on s7) b7 (by omega) fun L8 hL8 b8 => kq _ L8 ((sd.trans s7).trans (same_new hL8 _)) b8
theorem scKSt : FnScope ["_law_nodes", "_law_found", "_law_node"] ["_law_nodes"] (defScope sKSt) := ⟨rfl, rfl, rfl, by decide +kernel, rfl, by decide +kernel, by decide +kernel⟩
theorem c_ss {d k : Nat} (D : Dn K mg "_law_statements" sKSt) (GI : C0 P w K mg base (k + 4) "_law_inner" (spIn d)) : C0 P w K mg base (k + 5) "_law_statements" (spSt d) := by
  obtain ⟨f, fd, F, m⟩ := D.ex
  refine ⟨f, fd, ["_law_nodes"], F.ok scKSt (fun vs H Q E h => ?_) (fun cdv A outer s H vs Q E hr h => ?_), m, F.kp, F.binds (ps := ["_law_nodes"]) fun _ _ _ _ _ _ us hl => match us, hl with | [_], _ => rfl⟩
  · obtain ⟨q, us, ss, rfl, _⟩ := h
    rfl
  obtain ⟨q, us, ss, rfl, hq, hat, hok, hsum, kq⟩ := h
  have hul := hat.len
  refine ⟨_, pss_cons (ps_set (i := 1) scKSt.nd rfl (Or.inl rfl) (pe_lst pa_nil)) <|
    pss_cons (ps_for PassesOwn.never rfl (pi_tup (pv 0)) (pg_name (i := 2) scKSt.nd rfl (Or.inl rfl))
      (pss_one (ps_set (i := 1) scKSt.nd rfl (Or.inl rfl) (pe_op op_cat (pe_op op_cat (pv 1) (pe_lst (pa_cons pe_bl pa_nil))) (pe_cc GI hr (by omega) pass0 (pa_cons (pv 2) pa_nil)))))) <|
    pss_one (ps_ret (pv 1)), ?_⟩
  refine ⟨Nat.zero_le _, fun L0 hL0 => ?_⟩
  have s0 := same_new hL0 (.lst [])
  have b0 : LB (upd H L0 (.lst [])) L0 [] := upd_same
  refine ⟨_, rfl, q, rfl, ⟨_, SqT.of (s0 _ _ hq)⟩, ?_⟩
  refine for_tup (xs := us) (fun i σ H1 => ∃ (L : Addr) (v2 : Option V), σ = [some (.ref q), some (.ref L), v2] ∧ Same H H1 ∧ LB H1 L ((ss.take i).flatMap mkS)) ⟨L0, none, rfl, s0, b0⟩ (fun i σ H1 _ ⟨_, _, _, s1, _⟩ => SqT.of (s1 _ _ hq)) ?_ ?_
  · rintro i u σ H1 hu ⟨L, v2, rfl, s1, b1⟩
    obtain ⟨e, he1, hat0⟩ := hat.get hu
    have hoke := hok e (List.mem_of_getElem? he1)
    have et : (ss.take (i + 1)).flatMap mkS = (ss.take i).flatMap mkS ++ mkS e := by rw [List.take_add_one, he1, List.flatMap_append]; simp
    have hlen := flat_n mkS_n (ss.take i)
    have hst := sum_take nS ss he1
    have hen := mkS_n e
    rw [mkS_in, List.length_cons] at hen
    rw [et]
    generalize (ss.take i).flatMap mkS = fi at b1 hlen ⊢
    refine ⟨_, rfl, by show 1 ≤ sizeLine; decide, fun La hLa => ?_⟩
    have sa := same_new hLa (.lst [V.bl true])
    have ba : LB (upd H1 La (.lst [V.bl true])) La [true] := upd_same
    refine cat_marks (b1.on sa) ba (by show fi.length + 1 ≤ 5000; omega) fun Lb hLb bb => ?_
    have sb := sa.trans (same_new hLb (.lst (bsV (fi ++ [true]))))
    generalize upd (upd H1 La (.lst [V.bl true])) Lb (.lst (bsV (fi ++ [true]))) = H2 at sb bb ⊢
    refine ⟨_, rfl, u, e, rfl, AtS.on (same_tups (s1.trans sb)) _ _ hat0, hoke, fun H3 Lc sc bc => ?_⟩
    refine cat_marks (bb.on sc) bc (by rw [List.length_append]; show fi.length + 1 + _ ≤ 5000; omega) fun Ld hLd bd => ?_
    refine ⟨Ld, _, rfl, ((s1.trans sb).trans sc).trans (same_new hLd _), ?_⟩
    have e6 : fi ++ [true] ++ inM e = fi ++ mkS e := by rw [mkS_in]; simp
    rw [← e6]
    exact bd
  rintro σ H1 ⟨L, v2, rfl, s1, b1⟩
  rw [hul, List.take_length] at b1
  exact ⟨_, rfl, kq H1 L s1 b1⟩
theorem c_noneEm (k : Nat) (D : Dn K mg "_law_e_marks" sKEm) : C0 P w K mg base (k + 1) "_law_e_marks" spF := by
  obtain ⟨f, fd, F, m⟩ := D.ex
  exact ⟨f, fd, ["_law_nodes"], F.ok scKEm (fun vs H Q E h => h.elim) (fun cdv A outer s H vs Q E hr h => h.elim), m, F.kp, F.binds (ps := ["_law_nodes"]) fun _ _ _ _ _ _ us hl => match us, hl with | [_], _ => rfl⟩
theorem c_noneSt (k : Nat) (D : Dn K mg "_law_statements" sKSt) : C0 P w K mg base (k + 1) "_law_statements" spF := by
  obtain ⟨f, fd, F, m⟩ := D.ex
  exact ⟨f, fd, ["_law_nodes"], F.ok scKSt (fun vs H Q E h => h.elim) (fun cdv A outer s H vs Q E hr h => h.elim), m, F.kp, F.binds (ps := ["_law_nodes"]) fun _ _ _ _ _ _ us hl => match us, hl with | [_], _ => rfl⟩
theorem knotM (DE : Dn K mg "_law_e_marks" sKEm) (DI : Dn K mg "_law_inner" sKIn) (DS : Dn K mg "_law_statements" sKSt) : ∀ d : Nat, C0 P w K mg base (3 * d + 4) "_law_e_marks" (spEm d) ∧ C0 P w K mg base (3 * d + 6) "_law_statements" (spSt d)
  | 0 => by
    have e := c_em (P := P) (w := w) (base := base) (d := 0) (k := 1) DE (c_noneEm 0 DE) (c_noneSt 2 DS)
    exact ⟨e, c_ss DS (c_in (d := 0) (k := 1) DI e (c_noneSt 2 DS))⟩
  | d + 1 => by
    obtain ⟨h1, h2⟩ := knotM DE DI DS d
    have e := c_em (P := P) (w := w) (base := base) (d := d + 1) (k := 3 * d + 4) DE h1 h2
    exact ⟨e, c_ss DS (c_in (d := d + 1) (k := 3 * d + 4) DI e h2)⟩
theorem scKMa : FnScope ["_law_tree", "_law_found", "_law_method_here"] ["_law_tree"] (defScope sKMa) := ⟨rfl, rfl, rfl, by decide +kernel, rfl, by decide +kernel, by decide +kernel⟩
def spMa : Sp := fun vs H Q _ => ∃ (v : V) (t : Tr), vs = [v] ∧ AtTr H t v ∧ okNT t ∧ ∀ H' L, Same H H' → H L = none → LB H' L (mkMs t.ms) → Q (.ref L) H'
theorem ms_last {H : Hp} {t : Tr} {v : V} (h : AtTr H t v) : ∃ p zs r xs, v = .ref p ∧ H p = some (.tup (zs ++ [.ref r])) ∧ H r = some (.tup xs) ∧ AtL AtM H t.ms xs := by
  cases t with
  | kind n pn fs ms =>
    obtain ⟨p, vw, r, xs, rfl, hp, _, hr_, hat⟩ := h
    exact ⟨p, [S_ "kind", .str (mk n), .str (mk pn), vw], r, xs, rfl, hp, hr_, hat⟩
  | more n ms =>
    obtain ⟨p, r, xs, rfl, hp, hr_, hat⟩ := h
    exact ⟨p, [S_ "more", .str (mk n)], r, xs, rfl, hp, hr_, hat⟩
theorem c_ma {k : Nat} (D : Dn K mg "_law_marked" sKMa) (GS : C0 P w K mg base k "_law_statements" (spSt 12)) : C0 P w K mg base (k + 1) "_law_marked" spMa := by
  obtain ⟨f, fd, F, m⟩ := D.ex
  refine ⟨f, fd, ["_law_tree"], F.ok scKMa (fun vs H Q E h => ?_) (fun cdv A outer s H vs Q E hr h => ?_), m, F.kp, F.binds (ps := ["_law_tree"]) fun _ _ _ _ _ _ us hl => match us, hl with | [_], _ => rfl⟩
  · obtain ⟨v, t, rfl, _⟩ := h
    rfl
  obtain ⟨v, t, rfl, hat, hok, kq⟩ := h
  obtain ⟨p, zs, r, xs, rfl, hp, hr_, hms⟩ := ms_last hat
  have hmok := ms_ok hok
  have hml := hok.1.ml
  have hul := hms.len
  refine ⟨_, pss_cons (ps_set (i := 1) scKMa.nd rfl (Or.inl rfl) (pe_lst pa_nil)) <|
    pss_cons (ps_for PassesOwn.never rfl (pi_tup (pe_ix (r := rIxT K) ix_tup (pv 0) (pe_un un_neg pe_int) (fun _ _ => rfl))) (pg_name (i := 2) scKMa.nd rfl (Or.inl rfl))
      (pss_one (ps_set (i := 1) scKMa.nd rfl (Or.inl rfl) (pe_op op_cat (pv 1) (pe_cc GS hr (Nat.le_refl _) pass0 (pa_cons (pe_ix (r := rIxT K) ix_tup (pv 2) pe_int (fun _ _ => rfl)) pa_nil)))))) <|
    pss_one (ps_ret (pv 1)), ?_⟩
  refine ⟨Nat.zero_le _, fun L0 hL0 => ?_⟩
  have s0 := same_new hL0 (.lst [])
  have b0 : LB (upd H L0 (.lst [])) L0 [] := upd_same
  refine ⟨_, rfl, 1, rfl, p, _, -1, .ref r, rfl, rfl, SqT.of (s0 _ _ hp), atI_last _ _, r, rfl, ⟨_, SqT.of (s0 _ _ hr_)⟩, ?_⟩
  refine for_tup (xs := xs) (fun i σ H1 => ∃ (L : Addr) (v2 : Option V), σ = [some (.ref p), some (.ref L), v2] ∧ Same H H1 ∧ H L = none ∧ LB H1 L (mkMs (t.ms.take i)) ∧ (mkMs (t.ms.take i)).length ≤ 1000 * i) ⟨L0, none, rfl, s0, hL0, b0, Nat.le_refl _⟩ (fun i σ H1 _ ⟨_, _, _, s1, _⟩ => SqT.of (s1 _ _ hr_)) ?_ ?_
  · rintro i u σ H1 hu ⟨L, v2, rfl, s1, hLn, b1, hl1⟩
    obtain ⟨e, he1, hat0⟩ := hms.get hu
    have hi : i < xs.length := (List.getElem?_eq_some_iff.mp hu).1
    obtain ⟨oke, nne⟩ := hmok e (List.mem_of_getElem? he1)
    obtain ⟨pm, vw, q, ys, rfl, hm1, hm2, hm3, hm4⟩ := hat0.on (same_tups s1)
    have et : mkMs (t.ms.take (i + 1)) = mkMs (t.ms.take i) ++ mkSs e.ss := by unfold mkMs; rw [List.take_add_one, he1, List.flatMap_append]; simp
    have hen := mkSs_n e.ss
    rw [et]
    refine ⟨_, rfl, _, rfl, pm, _, _, _, rfl, rfl, SqT.of hm1, atI_nat (j := 3) rfl, q, ys, sL e.ss, rfl, hm3, sL_at hm4, sL_ok oke.ss oke.o nne, by rw [sL_sum]; exact nne, fun H2 L2 s2 b2 => ?_⟩
    rw [← sL_m] at b2
    refine cat_marks (b1.on s2) b2 (by omega) fun L3 hL3 b3 => ?_
    exact ⟨L3, _, rfl, (s1.trans s2).trans (same_new hL3 _), (s1.trans s2).free hL3, b3, by rw [List.length_append]; omega⟩
  rintro σ H1 ⟨L, v2, rfl, s1, hLn, b1, _⟩
  rw [hul, List.take_length] at b1
  exact ⟨_, rfl, kq H1 L s1 hLn b1⟩
end
end My
set_option Elab.async false
set_option linter.all false
set_option maxRecDepth 100000
set_option maxHeartbeats 8000000
namespace My
open PySem L2 SS
abbrev sKDu : Stmt := top 35
abbrev sLaw : Stmt := top 36
/-! ### how many marks the words want -/
def cn (ws : List WB) : Nat := (ws.map fun q => if q.2 = true then 1 else 0).sum
theorem cn_app (a b : List WB) : cn (a ++ b) = cn a + cn b := by unfold cn; rw [List.map_append, List.sum_append]
theorem cn_t (w : T) (r : List WB) : cn ((w, true) :: r) = 1 + cn r := rfl
theorem cn_f (w : T) (r : List WB) : cn ((w, false) :: r) = cn r := by
  show 0 + cn r = cn r
  omega
theorem cn_nil : cn [] = 0 := rfl
theorem cn_plain : ∀ ps : List T, cn (plainW ps) = 0
  | [] => rfl
  | w :: r => by show cn ((w, false) :: plainW r) = 0; rw [cn_f, cn_plain r]
mutual
theorem cnE : ∀ e : Ex, cn (wE e) = nE e
  | .send r m es => by
    have h1 := cnE r
    have h2 := cnEs es
    simp only [wE, cn_t, cn_f, cn_app, cn_nil, nE]
    omega
  | .up m es => by
    have h2 := cnEs es
    simp only [wE, cn_t, cn_f, cn_app, cn_nil, nE]
    omega
  | .lst es => by
    have h2 := cnEs es
    simp only [wE, cn_t, cn_f, cn_app, cn_nil, nE]
    omega
  | .blk ps ss => by
    have h2 := cnSs ss
    have h3 := cn_plain ps
    simp only [wE, cn_t, cn_f, cn_app, cn_nil, nE]
    omega
  | .num _ => rfl
  | .txt _ => rfl
  | .tru true => rfl
  | .tru false => rfl
  | .non => rfl
  | .slf => rfl
  | .nam _ => rfl
  | .fld _ => rfl
  | .new _ => rfl
theorem cnEs : ∀ e : Exs, cn (wEs e) = nEs e
  | .nil => rfl
  | .cons e r => by
    have h1 := cnE e
    have h2 := cnEs r
    simp only [wEs, cn_app, nEs]
    omega
theorem cnS : ∀ s : St_, cn (wS s) = nS s
  | .set w e => by have h1 := cnE e; simp only [wS, cn_t, cn_f, cn_app, cn_nil, nS]; omega
  | .sfl w e => by have h1 := cnE e; simp only [wS, cn_t, cn_f, cn_app, cn_nil, nS]; omega
  | .pl w e => by have h1 := cnE e; simp only [wS, cn_t, cn_f, cn_app, cn_nil, nS]; omega
  | .iff e a b => by
    have h1 := cnE e
    have h2 := cnSs a
    have h3 := cnSs b
    simp only [wS, cn_t, cn_f, cn_app, cn_nil, nS]
    omega
  | .whl e a => by
    have h1 := cnE e
    have h2 := cnSs a
    simp only [wS, cn_t, cn_f, cn_app, cn_nil, nS]
    omega
  | .tri a w b => by
    have h2 := cnSs a
    have h3 := cnSs b
    simp only [wS, cn_t, cn_f, cn_app, cn_nil, nS]
    omega
theorem cnSs : ∀ e : Sts, cn (wSs e) = nSs e
  | .nil => rfl
  | .cons e r => by
    have h1 := cnS e
    have h2 := cnSs r
    simp only [wSs, cn_app, nSs]
    omega
end
theorem cnM (m : Me) : cn (wM m) = nSs m.ss := by
  have h2 := cnSs m.ss
  have h3 := cn_plain m.ps
  simp only [wM, cn_t, cn_f, cn_app, cn_nil]
  omega
theorem cnMs : ∀ ms : List Me, cn (wMs ms) = (mkMs ms).length
  | [] => rfl
  | m :: r => by
    have h1 := cnM m
    have h2 := cnMs r
    have h3 := mkSs_n m.ss
    unfold wMs mkMs at h2 ⊢
    rw [List.flatMap_cons, List.flatMap_cons, cn_app, List.length_append]
    omega
theorem cnFd : ∀ fs : List T, cn (wFd fs) = 0
  | [] => rfl
  | f :: r => by
    show cn ((tk "field", false) :: (f, false) :: wFd r) = 0
    rw [cn_f, cn_f, cnFd r]
theorem cnT (t : Tr) : cn (wT t) = (mkMs t.ms).length := by
  cases t with
  | kind n p fs ms =>
    have h1 := cnMs ms
    have h2 := cnFd fs
    simp only [wT, cn_f, cn_app, cn_nil, Tr.ms]
    omega
  | more n ms =>
    have h1 := cnMs ms
    simp only [wT, cn_f, cn_app, cn_nil, Tr.ms]
    omega
theorem cn_le : ∀ (ws : List WB) {i : Nat} {w : T}, ws[i]? = some (w, true) → cn (ws.take i) + 1 ≤ cn ws
  | [], i, w, h => by simp at h
  | q :: r, 0, w, h => by
    have e : q = (w, true) := by simpa using h
    subst e
    rw [cn_t]
    show 0 + 1 ≤ 1 + cn r
    omega
  | q :: r, i + 1, w, h => by
    have := cn_le r (i := i) (w := w) (by simpa using h)
    show (if q.2 = true then 1 else 0) + cn (r.take i) + 1 ≤ (if q.2 = true then 1 else 0) + cn r
    omega
theorem turn_get : ∀ (ws : List WB) (ms : List Bool) {i : Nat} {w : T} {b : Bool}, ws[i]? = some (w, b) → (turnW ws ms)[i]? = some (w, if b = true then ms.getD (cn (ws.take i)) false else isTurn w)
  | [], _, i, w, b, h => by simp at h
  | (x, true) :: r, m :: ms, 0, w, b, h => by
    have e : (x, true) = (w, b) := by simpa using h
    injection e with e1 e2
    subst e1 e2
    rfl
  | (x, true) :: r, [], 0, w, b, h => by
    have e : (x, true) = (w, b) := by simpa using h
    injection e with e1 e2
    subst e1 e2
    rfl
  | (x, false) :: r, ms, 0, w, b, h => by
    have e : (x, false) = (w, b) := by simpa using h
    injection e with e1 e2
    subst e1 e2
    rw [tw_f]
    rfl
  | (x, true) :: r, m :: ms, i + 1, w, b, h => by
    have ih := turn_get r ms (i := i) (w := w) (b := b) (by simpa using h)
    rw [tw_t]
    show (turnW r ms)[i]? = some (w, if b = true then (m :: ms).getD (cn ((x, true) :: r.take i)) false else isTurn w)
    rw [cn_t, Nat.add_comm, List.getD_cons_succ]
    exact ih
  | (x, true) :: r, [], i + 1, w, b, h => by
    have ih := turn_get r [] (i := i) (w := w) (b := b) (by simpa using h)
    show (turnW r [])[i]? = some (w, if b = true then ([] : List Bool).getD (cn ((x, true) :: r.take i)) false else isTurn w)
    simpa using ih
  | (x, false) :: r, ms, i + 1, w, b, h => by
    have ih := turn_get r ms (i := i) (w := w) (b := b) (by simpa using h)
    rw [tw_f]
    show (turnW r ms)[i]? = some (w, if b = true then ms.getD (cn ((x, false) :: r.take i)) false else isTurn w)
    rw [cn_f]
    exact ih
/-- one word more -/
theorem row_step {s : List T × T} {w : T} {b : Bool} (hw : w ≠ []) (hz : s.2 = [] → s.1 = []) :
    rowsOf (step s (w, b)) = (if b = true ∨ rowsOf s = [] ∨ 100 < ((rowsOf s).getLastD []).length + 1 + w.length then rowsOf s ++ [w] else (rowsOf s).dropLast ++ [(rowsOf s).getLastD [] ++ 32 :: w]) := by
  by_cases c : s.2 = []
  · have e1 := hz c
    have hr : rowsOf s = [] := by unfold rowsOf; rw [if_pos c]
    rw [if_pos (.inr (.inl hr)), hr]
    unfold step
    rw [if_pos c]
    unfold rowsOf
    rw [if_neg hw, e1]
  · have hr : rowsOf s = s.1 ++ [s.2] := by unfold rowsOf; rw [if_neg c]
    have hl : (rowsOf s).getLastD [] = s.2 := by rw [hr]; simp
    have hd : (rowsOf s).dropLast = s.1 := by rw [hr, List.dropLast_concat]
    have hne : rowsOf s ≠ [] := by rw [hr]; simp
    unfold step
    rw [if_neg c]
    by_cases d : b = true ∨ 100 < s.2.length + 1 + w.length
    · rw [if_pos d, if_pos (by rw [hl]; exact d.elim .inl fun z => .inr (.inr z))]
      have e : rowsOf (s.1 ++ [s.2], w) = (s.1 ++ [s.2]) ++ [w] := by unfold rowsOf; rw [if_neg hw]
      rw [e, hr]
    · rw [if_neg d, if_neg (by rw [hl]; exact fun z => z.elim (fun y => d (.inl y)) fun z => z.elim (fun y => hne y) fun y => d (.inr y))]
      have e : rowsOf (s.1, s.2 ++ 32 :: w) = s.1 ++ [s.2 ++ 32 :: w] := by unfold rowsOf; rw [if_neg (by simp)]
      rw [e, hl, hd]
theorem layd_snoc (b : List WB) (q : WB) : layd (b ++ [q]) = step (layd b) q := by unfold layd; rw [List.foldl_append]; rfl
abbrev tuV : List V := [V.str (Str.ofString "kind"), V.str (Str.ofString "more"), V.str (Str.ofString "field"), V.str (Str.ofString "method"), V.str (Str.ofString "else"), V.str (Str.ofString "taken"), V.str (Str.ofString "end")]
theorem in_wsV (w : T) (ws : List T) : inV (.str (mk w)) (wsV ws) = decide (w ∈ ws) := by
  unfold inV wsV
  rw [List.any_map]
  induction ws with
  | nil => rfl
  | cons z r ih =>
    rw [List.any_cons, ih]
    have e : ((fun y => eqV y (V.str (mk w))) ∘ fun w => V.str (mk w)) z = decide (w = z) := by
      show (mk z == mk w) = decide (w = z)
      by_cases c : w = z
      · rw [c]; simp
      · rw [decide_eq_false c]
        exact beq_eq_false_iff_ne.mpr fun h => c (congrArg tl h).symm
    rw [e]
    by_cases c : w = z
    · simp [c]
    · simp [c]
theorem tu_ws : tuV = wsV TURNs := by
  unfold TURNs
  simp only [wsV_cons, wsV_nil, S_mk]
theorem in_turn (w : T) : inV (.str (mk w)) tuV = isTurn w := by rw [tu_ws, in_wsV]; rfl
end My
set_option Elab.async false
set_option linter.all false
set_option maxRecDepth 100000
set_option maxHeartbeats 8000000
namespace My
open PySem L2 SS
theorem tTs_take (ts : List Tr) {j : Nat} {t : Tr} (h : ts[j]? = some t) : tTs (ts.take (j + 1)) = tTs (ts.take j) ++ tT t := by
  unfold tTs
  rw [List.take_add_one, h, List.flatMap_append]
  simp
theorem rows_ct {b : List WB} (h : ∀ q ∈ b, LayW q.1) : (rowsOf (layd b)).length ≤ 2 * b.length := by
  have h0 := prun_take (ws := mkd b) (fun x hx => by
    rcases mkd_mem hx with h1 | ⟨y, hy, h1⟩
    · rw [h1]; decide
    · rw [h1]
      have := (h y hy).ln
      omega) (mkd b).length (Nat.le_refl _)
  rw [List.take_length] at h0
  have h1 := h0.ct
  rw [prun_rows h] at h1
  have := mkd_len b
  omega
section
variable {P : Program} {w : World} {K : PySem.W.Frag} {mg : Str → Option Value} {base : Heap}
def spDu : Sp := fun vs H Q _ => ∃ (ts : List Tr) (q : Addr) (ys : List V), vs = [.ref q] ∧ H q = some (.tup ys) ∧ AtL AtTr H ts ys ∧ (∀ t ∈ ts, okTr t) ∧ (∀ t ∈ ts, nMs t.ms ≤ 1000) ∧ ts.length ≤ 5 ∧ ∀ H', Same H H' → Q (.str (mk (wrT ts))) H'
theorem scKDu : FnScope ["_law_trees_here", "_law_rows", "_law_tree", "_law_words", "_law_marks", "_law_at", "_law_word_here", "_law_starts", "_law_turn"] ["_law_trees_here"] (defScope sKDu) := ⟨rfl, rfl, rfl, by decide +kernel, rfl, by decide +kernel, by decide +kernel⟩
theorem c_du {k : Nat} (hk : 1 ≤ k) (TS : TxS K mg) (D : Dn K mg "_law_due" sKDu) (GW : C0 P w K mg base k "_law_tree_words" spWTr) (GM : C0 P w K mg base k "_law_marked" spMa) : C0 P w K mg base (k + 1) "_law_due" spDu := by
  obtain ⟨f, fd, F, m⟩ := D.ex
  refine ⟨f, fd, ["_law_trees_here"], F.ok scKDu (fun vs H Q E h => ?_) (fun cdv A outer s H vs Q E hr h => ?_), m, F.kp, F.binds (ps := ["_law_trees_here"]) fun _ _ _ _ _ _ us hl => match us, hl with | [_], _ => rfl⟩
  · obtain ⟨e, v, ys, rfl, _⟩ := h
    rfl
  obtain ⟨ts, q, ys, rfl, hq, hat, hok, hnn, hts, kq⟩ := h
  have ok2 : ∀ t ∈ ts, okNT t := fun t ht => ⟨hok t ht, hnn t ht⟩
  have hlay := tTs_lay ts hok
  have hlen := tTs_len ts ok2
  refine ⟨_, pss_cons (ps_set (i := 1) scKDu.nd rfl (Or.inl rfl) (pe_lst pa_nil)) <|
    pss_cons (ps_for PassesOwn.never rfl (pi_tup (pv 0)) (pg_name (i := 2) scKDu.nd rfl (Or.inl rfl))
      (pss_cons (ps_set (i := 3) scKDu.nd rfl (Or.inl rfl) (pe_cc GW hr (Nat.le_refl _) pass0 (pa_cons (pv 2) pa_nil))) <|
       pss_cons (ps_set (i := 4) scKDu.nd rfl (Or.inl rfl) (pe_cc GM hr (Nat.le_refl _) pass0 (pa_cons (pv 2) pa_nil))) <|
       pss_cons (ps_set (i := 5) scKDu.nd rfl (Or.inl rfl) pe_int) <|
       pss_one (ps_for PassesOwn.never rfl (pi_list (pv 3)) (pg_tup (by rfl) (pgs_cons (pg_name (i := 6) scKDu.nd rfl (Or.inl rfl)) (pgs_cons (pg_name (i := 7) scKDu.nd rfl (Or.inl rfl)) pgs_nil)))
        (C8.pss_cut (ps_set (i := 8) scKDu.nd rfl (Or.inl rfl) (pe_and (pe_cmpR op_in_seq (pv 6) (pe_lst (pa_cons pe_str (pa_cons pe_str (pa_cons pe_str (pa_cons pe_str (pa_cons pe_str (pa_cons pe_str (pa_cons pe_str pa_nil)))))))) (by rfl)) (pe_one (pe_not (pv 7))))) <|
         C8.pss_cut (ps_if (pt_truth (pv 7) (fun _ => rfl)) (pss_cons (ps_set (i := 8) scKDu.nd rfl (Or.inl rfl) (pe_ix (r := rIxL K) ix_list (pv 4) (pv 5) (fun _ _ => rfl))) <| pss_one (ps_set (i := 5) scKDu.nd rfl (Or.inl rfl) (pe_op op_add (pv 5) pe_int))) pss_nil) <|
         pss_one (ps_if (PW.pt (pw_or (pt_truth (pv 8) (fun _ => rfl)) (pw_or (pt_cmpR op_eq (pe_callB call_len_seq (by rfl) TS.len PySem.boot_len (pa_cons (pv 1) pa_nil)) pe_int (nomark _))
            (pw_or1 (pt_cmpR op_gt (pe_op op_add (pe_op op_add (pe_callB call_len_str (by rfl) TS.len PySem.boot_len (pa_cons (pe_ix (r := rIxL K) ix_list (pv 1) (pe_un un_neg pe_int) (fun _ _ => rfl)) pa_nil)) pe_int) (pe_callB call_len_str (by rfl) TS.len PySem.boot_len (pa_cons (pv 6) pa_nil))) pe_int (nomark _))))))
          (pss_one (ps_expr (pe_bm PySem.F.plainAttrs_list PySem.F.slot_list_append PySem.F.type_list_append mt_append (pv 1) (pa_cons (pv 6) pa_nil))))
          (pss_one (ps_asg (pe_op op_add_str (pe_op op_add_str (pe_ix (r := rIxL K) ix_list (pv 1) (pe_un un_neg pe_int) (fun _ _ => rfl)) pe_str) (pv 6)) (pg_sub (pv 1) (pe_un un_neg pe_int) set_list)))))))) <|
    pss_one (ps_ret (pe_join pe_str (pv 1))), ?_⟩
  refine ⟨Nat.zero_le _, fun R hR => ?_⟩
  have s0 := same_new hR (.lst [])
  refine ⟨_, rfl, q, rfl, ⟨_, SqT.of (s0 _ _ hq)⟩, ?_⟩
  have hul := hat.len
  refine for_tup (xs := ys) (fun j σ H1 => ∃ (v2 v3 v4 v5 v6 v7 v8 : Option V), σ = [some (.ref q), some (.ref R), v2, v3, v4, v5, v6, v7, v8] ∧ Same H H1 ∧ H1 R = some (.lst (wsV (rowsOf (layd (tTs (ts.take j))))))) ⟨none, none, none, none, none, none, none, rfl, s0, upd_same⟩ (fun j σ H1 _ ⟨_, _, _, _, _, _, _, _, s1, _⟩ => SqT.of (s1 _ _ hq)) ?_ ?_
  · rintro j u σ H1 hu ⟨v2, v3, v4, v5, v6, v7, v8, rfl, s1, f1⟩
    obtain ⟨t, ht1, hat0⟩ := hat.get hu
    have hmem := List.mem_of_getElem? ht1
    have hokt := ok2 t hmem
    have hpre : ∀ i, ∀ z ∈ tTs (ts.take j) ++ (tT t).take i, LayW z.1 := fun i z hz => hlay z (by
      have e : tTs ts = tTs (ts.take (j + 1)) ++ tTs (ts.drop (j + 1)) := by unfold tTs; rw [← List.flatMap_append, List.take_append_drop]
      rw [e, tTs_take ts ht1]
      rcases List.mem_append.mp hz with h | h
      · exact List.mem_append_left _ (List.mem_append_left _ h)
      · exact List.mem_append_left _ (List.mem_append_right _ (List.mem_of_mem_take h)))
    have hpl : ∀ i, (tTs (ts.take j) ++ (tT t).take i).length ≤ 80000 := fun i => by
      have e : tTs ts = tTs (ts.take (j + 1)) ++ tTs (ts.drop (j + 1)) := by unfold tTs; rw [← List.flatMap_append, List.take_append_drop]
      have e2 := congrArg List.length e
      rw [tTs_take ts ht1, List.length_append, List.length_append] at e2
      have : ((tT t).take i).length ≤ (tT t).length := by rw [List.length_take]; omega
      rw [List.length_append]
      omega
    rw [tTs_take ts ht1]
    have hturn := turn_T t hokt.1
    have hcn := cnT t
    refine ⟨_, rfl, t, u, rfl, hat0.on (same_tups s1), hokt.1, hokt.2, fun H2 Lw s2 w2 => ?_⟩
    have s12 := s1.trans s2
    refine ⟨_, rfl, u, t, rfl, hat0.on (same_tups s12), hokt, fun H3 Lm s3 hLm b3 => ?_⟩
    have s13 := s12.trans s3
    have f3 := s3 _ _ (s2 _ _ f1)
    have w3 := w2.on s3
    obtain ⟨us, hus, hall⟩ := w3
    have hmR : Lm ≠ R := fun e => by rw [e, s2 _ _ f1] at hLm; cases hLm
    have hwR : Lw ≠ R := fun e => by
      rw [e, f3] at hus
      injection hus with e1
      injection e1 with e2
      have hl0 := hall.length
      have hp0 : 0 < (wT t).length := by cases t <;> simp [wT]
      cases us with
      | nil => rw [List.length_nil] at hl0; omega
      | cons x r =>
        obtain ⟨y0, _, py, e3, _⟩ := hall.get (i := 0) (v := x) rfl
        rw [e3] at e2
        cases hrw : rowsOf (layd (tTs (ts.take j))) with
        | nil => rw [hrw] at e2; cases e2
        | cons a b => rw [hrw, wsV_cons] at e2; injection e2 with e4; cases e4
    generalize hms : mkMs t.ms = ms at hturn hcn b3
    have hul2 : us.length = (wT t).length := hall.length
    refine ⟨_, rfl, Lw, rfl, ⟨_, SqL.of hus⟩, ?_⟩
    refine for_list (xs := us) (fun i σ H4 => ∃ (v6 v7 v8 : Option V), σ = [some (.ref q), some (.ref R), some u, some (.ref Lw), some (.ref Lm), some (.int ((cn ((wT t).take i) : Nat) : Int)), v6, v7, v8] ∧ Same H H4 ∧ SB R H3 H4 ∧ H4 R = some (.lst (wsV (rowsOf (layd (tTs (ts.take j) ++ (tT t).take i)))))) ⟨_, _, _, rfl, s13, SB.refl, by rw [List.take_zero, List.append_nil]; exact f3⟩ (fun i σ H4 _ ⟨_, _, _, _, _, sb, _⟩ => SqL.of (sb _ _ hwR hus)) ?_ ?_
    · rintro i u2 σ H4 hu2 ⟨v6, v7, v8, rfl, s4, sb4, f4⟩
      have t34 : Tups H3 H4 := sb4.tups f3
      obtain ⟨y, hy1, py, rfl, hpy⟩ := hall.get hu2
      obtain ⟨z, b⟩ := y
      have hpy4 : H4 py = some (.tup [.str (mk z), .bl b]) := t34 _ _ hpy
      have hi : i < us.length := (List.getElem?_eq_some_iff.mp hu2).1
      have hg := turn_get (wT t) ms hy1
      rw [hturn] at hg
      have hlw : LayW z := hlay (z, if b = true then ms.getD (cn ((wT t).take i)) false else isTurn z) (by
        unfold tTs
        exact List.mem_flatMap.mpr ⟨t, hmem, List.mem_of_getElem? hg⟩)
      obtain ⟨zne, _⟩ := lay_free hlw
      have hzl := hlw.ln
      have ecn : cn ((wT t).take (i + 1)) = cn ((wT t).take i) + if b = true then 1 else 0 := by
        rw [List.take_add_one, hy1, cn_app]
        cases b <;> rfl
      have etk : tTs (ts.take j) ++ (tT t).take (i + 1) = (tTs (ts.take j) ++ (tT t).take i) ++ [(z, if b = true then ms.getD (cn ((wT t).take i)) false else isTurn z)] := by
        rw [List.take_add_one, hg, List.append_assoc]
        rfl
      have hly := layd_all _ (hpre i)
      have hct := rows_ct (hpre i)
      have hpli := hpl i
      have hrow := hly.row
      have hrs := row_step (s := layd (tTs (ts.take j) ++ (tT t).take i)) (w := z) (b := if b = true then ms.getD (cn ((wT t).take i)) false else isTurn z) zne (fun c => (hly.z c).1)
      rw [← layd_snoc, ← etk] at hrs
      rw [hrs]
      generalize rowsOf (layd (tTs (ts.take j) ++ (tT t).take i)) = Rw at f4 hct hrow ⊢
      have hrl : Rw.length ≤ 160000 := by omega
      refine ⟨py, _, rfl, SqT.of hpy4, rfl, _, _, rfl, _, _, rfl, rfl, ?_⟩
      -- the turn by the word
      refine ⟨fun σ H5 => σ = [some (.ref q), some (.ref R), some u, some (.ref Lw), some (.ref Lm), some (.int ((cn ((wT t).take i) : Nat) : Int)), some (.str (mk z)), some (.bl b), some (.bl (isTurn z && !b))] ∧ Same H4 H5, ?_, ?_⟩
      · refine ⟨_, rfl, by show 7 ≤ sizeLine; decide, fun Lt hLt => ⟨Lt, tuV, rfl, .inl (SqL.of upd_same), rfl, rfl, _, rfl, ?_⟩⟩
        show if inV (.str (mk z)) tuV = true then _ else _
        rw [in_turn]
        cases hiz : isTurn z with
        | true => exact iteT ⟨_, rfl, b, rfl, rfl, same_new hLt _⟩
        | false => exact iteF ⟨rfl, same_new hLt _⟩
      rintro σ H5 ⟨rfl, s5⟩
      refine ⟨fun σ H6 => σ = [some (.ref q), some (.ref R), some u, some (.ref Lw), some (.ref Lm), some (.int ((cn ((wT t).take (i + 1)) : Nat) : Int)), some (.str (mk z)), some (.bl b), some (.bl (if b = true then ms.getD (cn ((wT t).take i)) false else isTurn z))] ∧ H6 = H5, ?_, ?_⟩
      · refine ⟨_, rfl, b, rfl, ?_⟩
        cases b with
        | true =>
          refine iteT ?_
          have hlt : cn ((wT t).take i) < ms.length := by
            have := cn_le (wT t) hy1
            omega
          have hgm : (bsV ms)[cn ((wT t).take i)]? = some (.bl (ms.getD (cn ((wT t).take i)) false)) := by
            unfold bsV
            rw [List.getElem?_map, List.getD_eq_getElem?_getD, List.getElem?_eq_getElem hlt]
            rfl
          refine ⟨_, rfl, _, rfl, Lm, bsV ms, _, _, rfl, rfl, SqL.of (s5 _ _ (sb4 _ _ hmR b3)), atI_nat hgm, ?_⟩
          refine ⟨_, rfl, _, _, rfl, rfl, ?_, rfl⟩
          rw [ecn]
          rfl
        | false =>
          refine iteF ?_
          refine ⟨?_, rfl⟩
          rw [ecn]
          cases isTurn z <;> rfl
      rintro σ H6 ⟨rfl, rfl⟩
      generalize (if b = true then ms.getD (cn ((wT t).take i)) false else isTurn z) = tn
      have f6 := s5 _ _ f4
      have s06 := s4.trans s5
      have sb6 := sb4.trans (SB.same s5)
      have app : ∀ (c : tn = true ∨ Rw = [] ∨ 100 < (Rw.getLastD []).length + 1 + z.length), Same H (upd H6 R (.lst (wsV Rw ++ [V.str (mk z)]))) ∧ SB R H3 (upd H6 R (.lst (wsV Rw ++ [V.str (mk z)]))) ∧ upd H6 R (.lst (wsV Rw ++ [V.str (mk z)])) R = some (.lst (wsV (if tn = true ∨ Rw = [] ∨ 100 < (Rw.getLastD []).length + 1 + z.length then Rw ++ [z] else Rw.dropLast ++ [Rw.getLastD [] ++ 32 :: z]))) := fun c => by
        refine ⟨fun x o hb => by rw [upd_ne (ne_of_none hb hR)]; exact s06 _ _ hb, sb6.trans (SB.upd _), ?_⟩
        rw [upd_same, if_pos c, ← wsV_app]
        rfl
      refine ⟨_, rfl, tn, rfl, ?_⟩
      cases tn with
      | true =>
        refine iteT ?_
        refine iteT ?_
        refine ⟨_, rfl, .inl ⟨rfl, _, SqL.of f6⟩, _, rfl, R, _, _, rfl, rfl, f6, by rw [wsV_len, sizeLine_eq]; omega, ?_⟩
        obtain ⟨a1, a2, a3⟩ := app (.inl rfl)
        exact ⟨_, _, _, rfl, a1, a2, a3⟩
      | false =>
        refine iteF ?_
        refine ⟨_, rfl, R, _, rfl, .inl (SqL.of f6), rfl, _, rfl, ?_⟩
        rw [wsV_len]
        by_cases ce : Rw = []
        · have e0 : decide (V.int ((Rw.length : Nat) : Int) = V.int 0) = true := by rw [ce]; decide
          rw [e0]
          refine iteT ?_
          refine iteT ?_
          refine ⟨_, rfl, .inl ⟨rfl, _, SqL.of f6⟩, _, rfl, R, _, _, rfl, rfl, f6, by rw [wsV_len, sizeLine_eq]; omega, ?_⟩
          obtain ⟨a1, a2, a3⟩ := app (.inr (.inl ce))
          exact ⟨_, _, _, rfl, a1, a2, a3⟩
        have e0 : decide (V.int ((Rw.length : Nat) : Int) = V.int 0) = false := decide_eq_false fun e => ce (by
          injection e with e
          have : Rw.length = 0 := by omega
          exact List.length_eq_zero_iff.mp this)
        rw [e0]
        refine iteF ?_
        have hsp := split_last ce
        have hll := (hrow _ (getLastD_mem ce)).ln
        generalize hR1 : Rw.getLastD [] = last at hsp hll app ⊢
        generalize hR0 : Rw.dropLast = R0 at hsp app ⊢
        have hat9 : atI (wsV Rw) (-1) = some (V.str (mk last)) := by
          rw [hsp, ← wsV_app]
          exact atI_last _ _
        refine ⟨_, rfl, 1, rfl, R, _, _, _, rfl, rfl, SqL.of f6, hat9, mk last, rfl, by rw [mk_len, sizeLine_eq]; omega, _, _, rfl, rfl, _, rfl, mk z, rfl, by rw [mk_len, sizeLine_eq]; omega, _, _, rfl, rfl, _, _, rfl, rfl, _, rfl, ?_⟩
        rw [mk_len, mk_len]
        by_cases d : 100 < last.length + 1 + z.length
        · rw [decide_eq_true (show (100 : Int) < ((last.length : Nat) : Int) + 1 + ((z.length : Nat) : Int) by omega)]
          refine iteT ?_
          refine ⟨_, rfl, .inl ⟨rfl, _, SqL.of f6⟩, _, rfl, R, _, _, rfl, rfl, f6, by rw [wsV_len, sizeLine_eq]; omega, ?_⟩
          obtain ⟨a1, a2, a3⟩ := app (.inr (.inr d))
          exact ⟨_, _, _, rfl, a1, a2, a3⟩
        · rw [decide_eq_false (show ¬ (100 : Int) < ((last.length : Nat) : Int) + 1 + ((z.length : Nat) : Int) by omega)]
          refine iteF ?_
          have e2 : mk last ++ Str.ofString " " = mk (last ++ [32]) := by
            rw [add_mk]
            have : tl (Str.ofString " ") = [32] := by decide +kernel
            rw [this]
          have e3 : mk (last ++ [32]) ++ mk z = mk (last ++ 32 :: z) := by
            rw [add_mk]
            show mk ((last ++ [32]) ++ z) = _
            rw [List.append_assoc]
            rfl
          have e1s : (Str.ofString " ").length = 1 := by decide +kernel
          refine ⟨_, rfl, 1, rfl, R, _, _, _, rfl, rfl, SqL.of f6, hat9, _, _, rfl, rfl, by rw [mk_len, e1s, sizeLine_eq]; omega, ?_⟩
          rw [e2]
          refine ⟨_, rfl, _, _, rfl, rfl, by rw [mk_len, mk_len, List.length_append, sizeLine_eq]; simp only [List.length_cons, List.length_nil]; omega, ?_⟩
          rw [e3]
          have hj : ixN (wsV Rw).length (-1) = some R0.length := by
            rw [wsV_len, hsp]
            unfold ixN
            rw [if_neg (by decide), List.length_append]
            rw [if_pos (by simp only [List.length_cons, List.length_nil]; omega)]
            congr 1
            simp only [List.length_cons, List.length_nil]
            omega
          refine ⟨_, rfl, 1, rfl, R, _, -1, R0.length, rfl, rfl, f6, hj, ?_⟩
          refine ⟨_, _, _, rfl, fun x o hb => by rw [upd_ne (ne_of_none hb hR)]; exact s06 _ _ hb, sb6.trans (SB.upd _), ?_⟩
          rw [upd_same, if_neg (fun y => y.elim (fun y => by cases y) fun y => y.elim ce d)]
          congr 2
          rw [hsp]
          unfold wsV
          rw [List.map_append, List.map_append, ← List.length_map (f := fun w => V.str (mk w)) (as := R0), List.set_append_right _ _ (Nat.le_refl _), Nat.sub_self]
          rfl
    rintro σ H4 ⟨v6, v7, v8, rfl, s4, sb4, f4⟩
    have hln : (tT t).length = us.length := by
      have h1 := congrArg List.length (tT_w t)
      simp only [w1, List.length_map] at h1
      omega
    rw [← hln, List.take_length] at f4
    exact ⟨_, _, _, _, _, _, _, rfl, s4, f4⟩
  rintro σ H1 ⟨v2, v3, v4, v5, v6, v7, v8, rfl, s1, f1⟩
  rw [hul, List.take_length] at f1
  have hro : ∀ l ∈ rowsOf (layd (tTs ts)), l.length ≤ 100 := fun l hl => ((wr_ly ts hok).row l hl).ln
  have hrl := rows_ct hlay
  refine ⟨⟨_, rfl⟩, _, rfl, _, R, (rowsOf (layd (tTs ts))).map mk, rfl, rfl, .inl ?_, ?_, ?_⟩
  · have : ((rowsOf (layd (tTs ts))).map mk).map V.str = wsV (rowsOf (layd (tTs ts))) := by unfold wsV; rw [List.map_map]; rfl
    rw [this]
    exact SqL.of f1
  · have e1 : (Str.ofString "\n").length = 1 := by decide +kernel
    rw [e1, List.length_map]
    have : ∀ rs : List T, (∀ l ∈ rs, l.length ≤ 100) → ((rs.map mk).map (·.length)).sum ≤ 100 * rs.length := fun rs => by
      induction rs with
      | nil => intro _; exact Nat.le_refl _
      | cons x r ih =>
        intro h
        have h1 := h x List.mem_cons_self
        have h2 := ih fun y hy => h y (List.mem_cons_of_mem _ hy)
        rw [List.map_cons, List.map_cons, List.sum_cons, mk_len, List.length_cons]
        omega
    have := this _ hro
    omega
  · rw [wr_join ts hok]
    exact kq H1 s1
def spLaw (K : PySem.W.Frag) : Sp := fun vs H Q _ => ∃ (a : Addr) (ns : List Int), vs = [.ref a] ∧ SqL K H a (ns.map V.int) ∧ ns.length ≤ 63 ∧ ∀ H', Q (.bl true) H'
theorem scLaw : FnScope ["_law_script", "_law_deck_here", "_law_trees_here"] ["_law_script"] (defScope sLaw) := ⟨rfl, rfl, rfl, by decide +kernel, rfl, by decide +kernel, by decide +kernel⟩
theorem nMs_nTs : ∀ {ts : List Tr} {t : Tr}, t ∈ ts → nMs t.ms ≤ nTs ts
  | x :: r, t, h => by
    have e : nTs (x :: r) = nMs x.ms + nTs r := by unfold nTs; rw [List.map_cons, List.sum_cons]
    rcases List.mem_cons.mp h with h | h
    · subst h; omega
    · have := nMs_nTs h; omega
theorem ok_law {f : Addr} {fd : FuncData} (F : Fun K "law" "law" sLaw f fd) (TS : TxS K mg)
    (GD : C0 P w K mg base 1 "_law_deck" (spDeck K)) (GN : C0 P w K mg base 1 "_law_next" spNext) (GTr : C0 P w K mg base 89 "_law_trees" spGT) (GW : C0 P w K mg base 89 "written" spWr) (GU : C0 P w K mg base 89 "_law_due" spDu) :
    FnOk P w K mg base CX0 90 f fd ["_law_script"] (spLaw K) := by
  refine F.ok scLaw (fun vs H Q E h => ?_) (fun cdv A outer s H vs Q E hr h => ?_)
  · obtain ⟨a, ns, rfl, _⟩ := h
    rfl
  obtain ⟨a, ns, rfl, hS, hns, k⟩ := h
  refine ⟨_, pss_cons (ps_set (i := 1) scLaw.nd rfl (Or.inl rfl) (pe_cc GD hr (by decide) pass0 (pa_cons (pv 0) pa_nil))) <|
    pss_cons (ps_set (i := 2) scLaw.nd rfl (Or.inl rfl) (pe_cc GTr hr (by decide) pass0 (pa_cons (pv 1) (pa_cons (pe_op op_add pe_int (pe_op op_mod (pe_cc GN hr (by decide) pass0 (pa_cons (pv 1) pa_nil)) pe_int)) pa_nil)))) <|
    pss_one (ps_ret (pe_cmpR op_eq (pe_cc GW hr (by decide) pass0 (pa_cons (pv 2) pa_nil)) (pe_cc GU hr (by decide) pass0 (pa_cons (pv 2) pa_nil)) (nomark _))), ?_⟩
  refine ⟨_, rfl, a, ns, rfl, hS, hns, fun H1 p l xs _ _ _ d0 => ?_⟩
  refine ⟨_, rfl, _, rfl, p, l, 0, 70, xs, rfl, d0, by omega, fun n1 h1 d1 => ?_⟩
  generalize upd H1 p _ = H2 at d1 ⊢
  obtain ⟨c1, ec1, hc1⟩ := emod_nat n1 (n := 12) (by decide)
  refine ⟨_, _, rfl, rfl, (by show (0 : Int) < 12; decide), _, _, rfl, rfl, p, l, 1, xs, _, c1 + 1, rfl, ?_, by omega, d1, by decide, fun ts q ys a' b' H3 s3 d3 ha3 hq hts hok htl hnt => ?_⟩
  · have e1 : n1 % 12 = ((c1 : Nat) : Int) := ec1
    show 1 + n1 % 12 = _
    omega
  have hnn : ∀ t ∈ ts, nMs t.ms ≤ 1000 := fun t ht => by have := nMs_nTs ht; omega
  refine ⟨_, rfl, ts, q, ys, rfl, hq, hts, hok, hnn, by omega, fun H4 s4 => ?_⟩
  refine ⟨_, rfl, ts, q, ys, rfl, s4 _ _ hq, hts.on_ (same_tups s4), hok, hnn, by omega, fun H5 s5 => ?_⟩
  refine ⟨rfl, ?_⟩
  rw [decide_eq_true rfl]
  exact k _
end
end My
set_option Elab.async false
set_option linter.all false
set_option maxRecDepth 100000
set_option maxHeartbeats 8000000
namespace My
open PySem L2 SS
theorem vals_strs : ∀ (zs : List Str) (us : List Value), us.map (fun u => match u with | .str z _ => some z | _ => none) = zs.map some → Vals (zs.map V.str) us
  | [], [], _ => .nil
  | [], u :: us, h => by simp at h
  | z :: zs, [], h => by simp at h
  | z :: zs, u :: us, h => by
    rw [List.map_cons, List.map_cons] at h
    injection h with h1 h2
    refine .cons ?_ (vals_strs zs us h2)
    cases u with
    | str y t =>
      obtain rfl := Option.some.inj h1
      exact ⟨t, rfl⟩
    | _ => cases h1
theorem exm_self {K : PySem.W.Frag} {S : Addr} (h1 : PySem.W.subIn K (.ref S) (.type "BaseException") = some true) (h2 : PySem.W.isClsIn K S = true) (h3 : PySem.W.typeIn K (.ref S) = some (.type "type")) (h4 : PySem.W.subIn K (.ref S) (.ref S) = some true) :
    PySem.W.exmOne K (.ref S) (.ref S) = some true := by
  have e1 : (PySem.W.subIn K (.ref S) (.type "BaseException") == some true) = true := by rw [h1] <;> rfl
  have e2 : ((PySem.W.clsIn K S).isSome && PySem.W.typeIn K (.ref S) == some (.type "type")) = true := by
    have h2' : (PySem.W.clsIn K S).isSome = true := h2
    rw [h2', h3] <;> rfl
  show (if (PySem.W.subIn K (.ref S) (.type "BaseException") == some true) = true then (if ((PySem.W.clsIn K S).isSome && PySem.W.typeIn K (.ref S) == some (.type "type")) = true then PySem.W.subIn K (.ref S) (.ref S) else none) else none) = some true
  rw [if_pos e1, if_pos e2]
  exact h4
/-- two defs of two names stand at two places -/
def nameAt : Option Obj → Str
  | some ⟨_, _, .func fd, _⟩ => fd.name
  | _ => ""
theorem two_places {o1 o2 : Option Obj} (h : nameAt o1 ≠ nameAt o2) : o1 ≠ o2 := fun e => h (by rw [e])
theorem all_mk {l : PySem.W.OpenLaw} {w : World} {K : PySem.W.Frag} {h : Heap} {mg : Str → Option Value} {fa : Addr} (X : K.In h) (G : h.Ns mainGlobals mg) (hfa : mg "law" = some (.ref fa))
    {f0 : Addr} {oc0 kV0 dc0 pm0 cd0 ct0 : Value} {od0 an0 : Option Addr} {sl0 : Array (Option Value)}
    {f1 : Addr} {oc1 kV1 dc1 pm1 cd1 ct1 : Value} {od1 an1 : Option Addr} {sl1 : Array (Option Value)}
    {f2 : Addr} {oc2 kV2 dc2 pm2 cd2 ct2 : Value} {od2 an2 : Option Addr} {sl2 : Array (Option Value)}
    {f3 : Addr} {oc3 kV3 dc3 pm3 cd3 ct3 : Value} {od3 an3 : Option Addr} {sl3 : Array (Option Value)}
    {f4 : Addr} {oc4 kV4 dc4 pm4 cd4 ct4 : Value} {od4 an4 : Option Addr} {sl4 : Array (Option Value)}
    {f5 : Addr} {oc5 kV5 dc5 pm5 cd5 ct5 : Value} {od5 an5 : Option Addr} {sl5 : Array (Option Value)}
    {f6 : Addr} {oc6 kV6 dc6 pm6 cd6 ct6 : Value} {od6 an6 : Option Addr} {sl6 : Array (Option Value)}
    {f7 : Addr} {oc7 kV7 dc7 pm7 cd7 ct7 : Value} {od7 an7 : Option Addr} {sl7 : Array (Option Value)}
    {f8 : Addr} {oc8 kV8 dc8 pm8 cd8 ct8 : Value} {od8 an8 : Option Addr} {sl8 : Array (Option Value)}
    {f9 : Addr} {oc9 kV9 dc9 pm9 cd9 ct9 : Value} {od9 an9 : Option Addr} {sl9 : Array (Option Value)}
    {f10 : Addr} {oc10 kV10 dc10 pm10 cd10 ct10 : Value} {od10 an10 : Option Addr} {sl10 : Array (Option Value)}
    {f11 : Addr} {oc11 kV11 dc11 pm11 cd11 ct11 : Value} {od11 an11 : Option Addr} {sl11 : Array (Option Value)}
    {f12 : Addr} {oc12 kV12 dc12 pm12 cd12 ct12 : Value} {od12 an12 : Option Addr} {sl12 : Array (Option Value)}
    {f13 : Addr} {oc13 kV13 dc13 pm13 cd13 ct13 : Value} {od13 an13 : Option Addr} {sl13 : Array (Option Value)}
    {f14 : Addr} {oc14 kV14 dc14 pm14 cd14 ct14 : Value} {od14 an14 : Option Addr} {sl14 : Array (Option Value)}
    {f15 : Addr} {oc15 kV15 dc15 pm15 cd15 ct15 : Value} {od15 an15 : Option Addr} {sl15 : Array (Option Value)}
    {f16 : Addr} {oc16 kV16 dc16 pm16 cd16 ct16 : Value} {od16 an16 : Option Addr} {sl16 : Array (Option Value)}
    {f17 : Addr} {oc17 kV17 dc17 pm17 cd17 ct17 : Value} {od17 an17 : Option Addr} {sl17 : Array (Option Value)}
    {f18 : Addr} {oc18 kV18 dc18 pm18 cd18 ct18 : Value} {od18 an18 : Option Addr} {sl18 : Array (Option Value)}
    {f19 : Addr} {oc19 kV19 dc19 pm19 cd19 ct19 : Value} {od19 an19 : Option Addr} {sl19 : Array (Option Value)}
    {f20 : Addr} {oc20 kV20 dc20 pm20 cd20 ct20 : Value} {od20 an20 : Option Addr} {sl20 : Array (Option Value)}
    {f21 : Addr} {oc21 kV21 dc21 pm21 cd21 ct21 : Value} {od21 an21 : Option Addr} {sl21 : Array (Option Value)}
    {f22 : Addr} {oc22 kV22 dc22 pm22 cd22 ct22 : Value} {od22 an22 : Option Addr} {sl22 : Array (Option Value)}
    {f23 : Addr} {oc23 kV23 dc23 pm23 cd23 ct23 : Value} {od23 an23 : Option Addr} {sl23 : Array (Option Value)}
    {f24 : Addr} {oc24 kV24 dc24 pm24 cd24 ct24 : Value} {od24 an24 : Option Addr} {sl24 : Array (Option Value)}
    {f25 : Addr} {oc25 kV25 dc25 pm25 cd25 ct25 : Value} {od25 an25 : Option Addr} {sl25 : Array (Option Value)}
    {f26 : Addr} {oc26 kV26 dc26 pm26 cd26 ct26 : Value} {od26 an26 : Option Addr} {sl26 : Array (Option Value)}
    {f27 : Addr} {oc27 kV27 dc27 pm27 cd27 ct27 : Value} {od27 an27 : Option Addr} {sl27 : Array (Option Value)}
    {f28 : Addr} {oc28 kV28 dc28 pm28 cd28 ct28 : Value} {od28 an28 : Option Addr} {sl28 : Array (Option Value)}
    {f29 : Addr} {oc29 kV29 dc29 pm29 cd29 ct29 : Value} {od29 an29 : Option Addr} {sl29 : Array (Option Value)}
    {f30 : Addr} {oc30 kV30 dc30 pm30 cd30 ct30 : Value} {od30 an30 : Option Addr} {sl30 : Array (Option Value)}
    {f31 : Addr} {oc31 kV31 dc31 pm31 cd31 ct31 : Value} {od31 an31 : Option Addr} {sl31 : Array (Option Value)}
    {f32 : Addr} {oc32 kV32 dc32 pm32 cd32 ct32 : Value} {od32 an32 : Option Addr} {sl32 : Array (Option Value)}
    {tms tnr : Tok} {znr : Str}
    (a0 : PySem.W.nsIn K mainGlobals "written" = some (some (.ref f0)))
    (l0 : K.lookup f0 = some ⟨oc0, od0, .func (PySem.W.fnOf "written" "written" (defArgs sVWr) (defBody sVWr) (defScope sVWr) .none kV0 dc0 pm0 an0 cd0 ct0), sl0⟩)
    (c0 : PySem.W.codeIn K cd0 "written" = true)
    (k0 : PySem.W.keepIn K (.ref f0) = true)
    (a1 : PySem.W.nsIn K mainGlobals "rows_with" = some (some (.ref f1)))
    (l1 : K.lookup f1 = some ⟨oc1, od1, .func (PySem.W.fnOf "rows_with" "rows_with" (defArgs sVRw) (defBody sVRw) (defScope sVRw) .none kV1 dc1 pm1 an1 cd1 ct1), sl1⟩)
    (c1 : PySem.W.codeIn K cd1 "rows_with" = true)
    (k1 : PySem.W.keepIn K (.ref f1) = true)
    (a2 : PySem.W.nsIn K mainGlobals "all_words" = some (some (.ref f2)))
    (l2 : K.lookup f2 = some ⟨oc2, od2, .func (PySem.W.fnOf "all_words" "all_words" (defArgs sVAW) (defBody sVAW) (defScope sVAW) .none kV2 dc2 pm2 an2 cd2 ct2), sl2⟩)
    (c2 : PySem.W.codeIn K cd2 "all_words" = true)
    (k2 : PySem.W.keepIn K (.ref f2) = true)
    (a3 : PySem.W.nsIn K mainGlobals "tree_words" = some (some (.ref f3)))
    (l3 : K.lookup f3 = some ⟨oc3, od3, .func (PySem.W.fnOf "tree_words" "tree_words" (defArgs sVTr) (defBody sVTr) (defScope sVTr) .none kV3 dc3 pm3 an3 cd3 ct3), sl3⟩)
    (c3 : PySem.W.codeIn K cd3 "tree_words" = true)
    (k3 : PySem.W.keepIn K (.ref f3) = true)
    (a4 : PySem.W.nsIn K mainGlobals "field_words" = some (some (.ref f4)))
    (l4 : K.lookup f4 = some ⟨oc4, od4, .func (PySem.W.fnOf "field_words" "field_words" (defArgs sVFd) (defBody sVFd) (defScope sVFd) .none kV4 dc4 pm4 an4 cd4 ct4), sl4⟩)
    (c4 : PySem.W.codeIn K cd4 "field_words" = true)
    (k4 : PySem.W.keepIn K (.ref f4) = true)
    (a5 : PySem.W.nsIn K mainGlobals "method_words" = some (some (.ref f5)))
    (l5 : K.lookup f5 = some ⟨oc5, od5, .func (PySem.W.fnOf "method_words" "method_words" (defArgs sVMe) (defBody sVMe) (defScope sVMe) .none kV5 dc5 pm5 an5 cd5 ct5), sl5⟩)
    (c5 : PySem.W.codeIn K cd5 "method_words" = true)
    (k5 : PySem.W.keepIn K (.ref f5) = true)
    (a6 : PySem.W.nsIn K mainGlobals "statement_words" = some (some (.ref f6)))
    (l6 : K.lookup f6 = some ⟨oc6, od6, .func (PySem.W.fnOf "statement_words" "statement_words" (defArgs sVSt) (defBody sVSt) (defScope sVSt) .none kV6 dc6 pm6 an6 cd6 ct6), sl6⟩)
    (c6 : PySem.W.codeIn K cd6 "statement_words" = true)
    (k6 : PySem.W.keepIn K (.ref f6) = true)
    (a7 : PySem.W.nsIn K mainGlobals "expression_words" = some (some (.ref f7)))
    (l7 : K.lookup f7 = some ⟨oc7, od7, .func (PySem.W.fnOf "expression_words" "expression_words" (defArgs sVEx) (defBody sVEx) (defScope sVEx) .none kV7 dc7 pm7 an7 cd7 ct7), sl7⟩)
    (c7 : PySem.W.codeIn K cd7 "expression_words" = true)
    (k7 : PySem.W.keepIn K (.ref f7) = true)
    (a8 : PySem.W.nsIn K mainGlobals "leaf_word" = some (some (.ref f8)))
    (l8 : K.lookup f8 = some ⟨oc8, od8, .func (PySem.W.fnOf "leaf_word" "leaf_word" (defArgs sVLf) (defBody sVLf) (defScope sVLf) .none kV8 dc8 pm8 an8 cd8 ct8), sl8⟩)
    (c8 : PySem.W.codeIn K cd8 "leaf_word" = true)
    (k8 : PySem.W.keepIn K (.ref f8) = true)
    (a9 : PySem.W.nsIn K mainGlobals "_law_deck" = some (some (.ref f9)))
    (l9 : K.lookup f9 = some ⟨oc9, od9, .func (PySem.W.fnOf "_law_deck" "_law_deck" (defArgs sDeck) (defBody sDeck) (defScope sDeck) .none kV9 dc9 pm9 an9 cd9 ct9), sl9⟩)
    (c9 : PySem.W.codeIn K cd9 "_law_deck" = true)
    (k9 : PySem.W.keepIn K (.ref f9) = true)
    (a10 : PySem.W.nsIn K mainGlobals "_law_next" = some (some (.ref f10)))
    (l10 : K.lookup f10 = some ⟨oc10, od10, .func (PySem.W.fnOf "_law_next" "_law_next" (defArgs sNext) (defBody sNext) (defScope sNext) .none kV10 dc10 pm10 an10 cd10 ct10), sl10⟩)
    (c10 : PySem.W.codeIn K cd10 "_law_next" = true)
    (k10 : PySem.W.keepIn K (.ref f10) = true)
    (a11 : PySem.W.nsIn K mainGlobals "_law_word" = some (some (.ref f11)))
    (l11 : K.lookup f11 = some ⟨oc11, od11, .func (PySem.W.fnOf "_law_word" "_law_word" (defArgs sLWord) (defBody sLWord) (defScope sLWord) .none kV11 dc11 pm11 an11 cd11 ct11), sl11⟩)
    (c11 : PySem.W.codeIn K cd11 "_law_word" = true)
    (k11 : PySem.W.keepIn K (.ref f11) = true)
    (a12 : PySem.W.nsIn K mainGlobals "_law_name" = some (some (.ref f12)))
    (l12 : K.lookup f12 = some ⟨oc12, od12, .func (PySem.W.fnOf "_law_name" "_law_name" (defArgs sLName) (defBody sLName) (defScope sLName) .none kV12 dc12 pm12 an12 cd12 ct12), sl12⟩)
    (c12 : PySem.W.codeIn K cd12 "_law_name" = true)
    (k12 : PySem.W.keepIn K (.ref f12) = true)
    (a13 : PySem.W.nsIn K mainGlobals "_law_leaf" = some (some (.ref f13)))
    (l13 : K.lookup f13 = some ⟨oc13, od13, .func (PySem.W.fnOf "_law_leaf" "_law_leaf" (defArgs sLLeaf) (defBody sLLeaf) (defScope sLLeaf) .none kV13 dc13 pm13 an13 cd13 ct13), sl13⟩)
    (c13 : PySem.W.codeIn K cd13 "_law_leaf" = true)
    (k13 : PySem.W.keepIn K (.ref f13) = true)
    (a14 : PySem.W.nsIn K mainGlobals "_law_es" = some (some (.ref f14)))
    (l14 : K.lookup f14 = some ⟨oc14, od14, .func (PySem.W.fnOf "_law_es" "_law_es" (defArgs sGEs) (defBody sGEs) (defScope sGEs) .none kV14 dc14 pm14 an14 cd14 ct14), sl14⟩)
    (c14 : PySem.W.codeIn K cd14 "_law_es" = true)
    (k14 : PySem.W.keepIn K (.ref f14) = true)
    (a15 : PySem.W.nsIn K mainGlobals "_law_e" = some (some (.ref f15)))
    (l15 : K.lookup f15 = some ⟨oc15, od15, .func (PySem.W.fnOf "_law_e" "_law_e" (defArgs sGE) (defBody sGE) (defScope sGE) .none kV15 dc15 pm15 an15 cd15 ct15), sl15⟩)
    (c15 : PySem.W.codeIn K cd15 "_law_e" = true)
    (k15 : PySem.W.keepIn K (.ref f15) = true)
    (a16 : PySem.W.nsIn K mainGlobals "_law_body" = some (some (.ref f16)))
    (l16 : K.lookup f16 = some ⟨oc16, od16, .func (PySem.W.fnOf "_law_body" "_law_body" (defArgs sGB) (defBody sGB) (defScope sGB) .none kV16 dc16 pm16 an16 cd16 ct16), sl16⟩)
    (c16 : PySem.W.codeIn K cd16 "_law_body" = true)
    (k16 : PySem.W.keepIn K (.ref f16) = true)
    (a17 : PySem.W.nsIn K mainGlobals "_law_statement" = some (some (.ref f17)))
    (l17 : K.lookup f17 = some ⟨oc17, od17, .func (PySem.W.fnOf "_law_statement" "_law_statement" (defArgs sGS) (defBody sGS) (defScope sGS) .none kV17 dc17 pm17 an17 cd17 ct17), sl17⟩)
    (c17 : PySem.W.codeIn K cd17 "_law_statement" = true)
    (k17 : PySem.W.keepIn K (.ref f17) = true)
    (a18 : PySem.W.nsIn K mainGlobals "_law_method" = some (some (.ref f18)))
    (l18 : K.lookup f18 = some ⟨oc18, od18, .func (PySem.W.fnOf "_law_method" "_law_method" (defArgs sGM) (defBody sGM) (defScope sGM) .none kV18 dc18 pm18 an18 cd18 ct18), sl18⟩)
    (c18 : PySem.W.codeIn K cd18 "_law_method" = true)
    (k18 : PySem.W.keepIn K (.ref f18) = true)
    (a19 : PySem.W.nsIn K mainGlobals "_law_trees" = some (some (.ref f19)))
    (l19 : K.lookup f19 = some ⟨oc19, od19, .func (PySem.W.fnOf "_law_trees" "_law_trees" (defArgs sGT) (defBody sGT) (defScope sGT) .none kV19 dc19 pm19 an19 cd19 ct19), sl19⟩)
    (c19 : PySem.W.codeIn K cd19 "_law_trees" = true)
    (k19 : PySem.W.keepIn K (.ref f19) = true)
    (a20 : PySem.W.nsIn K mainGlobals "_law_leaf_word" = some (some (.ref f20)))
    (l20 : K.lookup f20 = some ⟨oc20, od20, .func (PySem.W.fnOf "_law_leaf_word" "_law_leaf_word" (defArgs sWLeaf) (defBody sWLeaf) (defScope sWLeaf) .none kV20 dc20 pm20 an20 cd20 ct20), sl20⟩)
    (c20 : PySem.W.codeIn K cd20 "_law_leaf_word" = true)
    (k20 : PySem.W.keepIn K (.ref f20) = true)
    (a21 : PySem.W.nsIn K mainGlobals "_law_all_words" = some (some (.ref f21)))
    (l21 : K.lookup f21 = some ⟨oc21, od21, .func (PySem.W.fnOf "_law_all_words" "_law_all_words" (defArgs sWAll) (defBody sWAll) (defScope sWAll) .none kV21 dc21 pm21 an21 cd21 ct21), sl21⟩)
    (c21 : PySem.W.codeIn K cd21 "_law_all_words" = true)
    (k21 : PySem.W.keepIn K (.ref f21) = true)
    (a22 : PySem.W.nsIn K mainGlobals "_law_plain" = some (some (.ref f22)))
    (l22 : K.lookup f22 = some ⟨oc22, od22, .func (PySem.W.fnOf "_law_plain" "_law_plain" (defArgs sWPlain) (defBody sWPlain) (defScope sWPlain) .none kV22 dc22 pm22 an22 cd22 ct22), sl22⟩)
    (c22 : PySem.W.codeIn K cd22 "_law_plain" = true)
    (k22 : PySem.W.keepIn K (.ref f22) = true)
    (a23 : PySem.W.nsIn K mainGlobals "_law_closed" = some (some (.ref f23)))
    (l23 : K.lookup f23 = some ⟨oc23, od23, .func (PySem.W.fnOf "_law_closed" "_law_closed" (defArgs sWClosed) (defBody sWClosed) (defScope sWClosed) .none kV23 dc23 pm23 an23 cd23 ct23), sl23⟩)
    (c23 : PySem.W.codeIn K cd23 "_law_closed" = true)
    (k23 : PySem.W.keepIn K (.ref f23) = true)
    (a24 : PySem.W.nsIn K mainGlobals "_law_node_words" = some (some (.ref f24)))
    (l24 : K.lookup f24 = some ⟨oc24, od24, .func (PySem.W.fnOf "_law_node_words" "_law_node_words" (defArgs sWNode) (defBody sWNode) (defScope sWNode) .none kV24 dc24 pm24 an24 cd24 ct24), sl24⟩)
    (c24 : PySem.W.codeIn K cd24 "_law_node_words" = true)
    (k24 : PySem.W.keepIn K (.ref f24) = true)
    (a25 : PySem.W.nsIn K mainGlobals "_law_method_words" = some (some (.ref f25)))
    (l25 : K.lookup f25 = some ⟨oc25, od25, .func (PySem.W.fnOf "_law_method_words" "_law_method_words" (defArgs sWMe) (defBody sWMe) (defScope sWMe) .none kV25 dc25 pm25 an25 cd25 ct25), sl25⟩)
    (c25 : PySem.W.codeIn K cd25 "_law_method_words" = true)
    (k25 : PySem.W.keepIn K (.ref f25) = true)
    (a26 : PySem.W.nsIn K mainGlobals "_law_tree_words" = some (some (.ref f26)))
    (l26 : K.lookup f26 = some ⟨oc26, od26, .func (PySem.W.fnOf "_law_tree_words" "_law_tree_words" (defArgs sWTr) (defBody sWTr) (defScope sWTr) .none kV26 dc26 pm26 an26 cd26 ct26), sl26⟩)
    (c26 : PySem.W.codeIn K cd26 "_law_tree_words" = true)
    (k26 : PySem.W.keepIn K (.ref f26) = true)
    (a27 : PySem.W.nsIn K mainGlobals "_law_marked" = some (some (.ref f27)))
    (l27 : K.lookup f27 = some ⟨oc27, od27, .func (PySem.W.fnOf "_law_marked" "_law_marked" (defArgs sKMa) (defBody sKMa) (defScope sKMa) .none kV27 dc27 pm27 an27 cd27 ct27), sl27⟩)
    (c27 : PySem.W.codeIn K cd27 "_law_marked" = true)
    (k27 : PySem.W.keepIn K (.ref f27) = true)
    (a28 : PySem.W.nsIn K mainGlobals "_law_statements" = some (some (.ref f28)))
    (l28 : K.lookup f28 = some ⟨oc28, od28, .func (PySem.W.fnOf "_law_statements" "_law_statements" (defArgs sKSt) (defBody sKSt) (defScope sKSt) .none kV28 dc28 pm28 an28 cd28 ct28), sl28⟩)
    (c28 : PySem.W.codeIn K cd28 "_law_statements" = true)
    (k28 : PySem.W.keepIn K (.ref f28) = true)
    (a29 : PySem.W.nsIn K mainGlobals "_law_inner" = some (some (.ref f29)))
    (l29 : K.lookup f29 = some ⟨oc29, od29, .func (PySem.W.fnOf "_law_inner" "_law_inner" (defArgs sKIn) (defBody sKIn) (defScope sKIn) .none kV29 dc29 pm29 an29 cd29 ct29), sl29⟩)
    (c29 : PySem.W.codeIn K cd29 "_law_inner" = true)
    (k29 : PySem.W.keepIn K (.ref f29) = true)
    (a30 : PySem.W.nsIn K mainGlobals "_law_e_marks" = some (some (.ref f30)))
    (l30 : K.lookup f30 = some ⟨oc30, od30, .func (PySem.W.fnOf "_law_e_marks" "_law_e_marks" (defArgs sKEm) (defBody sKEm) (defScope sKEm) .none kV30 dc30 pm30 an30 cd30 ct30), sl30⟩)
    (c30 : PySem.W.codeIn K cd30 "_law_e_marks" = true)
    (k30 : PySem.W.keepIn K (.ref f30) = true)
    (a31 : PySem.W.nsIn K mainGlobals "_law_due" = some (some (.ref f31)))
    (l31 : K.lookup f31 = some ⟨oc31, od31, .func (PySem.W.fnOf "_law_due" "_law_due" (defArgs sKDu) (defBody sKDu) (defScope sKDu) .none kV31 dc31 pm31 an31 cd31 ct31), sl31⟩)
    (c31 : PySem.W.codeIn K cd31 "_law_due" = true)
    (k31 : PySem.W.keepIn K (.ref f31) = true)
    (a32 : PySem.W.nsIn K mainGlobals "law" = some (some (.ref f32)))
    (l32 : K.lookup f32 = some ⟨oc32, od32, .func (PySem.W.fnOf "law" "law" (defArgs sLaw) (defBody sLaw) (defScope sLaw) .none kV32 dc32 pm32 an32 cd32 ct32), sl32⟩)
    (c32 : PySem.W.codeIn K cd32 "law" = true)
    (k32 : PySem.W.keepIn K (.ref f32) = true)
    (zlen : PySem.W.nsIn K mainGlobals "len" = some none)
    (zall : PySem.W.nsIn K mainGlobals "all" = some none)
    (zmin : PySem.W.nsIn K mainGlobals "min" = some none)
    (ztuple : PySem.W.nsIn K mainGlobals "tuple" = some none)
    (zint : PySem.W.nsIn K mainGlobals "int" = some none)
    (zstr : PySem.W.nsIn K mainGlobals "str" = some none)
    (zenumerate : PySem.W.nsIn K mainGlobals "enumerate" = some none)
    (zrange : PySem.W.nsIn K mainGlobals "range" = some none)
    (zlist : PySem.W.nsIn K mainGlobals "list" = some none)
    (vms : PySem.W.nsIn K mainGlobals "MOST_SIGNS" = some (some (.int 100 tms)))
    (vnr : PySem.W.nsIn K mainGlobals "NEW_ROW" = some (some (.str znr tnr)))
    (enr : znr = Str.ofString "\n")
    : ∃ fd : FuncData, (∀ (s : Shared) (v : Value), BindsTo s fd ⟨[v], []⟩ [("_law_script", v)]) ∧ ∀ base : Heap, K.In base → base.Ns mainGlobals mg → FnOk l.prog w K mg base CX0 90 fa fd ["_law_script"] (spLaw K) := by
  have e := hfa.symm.trans (PySem.W.mg_of X G a32)
  cases e
  have D0 : Dn K mg "written" sVWr := ⟨⟨f0, _, fun_mk l0 c0 k0, PySem.W.mg_of X G a0⟩⟩
  have D1 : Dn K mg "rows_with" sVRw := ⟨⟨f1, _, fun_mk l1 c1 k1, PySem.W.mg_of X G a1⟩⟩
  have D2 : Dn K mg "all_words" sVAW := ⟨⟨f2, _, fun_mk l2 c2 k2, PySem.W.mg_of X G a2⟩⟩
  have D3 : Dn K mg "tree_words" sVTr := ⟨⟨f3, _, fun_mk l3 c3 k3, PySem.W.mg_of X G a3⟩⟩
  have D4 : Dn K mg "field_words" sVFd := ⟨⟨f4, _, fun_mk l4 c4 k4, PySem.W.mg_of X G a4⟩⟩
  have D5 : Dn K mg "method_words" sVMe := ⟨⟨f5, _, fun_mk l5 c5 k5, PySem.W.mg_of X G a5⟩⟩
  have D6 : Dn K mg "statement_words" sVSt := ⟨⟨f6, _, fun_mk l6 c6 k6, PySem.W.mg_of X G a6⟩⟩
  have D7 : Dn K mg "expression_words" sVEx := ⟨⟨f7, _, fun_mk l7 c7 k7, PySem.W.mg_of X G a7⟩⟩
  have D8 : Dn K mg "leaf_word" sVLf := ⟨⟨f8, _, fun_mk l8 c8 k8, PySem.W.mg_of X G a8⟩⟩
  have D9 : Dn K mg "_law_deck" sDeck := ⟨⟨f9, _, fun_mk l9 c9 k9, PySem.W.mg_of X G a9⟩⟩
  have D10 : Dn K mg "_law_next" sNext := ⟨⟨f10, _, fun_mk l10 c10 k10, PySem.W.mg_of X G a10⟩⟩
  have D11 : Dn K mg "_law_word" sLWord := ⟨⟨f11, _, fun_mk l11 c11 k11, PySem.W.mg_of X G a11⟩⟩
  have D12 : Dn K mg "_law_name" sLName := ⟨⟨f12, _, fun_mk l12 c12 k12, PySem.W.mg_of X G a12⟩⟩
  have D13 : Dn K mg "_law_leaf" sLLeaf := ⟨⟨f13, _, fun_mk l13 c13 k13, PySem.W.mg_of X G a13⟩⟩
  have D14 : Dn K mg "_law_es" sGEs := ⟨⟨f14, _, fun_mk l14 c14 k14, PySem.W.mg_of X G a14⟩⟩
  have D15 : Dn K mg "_law_e" sGE := ⟨⟨f15, _, fun_mk l15 c15 k15, PySem.W.mg_of X G a15⟩⟩
  have D16 : Dn K mg "_law_body" sGB := ⟨⟨f16, _, fun_mk l16 c16 k16, PySem.W.mg_of X G a16⟩⟩
  have D17 : Dn K mg "_law_statement" sGS := ⟨⟨f17, _, fun_mk l17 c17 k17, PySem.W.mg_of X G a17⟩⟩
  have D18 : Dn K mg "_law_method" sGM := ⟨⟨f18, _, fun_mk l18 c18 k18, PySem.W.mg_of X G a18⟩⟩
  have D19 : Dn K mg "_law_trees" sGT := ⟨⟨f19, _, fun_mk l19 c19 k19, PySem.W.mg_of X G a19⟩⟩
  have D20 : Dn K mg "_law_leaf_word" sWLeaf := ⟨⟨f20, _, fun_mk l20 c20 k20, PySem.W.mg_of X G a20⟩⟩
  have D21 : Dn K mg "_law_all_words" sWAll := ⟨⟨f21, _, fun_mk l21 c21 k21, PySem.W.mg_of X G a21⟩⟩
  have D22 : Dn K mg "_law_plain" sWPlain := ⟨⟨f22, _, fun_mk l22 c22 k22, PySem.W.mg_of X G a22⟩⟩
  have D23 : Dn K mg "_law_closed" sWClosed := ⟨⟨f23, _, fun_mk l23 c23 k23, PySem.W.mg_of X G a23⟩⟩
  have D24 : Dn K mg "_law_node_words" sWNode := ⟨⟨f24, _, fun_mk l24 c24 k24, PySem.W.mg_of X G a24⟩⟩
  have D25 : Dn K mg "_law_method_words" sWMe := ⟨⟨f25, _, fun_mk l25 c25 k25, PySem.W.mg_of X G a25⟩⟩
  have D26 : Dn K mg "_law_tree_words" sWTr := ⟨⟨f26, _, fun_mk l26 c26 k26, PySem.W.mg_of X G a26⟩⟩
  have D27 : Dn K mg "_law_marked" sKMa := ⟨⟨f27, _, fun_mk l27 c27 k27, PySem.W.mg_of X G a27⟩⟩
  have D28 : Dn K mg "_law_statements" sKSt := ⟨⟨f28, _, fun_mk l28 c28 k28, PySem.W.mg_of X G a28⟩⟩
  have D29 : Dn K mg "_law_inner" sKIn := ⟨⟨f29, _, fun_mk l29 c29 k29, PySem.W.mg_of X G a29⟩⟩
  have D30 : Dn K mg "_law_e_marks" sKEm := ⟨⟨f30, _, fun_mk l30 c30 k30, PySem.W.mg_of X G a30⟩⟩
  have D31 : Dn K mg "_law_due" sKDu := ⟨⟨f31, _, fun_mk l31 c31 k31, PySem.W.mg_of X G a31⟩⟩
  have TS : TxS K mg := ⟨PySem.W.mg_none_of X G zlen, PySem.W.mg_none_of X G zall, PySem.W.mg_none_of X G zmin, PySem.W.mg_none_of X G ztuple, PySem.W.mg_none_of X G zint, PySem.W.mg_none_of X G zstr, PySem.W.mg_none_of X G zenumerate⟩
  have TL_ : TxL mg := ⟨PySem.W.mg_none_of X G zrange, PySem.W.mg_none_of X G zmin⟩
  refine ⟨PySem.W.fnOf "law" "law" (defArgs sLaw) (defBody sLaw) (defScope sLaw) .none kV32 dc32 pm32 an32 cd32 ct32, fun s v => .of_eq rfl, fun base _ _ => ?_⟩
  have GD : C0 l.prog w K mg base 1 "_law_deck" (spDeck K) := c_deck TS TL_ D9
  have GN : C0 l.prog w K mg base 1 "_law_next" spNext := c_next TS D10
  have Glw : C0 l.prog w K mg base 1 "_law_word" (spLWord isFree) := c_lword D11
  have Gln : C0 l.prog w K mg base 1 "_law_name" (spLWord isKindName) := c_lname D12
  have Gll : C0 l.prog w K mg base 2 "_law_leaf" spLLeaf := c_lleaf Glw Gln D13
  have GM : ∀ d, d ≤ 12 → C0 l.prog w K mg base 43 "_law_method" (spGM d) := fun d hd => by
    obtain ⟨_, _, GB⟩ := gen_all (P := l.prog) (w := w) (base := base) TS TL_ D15 D14 D16 D17 GN Glw Gll d
    exact c_gm (k := 42) (by decide) TS TL_ D18 GN Glw (GB.mono (by omega))
  have GTr : C0 l.prog w K mg base 44 "_law_trees" spGT := c_gt (k := 43) (by decide) TS TL_ D19 GN Glw Gln GM
  have Gwl : C0 l.prog w K mg base 1 "_law_leaf_word" spWLeaf := c_wleaf TS D20
  have GpT : C0 l.prog w K mg base 1 "_law_plain" spWPlT := c_wplT D22
  have GpL : C0 l.prog w K mg base 1 "_law_plain" spWPlL := c_wplL D22
  obtain ⟨_, _, Gcl⟩ := knotW (P := l.prog) (w := w) (base := base) TS D24 D21 D23 Gwl GpT 12
  have Gwm : C0 l.prog w K mg base 60 "_law_method_words" spWMe := c_wme (k := 59) (by decide) TS (PySem.W.mg_none_of X G zlist) D25 GpL Gcl
  have Gwt : C0 l.prog w K mg base 61 "_law_tree_words" spWTr := c_wtr (k := 60) (by decide) TS D26 GpL Gwm
  obtain ⟨_, GSt⟩ := knotM (P := l.prog) (w := w) (base := base) D30 D29 D28 12
  have GMa : C0 l.prog w K mg base 43 "_law_marked" spMa := c_ma (k := 42) D27 GSt
  have GU : C0 l.prog w K mg base 62 "_law_due" spDu := c_du (k := 61) (by decide) TS D31 Gwt (GMa.mono (by decide))
  have gfE := PySem.W.mg_of X G a7
  have gfS := PySem.W.mg_of X G a6
  have gfF := PySem.W.mg_of X G a4
  have gfM := PySem.W.mg_of X G a5
  have gfT := PySem.W.mg_of X G a3
  have gNL : GS mg "NEW_ROW" "\n" := ⟨_, PySem.W.mg_of X G vnr, ⟨_, by rw [enr]⟩⟩
  have gMS : GI mg "MOST_SIGNS" 100 := ⟨_, PySem.W.mg_of X G vms, ⟨_, rfl⟩⟩
  have Lf : C0 l.prog w K mg base 1 "leaf_word" spLf := c_lf TS D8
  obtain ⟨_, _, _, GAS⟩ := knotX (P := l.prog) (w := w) (base := base) gfE gfS gNL D7 D6 D2 Lf 12
  have WM : C0 l.prog w K mg base 43 "method_words" (spWA AtM tM okNM) := c_me (k := 42) gfS gNL D5 GAS
  have GAM : C0 l.prog w K mg base 44 "all_words" (spAW f5 AtM tM okNM) := c_aw (fun H H' x v t h => h.on t) D2 (held_of WM gfM)
  have WF : C0 l.prog w K mg base 1 "field_words" (spWA atFd wFd1 fun _ => True) := c_fd gNL D4
  have GAF : C0 l.prog w K mg base 2 "all_words" (spAW f4 atFd wFd1 fun _ => True) := c_aw (fun H H' x v t h => h) D2 (held_of WF gfF)
  have WT : C0 l.prog w K mg base 45 "tree_words" (spWA AtTr tT okNT) := c_tr (k := 44) (by decide) gfF gfM gNL D3 GAF GAM
  have GAT : C0 l.prog w K mg base 46 "all_words" (spAW f3 AtTr tT okNT) := c_aw (fun H H' x v t h => h.on t) D2 (held_of WT gfT)
  have RW : C0 l.prog w K mg base 1 "rows_with" spRw := c_rw TS gNL gMS D1
  have WR : C0 l.prog w K mg base 47 "written" spWr := c_wr (k := 46) (by decide) gfT D0 RW GAT
  exact ok_law (fun_mk l32 c32 k32) TS GD GN (GTr.mono (by decide)) (WR.mono (by decide)) (GU.mono (by decide))
end My
open PySem PySem.W PyProof.Rows in
set_option maxRecDepth 100000 in
set_option maxHeartbeats 0 in
theorem PySem.Challenge.cw_sendstead_k09_rows_written_holds : PySem.Challenge.rw_sendstead_k09_rows_written.Holds := by
  w_on; o_law; k_head; (case hw => w_witness2)
  k_fill
  refine L2.walk_of (l := PySem.Challenge.rw_sendstead_k09_rows_written) (n := 63) (k := 90) (x := "_law_script") (CX := fun _ => L2.CX0) (sp := fun w => My.spLaw _) rfl (by decide) rfl ⟨rfl, by decide, by decide⟩ (fun w h Y => PySem.W.kIn_of Y) ?F (fun _ _ a ns hl _ hS => ⟨a, ns, rfl, hS, hl, fun _ => rfl⟩) fun _ _ _ _ _ z => z
  case F =>
    intro w mg fa h KX G hmg
    refine' My.all_mk KX G hmg ?a0 ?l0 ?c0 ?k0 ?a1 ?l1 ?c1 ?k1 ?a2 ?l2 ?c2 ?k2 ?a3 ?l3 ?c3 ?k3 ?a4 ?l4 ?c4 ?k4 ?a5 ?l5 ?c5 ?k5 ?a6 ?l6 ?c6 ?k6 ?a7 ?l7 ?c7 ?k7 ?a8 ?l8 ?c8 ?k8 ?a9 ?l9 ?c9 ?k9 ?a10 ?l10 ?c10 ?k10 ?a11 ?l11 ?c11 ?k11 ?a12 ?l12 ?c12 ?k12 ?a13 ?l13 ?c13 ?k13 ?a14 ?l14 ?c14 ?k14 ?a15 ?l15 ?c15 ?k15 ?a16 ?l16 ?c16 ?k16 ?a17 ?l17 ?c17 ?k17 ?a18 ?l18 ?c18 ?k18 ?a19 ?l19 ?c19 ?k19 ?a20 ?l20 ?c20 ?k20 ?a21 ?l21 ?c21 ?k21 ?a22 ?l22 ?c22 ?k22 ?a23 ?l23 ?c23 ?k23 ?a24 ?l24 ?c24 ?k24 ?a25 ?l25 ?c25 ?k25 ?a26 ?l26 ?c26 ?k26 ?a27 ?l27 ?c27 ?k27 ?a28 ?l28 ?c28 ?k28 ?a29 ?l29 ?c29 ?k29 ?a30 ?l30 ?c30 ?k30 ?a31 ?l31 ?c31 ?k31 ?a32 ?l32 ?c32 ?k32 ?zlen ?zall ?zmin ?ztuple ?zint ?zstr ?zenumerate ?zrange ?zlist ?vms ?vnr ?enr
    (case a0 => k_is)
    (case l0 => k_is)
    (case c0 => k_is)
    (case k0 => k_is)
    (case a1 => k_is)
    (case l1 => k_is)
    (case c1 => k_is)
    (case k1 => k_is)
    (case a2 => k_is)
    (case l2 => k_is)
    (case c2 => k_is)
    (case k2 => k_is)
    (case a3 => k_is)
    (case l3 => k_is)
    (case c3 => k_is)
    (case k3 => k_is)
    (case a4 => k_is)
    (case l4 => k_is)
    (case c4 => k_is)
    (case k4 => k_is)
    (case a5 => k_is)
    (case l5 => k_is)
    (case c5 => k_is)
    (case k5 => k_is)
    (case a6 => k_is)
    (case l6 => k_is)
    (case c6 => k_is)
    (case k6 => k_is)
    (case a7 => k_is)
    (case l7 => k_is)
    (case c7 => k_is)
    (case k7 => k_is)
    (case a8 => k_is)
    (case l8 => k_is)
    (case c8 => k_is)
    (case k8 => k_is)
    (case a9 => k_is)
    (case l9 => k_is)
    (case c9 => k_is)
    (case k9 => k_is)
    (case a10 => k_is)
    (case l10 => k_is)
    (case c10 => k_is)
    (case k10 => k_is)
    (case a11 => k_is)
    (case l11 => k_is)
    (case c11 => k_is)
    (case k11 => k_is)
    (case a12 => k_is)
    (case l12 => k_is)
    (case c12 => k_is)
    (case k12 => k_is)
    (case a13 => k_is)
    (case l13 => k_is)
    (case c13 => k_is)
    (case k13 => k_is)
    (case a14 => k_is)
    (case l14 => k_is)
    (case c14 => k_is)
    (case k14 => k_is)
    (case a15 => k_is)
    (case l15 => k_is)
    (case c15 => k_is)
    (case k15 => k_is)
    (case a16 => k_is)
    (case l16 => k_is)
    (case c16 => k_is)
    (case k16 => k_is)
    (case a17 => k_is)
    (case l17 => k_is)
    (case c17 => k_is)
    (case k17 => k_is)
    (case a18 => k_is)
    (case l18 => k_is)
    (case c18 => k_is)
    (case k18 => k_is)
    (case a19 => k_is)
    (case l19 => k_is)
    (case c19 => k_is)
    (case k19 => k_is)
    (case a20 => k_is)
    (case l20 => k_is)
    (case c20 => k_is)
    (case k20 => k_is)
    (case a21 => k_is)
    (case l21 => k_is)
    (case c21 => k_is)
    (case k21 => k_is)
    (case a22 => k_is)
    (case l22 => k_is)
    (case c22 => k_is)
    (case k22 => k_is)
    (case a23 => k_is)
    (case l23 => k_is)
    (case c23 => k_is)
    (case k23 => k_is)
    (case a24 => k_is)
    (case l24 => k_is)
    (case c24 => k_is)
    (case k24 => k_is)
    (case a25 => k_is)
    (case l25 => k_is)
    (case c25 => k_is)
    (case k25 => k_is)
    (case a26 => k_is)
    (case l26 => k_is)
    (case c26 => k_is)
    (case k26 => k_is)
    (case a27 => k_is)
    (case l27 => k_is)
    (case c27 => k_is)
    (case k27 => k_is)
    (case a28 => k_is)
    (case l28 => k_is)
    (case c28 => k_is)
    (case k28 => k_is)
    (case a29 => k_is)
    (case l29 => k_is)
    (case c29 => k_is)
    (case k29 => k_is)
    (case a30 => k_is)
    (case l30 => k_is)
    (case c30 => k_is)
    (case k30 => k_is)
    (case a31 => k_is)
    (case l31 => k_is)
    (case c31 => k_is)
    (case k31 => k_is)
    (case a32 => k_is)
    (case l32 => k_is)
    (case c32 => k_is)
    (case k32 => k_is)
    (case zlen => k_is)
    (case zall => k_is)
    (case zmin => k_is)
    (case ztuple => k_is)
    (case zint => k_is)
    (case zstr => k_is)
    (case zenumerate => k_is)
    (case zrange => k_is)
    (case zlist => k_is)
    (case vms => k_is)
    (case vnr => k_is)
    (case enr => decide +kernel)
