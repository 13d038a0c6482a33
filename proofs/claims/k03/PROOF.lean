import PyProof.Rows.All
import Wide.All
import OpenK.AllK
import Wide.FinOn
import HandS.ForMost
import HandS.ForExc
import HandS.ExcInit
import HandS.ExcField
import HandS.FStr
import HandS.CallLocal
import HandS.SortKw
import HandS.StrMore
import HandS.Flow
import HandS.CallSlots
import HandS.TupAny
import HandS.ClsMeth
import HandS.Walk
import KE.DataMinMax
import KE.GoesEnumKw
import KE.IntTextLaws
import HandS.Codes
import HandS.Defaults
import HandS.IsInst
import HandS.OwnEq
import KE.KCallOwn
import HandS.RaiseMore
import PyProof.P3Eq
import PySem.Challenge.RW_sendstead_k03_whole_pages_read
set_option Elab.async false
set_option linter.all false
set_option maxRecDepth 100000
set_option maxHeartbeats 4000000
section
/-! the mathematics of texts, rows and words: plain lists of codes -/
set_option autoImplicit false
namespace SS
abbrev T := List Nat
def BR : T := [40, 41, 123, 125, 91, 93, 124]
def isSep (c : Nat) : Bool := decide (c = 32) || decide (c ∈ BR)
def flush (cur : T) (k : Nat) : List (T × Nat) := if cur = [] then [] else [(cur, k - cur.length)]
/-- the words of what is left of a row, cur being read ahead of column k -/
def rw_ : T → Nat → T → List (T × Nat)
  | cur, k, [] => flush cur k
  | cur, k, c :: r => if isSep c = true then flush cur k ++ (if c = 32 then [] else [([c], k)]) ++ rw_ [] (k + 1) r else rw_ (cur ++ [c]) (k + 1) r
def rowWords (l : T) : List (T × Nat) := rw_ [] 1 l

def SMALL : T := (List.range 26).map (· + 97)
def CAPS : T := (List.range 26).map (· + 65)
def FIGS : T := (List.range 10).map (· + 48)
def TEXTS : T := SMALL ++ CAPS ++ FIGS ++ [95]
def hasOnly (w s : T) : Bool := w.all fun c => decide (c ∈ s)
def isName (w first others : T) : Bool := decide (1 ≤ w.length ∧ w.length ≤ 12) && (decide ((w.getD 0 0) ∈ first) && hasOnly w others)
def isSmall (w : T) : Bool := isName w SMALL (SMALL ++ FIGS)
def isKindName (w : T) : Bool := isName w CAPS (SMALL ++ CAPS ++ FIGS)
def isText (w : T) : Bool := decide (w.length ≤ 40) && hasOnly w TEXTS

/-- one word that is none, or the row too long: the first column -/
def cols (isW : T → Bool) (p : List (T × Nat)) (n : Nat) : List Nat := (p.filter fun q => !isW q.1).map (·.2) ++ (if n > 120 then [121] else [])
def minOf : List Nat → Option Nat
  | [] => none
  | a :: r => match minOf r with
    | none => some a
    | some b => some (if b < a then b else a)
theorem minOf_none : ∀ {l : List Nat}, minOf l = none ↔ l = []
  | [] => by simp [minOf]
  | a :: r => by
    simp only [minOf]
    split <;> simp
theorem minOf_some : ∀ {l : List Nat} {m : Nat}, minOf l = some m ↔ m ∈ l ∧ ∀ y ∈ l, m ≤ y
  | [], m => by simp [minOf]
  | a :: r, m => by
    simp only [minOf]
    cases e : minOf r with
    | none =>
      have e' := minOf_none.mp e
      subst e'
      simp
      constructor
      · intro h; subst h; simp
      · intro h; exact h.1.symm
    | some b =>
      have ih := (minOf_some (l := r) (m := b)).mp e
      simp only [Option.some.injEq]
      constructor
      · intro h
        split at h
        · subst h
          refine ⟨List.mem_cons_of_mem _ ih.1, fun y hy => ?_⟩
          rcases List.mem_cons.mp hy with h | h
          · subst h; omega
          · exact ih.2 y h
        · subst h
          refine ⟨List.mem_cons_self, fun y hy => ?_⟩
          rcases List.mem_cons.mp hy with h | h
          · omega
          · have := ih.2 y h; omega
      · rintro ⟨h1, h2⟩
        have ha := h2 a List.mem_cons_self
        have hb := h2 b (List.mem_cons_of_mem _ ih.1)
        rcases List.mem_cons.mp h1 with h | h
        · subst h
          split
          · omega
          · rfl
        · have := ih.2 m h
          split <;> omega
def wrongCol (isW : T → Bool) (p : List (T × Nat)) (n : Nat) : Option Nat := minOf (cols isW p n)

abbrev W := T × Nat × Nat
def lay (r : Nat) (p : List (T × Nat)) : List W := p.map fun q => (q.1, r, q.2)
def scanGo (isW : T → Bool) : Nat → List T → List W × Option (Nat × Nat)
  | _, [] => ([], none)
  | r, l :: ls => match wrongCol isW (rowWords l) l.length with
    | some c => (lay r ((rowWords l).filter fun q => decide (q.2 < c)), some (r, c))
    | none => (lay r (rowWords l) ++ (scanGo isW (r + 1) ls).1, (scanGo isW (r + 1) ls).2)
def scan (isW : T → Bool) (rows : List T) : List W × Option (Nat × Nat) :=
  match (scanGo isW 1 (rows.take 300)).2 with
  | some p => ((scanGo isW 1 (rows.take 300)).1, some p)
  | none => ((scanGo isW 1 (rows.take 300)).1, if rows.length > 300 then some (301, 1) else none)

/-! ### rows: facts -/
theorem flush_nil (k : Nat) : flush [] k = [] := rfl
theorem rw_sep {cur : T} {k c : Nat} {r : T} (h : isSep c = true) : rw_ cur k (c :: r) = flush cur k ++ (if c = 32 then [] else [([c], k)]) ++ rw_ [] (k + 1) r := by
  rw [rw_, if_pos h]
theorem rw_on {cur : T} {k c : Nat} {r : T} (h : isSep c = false) : rw_ cur k (c :: r) = rw_ (cur ++ [c]) (k + 1) r := by
  rw [rw_, if_neg (by rw [h]; decide)]
theorem rw_blank {cur : T} {k : Nat} {r : T} : rw_ cur k (32 :: r) = flush cur k ++ rw_ [] (k + 1) r := by
  rw [rw_sep (by decide)]
  simp
theorem rw_blanks : ∀ (n k : Nat) (r : T), rw_ [] k (List.replicate n 32 ++ r) = rw_ [] (k + n) r
  | 0, k, r => rfl
  | n + 1, k, r => by
    rw [List.replicate_succ, List.cons_append, rw_blank, flush_nil, List.nil_append, rw_blanks n (k + 1) r]
    congr 1
    omega
theorem rw_tail (cur : T) (k n : Nat) : rw_ cur k (List.replicate n 32) = flush cur k := by
  cases n with
  | zero => rfl
  | succ n =>
    rw [List.replicate_succ, rw_blank]
    have := rw_blanks n (k + 1) []
    rw [List.append_nil] at this
    rw [this]
    simp [rw_, flush]
/-- a plain word, then what ends it -/
theorem rw_word : ∀ (w cur : T) (k : Nat) (r : T), (w.all fun c => !isSep c) = true → rw_ cur k (w ++ r) = rw_ (cur ++ w) (k + w.length) r
  | [], cur, k, r, _ => by simp
  | c :: w, cur, k, r, h => by
    rw [List.all_cons, Bool.and_eq_true] at h
    rw [List.cons_append, rw_on (by simpa using h.1), rw_word w _ _ _ h.2, List.append_assoc, List.singleton_append, List.length_cons]
    congr 1
    omega
theorem flush_word {w : T} {k : Nat} (h : w ≠ []) : flush w (k + w.length) = [(w, k)] := by
  unfold flush
  rw [if_neg h]
  congr 2
  omega
theorem rw_word1 {w : T} {k : Nat} {r : T} (h : w ≠ []) (hs : (w.all fun c => !isSep c) = true) : rw_ [] k (w ++ 32 :: r) = (w, k) :: rw_ [] (k + w.length + 1) r := by
  rw [rw_word w [] k _ hs, List.nil_append, rw_blank, flush_word h]
  rfl
theorem rw_wordEnd {w : T} {k n : Nat} (h : w ≠ []) (hs : (w.all fun c => !isSep c) = true) : rw_ [] k (w ++ List.replicate n 32) = [(w, k)] := by
  rw [rw_word w [] k _ hs, List.nil_append, rw_tail, flush_word h]
theorem rw_ge : ∀ (r cur : T) (k m : Nat), m + cur.length ≤ k → ∀ q ∈ rw_ cur k r, m ≤ q.2
  | [], cur, k, m, h, q, hq => by
    rw [rw_] at hq
    unfold flush at hq
    split at hq
    · simp at hq
    · simp at hq; subst hq; show m ≤ k - cur.length; omega
  | c :: r, cur, k, m, h, q, hq => by
    rw [rw_] at hq
    split at hq
    · rcases List.mem_append.mp hq with hq | hq
      · rcases List.mem_append.mp hq with hq | hq
        · unfold flush at hq
          split at hq
          · simp at hq
          · simp at hq; subst hq; show m ≤ k - cur.length; omega
        · split at hq
          · simp at hq
          · simp at hq; subst hq; show m ≤ k; omega
      · exact rw_ge r [] (k + 1) m (by simp; omega) q hq
    · exact rw_ge r (cur ++ [c]) (k + 1) m (by simp; omega) q hq
/-- the loop over a row, sign by sign -/
def sl (L : T) (a b : Nat) : T := (L.drop a).take (b - a)
theorem sl_snoc {L : T} {a b c : Nat} (h : a ≤ b) (hc : L[b]? = some c) : sl L a (b + 1) = sl L a b ++ [c] := by
  unfold sl
  have e : b + 1 - a = (b - a) + 1 := by omega
  rw [e, List.take_add_one, List.getElem?_drop]
  have e2 : a + (b - a) = b := by omega
  rw [e2, hc]
  rfl
theorem sl_len {L : T} {a b : Nat} (hb : b ≤ L.length) : (sl L a b).length = b - a := by
  unfold sl
  rw [List.length_take, List.length_drop]
  omega
theorem sl_self (L : T) (a : Nat) : sl L a a = [] := by simp [sl]
theorem sl_nil {L : T} {a b : Nat} (hb : b ≤ L.length) (h : ¬ a < b) : sl L a b = [] := by
  have := sl_len (a := a) hb
  exact List.eq_nil_of_length_eq_zero (by omega)
theorem drop_at {L : T} {b c : Nat} (hc : L[b]? = some c) : L.drop b = c :: L.drop (b + 1) := by
  obtain ⟨h, e⟩ := List.getElem?_eq_some_iff.mp hc
  rw [List.drop_eq_getElem_cons h, e]
/-- a turn at a sign that ends no word -/
theorem turn_on {L : T} {a b c : Nat} {ps : List (T × Nat)} (h : a ≤ b) (hc : L[b]? = some c) (hs : isSep c = false)
    (I : ps ++ rw_ (sl L a b) (b + 1) (L.drop b) = rowWords L) : ps ++ rw_ (sl L a (b + 1)) (b + 1 + 1) (L.drop (b + 1)) = rowWords L := by
  rw [drop_at hc, rw_on hs] at I
  rw [sl_snoc h hc]
  exact I
/-- a turn at a sign that ends one -/
theorem turn_sep {L : T} {a b c : Nat} {ps : List (T × Nat)} (h : a ≤ b) (hc : L[b]? = some c) (hs : isSep c = true)
    (I : ps ++ rw_ (sl L a b) (b + 1) (L.drop b) = rowWords L) :
    (ps ++ (if a < b then [(sl L a b, a + 1)] else [])) ++ (if c = 32 then [] else [([c], b + 1)]) ++ rw_ (sl L (b + 1) (b + 1)) (b + 1 + 1) (L.drop (b + 1)) = rowWords L := by
  rw [drop_at hc, rw_sep hs] at I
  rw [sl_self, ← I]
  have hb : b < L.length := (List.getElem?_eq_some_iff.mp hc).1
  have e : flush (sl L a b) (b + 1) = if a < b then [(sl L a b, a + 1)] else [] := by
    unfold flush
    by_cases q : a < b
    · have n : sl L a b ≠ [] := fun z => by
        have := sl_len (L := L) (a := a) (b := b) (by omega)
        rw [z] at this
        simp at this
        omega
      rw [if_neg n, if_pos q, sl_len (by omega)]
      congr 2
      omega
    · rw [if_neg q, if_pos (sl_nil (by omega) q)]
  rw [e]
  simp only [List.append_assoc]
/-- the last turn, at the blank behind the row -/
theorem turn_last {L : T} {a : Nat} {ps : List (T × Nat)} (h : a ≤ L.length)
    (I : ps ++ rw_ (sl L a L.length) (L.length + 1) (L.drop L.length) = rowWords L) :
    ps ++ (if a < L.length then [(sl L a L.length, a + 1)] else []) = rowWords L := by
  rw [List.drop_length] at I
  rw [← I, rw_]
  have e : flush (sl L a L.length) (L.length + 1) = if a < L.length then [(sl L a L.length, a + 1)] else [] := by
    unfold flush
    by_cases q : a < L.length
    · have n : sl L a L.length ≠ [] := fun z => by
        have := sl_len (L := L) (a := a) (b := L.length) (by omega)
        rw [z] at this
        simp at this
        omega
      rw [if_neg n, if_pos q, sl_len (by omega)]
      congr 2
      omega
    · rw [if_neg q, if_pos (sl_nil (by omega) q)]
  rw [e]
theorem rw_len : ∀ (r cur : T) (k : Nat), (rw_ cur k r).length ≤ (flush cur k).length + 2 * r.length
  | [], cur, k => by simp [rw_]
  | c :: r, cur, k => by
    rw [rw_]
    split
    · have h := rw_len r [] (k + 1)
      rw [flush_nil, List.length_nil] at h
      rw [List.length_append, List.length_append]
      have h2 : (if c = 32 then ([] : List (T × Nat)) else [([c], k)]).length ≤ 1 := by split <;> simp
      simp only [List.length_cons]
      omega
    · have h := rw_len r (cur ++ [c]) (k + 1)
      have h1 : (flush (cur ++ [c]) (k + 1)).length ≤ 1 := by unfold flush; split <;> simp
      simp only [List.length_cons]
      omega
theorem rowWords_len (l : T) : (rowWords l).length ≤ 2 * l.length := by
  have h := rw_len l [] 1
  rw [flush_nil, List.length_nil, Nat.zero_add] at h
  exact h

/-! ### statements, rows of the law -/
abbrev tDo : T := [100, 111]
abbrev tSay : T := [115, 97, 121]
abbrev tRet : T := [114, 101, 116, 117, 114, 110]
abbrev t1 : T := [49]
abbrev tQx : T := [39, 120]
abbrev tQabc : T := [39, 97, 98, 99]
abbrev tSelf : T := [115, 101, 108, 102]
abbrev tNone : T := [110, 111, 110, 101]
abbrev tX : T := [120]
abbrev tSet : T := [58, 61]
abbrev tRb : T := [93]
abbrev tEnd : T := [101, 110, 100]
/-- the es that stand in these statements -/
def Leaf (e : T) : Prop := e = t1 ∨ e = tQx ∨ e = tQabc ∨ e = tSelf ∨ e = tNone
def Plain (a : T) : Prop := a = tDo ∨ a = tSay ∨ a = tRet
inductive Stms : List T → Prop
  | nil : Stms []
  | plain {a e : T} {r : List T} : Plain a → Leaf e → Stms r → Stms (a :: e :: r)
  | set {e : T} {r : List T} : Leaf e → Stms r → Stms (tX :: tSet :: e :: r)
theorem Stms.append : ∀ {a b : List T}, Stms a → Stms b → Stms (a ++ b)
  | _, _, .nil, h => h
  | _, _, .plain p q r, h => .plain p q (r.append h)
  | _, _, .set q r, h => .set q (r.append h)
abbrev Out := List (T × Nat) × Option Nat
def outOf (isW : T → Bool) (l : T) : Out := match wrongCol isW (rowWords l) l.length with
  | some c => ((rowWords l).filter (fun q => decide (q.2 < c)), some c)
  | none => (rowWords l, none)
def scanO : Nat → List Out → List W × Option (Nat × Nat)
  | _, [] => ([], none)
  | r, o :: os => match o.2 with
    | some c => (lay r o.1, some (r, c))
    | none => (lay r o.1 ++ (scanO (r + 1) os).1, (scanO (r + 1) os).2)
theorem scanO_eq (isW : T → Bool) : ∀ (ls : List T) (r : Nat), scanGo isW r ls = scanO r (ls.map (outOf isW))
  | [], r => rfl
  | l :: ls, r => by
    rw [List.map_cons, scanGo, scanO, scanO_eq isW ls (r + 1)]
    unfold outOf
    cases wrongCol isW (rowWords l) l.length <;> rfl
abbrev texts (o : List (T × Nat)) : List T := o.map (·.1)
theorem lay_texts (r : Nat) (p : List (T × Nat)) : (lay r p).map (·.1) = texts p := by
  unfold lay texts
  rw [List.map_map]
  rfl
/-- what is known of the row with number ρ: A the long one's, B the odd one's -/
def InfoAt (A B aw bk : Nat) (ρ : Nat) (o : Out) : Prop :=
  if ρ = A then Stms (texts o.1) ∧ o.2 = (if aw = 1 then some 121 else none)
  else if ρ = B ∧ bk = 1 then o = ([(tDo, 1), (tRb, 4)], none)
  else if ρ = B ∧ bk = 2 then o = ([], some 1)
  else Stms (texts o.1) ∧ o.2 = none
def sgn (A B aw bk : Nat) (r n : Nat) : Option (Nat × Nat) :=
  if (aw = 1 ∧ r ≤ A ∧ A < r + n) ∧ ((bk = 2 ∧ r ≤ B ∧ B < r + n) → A < B) then some (A, 121)
  else if bk = 2 ∧ r ≤ B ∧ B < r + n then some (B, 1) else none
def wrd (A B aw bk : Nat) (r n : Nat) : Option (Nat × Nat) :=
  if bk = 1 ∧ r ≤ B ∧ B < r + n ∧ ((aw = 1 ∧ r ≤ A) → B < A) then some (B, 4) else none
/-- words that are statements, up to a do ] at a place, if there is one -/
def Body (w : List W) : Option (Nat × Nat) → Prop
  | none => Stms (w.map (·.1))
  | some p => ∃ S q rest, w = S ++ (tDo, q) :: (tRb, p) :: rest ∧ Stms (S.map (·.1))
theorem Body.ahead {a w : List W} {o : Option (Nat × Nat)} (h : Stms (a.map (·.1))) (b : Body w o) : Body (a ++ w) o := by
  cases o with
  | none =>
    show Stms _
    rw [List.map_append]
    exact h.append b
  | some p =>
    obtain ⟨S, q, rest, e, s⟩ := b
    refine ⟨a ++ S, q, rest, by rw [e, List.append_assoc], ?_⟩
    rw [List.map_append]
    exact h.append s
theorem scan_outs {A B aw bk : Nat} (hAB : A ≠ B) : ∀ (os : List Out) (r : Nat), (∀ i o, os[i]? = some o → InfoAt A B aw bk (r + i) o) →
    (scanO r os).2 = sgn A B aw bk r os.length ∧ Body (scanO r os).1 (wrd A B aw bk r os.length)
  | [], r, _ => by
    refine ⟨?_, ?_⟩
    · unfold sgn
      rw [if_neg (by simp only [List.length_nil]; omega), if_neg (by simp only [List.length_nil]; omega)]
      rfl
    · unfold wrd
      rw [if_neg (by simp only [List.length_nil]; omega)]
      exact .nil
  | o :: os, r, h => by
    have h0 := h 0 o rfl
    rw [Nat.add_zero] at h0
    have ih := scan_outs (aw := aw) (bk := bk) hAB os (r + 1) (fun i u e => by
      have := h (i + 1) u (by simpa using e)
      rw [show r + 1 + i = r + (i + 1) by omega]
      exact this)
    have stop : ∀ c, o.2 = some c → scanO r (o :: os) = (lay r o.1, some (r, c)) := fun c e => by rw [scanO, e]
    have on : o.2 = none → scanO r (o :: os) = (lay r o.1 ++ (scanO (r + 1) os).1, (scanO (r + 1) os).2) := fun e => by rw [scanO, e]
    have onS : o.2 = none → sgn A B aw bk r (os.length + 1) = sgn A B aw bk (r + 1) os.length → (scanO r (o :: os)).2 = sgn A B aw bk r (os.length + 1) := fun e z => by
      rw [on e, z]
      exact ih.1
    have onW : o.2 = none → Stms (texts o.1) → wrd A B aw bk r (os.length + 1) = wrd A B aw bk (r + 1) os.length → Body (scanO r (o :: os)).1 (wrd A B aw bk r (os.length + 1)) := fun e st z => by
      rw [on e, z]
      exact Body.ahead (by rw [lay_texts]; exact st) ih.2
    rw [List.length_cons]
    clear h
    unfold InfoAt at h0
    by_cases a : r = A
    · rw [if_pos a] at h0
      obtain ⟨h1, h2⟩ := h0
      by_cases w1 : aw = 1
      · rw [if_pos w1] at h2
        rw [stop 121 h2]
        refine ⟨?_, ?_⟩
        · unfold sgn
          rw [if_pos (by omega), a]
        · unfold wrd
          rw [if_neg (by omega)]
          show Stms _
          rw [lay_texts]
          exact h1
      · rw [if_neg w1] at h2
        refine ⟨onS h2 ?_, onW h2 h1 ?_⟩
        · unfold sgn
          repeat' split
          all_goals first | rfl | (exfalso; omega)
        · unfold wrd
          repeat' split
          all_goals first | rfl | (exfalso; omega)
    · rw [if_neg a] at h0
      by_cases b1 : r = B ∧ bk = 1
      · rw [if_pos b1] at h0
        have hn : o.2 = none := by rw [h0]
        refine ⟨onS hn ?_, ?_⟩
        · unfold sgn
          repeat' split
          all_goals first | rfl | (exfalso; omega)
        · rw [on hn]
          unfold wrd
          rw [if_pos (by omega)]
          refine ⟨[], (r, 1), (scanO (r + 1) os).1, ?_, .nil⟩
          rw [h0, ← b1.1]
          rfl
      · rw [if_neg b1] at h0
        by_cases b2 : r = B ∧ bk = 2
        · rw [if_pos b2] at h0
          rw [stop 1 (by rw [h0])]
          refine ⟨?_, ?_⟩
          · unfold sgn
            rw [if_neg (by omega), if_pos (by omega), b2.1]
          · unfold wrd
            rw [if_neg (by omega), h0]
            exact .nil
        · rw [if_neg b2] at h0
          refine ⟨onS h0.2 ?_, onW h0.2 h0.1 ?_⟩
          · unfold sgn
            repeat' split
            all_goals first | rfl | (exfalso; omega)
          · unfold wrd
            repeat' split
            all_goals first | rfl | (exfalso; omega)
end SS

end
set_option Elab.async false
set_option linter.all false
set_option maxRecDepth 100000
set_option maxHeartbeats 1000000
namespace PySem.W
open PySem PyProof.Rows
section
variable {M : Model} {prog : Program} {w : World} {A : Around} {E : Value → Shared → Prop} {s : Shared} {env : Env}
theorem callWithT_kwB {pos : Pos} {T : String} {first : List Value} {args : List (Bool × Sem Value)} {keywords : List (Option Str × Sem Value)} {Q : Value → Shared → Prop}
    (hplain : args.any (·.1) = false) (hkw : keywords.any (·.1.isNone) = false)
    (h : wpAny M A (evalArgs (.type T) true args keywords) (fun a s₁ => wpAny M A (call (.type T) (first ++ a.pos) a.kw) Q E s₁) E s) :
    wpAny M A (callWith pos (.type T) first args keywords) Q E s := by
  unfold callWith
  refine wpAny_bind (wpAny_holding (wpAny_mono h (fun a s₁ h₁ => wpAny_bind (wpAny_standAt ?_)) fun _ _ x => x))
  simp only [hplain, hkw, Bool.or_false]
  refine wpAny_bind (wpAny_pure ?_)
  exact wpAny_bind (wpAny_mono h₁ (fun r s₂ hr => wpAny_bind (wpAny_holding (wpAny_point (wpAny_pure hr)))) fun _ _ x => x)
theorem callWithT_kw {pos : Pos} {T : String} {e : Expr} {rest : List Expr} {kws : List Keyword} {Q : Value → Shared → Prop}
    (h : wpAny M A (spliced (backTo pos (starEach (e :: rest) env))) (fun vs s₁ => wpAny M A (evalAll ((backToKw pos (keywordEach kws env)).map (·.2)))
      (fun kvs s₂ => wpAny M A (call (.type T) vs (((backToKw pos (keywordEach kws env)).filterMap (·.1)).zip kvs)) Q E s₂) E s₁) E s)
    (he : backTo pos (starEach (e :: rest) env) = (false, eval e env) :: backTo pos (starEach rest env) := by rfl)
    (hplain : (backTo pos (starEach (e :: rest) env)).any (·.1) = false := by rfl)
    (hall : (backToKw pos (keywordEach kws env)).all (·.1.isSome) = true := by rfl)
    (hkw : (backToKw pos (keywordEach kws env)).any (·.1.isNone) = false := by rfl) :
    wpAny M A (callWith pos (.type T) [] (backTo pos (starEach (e :: rest) env)) (backToKw pos (keywordEach kws env))) Q E s := by
  refine callWithT_kwB hplain hkw ?_
  rw [he] at h ⊢
  exact evalArgs_kwB hall h
theorem meets_enumerate_new1 {v : Value} {o : Obj} {H : Heap → Prop} (B : Begins v o H) :
    Meets (Builtin.«enumerate.__new__» ⟨[.type "enumerate", v], []⟩) (fun _ R s => H s.heap ∧
      R (.ok (.ret (.ref (s.heap.push o).objs.size))) { s with heap := (s.heap.push o).push { cls := .type "enumerate", data := .fields #[.none, .bool false, .ref s.heap.objs.size, rawInt 0, .none, .none] } }) :=
  .of_wp fun prog w A R s h => by
    obtain ⟨hp, g, d, tk, os⟩ := s; obtain ⟨h1, h⟩ := h
    have hsub := sub_enumerate
    have q1 : ∀ {A' : Around} {E : Value → Shared → Prop} {Q : Value → Shared → Prop}, Q (.ref hp.objs.size) ⟨hp.push o, g, d, tk, os⟩ → wpAny (model prog w) A' (pyIter v) Q E ⟨hp, g, d, tk, os⟩ :=
      fun q => B.iter prog w _ _ ⟨hp, g, d, tk, os⟩ _ h1 q
    wp_walk using q1
    refine wpAny_stack_any fun st => wpAny_pure ?_
    split
    · rename_i c _ _ _ _ _
      cases (c == Value.type "enumerate")
      · wp_walk using q1
        exact ⟨_, rfl, h⟩
      · wp_walk using q1
        exact ⟨_, rfl, h⟩
    · wp_walk using q1
      exact ⟨_, rfl, h⟩
theorem call_enumX {x : Str} {t : Tok} {Q : Value → Shared → Prop}
    (h : ∀ h', IsEnum h' (s.heap.objs.size + 1) s.heap.objs.size 0 .none → h'.IsStrIter s.heap.objs.size (strIterType x) x t 0 → h'.objs.size = s.heap.objs.size + 2 →
      (∀ b o, s.heap.get? b = some o → h'.get? b = some o) → Q (.ref (s.heap.objs.size + 1)) { s with heap := h' }) :
    wpAny (model prog w) A (call (.type "enumerate") [.str x t]) Q E s := by
  have B := begins_text x t
  refine callType_new F.called_enumerate (by decide) (F.typeCall_enumerate_1 _) (F.newCall_enumerate_1 _) (fun obj => F.args_object_init_2 obj _) F.entry_enumerate_new
    (meets_enumerate_new1 B) ⟨trivial, ?_⟩
  have hz : (s.heap.push { cls := .type (strIterType x), data := .fields #[.str x t, .int 0 0] }).objs.size = s.heap.objs.size + 1 := Heap.size_push ..
  show _ ∧ _
  rw [hz]
  have he : IsEnum ((s.heap.push { cls := .type (strIterType x), data := .fields #[.str x t, .int 0 0] }).push { cls := .type "enumerate", data := .fields #[.none, .bool false, .ref s.heap.objs.size, rawInt 0, .none, .none] }) (s.heap.objs.size + 1) s.heap.objs.size 0 .none := by
    have := Heap.get?_push_size (s.heap.push { cls := .type (strIterType x), data := .fields #[.str x t, .int 0 0] }) (o := { cls := .type "enumerate", data := .fields #[.none, .bool false, .ref s.heap.objs.size, rawInt 0, .none, .none] }) rfl
    rw [hz] at this; exact this
  exact ⟨⟨_, he, rfl⟩, h _ he ⟨_, Heap.get?_push_of_some _ (Heap.get?_push_size _ B.free), rfl, rfl⟩ (by rw [Heap.size_push, hz]) fun b o x => Heap.get?_push_of_some _ (Heap.get?_push_of_some _ x)⟩
end
end PySem.W
namespace L2
open PySem PySem.Spec PyProof.Rows

/-! ### text * int -/
def repS (z : Str) (n : Int) : Str := ⟨(List.replicate n.toNat z.cps.toList).flatten.toArray⟩
theorem fold_app (a : Array Nat) : ∀ (n : Nat) (b : Array Nat), (List.replicate n a).foldl (· ++ ·) b = b ++ (List.replicate n a.toList).flatten.toArray
  | 0, b => by simp
  | n + 1, b => by
    rw [List.replicate_succ, List.foldl_cons, fold_app a n, List.replicate_succ, List.flatten_cons]
    apply Array.toList_inj.mp
    simp
theorem repS_length (z : Str) (n : Int) : (repS z n).length = n.toNat * z.length := by
  show (List.replicate n.toNat z.cps.toList).flatten.toArray.size = _
  simp [Str.length]
theorem repS_0 (z : Str) : repS z 0 = Str.empty := by
  unfold repS Str.empty
  simp
theorem repS_1 (z : Str) : repS z 1 = z := by
  unfold repS
  cases z
  simp
theorem op_mul_str {X : Cx} : OpR X (binaryOp .Mult) (fun x y H Q => ∃ (z : Str) (n : Int), x = .str z ∧ y = .int n ∧ 0 ≤ n ∧ n ≤ 1000 ∧ 0 < z.length ∧ z.length ≤ 1000 ∧ Q (.str (repS z n)) H) := by
  intro pins s σ H x y v u Q I rx ry h
  obtain ⟨z, n, rfl, rfl, h0, h1, hz0, hz, q⟩ := h
  obtain ⟨t, rfl⟩ := rx
  obtain ⟨t', rfl⟩ := ry
  have hm : z.length * n.toNat ≤ 1000 * 1000 := Nat.mul_le_mul hz (by omega)
  have e : (⟨(List.replicate n.toNat z.cps).foldl (· ++ ·) #[]⟩ : Str) = repS z n := by
    rw [fold_app]
    unfold repS
    simp
  refine P.mul_str ?_ (fun _ _ => ?_) (fun _ _ => ?_) ?_
  · have a : ¬ n < -(2 ^ 63 : Int) := by omega
    have b : ¬ n ≥ 2 ^ 63 := by omega
    rw [decide_eq_false a, decide_eq_false b]; rfl
  · rename_i hn _
    have : (2 ^ 63 - 1) / n ≥ 1000 := by
      apply Int.le_ediv_of_mul_le (by omega)
      omega
    omega
  · unfold Builtin.Str.tooLong
    exact decide_eq_false (by rw [sizeLine_eq]; omega)
  · by_cases c0 : n < 1
    · rw [if_pos c0]
      have : n = 0 := by omega
      subst this
      rw [repS_0] at q
      exact ⟨by decide, V.str Str.empty, H, I.tok _, ⟨_, rfl⟩, q⟩
    · rw [if_neg c0]
      by_cases c1 : n = 1
      · subst c1
        rw [if_pos (by rfl)]
        rw [repS_1] at q
        exact ⟨V.str z, H, I, ⟨_, rfl⟩, q⟩
      · have e1 : (n == 1 || z.length == 0) = false := by
          have a : (n == 1) = false := by simp; omega
          have b : (z.length == 0) = false := by simp; omega
          rw [a, b]; rfl
        rw [if_neg (by rw [e1]; decide), e]
        refine ⟨?_, V.str (repS z n), H, I.tok _, ⟨_, rfl⟩, q⟩
        rw [repS_length, sizeLine_eq, Nat.mul_comm]
        omega

/-! ### enumerate(text); enumerate(list, start=k) -/
/-- the signs of x, each in a new pair -/
def Iex (x : Str) : It :=
  ⟨fun i _ => i < x.cps.size, fun i H v H' => ∃ T c, v = .ref T ∧ H T = none ∧ H' = upd H T (.tup [.int (i : Nat), .str ⟨#[c]⟩]) ∧ x.cps[i]? = some c, fun i _ => x.cps.size ≤ i⟩
theorem turn_enumX {P : Program} {w : World} {K : PySem.W.Frag} {elts : List Expr} {kk : Nat} {tpos : Pos} (e it : Addr) (x : Str) (t : Tok) :
    Turn P w K (.Tuple elts kk tpos) (Iex x) [e, it] e (fun i h => (∃ old, IsEnum h e it ((i : Nat) : Int) old) ∧ h.IsStrIter it (strIterType x) x t i ∧ e ≠ it ∧ i ≤ x.cps.size) where
  mem := by simp
  obj := fun i h st b hb => by
    obtain ⟨⟨old, he⟩, ⟨o, ho, hc, hd⟩, _⟩ := st
    have e' : b = e ∨ b = it := by simpa using hb
    rcases e' with z | z
    · rw [z]; exact ⟨_, he, fun v q => nomatch q⟩
    · rw [z]; exact ⟨o, ho, fun v q => by rw [hd] at q; cases q⟩
  keep := fun i h h' st k => let ⟨⟨old, he⟩, ⟨o, ho, r⟩, hne, hz⟩ := st; ⟨⟨old, k e (by simp) _ he⟩, ⟨o, k it (by simp) o ho, r⟩, hne, hz⟩
  item := by
    intro X hP hw hK hc i pins s σ H E I hf st hg
    subst hP hw hK
    obtain ⟨⟨old, he⟩, hit, hne, hz⟩ := st
    have hel : e < s.heap.objs.size := Heap.lt_size he
    have hil : it < s.heap.objs.size := by obtain ⟨_, q, _⟩ := hit; exact Heap.lt_size q
    have D := Draws.text (prog := X.prog) (w := X.w) (A := X.A.in1) (I.ok.hd hc) it x t
    refine wpAny_pyNext_enum_itemC D he hit hg hne (by simpa using hne) fun v h' tk hv ho hit' hT hsz hk => ?_
    obtain ⟨c, u, hcx, rfl⟩ := hv
    refine ⟨_, rfl, wpAny_letOwnedTupleGo_enum (s := { s with heap := h', toks := tk + 1 }) ho fun h'' he' sb => ?_⟩
    have hT2 : h''.get? s.heap.objs.size = some { cls := .type "tuple", data := .seq #[.int i tk, .str ⟨#[c]⟩ u] } := (sb.2 _ (Nat.ne_of_gt hel)).trans hT
    have new : ObjOk X.prog X.w (upd H s.heap.objs.size (.tup [.int (i : Nat), .str ⟨#[c]⟩])) h'' s.heap.objs.size (.tup [.int (i : Nat), .str ⟨#[c]⟩]) :=
      ⟨by show 2 ≤ sizeLine; decide, [.int i tk, .str ⟨#[c]⟩ u], .cons ⟨_, rfl⟩ (.cons ⟨_, rfl⟩ .nil), ⟨_, hT2, rfl, _, rfl⟩⟩
    have I1 : Inv X pins σ (upd H s.heap.objs.size (.tup [.int (i : Nat), .str ⟨#[c]⟩])) { s with heap := h'', toks := tk + 1 } :=
      I.turnedNew (ch := [e, it]) (fun b ob hb q => (sb.2 b (fun z => hb (by simp [z]))).trans (hk b ob (fun z => hb (by simp [z])) (fun z => hb (by simp [z])) q)) hf (Nat.le_refl _) new
    refine ⟨.ref s.heap.objs.size, _, I1, rfl, ⟨_, c, rfl, I.hok.fresh (Nat.le_refl _), rfl, hcx⟩, ⟨⟨Value.str ⟨#[c]⟩ u, ?_⟩, ?_, hne, hg⟩, fun b hb => ?_⟩
    · have e1 : ((i + 1 : Nat) : Int) = (i : Int) + 1 := by omega
      rw [e1]; exact he'
    · obtain ⟨o, q, r⟩ := hit'
      exact ⟨o, (sb.2 it (Ne.symm hne)).trans q, r⟩
    · have hb' : b < s.heap.objs.size := by
        have e' : b = e ∨ b = it := by simpa using hb
        rcases e' with z | z
        · rw [z]; exact hel
        · rw [z]; exact hil
      rw [upd_ne (Nat.ne_of_lt hb')]
      exact (hf b hb).1
  done := by
    intro X hP hw hK hc i pins s σ H E I hf st hg
    subst hP hw hK
    obtain ⟨⟨old, he⟩, hit, hne, hz⟩ := st
    obtain ⟨f0, f1, f2, f3, f4, f5⟩ := hf it (by simp)
    have D := Draws.text (prog := X.prog) (w := X.w) (A := X.A.in1) (I.ok.hd hc) it x t
    have e1 : i = x.cps.size := Nat.le_antisymm hz hg
    subst e1
    exact wpAny_pyNext_enum_endD D he hit fun h' eb => ⟨rfl, I.turned (t' := s.toks) (fun b o hb q => eb b o hb q) f0 f1 f3 f4 f5⟩
  self := fun A i s Q E st h => let ⟨⟨_, he⟩, _⟩ := st; wpAny_pyIter_enum he h
def iEnumX (ta : TA) : TI := fun σ H R => ta σ H fun vs H1 => ∃ x : Str, vs = [.str x] ∧ R (Iex x) H1
theorem pi_enumX {X : Cx} {e : Expr} {ta : TA} {p pos tpos : Pos} {elts : List Expr} {kk : Nat} (hg : Gl X "enumerate") (hm : X.mg "enumerate" = none) (ha : PA X [e] ta) (hs : starEach [e] X.env = [(false, eval e X.env)] := by rfl) :
    PI X (.Tuple elts kk tpos) (.Call (.Name "enumerate" p) [e] [] pos) (iEnumX ta) := by
  refine ⟨fun pins s σ H R I h => ?_⟩
  refine Call_ (ld_blt I hg hm boot_enumerate (PyProof.Rows.callWith_type1 (thn (ha.run pos pins s σ H _ I h) fun us s1 ⟨vs, H1, I1, r1, q1⟩ => ?_) hs rfl))
  obtain ⟨x, ex, q⟩ := q1
  subst ex
  cases r1 with
  | cons r rr =>
    cases rr
    obtain ⟨t, rfl⟩ := r
    refine PySem.W.call_enumX (x := x) (t := t) fun h' he hit hsz hk => wpAny_pyIter_enum he ?_
    have I2 : Inv X pins σ H1 { s1 with heap := h' } := I1.kept (t' := s1.toks) hk
    refine ⟨s1.heap.objs.size + 1, [s1.heap.objs.size + 1, s1.heap.objs.size], _, _, H1, rfl, I2, turn_enumX (s1.heap.objs.size + 1) s1.heap.objs.size x t, ⟨⟨.none, he⟩, hit, Nat.succ_ne_self _, Nat.zero_le _⟩, fun b hb => ?_, q⟩
    have e' : b = s1.heap.objs.size + 1 ∨ b = s1.heap.objs.size := by simpa using hb
    have hle : s1.heap.objs.size ≤ b := by
      rcases e' with z | z
      · rw [z]; exact Nat.le_add_right _ _
      · rw [z]; exact Nat.le_refl _
    exact I1.fpOk hle (I1.hok.fresh hle)
theorem walk_enumX {x : Str} : Walk (Iex x) x.cps.size (fun _ => True) (fun i H v H' => ∃ T c, v = .ref T ∧ H T = none ∧ H' = upd H T (.tup [.int (i : Nat), .str ⟨#[c]⟩]) ∧ x.cps[i]? = some c) :=
  ⟨fun _ _ hi _ => hi, fun _ _ => Nat.le_refl _, fun _ _ _ _ _ _ y => y⟩
/-- the items xs of the list at a, counted from k, each in a new pair -/
def Iek (K : PySem.W.Frag) (a : Addr) (xs : List V) (k : Int) : It :=
  ⟨fun i H => i < xs.length ∧ SqL K H a xs, fun i H v H' => ∃ T x, v = .ref T ∧ H T = none ∧ H' = upd H T (.tup [.int (k + (i : Nat)), x]) ∧ xs[i]? = some x, fun i H => xs.length = i ∧ SqL K H a xs⟩
theorem turn_enumK {P : Program} {w : World} {K : PySem.W.Frag} {elts : List Expr} {kk : Nat} {tpos : Pos} (a e it : Addr) (xs : List V) (k0 : Int) :
    Turn P w K (.Tuple elts kk tpos) (Iek K a xs k0) [e, it] e (fun i h => (∃ old, IsEnum h e it (k0 + (i : Nat)) old) ∧ h.IsListIter it a i ∧ e ≠ it) where
  mem := by simp
  obj := fun i h st b hb => by
    obtain ⟨⟨old, he⟩, ⟨o, ho, hc, hd⟩, _⟩ := st
    have e' : b = e ∨ b = it := by simpa using hb
    rcases e' with z | z
    · rw [z]; exact ⟨_, he, fun v q => nomatch q⟩
    · rw [z]; exact ⟨o, ho, fun v q => by rw [hd] at q; cases q⟩
  keep := fun i h h' st k => let ⟨⟨old, he⟩, hi, hne⟩ := st; ⟨⟨old, k e (by simp) _ he⟩, hi.at fun o q => k it (by simp) o q, hne⟩
  item := by
    intro X hP hw hK hc i pins s σ H E I hf st hg
    subst hP hw hK
    obtain ⟨⟨old, he⟩, hit, hne⟩ := st
    obtain ⟨hlt, hq⟩ := hg
    have hx : xs[i]? = some xs[i] := by simp [hlt]
    generalize xs[i] = x at hx
    obtain ⟨its, rv, p, hz⟩ := I.list hq
    obtain ⟨u0, hu, ru⟩ := rv.get hx
    have hel : e < s.heap.objs.size := Heap.lt_size he
    have hil : it < s.heap.objs.size := by obtain ⟨_, q, _⟩ := hit; exact Heap.lt_size q
    have hia : a ≠ it := fun z => by
      obtain ⟨o, ho, hcl, hd⟩ := hit
      obtain ⟨o2, ho2, hcl2, _⟩ := p.isList
      rw [z, ho] at ho2
      have := Option.some.inj ho2
      subst this
      rw [hcl] at hcl2
      injection hcl2 with z9
      exact absurd z9 (by decide)
    have hea : e ≠ a := fun z => by
      obtain ⟨o2, ho2, hcl2, _⟩ := p.isList
      rw [← z, he] at ho2
      have := Option.some.inj ho2
      subst this
      injection hcl2 with z9
      exact absurd z9 (by decide)
    have D := Draws.list (prog := X.prog) (w := X.w) (A := X.A.in1) (I.ok.hd hc) it a hia its.toArray
    have hlen : i < its.toArray.size := by
      have := rv.length
      simp
      omega
    refine wpAny_pyNext_enum_itemC D he ⟨hit, p.isList⟩ hlen hne (by simp [hne, hea]) fun v h' tk hv ho hit' hT hsz hk => ?_
    have ev : v = u0 := by
      have z : its.toArray[i]? = some v := hv
      have z2 : its.toArray[i]? = some u0 := by simpa using hu
      rw [z2] at z
      exact (Option.some.inj z).symm
    subst ev
    refine ⟨_, rfl, wpAny_letOwnedTupleGo_enum (s := { s with heap := h', toks := tk + 1 }) ho fun h'' he' sb => ?_⟩
    have hT2 : h''.get? s.heap.objs.size = some { cls := .type "tuple", data := .seq #[.int (k0 + (i : Nat)) tk, v] } := (sb.2 _ (Nat.ne_of_gt hel)).trans hT
    have new : ObjOk X.prog X.w (upd H s.heap.objs.size (.tup [.int (k0 + (i : Nat)), x])) h'' s.heap.objs.size (.tup [.int (k0 + (i : Nat)), x]) :=
      ⟨by show 2 ≤ sizeLine; decide, [.int (k0 + (i : Nat)) tk, v], .cons ⟨_, rfl⟩ (.cons ru .nil), ⟨_, hT2, rfl, _, rfl⟩⟩
    have I1 : Inv X pins σ (upd H s.heap.objs.size (.tup [.int (k0 + (i : Nat)), x])) { s with heap := h'', toks := tk + 1 } :=
      I.turnedNew (ch := [e, it]) (fun b ob hb q => (sb.2 b (fun z => hb (by simp [z]))).trans (hk b ob (fun z => hb (by simp [z])) (fun z => hb (by simp [z])) q)) hf (Nat.le_refl _) new
    refine ⟨.ref s.heap.objs.size, _, I1, rfl, ⟨_, x, rfl, I.hok.fresh (Nat.le_refl _), rfl, hx⟩, ⟨⟨v, ?_⟩, hit'.1.at fun o q => (sb.2 it (Ne.symm hne)).trans q, hne⟩, fun b hb => ?_⟩
    · have e1 : k0 + ((i + 1 : Nat) : Int) = k0 + (i : Int) + 1 := by omega
      rw [e1]; exact he'
    · have hb' : b < s.heap.objs.size := by
        have e' : b = e ∨ b = it := by simpa using hb
        rcases e' with z | z
        · rw [z]; exact hel
        · rw [z]; exact hil
      rw [upd_ne (Nat.ne_of_lt hb')]
      exact (hf b hb).1
  done := by
    intro X hP hw hK hc i pins s σ H E I hf st hg
    subst hP hw hK
    obtain ⟨⟨old, he⟩, hit, hne⟩ := st
    obtain ⟨hlt, hq⟩ := hg
    obtain ⟨its, rv, p, hz⟩ := I.list hq
    obtain ⟨f0, f1, f2, f3, f4, f5⟩ := hf it (by simp)
    have hia : a ≠ it := fun z => by
      obtain ⟨o, ho, hcl, hd⟩ := hit
      obtain ⟨o2, ho2, hcl2, _⟩ := p.isList
      rw [z, ho] at ho2
      have := Option.some.inj ho2
      subst this
      rw [hcl] at hcl2
      injection hcl2 with z9
      exact absurd z9 (by decide)
    have D := Draws.list (prog := X.prog) (w := X.w) (A := X.A.in1) (I.ok.hd hc) it a hia its.toArray
    have e1 : i = its.toArray.size := by
      have := rv.length
      simp
      omega
    subst e1
    exact wpAny_pyNext_enum_endD D he ⟨hit, p.isList⟩ fun h' eb => ⟨rfl, I.turned (t' := s.toks) (fun b o hb q => eb b o hb q) f0 f1 f3 f4 f5⟩
  self := fun A i s Q E st h => let ⟨⟨_, he⟩, _⟩ := st; wpAny_pyIter_enum he h
def iEnumK (K : PySem.W.Frag) (ta tk : TA) : TI := fun σ H R => ta σ H fun vs H1 => tk σ H1 fun zs H2 => ∃ (a : Addr) (xs : List V) (k : Int), vs = [.ref a] ∧ zs = [.int k] ∧ 0 ≤ k ∧ k < 1000 ∧ SqL K H2 a xs ∧ R (Iek K a xs k) H2
theorem pi_enumK {X : Cx} {e : Expr} {kws : List Keyword} {ta tk : TA} {p pos tpos : Pos} {elts : List Expr} {kk : Nat} (hg : Gl X "enumerate") (hm : X.mg "enumerate" = none) (ha : PA X [e] ta) (hk : PK X kws tk)
    (he : backTo pos (starEach [e] X.env) = (false, eval e X.env) :: backTo pos (starEach [] X.env) := by rfl) (hpl : (backTo pos (starEach [e] X.env)).any (·.1) = false := by rfl)
    (hall : (backToKw pos (keywordEach kws X.env)).all (·.1.isSome) = true := by rfl) (hnone : (backToKw pos (keywordEach kws X.env)).any (·.1.isNone) = false := by rfl) (hks : (backToKw pos (keywordEach kws X.env)).filterMap (·.1) = [Str.ofString "start"] := by rfl) :
    PI X (.Tuple elts kk tpos) (.Call (.Name "enumerate" p) [e] kws pos) (iEnumK X.K ta tk) := by
  refine ⟨fun pins s σ H R I h => ?_⟩
  refine wpAny_Call_Name_kw (ld_blt I hg hm boot_enumerate ?_)
  refine PySem.W.callWithT_kw (thn (ha.run pos pins s σ H _ I h) fun us s1 ⟨vs, H1, I1, r1, q1⟩ => thn (hk.run pos pins s1 σ H1 _ I1 q1) fun ws s2 ⟨zs, H2, I2, r2, q2⟩ => ?_) he hpl hall hnone
  rw [hks]
  obtain ⟨a, xs, k, ex, ez, hk0, hk1, hq, q⟩ := q2
  subst ex ez
  cases r1 with
  | cons r rr =>
    cases rr
    cases r
    cases r2 with
    | cons r' rr' =>
      cases rr'
      obtain ⟨t, rfl⟩ := r'
      obtain ⟨its, rv, p', hz⟩ := I2.list hq
      refine enum_begins_start (begins_list a its.toArray) p'.isList (by omega) (by omega) fun h' he hit hsz hkp => wpAny_pyIter_enum he ?_
      have I3 : Inv X pins σ H2 { s2 with heap := h' } := I2.kept (t' := s2.toks) hkp
      have e0 : k + ((0 : Nat) : Int) = k := by omega
      refine ⟨s2.heap.objs.size + 1, [s2.heap.objs.size + 1, s2.heap.objs.size], _, _, H2, rfl, I3, turn_enumK a (s2.heap.objs.size + 1) s2.heap.objs.size xs k, ⟨⟨.none, by rw [e0]; exact he⟩, ⟨_, hit, rfl, rfl⟩, Nat.succ_ne_self _⟩, fun b hb => ?_, q⟩
      have e' : b = s2.heap.objs.size + 1 ∨ b = s2.heap.objs.size := by simpa using hb
      have hle : s2.heap.objs.size ≤ b := by
        rcases e' with z | z
        · rw [z]; exact Nat.le_add_right _ _
        · rw [z]; exact Nat.le_refl _
      exact I2.fpOk hle (I2.hok.fresh hle)
theorem walk_enumK {K : PySem.W.Frag} {a : Addr} {xs : List V} {k : Int} : Walk (Iek K a xs k) xs.length (fun H => SqL K H a xs) (fun i H v H' => ∃ T x, v = .ref T ∧ H T = none ∧ H' = upd H T (.tup [.int (k + (i : Nat)), x]) ∧ xs[i]? = some x) :=
  ⟨fun _ _ hi q => ⟨hi, q⟩, fun _ q => ⟨rfl, q⟩, fun _ _ _ _ _ _ y => y⟩

/-! ### min(xs, default=d) of data -/
theorem Vals.ref1' {a : Addr} {us : List Value} (r : Vals [V.ref a] us) : us = [Value.ref a] := by
  cases r with
  | cons r rr => cases rr; cases r; rfl
def rMinD (K : PySem.W.Frag) : List V → List V → Hp → VK → Prop := fun vs zs H Q => ∃ (a : Addr) (xs : List V) (ds : List PyData) (d : V), vs = [.ref a] ∧ zs = [d] ∧ SqL K H a xs ∧ DpAll K H xs ds ∧ PySem.W.AlikeAll ds ∧ PyData.depthAll ds ≤ 20 ∧
  (ds = [] → Q d H) ∧ ∀ (y : PyData) (ys : List PyData) (i : Nat) (v : V) (e : PyData), ds = y :: ys → xs[i]? = some v → ds[i]? = some e → e = PySem.W.minD y ys → Q v H
theorem dpAll_get {K : PySem.W.Frag} {H : Hp} : ∀ {xs : List V} {ds : List PyData}, DpAll K H xs ds → ∀ {i : Nat} {v : V}, xs[i]? = some v → ∃ e, ds[i]? = some e ∧ Dp K H v e
  | _, _, .nil, i, v, h => by simp at h
  | _, _, .cons a r, 0, v, h => by simp at h; subst h; exact ⟨_, rfl, a⟩
  | _, _, .cons a r, i + 1, v, h => by
    obtain ⟨e, h1, h2⟩ := dpAll_get r (i := i) (v := v) (by simpa using h)
    exact ⟨e, by simpa using h1, h2⟩
theorem cr_minD {X : Cx} {k : Nat} (hc : X.calm = true) (hr : Room k X.A) : CallRK X (.builtin "min") [Str.ofString "default"] (rMinD X.K) := by
  intro pins s σ H vs zs us ws Q I r rz h
  obtain ⟨a, xs, ds, d, rfl, rfl, hs, hd, ha, hdep, q0, q1⟩ := h
  obtain rfl := Vals.ref1' r
  cases rz with
  | @cons _ u0 _ _ rd rr =>
    cases rr
    obtain ⟨its, rv, p, hz⟩ := I.list hs
    obtain ⟨as, hre⟩ := Dp.readsAll I ds xs its hd rv
    show wpAny _ _ (call (.builtin "min") [.ref a] [(Str.ofString "default", u0)]) _ _ _
    have hu := hr.units
    refine PySem.W.min_list_default (I.ok.hd hc) p.isList (by simpa using hre) ha (by have := hr.units; omega) (fun e h' tk hk => ⟨d, H, I.kept (t' := tk) hk, rd, q0 e⟩) fun y ys i v h' tk bs e hv hrd hk => ?_
    have hv' : its[i]? = some v := by simpa using hv
    have hi : i < xs.length := by
      have := (List.getElem?_eq_some_iff.mp hv').1
      have := rv.length
      omega
    have hx : xs[i]? = some xs[i] := by simp [hi]
    generalize xs[i] = x at hx
    obtain ⟨u, hu1, ru⟩ := rv.get hx
    rw [hv'] at hu1
    obtain rfl := Option.some.inj hu1
    obtain ⟨ee, he1, he2⟩ := dpAll_get hd hx
    obtain ⟨as2, hr2⟩ := Dp.reads I ee x v he2 ru
    have := (PyProof.Rows.reads_det (fun b o z _ => hk b o z) hr2 hrd).1
    exact ⟨x, H, I.kept (t' := tk) hk, ru, q1 y ys i x ee e hx he1 this.symm⟩

/-! ### C.m(x, ..), m a def of the class at C, read off the class -/
def tClsF (C : Addr) (sp : Sp) (E : XK) (ta : TE) (t : TA) : TE := fun σ H Q => ta σ H fun x H1 => x = .ref C ∧ t σ H1 fun vs H2 => sp vs H2 Q E
theorem pe_clsf {X : Cx} {CX : CXT} {k : Nat} {C f : Addr} {fd : FuncData} {ps : List Str} {mc : Value} {sp : Sp} {E : XK} {o e : Expr} {es : List Expr} {m : Str} {pos apos : Pos} {ta : TE} {t : TA} {pl : Sem Bool}
    (he : PE X o ta) (r : ClX.CRead X.K C mc) (hf : PySem.W.findCls X.K (.ref C) mc m = some (.val (.ref f))) (hk : PySem.W.keepIn X.K (.ref f) = true) (F : FnOk X.prog X.w X.K X.mg X.base CX k f fd ps sp) (hr : Room k X.A) (hb : Binds X.K fd ps []) (hx : Passes CX X E) (ha : PA X (e :: es) t)
    (hst : starEach (e :: es) X.env = (false, eval e X.env) :: starEach es X.env := by rfl) (hpl : (backTo pos (starEach es X.env)).any (·.1) = false := by rfl)
    (ht : eval (.Call (.Attribute o m apos) (e :: es) [] pos) X.env = (do
      let ov ← eval o X.env
      standAt apos.atName
      let (f, first) ← holding [ov] (getMethod ov m pl)
      callWith pos f first (backTo pos (starEach (e :: es) X.env)) (backToKw pos (keywordEach [] X.env))) := by rfl) :
    PE X (.Call (.Attribute o m apos) (e :: es) [] pos) (tClsF C sp E ta t) := by
  refine ⟨fun pins s σ H Q I h => ?_⟩
  refine PySem.W.methodCall_KW (pl := pl) (thn (he.run pins s σ H _ I h) fun u s1 ⟨x, H1, I1, rx, ex, q⟩ => ?_) ht
  subst ex
  obtain rfl : u = Value.ref C := rx
  refine PySem.W.method_cls I1.kIn r.ga (PySem.W.cls_value I1.kIn r.rd hf rfl ?_)
  refine PySem.W.callWith_K (h₀ := X.base) I1.ok.mod.kin hk (thn (ha.run pos pins _ σ H1 _ (I1.tok _) q) fun us s3 ⟨vs, H2, I3, rv, q2⟩ => ⟨I3.kIn, ?_⟩) hst hpl
  have q3 : sp (vs ++ []) H2 Q E := by rw [List.append_nil]; exact q2
  exact run_fn F hr hb .nil hx I3 rv q3

/-! ### X(e, ..) of an own class where what is raised is wished for at the caller's slots -/
def tMakeS (C : Addr) (sp : Sp) (E : St → XK) (t : TA) : TE := fun σ H Q => t σ H fun vs H1 => ∀ x dx, H1 x = none → H1 dx = none → dx ≠ x → sp (.ref x :: vs) (upd (upd H1 dx (.own x)) x (.ins C dx [])) (fun v H2 => v = .non ∧ Q (.ref x) H2) (E σ)
theorem run_makeS {X : Cx} {CX : CXT} {k : Nat} {C f : Addr} {fd : FuncData} {ps : List Str} {sp : Sp} {E : St → XK} {pins : List (Addr × Obj)} {σ : St} {H : Hp} {s : Shared} {Q : VK} {us : List Value} {vs : List V} (M : Mk X.K C f) (F : FnOk X.prog X.w X.K X.mg X.base CX k f fd ps sp) (hr : Room (k + 1) X.A) (hb : Binds X.K fd ps [])
    (hx : PassesAt CX X σ (E σ)) (I : Inv X pins σ H s) (r : Vals vs us)
    (h : ∀ x dx, H x = none → H dx = none → dx ≠ x → sp (.ref x :: vs) (upd (upd H dx (.own x)) x (.ins C dx [])) (fun v H2 => v = .non ∧ Q (.ref x) H2) (E σ)) :
    wpAny (model X.prog X.w) X.A (call (.ref C) us) (EP X pins σ Q) X.xe s := by
  have hq := h (s.heap.objs.size + 1) s.heap.objs.size (I.hok.fresh (Nat.le_succ _)) (I.hok.fresh (Nat.le_refl _)) (Nat.ne_of_lt (Nat.lt_succ_self _))
  have I2 := Inv.made (C := C) I
  have r2 : Vals (V.ref (s.heap.objs.size + 1) :: vs) (Value.ref (s.heap.objs.size + 1) :: us) := .cons rfl r
  have hl : (Value.ref (s.heap.objs.size + 1) :: us).length = ps.length := by
    have e := r2.length
    rw [F.len _ _ _ _ hq] at e
    exact e.symm
  have hb2 := hb { s with heap := s.heap } (Value.ref (s.heap.objs.size + 1) :: us)
  refine wpAny_call (make_map (f := f) I.kIn M.makes M.init (beq_iff_eq.mp M.fn) (codeAny_mono (F.run _ X.stack _ _ ⟨Value.ref (s.heap.objs.size + 1) :: us, []⟩ (Value.ref (s.heap.objs.size + 1) :: us) _ _ (E σ) (hr.make C us [])
    (I2.env0.make C us []) (by have z := hb _ (Value.ref (s.heap.objs.size + 1) :: us) I2.kIn (by rw [List.append_nil]; exact hl); rw [List.append_nil] at z; exact z) r2 hq) fun r s' hq' => ?_))
  cases r with
  | error e => exact hx pins _ _ e s' I2 hq'
  | ok fl =>
    cases fl with
    | ret u =>
      obtain ⟨v, H', I3, rv, ev, q3⟩ := I2.after hq'
      subst ev
      exact ⟨rv, ⟨V.ref (s.heap.objs.size + 1), H', I3, rfl, q3⟩⟩
    | next => exact False.elim hq'
    | brk => exact False.elim hq'
    | cont => exact False.elim hq'
theorem pe_makeS {X : Cx} {CX : CXT} {k : Nat} {C f : Addr} {fd : FuncData} {ps : List Str} {sp : Sp} {E : St → XK} {x : Str} {p pos : Pos} {e : Expr} {es : List Expr} {t : TA} (M : Mk X.K C f) (F : FnOk X.prog X.w X.K X.mg X.base CX k f fd ps sp) (hr : Room (k + 1) X.A) (hg : Gl X x) (hm : X.mg x = some (.ref C)) (hb : Binds X.K fd ps []) (hx : ∀ σ, PassesAt CX X σ (E σ))
    (ha : PA X (e :: es) t) (hdb : (x == ("__debug__" : Str)) = false := by decide) (he : starEach (e :: es) X.env = (false, eval e X.env) :: starEach es X.env := by rfl) (hpl : (backTo pos (starEach es X.env)).any (·.1) = false := by rfl) :
    PE X (.Call (.Name x p) (e :: es) [] pos) (tMakeS C sp E t) := by
  refine ⟨fun pins s σ H Q I h => ?_⟩
  refine wpAny_Call_Name_kw (ld_glob I hg hm ?_ hdb)
  refine PySem.W.callWith_K (h₀ := X.base) I.ok.mod.kin M.kp (thn (ha.run pos pins s σ H _ I h) fun us s1 ⟨vs, H1, I1, r, q⟩ => ⟨I1.kIn, ?_⟩) he hpl
  exact run_makeS M F hr hb (hx σ) I1 r q
end L2
set_option Elab.async false
set_option linter.all false
set_option maxRecDepth 100000
set_option maxHeartbeats 2000000
namespace My
open PySem L2 SS
/-! ### the text by places -/
def top (i : Nat) : Stmt := PySem.Challenge.pw_sendstead_k03_whole_pages_read.main.body.getD i (.Pass ⟨0, 0, 0, 0⟩)
abbrev sScanned : Stmt := top 18
abbrev sRow : Stmt := top 19
abbrev sWrong : Stmt := top 20
abbrev sEnd : Stmt := top 21
abbrev sIsWord : Stmt := top 22
abbrev sIsSmall : Stmt := top 23
abbrev sIsFree : Stmt := top 24
abbrev sIsKind : Stmt := top 25
abbrev sIsName : Stmt := top 26
abbrev sIsText : Stmt := top 27
abbrev sIsNum : Stmt := top 28
abbrev sHas : Stmt := top 29
abbrev tl (z : Str) : T := z.cps.toList
abbrev mk (l : T) : Str := ⟨l.toArray⟩
theorem tl_mk (l : T) : tl (mk l) = l := rfl
theorem mk_tl (z : Str) : mk (tl z) = z := by cases z; simp
theorem len_tl (z : Str) : (tl z).length = z.length := by simp [Str.length]
theorem same_new {H : Hp} {p : Addr} (h : H p = none) (o : HO) : Same H (upd H p o) := fun b u q => by rw [upd_ne (ne_of_none q h)]; exact q
theorem same_upd {H H' : Hp} {p : Addr} (s : Same H H') (h : H p = none) (o : HO) : Same H (upd H' p o) := fun b u q => by rw [upd_ne (ne_of_none q h)]; exact s b u q
/-- a text of the module's own, a number, a tuple -/
def GS (mg : Str → Option Value) (x : Str) (z : Str) : Prop := ∃ u, mg x = some u ∧ RelV (.str z) u
def GI (mg : Str → Option Value) (x : Str) (i : Int) : Prop := ∃ u, mg x = some u ∧ RelV (.int i) u
def GT (K : PySem.W.Frag) (mg : Str → Option Value) (x : Str) (zs : List Str) : Prop := ∃ a, mg x = some (.ref a) ∧ ∀ H, SqT K H a (zs.map V.str)
def KEPTs : List Str := ["do", "else", "end", "false", "field", "if", "kind", "method", "more", "new", "none", "raise", "return", "say", "self", "taken", "then", "true", "try", "under", "up", "while"]

/-! ### defs by their names, methods by their class -/
structure Dn (K : PySem.W.Frag) (mg : Str → Option Value) (x : Str) (st : Stmt) : Prop where
  ex : ∃ f fd, Fun K x x st f fd ∧ mg x = some (.ref f)
structure Cc (P : Program) (w : World) (K : PySem.W.Frag) (mg : Str → Option Value) (base : Heap) (CX : CXT) (k : Nat) (x : Str) (sp : Sp) : Prop where
  ex : ∃ f fd ps, FnOk P w K mg base CX k f fd ps sp ∧ mg x = some (.ref f) ∧ PySem.W.keepIn K (.ref f) = true ∧ Binds K fd ps []
theorem pe_cc {X : Cx} {CX : CXT} {k j : Nat} {x : Str} {sp : Sp} {E : XK} {p pos : Pos} {e : Expr} {es : List Expr} {t : TA} (c : Cc X.prog X.w X.K X.mg X.base CX k x sp) (hr : Room j X.A) (hk : k ≤ j) (hx : Passes CX X E) (ha : PA X (e :: es) t) (hg : Gl X x := by rfl)
    (hdb : (x == ("__debug__" : Str)) = false := by decide) (he : starEach (e :: es) X.env = (false, eval e X.env) :: starEach es X.env := by rfl) (hpl : (backTo pos (starEach es X.env)).any (·.1) = false := by rfl) :
    PE X (.Call (.Name x p) (e :: es) [] pos) (tCall sp [] E t) := by
  obtain ⟨f, fd, ps, F, hm, kp, hb⟩ := c.ex
  exact pe_call F (hr.mono hk) hg hm kp hb .nil hx ha hdb he hpl
theorem pe_gs {X : Cx} {x z : Str} {pos : Pos} (h : GS X.mg x z) (hg : Gl X x := by rfl) (hd : (x == ("__debug__" : Str)) = false := by decide) : PE X (.Name x pos) (tC (.str z)) := by
  obtain ⟨u, hm, r⟩ := h
  exact pe_glob hg hm r hd
theorem pe_gi {X : Cx} {x : Str} {i : Int} {pos : Pos} (h : GI X.mg x i) (hg : Gl X x := by rfl) (hd : (x == ("__debug__" : Str)) = false := by decide) : PE X (.Name x pos) (tC (.int i)) := by
  obtain ⟨u, hm, r⟩ := h
  exact pe_glob hg hm r hd
def tGT (K : PySem.W.Frag) (zs : List Str) : TE := fun _ H Q => ∀ a, SqT K H a (zs.map V.str) → Q (.ref a) H
theorem pe_gt {X : Cx} {x : Str} {zs : List Str} {pos : Pos} (h : GT X.K X.mg x zs) (hg : Gl X x := by rfl) (hd : (x == ("__debug__" : Str)) = false := by decide) : PE X (.Name x pos) (tGT X.K zs) := by
  obtain ⟨a, hm, r⟩ := h
  exact ⟨fun pins s σ H Q I q => (pe_glob (v := .ref a) hg hm rfl hd).run pins s σ H Q I (q a (r H))⟩
/-- what the module's top has -/
structure TxS (K : PySem.W.Frag) (mg : Str → Option Value) : Prop where
  len : mg "len" = none
  all : mg "all" = none
  mn : mg "min" = none
  tup : mg "tuple" = none
  int : mg "int" = none
  str : mg "str" = none
  enum : mg "enumerate" = none
  big : GI mg "BIG" 1000000000000
  rows : GI mg "MOST_ROWS" 300
  cols : GI mg "MOST_COLUMNS" 120
  tsig : GI mg "MOST_TEXT_SIGNS" 40
  nsig : GI mg "MOST_NAME_SIGNS" 12
  small : GS mg "SMALL" (mk SMALL)
  caps : GS mg "CAPITALS" (mk CAPS)
  figs : GS mg "FIGURES" (mk FIGS)
  texts : GS mg "TEXT_SIGNS" (mk TEXTS)
  ssig : GS mg "SMALL_SIGNS" (mk (SMALL ++ FIGS))
  ksig : GS mg "KIND_SIGNS" (mk (SMALL ++ CAPS ++ FIGS))
  br : GT K mg "BRACKETS" [mk [40], mk [41], mk [123], mk [125], mk [91], mk [93], mk [124]]
  marks : GT K mg "MARKS" [mk [43], mk [45], mk [42], mk [47], mk [60], mk [61], mk [58, 61], mk [58]]
  kept : GT K mg "KEPT" KEPTs
section
variable {P : Program} {w : World} {K : PySem.W.Frag} {mg : Str → Option Value} {base : Heap}
abbrev C0 (P : Program) (w : World) (K : PySem.W.Frag) (mg : Str → Option Value) (base : Heap) (k : Nat) (x : Str) (sp : Sp) : Prop := Cc P w K mg base CX0 k x sp
/-- a def that only tells: its answer, what stood stands -/
def spHas : Sp := fun vs H Q _ => ∃ z s : Str, vs = [.str z, .str s] ∧ z.length ≤ 100000 ∧ ∀ H', Same H H' → Q (.bl (hasOnly (tl z) (tl s))) H'
theorem takeWhile_len {p : Nat → Bool} : ∀ {l : List Nat}, l.length ≤ (l.takeWhile p).length → l.all p = true
  | [], _ => rfl
  | a :: l, h => by
    rw [List.takeWhile_cons] at h
    by_cases c : p a = true
    · rw [if_pos c] at h
      rw [List.all_cons, c, Bool.true_and]
      exact takeWhile_len (by simpa using h)
    · rw [if_neg c] at h
      simp at h
theorem takeWhile_of : ∀ {p : Nat → Bool} {l : List Nat}, l.all p = true → l.takeWhile p = l
  | p, [], _ => rfl
  | p, a :: l, h => by
    rw [List.all_cons, Bool.and_eq_true] at h
    rw [List.takeWhile_cons, if_pos h.1, takeWhile_of h.2]
theorem all_takeWhile {p : Nat → Bool} : ∀ (l : List Nat), (l.takeWhile p).all p = true
  | [] => rfl
  | a :: l => by
    rw [List.takeWhile_cons]
    by_cases c : p a = true
    · rw [if_pos c, List.all_cons, c, all_takeWhile l]; rfl
    · rw [if_neg c]; rfl
theorem strip_nil (g : Nat → Bool) (z : Str) : decide (V.str (Txt.stripBy g true true z) = V.str (Str.ofString "")) = (tl z).all g := by
  have ht : (Str.ofString "") = mk [] := by decide +kernel
  rw [dec_str, ht]
  have hl := len_tl z
  have hlo : PySem.stripLo g true z = ((tl z).takeWhile g).length := rfl
  have hhi : ∀ lo, PySem.stripHi g true z lo = z.length - (((tl z).drop lo).reverse.takeWhile g).length := fun _ => rfl
  by_cases c : (tl z).all g = true
  · rw [c]
    refine decide_eq_true ?_
    have e0 := takeWhile_of c
    have lo : PySem.stripLo g true z = z.length := by rw [hlo, e0, hl]
    have hi : PySem.stripHi g true z z.length = z.length := by
      rw [hhi, ← hl, List.drop_length]; rfl
    unfold Txt.stripBy
    split
    · rename_i q
      unfold PySem.stripSame at q
      rw [lo] at q
      have q1 : z.length = 0 := by
        have := (Bool.and_eq_true _ _ ▸ q).1
        simpa using this
      have : tl z = [] := List.eq_nil_of_length_eq_zero (by rw [hl]; exact q1)
      rw [← mk_tl z, this]
    · unfold PySem.stripped Builtin.Str.strSub
      rw [lo, hi]
      simp
      exact Nat.min_le_left _ _
  · have cf : (tl z).all g = false := by simpa using c
    rw [cf]
    refine decide_eq_false fun h => ?_
    apply c
    unfold Txt.stripBy at h
    split at h
    · rw [h]; rfl
    · have h2 := congrArg (fun s => s.cps.size) h
      unfold PySem.stripped Builtin.Str.strSub at h2
      rw [hlo, hhi] at h2
      have ha : ((tl z).takeWhile g).length ≤ (tl z).length := (List.takeWhile_sublist g).length_le
      have hr : (((tl z).drop ((tl z).takeWhile g).length).reverse.takeWhile g).length ≤ ((tl z).drop ((tl z).takeWhile g).length).length := by
        have := (List.takeWhile_sublist (l := ((tl z).drop ((tl z).takeWhile g).length).reverse) g).length_le
        rwa [List.length_reverse] at this
      have hz : z.cps.size = z.length := rfl
      have h3 : min (z.length - (((tl z).drop ((tl z).takeWhile g).length).reverse.takeWhile g).length) z.length - ((tl z).takeWhile g).length = 0 := by
        rw [Array.size_extract, hz] at h2
        exact h2
      rw [List.length_drop] at hr
      have hd : (tl z).drop ((tl z).takeWhile g).length |>.all g := by
        have hh : (((tl z).drop ((tl z).takeWhile g).length).reverse).all g = true := takeWhile_len (by rw [List.length_reverse, List.length_drop]; omega)
        rwa [List.all_reverse] at hh
      have ht2 := List.takeWhile_append_dropWhile (p := g) (l := tl z)
      have hdw : (tl z).drop ((tl z).takeWhile g).length = (tl z).dropWhile g := by
        conv => lhs; arg 2; rw [← ht2]
        rw [List.drop_left]
      rw [← ht2, List.all_append, all_takeWhile, ← hdw, hd]
      rfl
theorem has_strip (z s : Str) : decide (V.str (Txt.stripChars z s) = V.str (Str.ofString "")) = hasOnly (tl z) (tl s) := by
  unfold Txt.stripChars
  rw [strip_nil]
  unfold hasOnly
  congr 1
  funext c
  rw [Bool.eq_iff_iff, decide_eq_true_eq]
  simp [tl]
theorem scHas : FnScope ["word", "signs"] ["word", "signs"] (defScope sHas) := ⟨rfl, rfl, rfl, by decide +kernel, rfl, by decide +kernel, by decide +kernel⟩
theorem ok_has {f : Addr} {fd : FuncData} (F : Fun K "has_only" "has_only" sHas f fd) (mAll : mg "all" = none) : FnOk P w K mg base CX0 1 f fd ["word", "signs"] spHas := by
  refine F.ok scHas (fun vs H Q E h => ?_) (fun cdv A outer s H vs Q E hr h => ?_)
  · obtain ⟨z, s, rfl, _⟩ := h
    rfl
  obtain ⟨z, sg, rfl, hz, k⟩ := h
  refine ⟨_, pss_one (ps_ret (pe_cmpR op_eq (pe_m1 PySem.F.slot_str_strip PySem.F.type_str_strip mt_stripChars (pv 0) (pv 1)) pe_str (nomark _))), ?_⟩
  refine ⟨_, rfl, ⟨_, rfl⟩, _, rfl, _, _, rfl, rfl, by rw [sizeLine_eq]; omega, rfl, ?_⟩
  rw [has_strip]
  exact k H (Same.refl H)

theorem c_has (T : TxS K mg) (D : Dn K mg "has_only" sHas) : C0 P w K mg base 1 "has_only" spHas := by
  obtain ⟨f, fd, F, m⟩ := D.ex
  exact ⟨f, fd, _, ok_has F T.all, m, F.kp, F.binds (ps := ["word", "signs"]) fun _ _ _ _ _ _ us hl => match us, hl with | [_, _], _ => rfl⟩
def spB (g : T → Bool) : Sp := fun vs H Q _ => ∃ z : Str, vs = [.str z] ∧ z.length ≤ 100000 ∧ ∀ H', Same H H' → Q (.bl (g (tl z))) H'
/-! is_name -/
def spName : Sp := fun vs H Q _ => ∃ z s1 s2 : Str, vs = [.str z, .str s1, .str s2] ∧ z.length ≤ 100000 ∧ ∀ H', Same H H' → Q (.bl (isName (tl z) (tl s1) (tl s2))) H'
theorem scName : FnScope ["word", "first", "others"] ["word", "first", "others"] (defScope sIsName) := ⟨rfl, rfl, rfl, by decide +kernel, rfl, by decide +kernel, by decide +kernel⟩
theorem ok_name {f : Addr} {fd : FuncData} (F : Fun K "is_name" "is_name" sIsName f fd) (T : TxS K mg) (G : C0 P w K mg base 1 "has_only" spHas) : FnOk P w K mg base CX0 2 f fd ["word", "first", "others"] spName := by
  refine F.ok scName (fun vs H Q E h => ?_) (fun cdv A outer s H vs Q E hr h => ?_)
  · obtain ⟨z, s1, s2, rfl, _⟩ := h
    rfl
  obtain ⟨z, s1, s2, rfl, hz, k⟩ := h
  have hsz : z.length ≤ sizeLine := by rw [sizeLine_eq]; omega
  refine ⟨_, pss_one (ps_ret (pe_and (pe_chain op_le op_le pe_int (pe_callB call_len_str (by rfl) T.len PySem.boot_len (pa_cons (pv 0) pa_nil)) (pe_gi T.nsig)) (pe_and (pe_cmpR op_in_sign (pe_item_str (pv 0) pe_int (fun _ _ => rfl)) (pv 1) rfl) (pe_one (pe_cc G hr (Nat.le_refl _) pass0 (pa_cons (pv 0) (pa_cons (pv 2) pa_nil))))))), ?_⟩
  refine ⟨_, rfl, z, rfl, hsz, _, _, rfl, rfl, _, rfl, ?_⟩
  have el := len_tl z
  refine ite2 (fun c => ?_) (fun c => ?_)
  · have c1 : (1 : Int) ≤ (z.length : Nat) := of_decide_eq_true c
    refine ⟨_, _, rfl, rfl, _, rfl, ?_⟩
    refine ite2 (fun c2 => ?_) (fun c2 => ?_)
    · have c3 : ((z.length : Nat) : Int) ≤ 12 := of_decide_eq_true c2
      obtain ⟨c0, hc⟩ : ∃ c0, z.cps[0]? = some c0 := ⟨z.cps[0]'(by show 0 < z.length; omega), by simp [show 0 < z.cps.size from (by show 0 < z.length; omega)]⟩
      refine ⟨_, rfl, z, 0, c0, rfl, rfl, by omega, by decide, by omega, hc, _, rfl, c0, s1, rfl, rfl, _, rfl, ?_⟩
      have g0 : (tl z).getD 0 0 = c0 := by
        have : (tl z)[0]? = some c0 := by simpa using hc
        rw [List.getD_eq_getElem?_getD, this]
        rfl
      have e : isName (tl z) (tl s1) (tl s2) = (decide (c0 ∈ tl s1) && hasOnly (tl z) (tl s2)) := by
        unfold isName
        rw [decide_eq_true (by omega), g0]
        rfl
      refine ite2 (fun c4 => ?_) (fun c4 => ?_)
      · refine ⟨_, rfl, _, rfl, z, s2, rfl, hz, fun H' s => ?_⟩
        have := k H' s
        rw [e, c4, Bool.true_and] at this
        exact this
      · have := k H (Same.refl H)
        have c5 : decide (c0 ∈ tl s1) = false := by simpa using c4
        rw [e, c5, Bool.false_and] at this
        exact this
    · have c3 : ¬ ((z.length : Nat) : Int) ≤ 12 := of_decide_eq_false (Bool.eq_false_iff.mpr c2)
      have e : isName (tl z) (tl s1) (tl s2) = false := by
        unfold isName
        rw [decide_eq_false (by omega)]
        rfl
      have := k H (Same.refl H)
      rw [e] at this
      exact this
  · have c1 : ¬ (1 : Int) ≤ (z.length : Nat) := of_decide_eq_false (Bool.eq_false_iff.mpr c)
    have e : isName (tl z) (tl s1) (tl s2) = false := by
      unfold isName
      rw [decide_eq_false (by omega)]
      rfl
    have := k H (Same.refl H)
    rw [e] at this
    exact ⟨false, rfl, iteF this⟩
theorem c_name (T : TxS K mg) (D : Dn K mg "is_name" sIsName) (G : C0 P w K mg base 1 "has_only" spHas) : C0 P w K mg base 2 "is_name" spName := by
  obtain ⟨f, fd, F, m⟩ := D.ex
  exact ⟨f, fd, _, ok_name F T G, m, F.kp, F.binds (ps := ["word", "first", "others"]) fun _ _ _ _ _ _ us hl => match us, hl with | [_, _, _], _ => rfl⟩
/-! is_small, is_kind_name -/
theorem small_add (a b : T) : mk a ++ mk b = mk (a ++ b) := by
  show (⟨a.toArray ++ b.toArray⟩ : Str) = _
  simp
theorem scSmall : FnScope ["word"] ["word"] (defScope sIsSmall) := ⟨rfl, rfl, rfl, by decide +kernel, rfl, by decide +kernel, by decide +kernel⟩
theorem ok_small {f : Addr} {fd : FuncData} (F : Fun K "is_small" "is_small" sIsSmall f fd) (T : TxS K mg) (G : C0 P w K mg base 2 "is_name" spName) : FnOk P w K mg base CX0 3 f fd ["word"] (spB isSmall) := by
  refine F.ok scSmall (fun vs H Q E h => ?_) (fun cdv A outer s H vs Q E hr h => ?_)
  · obtain ⟨z, rfl, _⟩ := h
    rfl
  obtain ⟨z, rfl, hz, k⟩ := h
  refine ⟨_, pss_one (ps_ret (pe_cc G hr (Nat.le_refl _) pass0 (pa_cons (pv 0) (pa_cons (pe_gs T.small) (pa_cons (pe_gs T.ssig) pa_nil))))), ?_⟩
  refine ⟨_, rfl, z, _, _, rfl, hz, fun H' s => ?_⟩
  exact k H' s
theorem c_small (T : TxS K mg) (D : Dn K mg "is_small" sIsSmall) (G : C0 P w K mg base 2 "is_name" spName) : C0 P w K mg base 3 "is_small" (spB isSmall) := by
  obtain ⟨f, fd, F, m⟩ := D.ex
  exact ⟨f, fd, _, ok_small F T G, m, F.kp, F.binds (ps := ["word"]) fun _ _ _ _ _ _ us hl => match us, hl with | [_], _ => rfl⟩
theorem scKind : FnScope ["word"] ["word"] (defScope sIsKind) := ⟨rfl, rfl, rfl, by decide +kernel, rfl, by decide +kernel, by decide +kernel⟩
theorem ok_kind {f : Addr} {fd : FuncData} (F : Fun K "is_kind_name" "is_kind_name" sIsKind f fd) (T : TxS K mg) (G : C0 P w K mg base 2 "is_name" spName) : FnOk P w K mg base CX0 3 f fd ["word"] (spB isKindName) := by
  refine F.ok scKind (fun vs H Q E h => ?_) (fun cdv A outer s H vs Q E hr h => ?_)
  · obtain ⟨z, rfl, _⟩ := h
    rfl
  obtain ⟨z, rfl, hz, k⟩ := h
  refine ⟨_, pss_one (ps_ret (pe_cc G hr (Nat.le_refl _) pass0 (pa_cons (pv 0) (pa_cons (pe_gs T.caps) (pa_cons (pe_gs T.ksig) pa_nil))))), ?_⟩
  refine ⟨_, rfl, z, _, _, rfl, hz, fun H' s => ?_⟩
  exact k H' s
theorem c_kind (T : TxS K mg) (D : Dn K mg "is_kind_name" sIsKind) (G : C0 P w K mg base 2 "is_name" spName) : C0 P w K mg base 3 "is_kind_name" (spB isKindName) := by
  obtain ⟨f, fd, F, m⟩ := D.ex
  exact ⟨f, fd, _, ok_kind F T G, m, F.kp, F.binds (ps := ["word"]) fun _ _ _ _ _ _ us hl => match us, hl with | [_], _ => rfl⟩
/-! is_text -/
theorem scText : FnScope ["signs"] ["signs"] (defScope sIsText) := ⟨rfl, rfl, rfl, by decide +kernel, rfl, by decide +kernel, by decide +kernel⟩
theorem ok_text {f : Addr} {fd : FuncData} (F : Fun K "is_text" "is_text" sIsText f fd) (T : TxS K mg) (G : C0 P w K mg base 1 "has_only" spHas) : FnOk P w K mg base CX0 2 f fd ["signs"] (spB isText) := by
  refine F.ok scText (fun vs H Q E h => ?_) (fun cdv A outer s H vs Q E hr h => ?_)
  · obtain ⟨z, rfl, _⟩ := h
    rfl
  obtain ⟨z, rfl, hz, k⟩ := h
  have hsz : z.length ≤ sizeLine := by rw [sizeLine_eq]; omega
  refine ⟨_, pss_one (ps_ret (pe_and (pe_cmpR op_le (pe_callB call_len_str (by rfl) T.len PySem.boot_len (pa_cons (pv 0) pa_nil)) (pe_gi T.tsig) (nomark _)) (pe_one (pe_cc G hr (Nat.le_refl _) pass0 (pa_cons (pv 0) (pa_cons (pe_gs T.texts) pa_nil)))))), ?_⟩
  refine ⟨_, rfl, z, rfl, hsz, _, _, rfl, rfl, _, rfl, ?_⟩
  have el := len_tl z
  refine ite2 (fun c => ?_) (fun c => ?_)
  · have c1 : ((z.length : Nat) : Int) ≤ 40 := of_decide_eq_true c
    refine ⟨_, rfl, z, _, rfl, hz, fun H' s => ?_⟩
    have := k H' s
    unfold isText at this
    rw [decide_eq_true (by omega), Bool.true_and] at this
    exact this
  · have c1 : ¬ ((z.length : Nat) : Int) ≤ 40 := of_decide_eq_false (Bool.eq_false_iff.mpr c)
    have := k H (Same.refl H)
    unfold isText at this
    rw [decide_eq_false (by omega), Bool.false_and] at this
    exact this
theorem c_text (T : TxS K mg) (D : Dn K mg "is_text" sIsText) (G : C0 P w K mg base 1 "has_only" spHas) : C0 P w K mg base 2 "is_text" (spB isText) := by
  obtain ⟨f, fd, F, m⟩ := D.ex
  exact ⟨f, fd, _, ok_text F T G, m, F.kp, F.binds (ps := ["signs"]) fun _ _ _ _ _ _ us hl => match us, hl with | [_], _ => rfl⟩
/-! is_free -/
def isFree (l : T) : Bool := isSmall l && !(KEPTs.any fun k => k == mk l)
theorem inV_strs (z : Str) (zs : List Str) : inV (.str z) (zs.map V.str) = zs.any fun k => k == z := by
  unfold inV
  rw [List.any_map]
  rfl
theorem flat_strs (zs : List Str) : (zs.map V.str).all flatV = true := by
  rw [List.all_map]
  exact List.all_eq_true.mpr fun _ _ => rfl
theorem scFree : FnScope ["word"] ["word"] (defScope sIsFree) := ⟨rfl, rfl, rfl, by decide +kernel, rfl, by decide +kernel, by decide +kernel⟩
theorem ok_free {f : Addr} {fd : FuncData} (F : Fun K "is_free" "is_free" sIsFree f fd) (T : TxS K mg) (G : C0 P w K mg base 3 "is_small" (spB isSmall)) : FnOk P w K mg base CX0 4 f fd ["word"] (spB isFree) := by
  refine F.ok scFree (fun vs H Q E h => ?_) (fun cdv A outer s H vs Q E hr h => ?_)
  · obtain ⟨z, rfl, _⟩ := h
    rfl
  obtain ⟨z, rfl, hz, k⟩ := h
  refine ⟨_, pss_one (ps_ret (pe_and (pe_cc G hr (Nat.le_refl _) pass0 (pa_cons (pv 0) pa_nil)) (pe_one (pe_cmpR op_notIn_seq (pv 0) (pe_gt T.kept) rfl)))), ?_⟩
  refine ⟨_, rfl, z, rfl, hz, fun H1 s1 => ⟨_, rfl, ?_⟩⟩
  refine ite2 (fun c => ?_) (fun c => ?_)
  · refine ⟨_, rfl, fun a ha => ⟨a, _, rfl, .inr ha, rfl, flat_strs _, ?_⟩⟩
    have := k H1 s1
    unfold isFree at this
    rw [c, Bool.true_and, mk_tl] at this
    rw [if_pos rfl, inV_strs]
    exact this
  · have c1 : isSmall (tl z) = false := by simpa using c
    have := k H1 s1
    unfold isFree at this
    rw [c1, Bool.false_and] at this
    exact this
theorem c_free (T : TxS K mg) (D : Dn K mg "is_free" sIsFree) (G : C0 P w K mg base 3 "is_small" (spB isSmall)) : C0 P w K mg base 4 "is_free" (spB isFree) := by
  obtain ⟨f, fd, F, m⟩ := D.ex
  exact ⟨f, fd, _, ok_free F T G, m, F.kp, F.binds (ps := ["word"]) fun _ _ _ _ _ _ us hl => match us, hl with | [_], _ => rfl⟩
end
end My
set_option Elab.async false
set_option linter.all false
set_option maxRecDepth 100000
set_option maxHeartbeats 2000000
namespace My
open PySem L2 SS
/-! ### numbers, words: the functions -/
def figsOf : T → T
  | 45 :: cs => cs
  | l => l
def numOf : T → Int
  | 45 :: cs => -((NumText.digitsVal cs : Nat) : Int)
  | l => ((NumText.digitsVal l : Nat) : Int)
def numStr (n : Int) : Str := Str.ofString (toString n)
def isNum (l : T) : Bool := decide (1 ≤ (figsOf l).length ∧ (figsOf l).length ≤ 13) && (hasOnly (figsOf l) FIGS && (decide (numStr (numOf l) = mk l) && (decide (-1000000000000 < numOf l) && decide (numOf l < 1000000000000))))
def BRs : List Str := [mk [40], mk [41], mk [123], mk [125], mk [91], mk [93], mk [124]]
def MARKs : List Str := [mk [43], mk [45], mk [42], mk [47], mk [60], mk [61], mk [58, 61], mk [58]]
def inS (zs : List Str) (l : T) : Bool := zs.any fun k => k == mk l
def isWord (l : T) : Bool :=
  if inS BRs l = true ∨ inS MARKs l = true then true
  else if l.head? = some 64 then isSmall (l.drop 1)
  else if l.head? = some 39 then isText (l.drop 1)
  else isSmall l || (isKindName l || isNum l)
theorem fold_lt : ∀ (cs : T) (a : Nat), NumText.AllDigits cs → cs.foldl (fun acc c => acc * 10 + (c - 48)) a < (a + 1) * 10 ^ cs.length
  | [], a, _ => by simp
  | c :: cs, a, h => by
    have hc := h c List.mem_cons_self
    have ih := fold_lt cs (a * 10 + (c - 48)) (fun d hd => h d (List.mem_cons_of_mem _ hd))
    rw [List.foldl_cons, List.length_cons]
    have e : (a * 10 + (c - 48) + 1) * 10 ^ cs.length ≤ ((a + 1) * 10) * 10 ^ cs.length := Nat.mul_le_mul_right _ (by omega)
    have e2 : (a + 1) * 10 ^ (cs.length + 1) = ((a + 1) * 10) * 10 ^ cs.length := by rw [Nat.pow_succ, Nat.mul_assoc, Nat.mul_comm 10]
    omega
theorem digits_lt {cs : T} (h : NumText.AllDigits cs) (hl : cs.length ≤ 13) : NumText.digitsVal cs < 10 ^ 13 := by
  have h1 := fold_lt cs 0 h
  have h2 : 10 ^ cs.length ≤ 10 ^ 13 := Nat.pow_le_pow_right (by decide) hl
  unfold NumText.digitsVal
  omega
theorem figs_digits {l : T} (h : hasOnly l FIGS = true) : NumText.AllDigits l := fun c hc => by
  unfold hasOnly at h
  have := of_decide_eq_true (List.all_eq_true.mp h c hc)
  simp [FIGS] at this
  omega
theorem log_small {n : Nat} (h : n < 10 ^ 13) : n.log2 < 1920 := by
  by_cases e : n = 0
  · subst e; decide
  · exact (Nat.log2_lt e).mpr (Nat.lt_of_lt_of_le h (by decide +kernel))
theorem num_facts {l : T} (h1 : 1 ≤ (figsOf l).length) (h2 : (figsOf l).length ≤ 13) (h3 : hasOnly (figsOf l) FIGS = true) : intText? (mk l) = some (numOf l) ∧ (numOf l).natAbs.log2 < 1920 ∧ (mk l).length ≤ 14 := by
  have hd := figs_digits h3
  have hne : figsOf l ≠ [] := fun z => by rw [z] at h1; simp at h1
  have hl : (mk l).length = l.length := by show l.toArray.size = _; simp
  rcases l with _ | ⟨c, cs⟩
  · simp [figsOf] at h1
  · by_cases hc : c = 45
    · subst hc
      have e : figsOf (45 :: cs) = cs := rfl
      rw [e] at h1 h2 hd hne
      refine ⟨intText_neg (cs := cs) rfl hd hne (by rw [hl, List.length_cons]; omega), ?_, by rw [hl, List.length_cons]; omega⟩
      show (-((NumText.digitsVal cs : Nat) : Int)).natAbs.log2 < 1920
      rw [Int.natAbs_neg]
      exact log_small (digits_lt hd h2)
    · have e : figsOf (c :: cs) = c :: cs := by
        unfold figsOf
        split
        · rename_i heq
          exact absurd (List.cons.inj heq).1 hc
        · rfl
      have e2 : numOf (c :: cs) = ((NumText.digitsVal (c :: cs) : Nat) : Int) := by
        unfold numOf
        split
        · rename_i heq
          exact absurd (List.cons.inj heq).1 hc
        · rfl
      rw [e] at h1 h2 hd hne
      rw [e2]
      exact ⟨intText_digits (x := mk (c :: cs)) hd hne (by rw [hl]; omega), log_small (digits_lt hd h2), by rw [hl]; omega⟩
theorem mk_len (l : T) : (mk l).length = l.length := by show l.toArray.size = _; simp
theorem removed (z : Str) : Txt.removeprefix z "-" = mk (figsOf (tl z)) := by
  obtain ⟨⟨l⟩⟩ := z
  have e0 : (Str.ofString "-") = ⟨#[45]⟩ := by decide +kernel
  show Txt.removeprefix ⟨⟨l⟩⟩ (Str.ofString "-") = mk (figsOf l)
  rw [e0]
  unfold Txt.removeprefix
  rcases l with _ | ⟨c, cs⟩
  · rfl
  · have hs : Builtin.Str.subAt ⟨⟨c :: cs⟩⟩ ⟨#[45]⟩ 0 = decide (c = 45) := by
      unfold Builtin.Str.subAt
      have : (⟨c :: cs⟩ : Array Nat).extract 0 (0 + (⟨#[45]⟩ : Str).length) = #[c] := by
        apply Array.toList_inj.mp
        simp [Str.length, Array.toList_extract, List.extract]
      show ((⟨c :: cs⟩ : Array Nat).extract 0 (0 + (⟨#[45]⟩ : Str).length) == #[45]) = _
      rw [this]
      by_cases h : c = 45
      · subst h; rfl
      · rw [decide_eq_false h]
        simp [h]
    rw [hs]
    by_cases h : c = 45
    · subst h
      rw [if_pos (by simp)]
      unfold Txt.affix
      show (if (cs.length + 1) - 1 == cs.length + 1 then _ else _) = _
      rw [if_neg (by simp)]
      unfold Builtin.Str.strSub
      show (⟨(⟨45 :: cs⟩ : Array Nat).extract 1 (cs.length + 1)⟩ : Str) = mk cs
      congr 1
      apply Array.toList_inj.mp
      simp [Array.toList_extract, List.extract]
    · rw [if_neg (by simp [h])]
      have e : figsOf (c :: cs) = c :: cs := by
        unfold figsOf
        split
        · rename_i heq
          exact absurd (List.cons.inj heq).1 h
        · rfl
      rw [e]
      rfl
theorem starts1 (z : Str) (c : Nat) : Txt.startswith z (mk [c]) = decide ((tl z).head? = some c) := by
  obtain ⟨⟨l⟩⟩ := z
  unfold Txt.startswith
  rcases l with _ | ⟨d, ds⟩
  · rfl
  · have hs : Builtin.Str.subAt ⟨⟨d :: ds⟩⟩ (mk [c]) 0 = decide (d = c) := by
      unfold Builtin.Str.subAt
      have : (⟨d :: ds⟩ : Array Nat).extract 0 (0 + (mk [c]).length) = #[d] := by
        apply Array.toList_inj.mp
        simp [Str.length, Array.toList_extract, List.extract]
      show ((⟨d :: ds⟩ : Array Nat).extract 0 (0 + (mk [c]).length) == #[c]) = _
      rw [this]
      by_cases h : d = c
      · subst h; simp
      · rw [decide_eq_false h]
        simp [h]
    rw [hs]
    show (decide (0 + 1 ≤ ds.length + 1) && decide (d = c)) = decide ((d :: ds).head? = some c)
    rw [decide_eq_true (by omega), Bool.true_and]
    simp
theorem cut1 (z : Str) : cutS z (some 1) none = mk ((tl z).drop 1) := by
  unfold cutS
  rw [HT.sIx_none]
  have h : HT.sIx z.length 0 (some 1) = min 1 z.length := HT.sIx_nat z.length 0 1
  rw [h]
  have hl := len_tl z
  have e : (List.take (z.length - min 1 z.length) (List.drop (min 1 z.length) z.cps.toList)) = (tl z).drop 1 := by
    rw [List.take_of_length_le (by rw [List.length_drop, hl]; omega)]
    by_cases h0 : z.length = 0
    · have : tl z = [] := List.eq_nil_of_length_eq_zero (by omega)
      show List.drop _ (tl z) = _
      rw [this]
      simp
    · rw [show min 1 z.length = 1 by omega]
  rw [e]
theorem cut_sl (z : Str) {a b : Nat} (h : b ≤ z.length) : cutS z (some (a : Nat)) (some (b : Nat)) = mk (sl (tl z) a b) := by
  unfold cutS
  rw [HT.sIx_nat, HT.sIx_nat]
  have hl := len_tl z
  unfold sl
  by_cases ha : a ≤ z.length
  · rw [show min a z.length = a by omega, show min b z.length = b by omega]
  · have e1 : (tl z).drop a = [] := List.drop_eq_nil_of_le (by omega)
    rw [e1, List.drop_eq_nil_of_le (by rw [hl]; omega)]
    simp
theorem dec_str (a b : Str) : decide (V.str a = V.str b) = decide (a = b) := by
  by_cases h : a = b
  · subst h; simp
  · rw [decide_eq_false h, decide_eq_false (fun z => h (V.str.inj z))]
section
variable {P : Program} {w : World} {K : PySem.W.Frag} {mg : Str → Option Value} {base : Heap}
theorem scNum : FnScope ["word", "figures", "number"] ["word"] (defScope sIsNum) := ⟨rfl, rfl, rfl, by decide +kernel, rfl, by decide +kernel, by decide +kernel⟩
theorem big_len : (Str.ofString (toString (1000000000000 : Int))).length = 13 := by decide +kernel
theorem ok_num {f : Addr} {fd : FuncData} (F : Fun K "is_number" "is_number" sIsNum f fd) (T : TxS K mg) (G : C0 P w K mg base 1 "has_only" spHas) : FnOk P w K mg base CX0 2 f fd ["word"] (spB isNum) := by
  refine F.ok scNum (fun vs H Q E h => ?_) (fun cdv A outer s H vs Q E hr h => ?_)
  · obtain ⟨z, rfl, _⟩ := h
    rfl
  obtain ⟨z, rfl, hz, k⟩ := h
  have hsz : z.length ≤ sizeLine := by rw [sizeLine_eq]; omega
  have hl := len_tl z
  have hfl : (figsOf (tl z)).length ≤ z.length := by
    unfold figsOf
    split
    · rename_i cs heq
      have := congrArg List.length heq
      rw [List.length_cons] at this
      omega
    · omega
  refine ⟨_, pss_cons (ps_set (i := 1) scNum.nd rfl (Or.inl rfl) (pe_m1 PySem.F.slot_str_removeprefix PySem.F.type_str_removeprefix mt_removeprefix (pv 0) pe_str))
    (pss_cons (ps_if (PW.pt (pw_or (pt_not (pt_chain op_le op_le pe_int (pe_callB call_len_str (by rfl) T.len PySem.boot_len (pa_cons (pv 1) pa_nil)) (pe_callB call_len_str (by rfl) T.len PySem.boot_len (pa_cons (pe_callTy call_str_int (by rfl) T.str (by decide +kernel) (pa_cons (pe_gi T.big) pa_nil)) pa_nil))))
        (pw_or1 (pt_not (pt_val (pe_cc G hr (Nat.le_refl _) pass0 (pa_cons (pv 1) (pa_cons (pe_gs T.figs) pa_nil)))))))) (pss_one (ps_ret pe_bl)) pss_nil)
    (pss_cons (ps_set (i := 2) scNum.nd rfl (Or.inl rfl) (pe_callTy call_int_str (by rfl) T.int (by decide +kernel) (pa_cons (pv 0) pa_nil)))
    (pss_one (ps_ret (pe_and (pe_cmpR op_eq (pe_callTy call_str_int (by rfl) T.str (by decide +kernel) (pa_cons (pv 2) pa_nil)) (pv 0) (nomark _)) (pe_one (pe_chain op_lt op_lt (pe_un un_neg (pe_gi T.big)) (pv 2) (pe_gi T.big)))))))), ?_⟩
  refine ⟨_, rfl, ⟨_, rfl⟩, _, _, rfl, rfl, hsz, ?_⟩
  rw [removed]
  -- the answer where the figures are not as many, or none
  have no : ∀ H', Same H H' → ((¬ (1 ≤ (figsOf (tl z)).length ∧ (figsOf (tl z)).length ≤ 13)) ∨ hasOnly (figsOf (tl z)) FIGS = false) → Q (.bl false) H' := fun H' s o => by
    have := k H' s
    unfold isNum at this
    rcases o with o | o
    · rw [decide_eq_false o, Bool.false_and] at this
      exact this
    · rw [o, Bool.false_and, Bool.and_false] at this
      exact this
  refine ⟨_, rfl, _, rfl, by rw [mk_len, sizeLine_eq]; omega, _, _, rfl, rfl, _, rfl, ?_⟩
  rw [mk_len]
  refine ite2 (fun c => ?_) (fun c => ?_)
  · have c1 : (1 : Int) ≤ ((figsOf (tl z)).length : Nat) := of_decide_eq_true c
    refine ⟨_, rfl, by decide +kernel, _, rfl, by rw [sizeLine_eq]; decide +kernel, _, _, rfl, rfl, _, rfl, ?_⟩
    rw [big_len]
    refine ite2 (fun c2 => ?_) (fun c2 => ?_)
    · have c3 : ¬ (((figsOf (tl z)).length : Nat) : Int) ≤ (13 : Nat) := by simpa using c2
      exact iteT (no H (Same.refl H) (.inl (by omega)))
    · have c3 : (((figsOf (tl z)).length : Nat) : Int) ≤ (13 : Nat) := by simpa using c2
      refine ⟨_, rfl, _, _, rfl, by rw [mk_len]; omega, fun H1 s1 => ⟨_, rfl, ?_⟩⟩
      refine ite2 (fun c4 => ?_) (fun c4 => ?_)
      · have c5 : hasOnly (figsOf (tl z)) FIGS = false := by simpa using c4
        exact no H1 s1 (.inr c5)
      · have c5 : hasOnly (figsOf (tl z)) FIGS = true := by simpa using c4
        obtain ⟨n1, n2, n3⟩ := num_facts (l := tl z) (by omega) (by omega) c5
        rw [mk_tl] at n1 n3
        refine ⟨_, rfl, z, _, rfl, n1, by omega, ?_⟩
        refine ⟨_, rfl, _, rfl, n2, _, rfl, rfl, _, rfl, ?_⟩
        have e : isNum (tl z) = (decide (numStr (numOf (tl z)) = z) && (decide (-1000000000000 < numOf (tl z)) && decide (numOf (tl z) < 1000000000000))) := by
          unfold isNum
          rw [decide_eq_true (by omega), c5, mk_tl]
          rfl
        have k1 := k H1 s1
        rw [e] at k1
        rw [dec_str]
        show if decide (numStr (numOf (tl z)) = z) = true then _ else _
        refine ite2 (fun c6 => ?_) (fun c6 => ?_)
        · rw [c6, Bool.true_and] at k1
          refine ⟨_, rfl, _, rfl, _, _, rfl, rfl, _, rfl, ?_⟩
          refine ite2 (fun c7 => ?_) (fun c7 => ?_)
          · have c8 : decide (-1000000000000 < numOf (tl z)) = true := c7
            rw [c8, Bool.true_and] at k1
            exact ⟨_, _, rfl, rfl, k1⟩
          · have c8 : decide (-1000000000000 < numOf (tl z)) = false := by simpa using c7
            rw [c8, Bool.false_and] at k1
            exact k1
        · have c8 : decide (numStr (numOf (tl z)) = z) = false := by simpa using c6
          rw [c8, Bool.false_and] at k1
          exact k1
  · have c1 : ¬ (1 : Int) ≤ ((figsOf (tl z)).length : Nat) := of_decide_eq_false (Bool.eq_false_iff.mpr c)
    exact ⟨false, rfl, iteT (iteT (no H (Same.refl H) (.inl (by omega))))⟩
end
end My
set_option Elab.async false
set_option linter.all false
set_option maxRecDepth 100000
set_option maxHeartbeats 2000000
namespace My
open PySem L2 SS
/-! ### things that stand in tuples -/
def AtT {α : Type} (f : α → List V) (H : Hp) (v : V) (q : α) : Prop := ∃ p, v = .ref p ∧ H p = some (.tup (f q))
inductive AllT {α : Type} (f : α → List V) (H : Hp) : List V → List α → Prop
  | nil : AllT f H [] []
  | cons {v : V} {q : α} {vs : List V} {qs : List α} : AtT f H v q → AllT f H vs qs → AllT f H (v :: vs) (q :: qs)
/-- tuples stand -/
def Tups (H H' : Hp) : Prop := ∀ p xs, H p = some (.tup xs) → H' p = some (.tup xs)
theorem same_tups {H H' : Hp} (s : Same H H') : Tups H H' := fun p xs h => s p _ h
theorem Tups.trans {H H1 H2 : Hp} (a : Tups H H1) (b : Tups H1 H2) : Tups H H2 := fun p xs h => b p xs (a p xs h)
theorem tups_new {H : Hp} {p : Addr} (h : H p = none) (o : HO) : Tups H (upd H p o) := same_tups (same_new h o)
theorem tups_lst {H : Hp} {p : Addr} {xs ys : List V} (h : H p = some (.lst xs)) : Tups H (upd H p (.lst ys)) := fun b u q => by
  rw [upd_ne (ne_of q h (by intro z; cases z))]; exact q
section
variable {α : Type} {f : α → List V} {H H' : Hp}
theorem AllT.on : ∀ {vs : List V} {qs : List α}, AllT f H vs qs → Tups H H' → AllT f H' vs qs
  | _, _, .nil, _ => .nil
  | _, _, .cons ⟨p, e, h⟩ r, t => .cons ⟨p, e, t _ _ h⟩ (r.on t)
theorem AllT.append : ∀ {vs ws : List V} {qs rs : List α}, AllT f H vs qs → AllT f H ws rs → AllT f H (vs ++ ws) (qs ++ rs)
  | _, _, _, _, .nil, h => h
  | _, _, _, _, .cons a r, h => .cons a (r.append h)
theorem AllT.length : ∀ {vs : List V} {qs : List α}, AllT f H vs qs → vs.length = qs.length
  | _, _, .nil => rfl
  | _, _, .cons _ r => by rw [List.length_cons, List.length_cons, r.length]
theorem AllT.get : ∀ {vs : List V} {qs : List α} {i : Nat} {v : V}, AllT f H vs qs → vs[i]? = some v → ∃ q, qs[i]? = some q ∧ AtT f H v q
  | _, _, i, v, .nil, h => by simp at h
  | _, _, 0, v, .cons a r, h => by simp at h; subst h; exact ⟨_, rfl, a⟩
  | _, _, i + 1, v, .cons a r, h => by
    obtain ⟨q, h1, h2⟩ := r.get (i := i) (v := v) (by simpa using h)
    exact ⟨q, by simpa using h1, h2⟩
/-- a list that is being made, its items in tuples -/
def LS (f : α → List V) (H H1 : Hp) (l : Addr) (ps : List α) : Prop := Same H H1 ∧ H l = none ∧ ∃ vs, H1 l = some (.lst vs) ∧ AllT f H1 vs ps
theorem LS.new {H1 : Hp} {l p : Addr} {ps : List α} (h : LS f H H1 l ps) (n : H1 p = none) (o : HO) : LS f H (upd H1 p o) l ps := by
  obtain ⟨s, hl, vs, h1, h2⟩ := h
  exact ⟨s.trans (same_new n o), hl, vs, by rw [upd_ne (ne_of_none h1 n)]; exact h1, h2.on (tups_new n o)⟩
theorem LS.push {H1 : Hp} {l p : Addr} {ps : List α} {q : α} (h : LS f H H1 l ps) (hp : H1 p = some (.tup (f q))) : ∃ vs, H1 l = some (.lst vs) ∧ vs.length = ps.length ∧ LS f H (upd H1 l (.lst (vs ++ [.ref p]))) l (ps ++ [q]) := by
  obtain ⟨s, hl, vs, h1, h2⟩ := h
  refine ⟨vs, h1, h2.length, fun b u e => ?_, hl, _, upd_same, ?_⟩
  · rw [upd_ne (ne_of_none e hl)]
    exact s b u e
  · have t : Tups H1 (upd H1 l (.lst (vs ++ [.ref p]))) := tups_lst h1
    exact (h2.on t).append (.cons ⟨p, rfl, t _ _ hp⟩ .nil)
end
def fP (q : List Nat × Nat) : List V := [.str (mk q.1), .int (q.2 : Nat)]
def fW (q : W) : List V := [.str (mk q.1), .int (q.2.1 : Nat), .int (q.2.2 : Nat)]
section
variable {P : Program} {w : World} {K : PySem.W.Frag} {mg : Str → Option Value} {base : Heap}
/-! ### is_word -/
theorem scWord : FnScope ["word"] ["word"] (defScope sIsWord) := ⟨rfl, rfl, rfl, by decide +kernel, rfl, by decide +kernel, by decide +kernel⟩
theorem s_at : (Str.ofString "@") = mk [64] := by decide +kernel
theorem s_quote : (Str.ofString "'") = mk [39] := by decide +kernel
theorem ok_word {f : Addr} {fd : FuncData} (F : Fun K "is_word" "is_word" sIsWord f fd) (T : TxS K mg) (G1 : C0 P w K mg base 3 "is_small" (spB isSmall)) (G2 : C0 P w K mg base 3 "is_kind_name" (spB isKindName)) (G3 : C0 P w K mg base 2 "is_text" (spB isText)) (G4 : C0 P w K mg base 2 "is_number" (spB isNum)) :
    FnOk P w K mg base CX0 4 f fd ["word"] (spB isWord) := by
  refine F.ok scWord (fun vs H Q E h => ?_) (fun cdv A outer s H vs Q E hr h => ?_)
  · obtain ⟨z, rfl, _⟩ := h
    rfl
  obtain ⟨z, rfl, hz, k⟩ := h
  have hsz : z.length ≤ sizeLine := by rw [sizeLine_eq]; omega
  have hl := len_tl z
  refine ⟨_, pss_cons (ps_if (PW.pt (pw_or (pt_cmpR op_in_seq (pv 0) (pe_gt T.br) rfl) (pw_or1 (pt_cmpR op_in_seq (pv 0) (pe_gt T.marks) rfl)))) (pss_one (ps_ret pe_bl)) pss_nil)
    (pss_cons (ps_if (pt_val (pe_m1 PySem.F.slot_str_startswith PySem.F.type_str_startswith mt_startswith (pv 0) pe_str)) (pss_one (ps_ret (pe_cc G1 hr (by decide) pass0 (pa_cons (pe_slice sl_str (pv 0) (po_some pe_int) po_none) pa_nil)))) pss_nil)
    (pss_cons (ps_if (pt_val (pe_m1 PySem.F.slot_str_startswith PySem.F.type_str_startswith mt_startswith (pv 0) pe_str)) (pss_one (ps_ret (pe_cc G3 hr (by decide) pass0 (pa_cons (pe_slice sl_str (pv 0) (po_some pe_int) po_none) pa_nil)))) pss_nil)
    (pss_one (ps_ret (pe_or (pe_cc G1 hr (by decide) pass0 (pa_cons (pv 0) pa_nil)) (pe_or (pe_cc G2 hr (by decide) pass0 (pa_cons (pv 0) pa_nil)) (pe_one (pe_cc G4 hr (by decide) pass0 (pa_cons (pv 0) pa_nil))))))))), ?_⟩
  have hin : ∀ zs : List Str, inV (.str z) (zs.map V.str) = inS zs (tl z) := fun zs => by
    rw [inV_strs]
    unfold inS
    rw [mk_tl]
  refine ⟨_, rfl, fun a ha => ⟨a, _, rfl, .inr ha, rfl, flat_strs _, _, rfl, ?_⟩⟩
  have yes : inS BRs (tl z) = true ∨ inS MARKs (tl z) = true → isWord (tl z) = true := fun o => by
    unfold isWord
    rw [if_pos o]
  rw [if_neg (by decide : ¬ false = true), hin]
  have e1 : inS [mk [40], mk [41], mk [123], mk [125], mk [91], mk [93], mk [124]] (tl z) = inS BRs (tl z) := rfl
  have e2 : inS [mk [43], mk [45], mk [42], mk [47], mk [60], mk [61], mk [58, 61], mk [58]] (tl z) = inS MARKs (tl z) := rfl
  rw [e1]
  refine ite2 (fun c => ?_) (fun c => ?_)
  · refine iteT ?_
    have := k H (Same.refl H)
    rw [yes (.inl c)] at this
    exact this
  refine ⟨_, rfl, fun a ha => ⟨a, _, rfl, .inr ha, rfl, flat_strs _, _, rfl, ?_⟩⟩
  rw [if_neg (by decide : ¬ false = true), hin, e2]
  refine ite2 (fun c2 => ?_) (fun c2 => ?_)
  · have := k H (Same.refl H)
    rw [yes (.inr c2)] at this
    exact this
  have no : ¬ (inS BRs (tl z) = true ∨ inS MARKs (tl z) = true) := fun o => o.elim c c2
  refine ⟨_, rfl, ⟨_, rfl⟩, _, _, rfl, rfl, _, rfl, ?_⟩
  rw [s_at, starts1]
  refine ite2 (fun c3 => ?_) (fun c3 => ?_)
  · have c4 := of_decide_eq_true c3
    refine ⟨_, rfl, _, rfl, z, rfl, hsz, ?_⟩
    rw [cut1]
    refine ⟨_, rfl, ?_, fun H' s => ?_⟩
    · rw [mk_len, List.length_drop]
      omega
    · have := k H' s
      unfold isWord at this
      rw [if_neg no, if_pos c4] at this
      exact this
  have c4 : ¬ (tl z).head? = some 64 := of_decide_eq_false (Bool.eq_false_iff.mpr c3)
  refine ⟨_, rfl, ⟨_, rfl⟩, _, _, rfl, rfl, _, rfl, ?_⟩
  rw [s_quote, starts1]
  refine ite2 (fun c5 => ?_) (fun c5 => ?_)
  · have c6 := of_decide_eq_true c5
    refine ⟨_, rfl, _, rfl, z, rfl, hsz, ?_⟩
    rw [cut1]
    refine ⟨_, rfl, ?_, fun H' s => ?_⟩
    · rw [mk_len, List.length_drop]
      omega
    · have := k H' s
      unfold isWord at this
      rw [if_neg no, if_neg c4, if_pos c6] at this
      exact this
  have c6 : ¬ (tl z).head? = some 39 := of_decide_eq_false (Bool.eq_false_iff.mpr c5)
  have e : isWord (tl z) = (isSmall (tl z) || (isKindName (tl z) || isNum (tl z))) := by
    unfold isWord
    rw [if_neg no, if_neg c4, if_neg c6]
  refine ⟨_, rfl, z, rfl, hz, fun H1 s1 => ⟨_, rfl, ?_⟩⟩
  refine ite2 (fun c7 => ?_) (fun c7 => ?_)
  · have := k H1 s1
    rw [e, c7, Bool.true_or] at this
    exact this
  have d7 : isSmall (tl z) = false := by simpa using c7
  refine ⟨_, rfl, z, rfl, hz, fun H2 s2 => ⟨_, rfl, ?_⟩⟩
  refine ite2 (fun c8 => ?_) (fun c8 => ?_)
  · have := k H2 (s1.trans s2)
    rw [e, c8, Bool.true_or, Bool.or_true] at this
    exact this
  have d8 : isKindName (tl z) = false := by simpa using c8
  refine ⟨_, rfl, z, rfl, hz, fun H3 s3 => ?_⟩
  have := k H3 ((s1.trans s2).trans s3)
  rw [e, d7, d8, Bool.false_or, Bool.false_or] at this
  exact this
/-! ### words_of_row -/
def spRow : Sp := fun vs H Q _ => ∃ z : Str, vs = [.str z] ∧ z.length ≤ 100000 ∧ ∀ (H' : Hp) (l : Addr) (us : List V), Same H H' → H l = none → H' l = some (.lst us) → AllT fP H' us (rowWords (tl z)) → Q (.ref l) H'
theorem scRow : FnScope ["line", "parts", "start", "at", "sign"] ["line"] (defScope sRow) := ⟨rfl, rfl, rfl, by decide +kernel, rfl, by decide +kernel, by decide +kernel⟩
def RowInv (L : List Nat) (i a : Nat) (ps : List (List Nat × Nat)) : Prop := (i ≤ L.length ∧ a ≤ i ∧ ps ++ rw_ (sl L a i) (i + 1) (L.drop i) = rowWords L) ∨ (i = L.length + 1 ∧ ps = rowWords L)
theorem RowInv.len {L : List Nat} {i a : Nat} {ps : List (List Nat × Nat)} (h : RowInv L i a ps) : ps.length ≤ 2 * L.length := by
  have := rowWords_len L
  rcases h with ⟨_, _, h⟩ | ⟨_, h⟩
  · rw [← h, List.length_append] at this
    omega
  · rw [h]; exact this
theorem s_blank : (Str.ofString " ") = mk [32] := by decide +kernel
theorem sep_in (c : Nat) : inS BRs [c] = decide (c ∈ BR) := by
  have e : ∀ d : Nat, ((mk [d]) == mk [c]) = decide (c = d) := fun d => by
    by_cases h : c = d
    · subst h; simp
    · rw [decide_eq_false h]
      apply beq_eq_false_iff_ne.mpr
      intro z
      have z2 := congrArg (fun s => s.cps.toList) z
      simp at z2
      exact h z2.symm
  unfold inS BRs BR
  simp only [List.any_cons, List.any_nil, e, List.mem_cons, List.not_mem_nil, Bool.decide_or, Bool.or_false, or_false]
theorem ok_row {f : Addr} {fd : FuncData} (F : Fun K "words_of_row" "words_of_row" sRow f fd) (T : TxS K mg) : FnOk P w K mg base CX0 1 f fd ["line"] spRow := by
  refine F.ok scRow (fun vs H Q E h => ?_) (fun cdv A outer s H vs Q E hr h => ?_)
  · obtain ⟨z, rfl, _⟩ := h
    rfl
  obtain ⟨z, rfl, hz, k⟩ := h
  have hsz : z.length ≤ sizeLine := by rw [sizeLine_eq]; omega
  have hl := len_tl z
  refine ⟨_, pss_cons (ps_set (i := 1) scRow.nd rfl (Or.inl rfl) (pe_lst pa_nil)) (pss_cons (ps_set (i := 2) scRow.nd rfl (Or.inl rfl) pe_int)
    (pss_cons (ps_for PassesOwn.never rfl (pi_enumX (by rfl) T.enum (pa_cons (pe_op op_add_str (pv 0) pe_str) pa_nil)) (pg_tup (by rfl) (pgs_cons (pg_name (i := 3) scRow.nd rfl (Or.inl rfl)) (pgs_cons (pg_name (i := 4) scRow.nd rfl (Or.inl rfl)) pgs_nil)))
      (pss_one (ps_if (PW.pt (pw_or (pt_cmpR op_eq (pv 4) pe_str (nomark _)) (pw_or1 (pt_cmpR op_in_seq (pv 4) (pe_gt T.br) rfl))))
        (C8.pss_cut (ps_if (pt_cmpR op_lt (pv 2) (pv 3) (nomark _)) (pss_one (ps_expr (pe_bm PySem.F.plainAttrs_list PySem.F.slot_list_append PySem.F.type_list_append mt_append (pv 1) (pa_cons (pe_tup (pa_cons (pe_slice sl_str (pv 0) (po_some (pv 2)) (po_some (pv 3))) (pa_cons (pe_op op_add (pv 2) pe_int) pa_nil))) pa_nil)))) pss_nil)
        (C8.pss_cut (ps_if (pt_cmpR op_ne (pv 4) pe_str (nomark _)) (pss_one (ps_expr (pe_bm PySem.F.plainAttrs_list PySem.F.slot_list_append PySem.F.type_list_append mt_append (pv 1) (pa_cons (pe_tup (pa_cons (pv 4) (pa_cons (pe_op op_add (pv 3) pe_int) pa_nil))) pa_nil)))) pss_nil)
        (pss_one (ps_set (i := 2) scRow.nd rfl (Or.inl rfl) (pe_op op_add (pv 3) pe_int))))) pss_nil)))
    (pss_one (ps_ret (pv 1))))), ?_⟩
  refine ⟨Nat.zero_le _, fun l hl0 => ?_⟩
  have hzb : (z ++ Str.ofString " ").cps.toList = tl z ++ [32] := by
    rw [s_blank]
    show (z.cps ++ #[32]).toList = _
    simp
  refine ⟨_, rfl, _, _, rfl, rfl, ?_, _, rfl, ?_⟩
  · have e : (Str.ofString " ").length = 1 := by decide +kernel
    rw [e, sizeLine_eq]
    omega
  have hn : (z ++ Str.ofString " ").cps.size = z.length + 1 := by
    rw [← Array.length_toList, hzb, List.length_append, hl]
    rfl
  refine for_it walk_enumX (fun i σ H1 => ∃ (a : Nat) (ps : List (List Nat × Nat)) (v3 v4 : Option V), σ = [some (.str z), some (.ref l), some (.int (a : Nat)), v3, v4] ∧ LS fP H H1 l ps ∧ RowInv (tl z) i a ps)
    ⟨0, [], none, none, rfl, ⟨same_new hl0 _, hl0, [], upd_same, .nil⟩, .inl ⟨Nat.zero_le _, Nat.le_refl _, rfl⟩⟩ (fun _ _ _ _ _ => trivial) ?_ ?_
  · rintro i x σ H1 H2 hi ⟨a, ps, v3, v4, rfl, hL, hR⟩ ⟨T0, c, rfl, hT0, rfl, hc⟩
    rw [hn] at hi
    have hcl : (tl z ++ [32])[i]? = some c := by
      rw [← hzb]
      simpa using hc
    have hps := hR.len
    have hR0 : i ≤ (tl z).length ∧ a ≤ i ∧ ps ++ rw_ (sl (tl z) a i) (i + 1) ((tl z).drop i) = rowWords (tl z) := by
      rcases hR with h | ⟨h, _⟩
      · exact h
      · omega
    obtain ⟨hi1, hai, hI⟩ := hR0
    have hL1 := hL.new hT0 (.tup [.int (i : Nat), .str ⟨#[c]⟩])
    refine ⟨T0, _, rfl, SqT.of upd_same, rfl, _, _, rfl, _, _, rfl, rfl, ?_⟩
    refine ⟨_, rfl, rfl, _, rfl, ?_⟩
    have e32 : decide (V.str (⟨#[c]⟩ : Str) = V.str (Str.ofString " ")) = decide (c = 32) := by
      rw [dec_str, s_blank]
      by_cases h : c = 32
      · subst h; rfl
      · rw [decide_eq_false h]
        apply decide_eq_false
        intro q
        have q2 := congrArg (fun s => s.cps.toList) q
        simp at q2
        exact h q2
    have ein : inV (.str (⟨#[c]⟩ : Str)) (BRs.map V.str) = decide (c ∈ BR) := by
      rw [inV_strs, ← sep_in]
      rfl
    rw [e32]
    generalize hHH : upd H1 T0 (.tup [.int (i : Nat), .str ⟨#[c]⟩]) = HH at hL1 ⊢
    refine (fun (key : isSep c = true → _) => ite2 (fun c1 => key (by unfold isSep; rw [c1]; rfl)) (fun c1 => ⟨_, rfl, fun b hb => ⟨b, BRs.map V.str, rfl, .inr hb, rfl, flat_strs _, _, rfl, ite2 (fun c2 => key ?_) (fun c2 => ?_)⟩⟩)) ?key
    case key =>
      intro hs
      refine iteT ?_
      have hsl : ∀ q : List (List Nat × Nat), q.length ≤ 2 * (tl z).length → q.length < sizeLine := fun q hq => by
        rw [sizeLine_eq]
        omega
      obtain ⟨ps1, h1⟩ : ∃ x, x = ps ++ (if a < i then [(sl (tl z) a i, a + 1)] else []) := ⟨_, rfl⟩
      obtain ⟨ps2, h2⟩ : ∃ x, x = ps1 ++ (if c = 32 then [] else [([c], i + 1)]) := ⟨_, rfl⟩
      have fin : RowInv (tl z) (i + 1) (i + 1) ps2 := by
        rcases Nat.lt_or_ge i (tl z).length with h | h
        · have hcc : (tl z)[i]? = some c := by
            rw [List.getElem?_append_left h] at hcl
            exact hcl
          rw [h2, h1]
          exact .inl ⟨h, Nat.le_refl _, turn_sep hai hcc hs hI⟩
        · have hi2 : i = (tl z).length := by omega
          have hc32 : c = 32 := by
            rw [List.getElem?_append_right (by omega), hi2] at hcl
            simp at hcl
            exact hcl.symm
          refine .inr ⟨by omega, ?_⟩
          rw [h2, h1, if_pos hc32, List.append_nil]
          subst hi2
          exact turn_last hai hI
      have l2 : ps2.length ≤ 2 * (tl z).length := fin.len
      have l1 : ps1.length ≤ ps2.length := by
        rw [h2, List.length_append]
        omega
      refine ⟨fun σ' HX => σ' = [some (.str z), some (.ref l), some (.int (a : Nat)), some (.int (i : Nat)), some (.str ⟨#[c]⟩)] ∧ LS fP H HX l ps1, ?_, ?_⟩
      · refine ⟨_, rfl, _, rfl, _, _, rfl, rfl, _, rfl, ?_⟩
        refine ite2 (fun d => ?_) (fun d => ?_)
        · have d1 : a < i := by
            have := of_decide_eq_true d
            omega
          have e1 : ps1 = ps ++ [(sl (tl z) a i, a + 1)] := by
            rw [h1, if_pos d1]
          obtain ⟨us, hus, _⟩ := hL1.2.2
          refine ⟨_, rfl, .inl ⟨rfl, _, SqL.of hus⟩, ?_⟩
          refine ⟨_, rfl, _, rfl, _, rfl, _, rfl, _, rfl, z, rfl, hsz, ?_⟩
          have hcut := cut_sl z (a := a) (b := i) (by omega)
          rw [hcut]
          refine ⟨_, rfl, _, _, rfl, rfl, by show 2 ≤ sizeLine; decide, fun p hp => ?_⟩
          have hL2 := hL1.new hp (.tup (fP (sl (tl z) a i, a + 1)))
          obtain ⟨ws, hw1, hw2, hw3⟩ := hL2.push (p := p) (q := (sl (tl z) a i, a + 1)) upd_same
          refine ⟨l, ws, .ref p, rfl, rfl, hw1, ?_, rfl, ?_⟩
          · rw [hw2]
            refine hsl _ ?_
            have : ps1.length = ps.length + 1 := by rw [e1]; simp
            omega
          · rw [e1]
            exact hw3
        · have d1 : ¬ a < i := by
            have := of_decide_eq_false (Bool.eq_false_iff.mpr d)
            omega
          have e1 : ps1 = ps := by
            rw [h1, if_neg d1, List.append_nil]
          refine ⟨rfl, ?_⟩
          rw [e1]
          exact hL1
      · rintro σ' HX ⟨rfl, hX⟩
        refine ⟨fun σ' HY => σ' = [some (.str z), some (.ref l), some (.int (a : Nat)), some (.int (i : Nat)), some (.str ⟨#[c]⟩)] ∧ LS fP H HY l ps2, ?_, ?_⟩
        · refine ⟨_, rfl, rfl, _, rfl, ?_⟩
          rw [e32]
          refine ite2 (fun d => ?_) (fun d => ?_)
          · have d1 : ¬ c = 32 := by simpa using d
            have e2 : ps2 = ps1 ++ [([c], i + 1)] := by
              rw [h2, if_neg d1]
            obtain ⟨us, hus, _⟩ := hX.2.2
            refine ⟨_, rfl, .inl ⟨rfl, _, SqL.of hus⟩, ?_⟩
            refine ⟨_, rfl, _, rfl, _, _, rfl, rfl, by show 2 ≤ sizeLine; decide, fun p hp => ?_⟩
            have hX2 := hX.new hp (.tup (fP ([c], i + 1)))
            obtain ⟨ws, hw1, hw2, hw3⟩ := hX2.push (p := p) (q := ([c], i + 1)) upd_same
            refine ⟨l, ws, .ref p, rfl, rfl, hw1, ?_, rfl, ?_⟩
            · rw [hw2]
              refine hsl _ ?_
              have : ps2.length = ps1.length + 1 := by rw [e2]; simp
              omega
            · rw [e2]
              exact hw3
          · have d1 : c = 32 := by simpa using d
            have e2 : ps2 = ps1 := by
              rw [h2, if_pos d1, List.append_nil]
            refine ⟨rfl, ?_⟩
            rw [e2]
            exact hX
        · rintro σ' HY ⟨rfl, hY⟩
          refine ⟨_, rfl, _, _, rfl, rfl, ?_⟩
          exact ⟨i + 1, ps2, _, _, rfl, hY, fin⟩
    · rw [if_neg (by decide : ¬ false = true), ein] at c2
      unfold isSep
      rw [c2, Bool.or_true]
    · rw [if_neg (by decide : ¬ false = true), ein] at c2
      have hs : isSep c = false := by
        unfold isSep
        have c3 : decide (c = 32) = false := by simpa using c1
        have c4 : decide (c ∈ BR) = false := by simpa using c2
        rw [c3, c4]
        rfl
      have hlt : i < (tl z).length := by
        rcases Nat.lt_or_ge i (tl z).length with h | h
        · exact h
        · have : i = (tl z).length := by omega
          subst this
          rw [List.getElem?_append_right (by omega)] at hcl
          simp at hcl
          subst hcl
          exact absurd hs (by decide)
      have hcc : (tl z)[i]? = some c := by
        rw [List.getElem?_append_left hlt] at hcl
        exact hcl
      exact ⟨a, ps, _, _, rfl, hL1, .inl ⟨hlt, by omega, turn_on hai hcc hs hI⟩⟩
  · rintro σ H1 ⟨a, ps, v3, v4, rfl, ⟨s1, h1, us, h2, h3⟩, hR⟩
    rw [hn] at hR
    refine ⟨_, rfl, k H1 l us s1 hl0 h2 ?_⟩
    rcases hR with ⟨h, _⟩ | ⟨_, h⟩
    · omega
    · rw [← h]; exact h3
end
end My
set_option Elab.async false
set_option linter.all false
set_option maxRecDepth 100000
set_option maxHeartbeats 2000000
namespace My
open PySem L2 SS
def oN : Option Nat → V
  | none => .non
  | some c => .int (c : Nat)
theorem foldMin : ∀ (ns : List Int) (n : Int), (ns.foldl min n) ∈ n :: ns ∧ ∀ y ∈ n :: ns, ns.foldl min n ≤ y
  | [], n => by simp
  | k :: r, n => by
    have ih := foldMin r (min n k)
    rw [List.foldl_cons]
    constructor
    · rcases List.mem_cons.mp ih.1 with h | h
      · rw [h]
        by_cases c : n ≤ k
        · rw [Int.min_eq_left c]; simp
        · rw [Int.min_eq_right (by omega)]; simp
      · exact List.mem_cons_of_mem _ (List.mem_cons_of_mem _ h)
    · intro y hy
      have h0 := ih.2 (min n k) List.mem_cons_self
      rcases List.mem_cons.mp hy with h | h
      · subst h; omega
      · rcases List.mem_cons.mp h with h | h
        · subst h; omega
        · exact ih.2 y (List.mem_cons_of_mem _ h)
theorem minOf_ints {c : Nat} {r : List Nat} {m : Int} (h : m = (r.map fun (k : Nat) => (k : Int)).foldl min ((c : Nat) : Int)) : ∃ k, minOf (c :: r) = some k ∧ m = (k : Nat) := by
  have f := foldMin (r.map fun (k : Nat) => (k : Int)) ((c : Nat) : Int)
  rw [← h] at f
  have e : ((c : Nat) : Int) :: (r.map fun (k : Nat) => (k : Int)) = (c :: r).map fun (k : Nat) => (k : Int) := rfl
  rw [e] at f
  obtain ⟨k, hk, ek⟩ := List.mem_map.mp f.1
  refine ⟨k, minOf_some.mpr ⟨hk, fun y hy => ?_⟩, ek.symm⟩
  have := f.2 ((y : Nat) : Int) (List.mem_map.mpr ⟨y, hy, rfl⟩)
  omega
section
variable {P : Program} {w : World} {K : PySem.W.Frag} {mg : Str → Option Value} {base : Heap}
def spWrong : Sp := fun vs H Q _ => ∃ (a : Addr) (n : Nat) (us : List V) (ps : List (List Nat × Nat)), vs = [.ref a, .int (n : Nat)] ∧ H a = some (.lst us) ∧ AllT fP H us ps ∧ (∀ q ∈ ps, q.1.length ≤ 100000) ∧ ps.length ≤ 300000 ∧ ∀ H', Same H H' → Q (oN (wrongCol isWord ps n)) H'
theorem scWrong : FnScope ["parts", "length", "columns", "word", "column"] ["parts", "length"] (defScope sWrong) := ⟨rfl, rfl, rfl, by decide +kernel, rfl, by decide +kernel, by decide +kernel⟩
theorem alike_ints (ns : List Int) : PySem.W.AlikeAll (ns.map PyData.int) := by
  refine ⟨fun x hx y hy => ?_, fun x hx => ?_⟩
  · obtain ⟨a, _, rfl⟩ := List.mem_map.mp hx
    obtain ⟨b, _, rfl⟩ := List.mem_map.mp hy
    rfl
  · obtain ⟨a, _, rfl⟩ := List.mem_map.mp hx
    intro z
    cases z
theorem depth_ints : ∀ ns : List Int, PyData.depthAll (ns.map PyData.int) ≤ 20
  | [] => by decide
  | n :: r => by
    have := depth_ints r
    show max (PyData.depth (.int n)) (PyData.depthAll (r.map PyData.int)) ≤ 20
    exact Nat.max_le.mpr ⟨by show 0 ≤ 20; decide, this⟩
theorem dp_ints {H : Hp} : ∀ ns : List Int, DpAll K H (ns.map V.int) (ns.map PyData.int)
  | [] => .nil
  | n :: r => .cons (.int n) (dp_ints r)
theorem ok_wrong {f : Addr} {fd : FuncData} (F : Fun K "wrong_column" "wrong_column" sWrong f fd) (T : TxS K mg) (G : C0 P w K mg base 4 "is_word" (spB isWord)) : FnOk P w K mg base CX0 5 f fd ["parts", "length"] spWrong := by
  refine F.ok scWrong (fun vs H Q E h => ?_) (fun cdv A outer s H vs Q E hr h => ?_)
  · obtain ⟨a, n, us, ps, rfl, _⟩ := h
    rfl
  obtain ⟨a, n, us, ps, rfl, ha, hA, hw, hlen, k⟩ := h
  refine ⟨_, pss_cons (ps_setLc (i := 2) (own := [("word", 3), ("column", 4)]) (g := gTup K 2 (gCons (gName 3) (gCons (gName 4) gNil))) (by rfl) scWrong.nd rfl rfl (sw_true rfl rfl rfl (by decide +kernel)) (pi_list (pv 0)) (blkOk_by (own := [("word", 3), ("column", 4)]) (N := ["parts", "length", "columns", "word", "column"]) (sc := defScope sWrong) (by decide +kernel))
      (fun _ _ _ _ _ => pg_tup (by rfl) (pgs_cons (pg_name (i := 3) scWrong.nd rfl (Or.inl rfl)) (pgs_cons (pg_name (i := 4) scWrong.nd rfl (Or.inl rfl)) pgs_nil)))
      (fun _ _ _ _ _ => pts_one (pt_not (pt_val (pe_cc G hr (Nat.le_refl _) pass0 (pa_cons (pv 3) pa_nil))))) (fun _ _ _ _ _ => pv 4))
    (pss_cons (ps_if (pt_cmpR op_gt (pv 1) (pe_gi T.cols) (nomark _)) (pss_one (ps_expr (pe_bm PySem.F.plainAttrs_list PySem.F.slot_list_append PySem.F.type_list_append mt_append (pv 2) (pa_cons (pe_op op_add (pe_gi T.cols) pe_int) pa_nil)))) pss_nil)
    (pss_one (ps_ret (pe_callBK (cr_minD rfl hr) (by rfl) T.mn (by decide +kernel) (pa_cons (pv 2) pa_nil) (pk_cons pe_non pk_nil))))), ?_⟩
  have hs0 : SqL K H a us := SqL.of ha
  refine ⟨_, rfl, a, rfl, ⟨_, hs0⟩, fun D hD => ?_⟩
  have hul := hA.length
  refine lc_it walk_list (fun i H1 => ∃ cs : List Nat, Same H H1 ∧ H1 D = some (.lst ((cs.map fun (k : Nat) => (k : Int)).map V.int)) ∧ cs = ((ps.take i).filter fun q => !isWord q.1).map (·.2))
    ⟨[], same_new hD _, upd_same, rfl⟩ (fun i H1 _ ⟨cs, s1, _⟩ => s1.seq hs0) ?_ ?_
  · rintro i x H1 H2 hi ⟨cs, s1, h1, ec⟩ ⟨rfl, hx⟩
    obtain ⟨q, hq, p, rfl, hp⟩ := hA.get hx
    have hp1 : H2 p = some (.tup (fP q)) := s1 _ _ hp
    have hlen2 : cs.length ≤ ps.length := by
      rw [ec, List.length_map]
      exact Nat.le_trans (List.length_filter_le _ _) (by rw [List.length_take]; omega)
    refine ⟨p, _, rfl, SqT.of hp1, rfl, _, _, rfl, _, _, rfl, rfl, rfl, ?_⟩
    have hqw := hw q (List.mem_of_getElem? hq)
    refine ⟨_, rfl, mk q.1, rfl, by rw [mk_len]; exact hqw, fun H3 s3 => ⟨_, rfl, ?_⟩⟩
    have et : ps.take (i + 1) = ps.take i ++ [q] := by rw [List.take_add_one, hq]; rfl
    have h3 : H3 D = some (.lst ((cs.map fun (k : Nat) => (k : Int)).map V.int)) := s3 _ _ h1
    refine ite2 (fun c => ?_) (fun c => ?_)
    · have c1 : isWord q.1 = false := by simpa using c
      refine ⟨_, rfl, _, h3, ?_, cs ++ [q.2], ?_, ?_, ?_⟩
      · rw [List.length_map, List.length_map, sizeLine_eq]
        omega
      · exact fun b o e => by
          rw [upd_ne (ne_of_none e hD)]
          exact s3 _ _ (s1 b o e)
      · rw [upd_same, List.map_append, List.map_append]
        rfl
      · rw [et, List.filter_append, List.map_append, ← ec]
        simp [c1]
    · have c1 : isWord q.1 = true := by simpa using c
      refine ⟨cs, s1.trans s3, h3, ?_⟩
      rw [et, List.filter_append, List.map_append, ← ec]
      simp [c1]
  · rintro H1 ⟨cs, s1, h1, ec⟩
    rw [hul, List.take_length] at ec
    have hlen2 : cs.length ≤ ps.length := by
      rw [ec, List.length_map]
      exact List.length_filter_le _ _
    -- behind the if
    have key : ∀ (H2 : Hp) (ds : List Nat), Same H H2 → H2 D = some (.lst ((ds.map fun (k : Nat) => (k : Int)).map V.int)) → ds = cols isWord ps n → Q (oN (wrongCol isWord ps n)) H2 := fun H2 ds s2 _ _ => k H2 s2
    have fin : ∀ (H2 : Hp) (ds : List Nat), Same H H2 → H2 D = some (.lst ((ds.map fun (k : Nat) => (k : Int)).map V.int)) → ds = cols isWord ps n → rMinD K [.ref D] [.non] H2 Q := fun H2 ds s2 h2 ed => by
      refine ⟨D, _, (ds.map fun (k : Nat) => (k : Int)).map PyData.int, .non, rfl, rfl, SqL.of h2, dp_ints _, alike_ints _, depth_ints _, fun e => ?_, fun y ys i v e e1 e2 e3 e4 => ?_⟩
      · have ed0 : ds = [] := by
          cases ds with
          | nil => rfl
          | cons _ _ => cases e
        have : wrongCol isWord ps n = none := by
          unfold wrongCol
          rw [← ed, ed0]
          rfl
        have k2 := k H2 s2
        rw [this] at k2
        exact k2
      · cases ds with
        | nil => cases e1
        | cons c r =>
          injection e1 with e5 e6
          subst e5 e6
          obtain ⟨u, hu⟩ : ∃ u : Int, v = V.int u ∧ e = PyData.int u := by
            rw [List.getElem?_map] at e2 e3
            cases z : ((c :: r).map fun (k : Nat) => (k : Int))[i]? with
            | none => rw [z] at e2; cases e2
            | some u =>
              rw [z] at e2 e3
              exact ⟨u, (Option.some.inj e2).symm, (Option.some.inj e3).symm⟩
          obtain ⟨rfl, rfl⟩ := hu
          have e7 : PyData.int u = PyData.int ((r.map fun (k : Nat) => (k : Int)).foldl min ((c : Nat) : Int)) := by
            rw [e4]
            exact PySem.W.minD_ints _ _
          injection e7 with e8
          obtain ⟨m, hm, em⟩ := minOf_ints e8
          have : wrongCol isWord ps n = some m := by
            unfold wrongCol
            rw [← ed]
            exact hm
          have k2 := k H2 s2
          rw [this] at k2
          rw [em]
          exact k2
    refine ⟨_, rfl, _, _, rfl, rfl, _, rfl, ?_⟩
    refine ite2 (fun c => ?_) (fun c => ?_)
    · have c1 : n > 120 := by
        have := of_decide_eq_true c
        omega
      refine ⟨_, rfl, .inl ⟨rfl, _, SqL.of h1⟩, _, _, rfl, rfl, D, _, _, rfl, rfl, h1, ?_, ?_⟩
      · rw [List.length_map, List.length_map, sizeLine_eq]
        omega
      · refine ⟨_, rfl, fin _ (cs ++ [121]) (fun b o e => by rw [upd_ne (ne_of_none e hD)]; exact s1 b o e) (by rw [upd_same, List.map_append, List.map_append]; rfl) ?_⟩
        unfold cols
        rw [← ec, if_pos c1]
    · have c1 : ¬ n > 120 := by
        have := of_decide_eq_false (Bool.eq_false_iff.mpr c)
        omega
      refine ⟨_, rfl, fin _ cs s1 h1 ?_⟩
      unfold cols
      rw [← ec, if_neg c1, List.append_nil]
theorem c_wrong (T : TxS K mg) (D : Dn K mg "wrong_column" sWrong) (G : C0 P w K mg base 4 "is_word" (spB isWord)) : C0 P w K mg base 5 "wrong_column" spWrong := by
  obtain ⟨f, fd, F, m⟩ := D.ex
  exact ⟨f, fd, _, ok_wrong F T G, m, F.kp, F.binds (ps := ["parts", "length"]) fun _ _ _ _ _ _ us hl => match us, hl with | [_, _], _ => rfl⟩
theorem c_row (T : TxS K mg) (D : Dn K mg "words_of_row" sRow) : C0 P w K mg base 1 "words_of_row" spRow := by
  obtain ⟨f, fd, F, m⟩ := D.ex
  exact ⟨f, fd, _, ok_row F T, m, F.kp, F.binds (ps := ["line"]) fun _ _ _ _ _ _ us hl => match us, hl with | [_], _ => rfl⟩
theorem c_num (T : TxS K mg) (D : Dn K mg "is_number" sIsNum) (G : C0 P w K mg base 1 "has_only" spHas) : C0 P w K mg base 2 "is_number" (spB isNum) := by
  obtain ⟨f, fd, F, m⟩ := D.ex
  exact ⟨f, fd, _, ok_num F T G, m, F.kp, F.binds (ps := ["word"]) fun _ _ _ _ _ _ us hl => match us, hl with | [_], _ => rfl⟩
theorem c_word (T : TxS K mg) (D : Dn K mg "is_word" sIsWord) (G1 : C0 P w K mg base 3 "is_small" (spB isSmall)) (G2 : C0 P w K mg base 3 "is_kind_name" (spB isKindName)) (G3 : C0 P w K mg base 2 "is_text" (spB isText)) (G4 : C0 P w K mg base 2 "is_number" (spB isNum)) : C0 P w K mg base 4 "is_word" (spB isWord) := by
  obtain ⟨f, fd, F, m⟩ := D.ex
  exact ⟨f, fd, _, ok_word F T G1 G2 G3 G4, m, F.kp, F.binds (ps := ["word"]) fun _ _ _ _ _ _ us hl => match us, hl with | [_], _ => rfl⟩
end
end My
set_option Elab.async false
set_option linter.all false
set_option maxRecDepth 100000
set_option maxHeartbeats 2000000
namespace My
open PySem L2 SS
theorem LS.pushAll {α : Type} {f : α → List V} {H H1 : Hp} {l : Addr} {ps qs : List α} {us : List V} (h : LS f H H1 l ps) (hq : AllT f H1 us qs) : ∃ vs, H1 l = some (.lst vs) ∧ vs.length = ps.length ∧ LS f H (upd H1 l (.lst (vs ++ us))) l (ps ++ qs) := by
  obtain ⟨s, hl, vs, h1, h2⟩ := h
  refine ⟨vs, h1, h2.length, fun b u e => ?_, hl, _, upd_same, ?_⟩
  · rw [upd_ne (ne_of_none e hl)]
    exact s b u e
  · have t : Tups H1 (upd H1 l (.lst (vs ++ us))) := tups_lst h1
    exact (h2.on t).append (hq.on t)
theorem lay_len (r : Nat) (p : List (List Nat × Nat)) : (lay r p).length = p.length := by unfold lay; rw [List.length_map]
theorem scanGo_len {isW : List Nat → Bool} : ∀ (ls : List (List Nat)) (r : Nat), (∀ l ∈ ls, l.length ≤ 1000) → (scanGo isW r ls).1.length ≤ 2000 * ls.length
  | [], r, _ => by simp [scanGo]
  | l :: ls, r, h => by
    have hl := h l List.mem_cons_self
    have ih := scanGo_len ls (r + 1) (fun x hx => h x (List.mem_cons_of_mem _ hx)) (isW := isW)
    have hr := rowWords_len l
    rw [scanGo, List.length_cons]
    split
    · rename_i c _
      have := List.length_filter_le (fun q : List Nat × Nat => decide (q.2 < c)) (rowWords l)
      show (lay r ((rowWords l).filter fun q => decide (q.2 < c))).length ≤ _
      rw [lay_len]
      refine Nat.le_trans this ?_
      omega
    · show (lay _ _ ++ _).length ≤ _
      rw [List.length_append, lay_len]
      omega
def StopAt (H : Hp) (v : V) : Option (Nat × Nat) → Prop
  | none => v = .non
  | some p => ∃ q, v = .ref q ∧ H q = some (.tup [.int (p.1 : Nat), .int (p.2 : Nat)])
def nl : Str := Str.ofString "\n"
/-- a text whose rows are neither many nor long -/
def Fits (z : Str) (rs : List Str) : Prop := Txt.split z nl = rs ∧ z.length ≤ 100000 ∧ rs.length ≤ 1000 ∧ ∀ r ∈ rs, r.length ≤ 1000
def spScan : Sp := fun vs H Q _ => ∃ (z : Str) (rs : List Str), vs = [.str z] ∧ Fits z rs ∧
  ∀ (H' : Hp) (p wl : Addr) (st : V) (us : List V), Same H H' → H' p = some (.tup [.ref wl, st]) → H' wl = some (.tup us) → AllT fW H' us (scan isWord (rs.map tl)).1 → us.length ≤ 600000 → StopAt H' st (scan isWord (rs.map tl)).2 → Q (.ref p) H'
theorem LS.same {α : Type} {f : α → List V} {H H1 H2 : Hp} {l : Addr} {ps : List α} (h : LS f H H1 l ps) (s : Same H1 H2) : LS f H H2 l ps := by
  obtain ⟨s0, hl, vs, h1, h2⟩ := h
  exact ⟨s0.trans s, hl, vs, s _ _ h1, h2.on (same_tups s)⟩
theorem rw_wlen : ∀ (r cur : List Nat) (k : Nat), ∀ q ∈ rw_ cur k r, q.1.length ≤ cur.length + r.length + 1
  | [], cur, k, q, h => by
    rw [rw_] at h
    unfold flush at h
    split at h
    · simp at h
    · simp at h; subst h; show cur.length ≤ _; omega
  | c :: r, cur, k, q, h => by
    rw [rw_] at h
    rw [List.length_cons]
    split at h
    · rcases List.mem_append.mp h with h | h
      · rcases List.mem_append.mp h with h | h
        · unfold flush at h
          split at h
          · simp at h
          · simp at h; subst h; show cur.length ≤ _; omega
        · split at h
          · simp at h
          · simp at h; subst h; show 1 ≤ _; omega
      · have := rw_wlen r [] (k + 1) q h
        rw [List.length_nil] at this
        omega
    · have := rw_wlen r (cur ++ [c]) (k + 1) q h
      rw [List.length_append] at this
      simp only [List.length_cons, List.length_nil] at this
      omega
def condW : Option Nat → (List Nat × Nat) → Bool
  | none, _ => true
  | some c, q => decide (q.2 < c)
section
variable {P : Program} {w : World} {K : PySem.W.Frag} {mg : Str → Option Value} {base : Heap}
theorem scScan : FnScope ["text", "rows", "words", "row", "line", "parts", "wrong", "word", "column"] ["text"] (defScope sScanned) := ⟨rfl, rfl, rfl, by decide +kernel, rfl, by decide +kernel, by decide +kernel⟩
theorem cut300 (xs : List V) : cutV xs none (some (300 : Int)) = xs.take 300 := by
  unfold cutV
  rw [HT.sIx_none, show (300 : Int) = ((300 : Nat) : Int) from rfl, HT.sIx_nat, List.drop_zero, Nat.sub_zero]
  rcases Nat.lt_or_ge 300 xs.length with h | h
  · rw [Nat.min_eq_left (by omega)]
  · rw [Nat.min_eq_right h, List.take_length, List.take_of_length_le h]
theorem ok_scan {f : Addr} {fd : FuncData} (F : Fun K "scanned" "scanned" sScanned f fd) (T : TxS K mg) (G1 : C0 P w K mg base 1 "words_of_row" spRow) (G2 : C0 P w K mg base 5 "wrong_column" spWrong) : FnOk P w K mg base CX0 6 f fd ["text"] spScan := by
  refine F.ok scScan (fun vs H Q E h => ?_) (fun cdv A outer s H vs Q E hr h => ?_)
  · obtain ⟨z, rs, rfl, _⟩ := h
    rfl
  obtain ⟨z, rs, rfl, ⟨hsp, hz, hrl, hrs⟩, k⟩ := h
  have hu : ∀ n : Nat, n ≤ 1000000 → n ≤ sizeLine := fun n h => by rw [sizeLine_eq]; omega
  refine ⟨_, pss_cons (ps_set (i := 1) scScan.nd rfl (Or.inl rfl) (pe_split (pv 0) pe_str)) <|
    pss_cons (ps_set (i := 2) scScan.nd rfl (Or.inl rfl) (pe_lst pa_nil)) <|
    pss_cons (ps_for PassesOwn.never rfl (pi_enumK (by rfl) T.enum (pa_cons (pe_slice sl_list (pv 1) po_none (po_some (pe_gi T.rows))) pa_nil) (pk_cons pe_int pk_nil)) (pg_tup (by rfl) (pgs_cons (pg_name (i := 3) scScan.nd rfl (Or.inr rfl)) (pgs_cons (pg_name (i := 4) scScan.nd rfl (Or.inl rfl)) pgs_nil))) <|
      pss_cons (ps_set (i := 5) scScan.nd rfl (Or.inl rfl) (pe_cc G1 hr (by decide) pass0 (pa_cons (pv 4) pa_nil))) <|
      pss_cons (ps_set (i := 6) scScan.nd rfl (Or.inr rfl) (pe_cc G2 hr (by decide) pass0 (pa_cons (pv 5) (pa_cons (pe_callB call_len_str (by rfl) T.len PySem.boot_len (pa_cons (pv 4) pa_nil)) pa_nil)))) <|
      pss_cons (ps_expr (pe_bm PySem.F.plainAttrs_list PySem.F.slot_list_extend PySem.F.type_list_extend mt_extend (pv 2) (pa_cons
        (pe_lc (own := [("word", 7), ("column", 8)]) (g := gTup K 2 (gCons (gName 7) (gCons (gName 8) gNil))) (by rfl) scScan.nd (pi_list (pv 5)) (blkOk_by (own := [("word", 7), ("column", 8)]) (N := ["text", "rows", "words", "row", "line", "parts", "wrong", "word", "column"]) (sc := defScope sScanned) (by decide +kernel))
          (fun _ _ _ _ _ => pg_tup (by rfl) (pgs_cons (pg_name (i := 7) scScan.nd rfl (Or.inl rfl)) (pgs_cons (pg_name (i := 8) scScan.nd rfl (Or.inl rfl)) pgs_nil)))
          (fun _ _ _ _ _ => pts_one (PW.pt (pw_or (pt_cmpR op_isN (pv 6) pe_non (nomark _)) (pw_or1 (pt_cmpR op_lt (pv 8) (pv 6) (nomark _))))))
          (fun _ _ _ _ _ => pe_tup (pa_cons (pv 7) (pa_cons (pv 3) (pa_cons (pv 8) pa_nil))))) pa_nil))) <|
      pss_one (ps_if (pt_cmpR op_notN (pv 6) pe_non (nomark _)) (pss_one (ps_ret (pe_tup (pa_cons (pe_callTy call_tuple_of (by rfl) T.tup (by decide +kernel) (pa_cons (pv 2) pa_nil)) (pa_cons (pe_tup (pa_cons (pv 3) (pa_cons (pv 6) pa_nil))) pa_nil))))) pss_nil)) <|
    pss_cons (ps_if (pt_cmpR op_gt (pe_callB call_len_seq (by rfl) T.len PySem.boot_len (pa_cons (pv 1) pa_nil)) (pe_gi T.rows) (nomark _)) (pss_one (ps_ret (pe_tup (pa_cons (pe_callTy call_tuple_of (by rfl) T.tup (by decide +kernel) (pa_cons (pv 2) pa_nil)) (pa_cons (pe_tup (pa_cons (pe_op op_add (pe_gi T.rows) pe_int) (pa_cons pe_int pa_nil))) pa_nil))))) pss_nil) <|
    pss_one (ps_ret (pe_tup (pa_cons (pe_callTy call_tuple_of (by rfl) T.tup (by decide +kernel) (pa_cons (pv 2) pa_nil)) (pa_cons pe_non pa_nil)))), ?_⟩
  have hrl2 : (rs.map V.str).length = rs.length := List.length_map _
  refine ⟨_, rfl, ⟨_, rfl⟩, z, nl, rfl, rfl, by decide +kernel, by rw [sizeLine_eq]; omega, fun R hR => ?_⟩
  rw [hsp]
  refine ⟨Nat.zero_le _, fun l hl => ?_⟩
  have hRl : R ≠ l := fun e => by rw [e, upd_same] at hl; cases hl
  have hl0 : H l = none := by rw [upd_ne hRl.symm] at hl; exact hl
  have hR1 : upd (upd H R (.lst (rs.map V.str))) l (.lst []) R = some (.lst (rs.map V.str)) := by rw [upd_ne hRl, upd_same]
  refine ⟨_, rfl, _, rfl, R, _, rfl, SqL.of hR1, fun A0 hA => ?_⟩
  rw [cut300]
  have hAl : A0 ≠ l := fun e => by rw [e, upd_same] at hA; cases hA
  have hAR : A0 ≠ R := fun e => by rw [e, hR1] at hA; cases hA
  have hA0 : H A0 = none := by rw [upd_ne hAl, upd_ne hAR] at hA; exact hA
  obtain ⟨xs, hxs⟩ : ∃ xs, xs = (rs.map V.str).take 300 := ⟨_, rfl⟩
  have hxs2 : xs = (rs.take 300).map V.str := by rw [hxs, List.map_take]
  rw [← hxs]
  obtain ⟨Hb, hHb⟩ : ∃ Hb, Hb = upd (upd H R (.lst (rs.map V.str))) A0 (.lst xs) := ⟨_, rfl⟩
  have bR : Hb R = some (.lst (rs.map V.str)) := by rw [hHb, upd_ne hAR.symm, upd_same]
  have bA : Hb A0 = some (.lst xs) := by rw [hHb, upd_same]
  have bl : Hb l = none := by rw [hHb, upd_ne hAl.symm, upd_ne hRl.symm]; exact hl0
  have sHb : Same H Hb := by
    rw [hHb]
    exact (same_new hR _).trans (same_new (by rw [upd_ne hAR]; exact hA0) _)
  have sb : Same Hb (upd (upd (upd H R (.lst (rs.map V.str))) l (.lst [])) A0 (.lst xs)) := fun b o e => by
    by_cases e1 : b = A0
    · subst e1; rw [bA] at e; rw [upd_same]; exact e
    · rw [upd_ne e1]
      have e2 : b ≠ l := fun q => by rw [q, bl] at e; cases e
      rw [upd_ne e2]
      rw [hHb, upd_ne e1] at e
      exact e
  refine ⟨A0, xs, 1, rfl, rfl, by decide, by decide, SqL.of upd_same, ?_⟩
  obtain ⟨L, hL⟩ : ∃ L, L = (rs.take 300).map tl := ⟨_, rfl⟩
  have hLr : ∀ x ∈ L, x.length ≤ 1000 := fun x hx => by
    rw [hL] at hx
    obtain ⟨r, hr, rfl⟩ := List.mem_map.mp hx
    rw [len_tl]
    exact hrs r (List.mem_of_mem_take hr)
  have hLl : L.length ≤ 300 := by rw [hL, List.length_map, List.length_take]; omega
  have hxl : xs.length = L.length := by rw [hxs2, hL, List.length_map, List.length_map]
  have hTot := scanGo_len (isW := isWord) L 1 hLr
  have hscan : scan isWord (rs.map tl) = match (scanGo isWord 1 L).2 with | some p => ((scanGo isWord 1 L).1, some p) | none => ((scanGo isWord 1 L).1, if rs.length > 300 then some (301, 1) else none) := by
    unfold scan
    rw [← List.map_take, ← hL, List.length_map]
    all_goals (cases (scanGo isWord 1 L).2 <;> rfl)
  refine for_it walk_enumK (fun i σ H1 => ∃ (ws : List W) (v3 v4 v5 v6 v7 v8 : Option V), σ = [some (.str z), some (.ref R), some (.ref l), v3, v4, v5, v6, v7, v8] ∧ LS fW Hb H1 l ws ∧
      ws ++ (scanGo isWord (i + 1) (L.drop i)).1 = (scanGo isWord 1 L).1 ∧ (scanGo isWord (i + 1) (L.drop i)).2 = (scanGo isWord 1 L).2)
    ⟨[], none, none, none, none, none, none, rfl, ⟨sb, bl, [], ?_, .nil⟩, rfl, rfl⟩ (fun i σ H1 _ ⟨ws, v3, v4, v5, v6, v7, v8, _, hS, _⟩ => hS.1.seq (SqL.of bA)) ?_ ?_
  · rw [upd_ne hAl.symm, upd_same]
  · rintro i x σ H1 H2 hi ⟨ws, v3, v4, v5, v6, v7, v8, rfl, hS, e1, e2⟩ ⟨T0, y, rfl, hT0, rfl, hx⟩
    obtain ⟨r, hr1, rfl⟩ : ∃ r, (rs.take 300)[i]? = some r ∧ y = V.str r := by
      rw [hxs2, List.getElem?_map] at hx
      cases e : (rs.take 300)[i]? with
      | none => rw [e] at hx; cases hx
      | some r => rw [e] at hx; exact ⟨r, rfl, (Option.some.inj hx).symm⟩
    have hrlen : r.length ≤ 1000 := hrs r (List.mem_of_mem_take (List.mem_of_getElem? hr1))
    have hLi : L[i]? = some (tl r) := by rw [hL, List.getElem?_map, hr1]; rfl
    have hdrop : L.drop i = tl r :: L.drop (i + 1) := by
      obtain ⟨h, e⟩ := List.getElem?_eq_some_iff.mp hLi
      rw [List.drop_eq_getElem_cons h, e]
    rw [hdrop, scanGo] at e1 e2
    have hlr := len_tl r
    have hrw := rowWords_len (tl r)
    rw [hlr] at e1 e2
    have hS1 := hS.new hT0 (.tup [.int (1 + (i : Nat)), .str r])
    have er : (1 + ((i : Nat) : Int)) = ((i + 1 : Nat) : Int) := by omega
    refine ⟨T0, _, rfl, SqT.of upd_same, rfl, _, _, rfl, _, _, rfl, rfl, ?_⟩
    rw [er] at hS1 ⊢
    generalize hHH : upd H1 T0 (.tup [.int ((i + 1 : Nat) : Int), .str r]) = HH at hS1 ⊢
    refine ⟨_, rfl, r, rfl, by omega, fun H3 lp us3 s3 hlp h3 hA3 => ?_⟩
    refine ⟨_, rfl, _, rfl, r, rfl, by rw [sizeLine_eq]; omega, lp, r.length, us3, rowWords (tl r), rfl, h3, hA3, fun q hq => ?_, by omega, fun H4 s4 => ?_⟩
    · have := rw_wlen (tl r) [] 1 q hq
      rw [List.length_nil] at this
      omega
    obtain ⟨wv, hwv⟩ : ∃ wv, wv = wrongCol isWord (rowWords (tl r)) r.length := ⟨_, rfl⟩
    rw [← hwv] at e1 e2 ⊢
    have hS4 := hS1.same (s3.trans s4)
    obtain ⟨vl, hvl, _⟩ := hS4.2.2
    have hA4 := hA3.on (same_tups s4)
    have h4 : H4 lp = some (.lst us3) := s4 _ _ h3
    have hul3 := hA3.length
    refine ⟨_, rfl, .inl ⟨rfl, _, SqL.of hvl⟩, ?_⟩
    refine ⟨_, rfl, lp, rfl, ⟨_, SqL.of h4⟩, fun D hD => ?_⟩
    refine lc_it walk_list (fun j Hx => LS fW H4 Hx D (lay (i + 1) (((rowWords (tl r)).take j).filter (condW wv)))) ⟨same_new hD _, hD, [], upd_same, .nil⟩ (fun j Hx _ hh => hh.1.seq (SqL.of h4)) ?_ ?_
    · rintro j xv Hx Hx2 hj hX ⟨rfl, hxv⟩
      obtain ⟨q, hq, p, rfl, hp⟩ := hA4.get hxv
      have hp1 : Hx2 p = some (.tup (fP q)) := hX.1 _ _ hp
      have et : (rowWords (tl r)).take (j + 1) = (rowWords (tl r)).take j ++ [q] := by rw [List.take_add_one, hq]; rfl
      have lt1 : (lay (i + 1) (((rowWords (tl r)).take j).filter (condW wv))).length ≤ 2000 := by
        rw [lay_len]
        refine Nat.le_trans (List.length_filter_le _ _) ?_
        rw [List.length_take]
        omega
      refine ⟨p, _, rfl, SqT.of hp1, rfl, _, _, rfl, _, _, rfl, rfl, rfl, ?_⟩
      have yes : condW wv q = true → ∀ (tp : Addr), Hx2 tp = none → ∃ acc, upd Hx2 tp (.tup [.str (mk q.1), .int ((i + 1 : Nat) : Int), .int (q.2 : Nat)]) D = some (.lst acc) ∧ acc.length < sizeLine ∧
          LS fW H4 (upd (upd Hx2 tp (.tup [.str (mk q.1), .int ((i + 1 : Nat) : Int), .int (q.2 : Nat)])) D (.lst (acc ++ [.ref tp]))) D (lay (i + 1) (((rowWords (tl r)).take (j + 1)).filter (condW wv))) := fun c tp htp => by
        have hX1 := hX.new htp (.tup (fW (q.1, i + 1, q.2)))
        obtain ⟨acc, a1, a2, a3⟩ := hX1.push (p := tp) (q := (q.1, i + 1, q.2)) upd_same
        refine ⟨acc, a1, by rw [sizeLine_eq]; omega, ?_⟩
        have ee : lay (i + 1) (((rowWords (tl r)).take (j + 1)).filter (condW wv)) = lay (i + 1) (((rowWords (tl r)).take j).filter (condW wv)) ++ [(q.1, i + 1, q.2)] := by
          rw [et, List.filter_append]
          unfold lay
          rw [List.map_append]
          simp [c]
        rw [ee]
        exact a3
      have no : condW wv q = false → LS fW H4 Hx2 D (lay (i + 1) (((rowWords (tl r)).take (j + 1)).filter (condW wv))) := fun c => by
        have ee : lay (i + 1) (((rowWords (tl r)).take (j + 1)).filter (condW wv)) = lay (i + 1) (((rowWords (tl r)).take j).filter (condW wv)) := by
          rw [et, List.filter_append]
          simp [c]
        rw [ee]
        exact hX
      refine ⟨_, rfl, rfl, _, rfl, ?_⟩
      cases wv with
      | none =>
        refine iteT (iteT ⟨_, rfl, _, rfl, _, rfl, by show 3 ≤ sizeLine; decide, fun tp htp => yes rfl tp htp⟩)
      | some c =>
        have ed : decide (oN (some c) = V.non) = false := rfl
        rw [ed]
        refine iteF ⟨_, rfl, _, rfl, _, _, rfl, rfl, _, rfl, ?_⟩
        have e5 : decide (((q.2 : Nat) : Int) < ((c : Nat) : Int)) = condW (some c) q := by
          show decide (((q.2 : Nat) : Int) < ((c : Nat) : Int)) = decide (q.2 < c)
          by_cases z : q.2 < c
          · rw [decide_eq_true z, decide_eq_true (by omega)]
          · rw [decide_eq_false z, decide_eq_false (by omega)]
        rw [e5]
        refine ite2 (fun c6 => ?_) (fun c6 => ?_)
        · exact ⟨_, rfl, _, rfl, _, rfl, by show 3 ≤ sizeLine; decide, fun tp htp => yes c6 tp htp⟩
        · exact no (by simpa using c6)
    · intro Hx hX
      rw [hul3, List.take_length] at hX
      have hS5 := hS4.same hX.1
      obtain ⟨us2, hus2, hAll2⟩ := hX.2.2
      obtain ⟨vs, b1, b2, b3⟩ := hS5.pushAll hAll2
      have lws : ws.length ≤ 600000 := by
        have := congrArg List.length e1
        rw [List.length_append] at this
        omega
      have l2 : us2.length ≤ 2000 := by
        rw [hAll2.length, lay_len]
        refine Nat.le_trans (List.length_filter_le _ _) ?_
        omega
      refine ⟨l, D, vs, us2, rfl, rfl, b1, hus2, by rw [sizeLine_eq]; omega, ?_⟩
      refine ⟨_, rfl, rfl, _, rfl, ?_⟩
      cases wv with
      | none =>
        refine iteF ⟨ws ++ lay (i + 1) ((rowWords (tl r)).filter (condW none)), _, _, _, _, _, _, rfl, b3, ?_, e2⟩
        have ef : (rowWords (tl r)).filter (condW none) = rowWords (tl r) := List.filter_eq_self.mpr fun _ _ => rfl
        rw [ef, List.append_assoc]
        exact e1
      | some c =>
        refine iteT ?_
        have e2' : (scanGo isWord 1 L).2 = some (i + 1, c) := e2.symm
        have e1' : ws ++ lay (i + 1) ((rowWords (tl r)).filter (condW (some c))) = (scanGo isWord 1 L).1 := e1
        rw [e2'] at hscan
        obtain ⟨s6, h6, us, hus, hAll⟩ := b3
        generalize hHx3 : upd Hx l (.lst (vs ++ us2)) = Hx3 at s6 hus hAll ⊢
        have hul := hAll.length
        have husl : us.length ≤ 600000 := by rw [hul, e1']; omega
        refine ⟨_, rfl, l, us, rfl, .inl ⟨SqL.of hus, fun wl hwl => ?_⟩⟩
        have t1 := same_new hwl (.tup us)
        refine ⟨_, rfl, _, rfl, by show 2 ≤ sizeLine; decide, fun q hq => ?_⟩
        have t2 := same_new hq (.tup [.int ((i + 1 : Nat) : Int), .int ((c : Nat) : Int)])
        refine ⟨by show 2 ≤ sizeLine; decide, fun p hp => ?_⟩
        have t3 := same_new hp (.tup [.ref wl, .ref q])
        have tt := t1.trans (t2.trans t3)
        refine k _ p wl (.ref q) us (sHb.trans (s6.trans tt)) upd_same (t3 _ _ (t2 _ _ upd_same)) ?_ husl ?_
        · rw [hscan]
          show AllT fW _ us (scanGo isWord 1 L).1
          rw [← e1']
          exact hAll.on (same_tups tt)
        · rw [hscan]
          exact ⟨q, rfl, t3 _ _ upd_same⟩
  · rintro σ H1 ⟨ws, v3, v4, v5, v6, v7, v8, rfl, ⟨s1, h1, us, h2, h3⟩, e1, e2⟩
    rw [hxl, List.drop_length] at e1 e2
    have e1' : ws = (scanGo isWord 1 L).1 := by
      rw [← e1, scanGo]
      simp
    have e2' : (scanGo isWord 1 L).2 = none := by
      rw [← e2, scanGo]
    rw [e2'] at hscan
    have hul := h3.length
    have hus : us.length ≤ 600000 := by rw [hul, e1']; omega
    refine ⟨_, rfl, R, _, rfl, .inl (s1.seq (SqL.of bR)), _, _, rfl, rfl, _, rfl, ?_⟩
    rw [hrl2]
    refine ite2 (fun c => ?_) (fun c => ?_)
    · have c1 : rs.length > 300 := by
        have := of_decide_eq_true c
        omega
      refine ⟨_, rfl, l, us, rfl, .inl ⟨SqL.of h2, fun wl hwl => ?_⟩⟩
      have t1 := same_new hwl (.tup us)
      refine ⟨_, _, rfl, rfl, by show 2 ≤ sizeLine; decide, fun q hq => ?_⟩
      have t2 := same_new hq (.tup [.int (300 + 1), .int 1])
      refine ⟨by show 2 ≤ sizeLine; decide, fun p hp => ?_⟩
      have t3 := same_new hp (.tup [.ref wl, .ref q])
      have tt := t1.trans (t2.trans t3)
      refine k _ p wl (.ref q) us (sHb.trans (s1.trans tt)) upd_same (t3 _ _ (t2 _ _ upd_same)) ?_ hus ?_
      · rw [hscan]
        show AllT fW _ us (scanGo isWord 1 L).1
        rw [← e1']
        exact h3.on (same_tups tt)
      · rw [hscan]
        show StopAt _ _ (if rs.length > 300 then some (301, 1) else none)
        rw [if_pos c1]
        exact ⟨q, rfl, t3 _ _ upd_same⟩
    · have c1 : ¬ rs.length > 300 := by
        have := of_decide_eq_false (Bool.eq_false_iff.mpr c)
        omega
      refine ⟨_, rfl, l, us, rfl, .inl ⟨SqL.of h2, fun wl hwl => ?_⟩⟩
      have t1 := same_new hwl (.tup us)
      refine ⟨by show 2 ≤ sizeLine; decide, fun p hp => ?_⟩
      have t3 := same_new hp (.tup [.ref wl, .non])
      have tt := t1.trans t3
      refine k _ p wl .non us (sHb.trans (s1.trans tt)) upd_same (t3 _ _ upd_same) ?_ hus ?_
      · rw [hscan]
        show AllT fW _ us (scanGo isWord 1 L).1
        rw [← e1']
        exact h3.on (same_tups tt)
      · rw [hscan]
        show StopAt _ _ (if rs.length > 300 then some (301, 1) else none)
        rw [if_neg c1]
        rfl
theorem c_scan (T : TxS K mg) (D : Dn K mg "scanned" sScanned) (G1 : C0 P w K mg base 1 "words_of_row" spRow) (G2 : C0 P w K mg base 5 "wrong_column" spWrong) : C0 P w K mg base 6 "scanned" spScan := by
  obtain ⟨f, fd, F, m⟩ := D.ex
  exact ⟨f, fd, _, ok_scan F T G1 G2, m, F.kp, F.binds (ps := ["text"]) fun _ _ _ _ _ _ us hl => match us, hl with | [_], _ => rfl⟩
end
end My
set_option Elab.async false
set_option linter.all false
set_option maxRecDepth 100000
set_option maxHeartbeats 2000000
namespace My
open PySem L2 SS
abbrev sSE : Stmt := inClass (top 1) 0
abbrev sFault : Stmt := inClass (top 2) 0
/-- what the top has of the two classes of errors: SteadError at S, Fault at C, Fault's __init__ at fI, SteadError's at fS -/
structure TxE (K : PySem.W.Frag) (mg : Str → Option Value) (S C fI fS : Addr) : Prop where
  gS : mg "SteadError" = some (.ref S)
  gC : mg "Fault" = some (.ref C)
  gV : mg "ValueError" = none
  vV : PySem.W.findCls K (.type "ValueError") (.type "type") "__init__" = some (.val (.builtin "ValueError.__init__"))
  rS : ClX.CRead K S (.type "type")
  fndS : PySem.W.findCls K (.ref S) (.type "type") "__init__" = some (.val (.ref fS))
  kS : PySem.W.keepIn K (.ref fS) = true
  oC : OexC K C
  iC : PySem.W.findIn K (.ref C) "__init__" = some (some (.ref fI))
  tI : PySem.W.typeIn K (.ref fI) = some (.type "function")
  n1 : PySem.W.findIn K (.ref C) "page" = some none
  n2 : PySem.W.findIn K (.ref C) "row" = some none
  n3 : PySem.W.findIn K (.ref C) "column" = some none
  n4 : PySem.W.findIn K (.ref C) "why" = some none
  dS : ∃ fd, FunD K "__init__" "SteadError.__init__" (defArgs sSE) (defBody sSE) (defScope sSE) [.str "refused"] [] fS fd
  dI : ∃ fd, Fun K "__init__" "Fault.__init__" sFault fI fd
  xf : XfC K C
  te : PySem.W.exmOne K (.ref C) (.ref C) = some true
section
variable {P : Program} {w : World} {K : PySem.W.Frag} {mg : Str → Option Value} {base : Heap} {S C fI fS : Addr}
/-- SteadError.__init__ of a Fault that is being made -/
def spSE (K : PySem.W.Frag) (C : Addr) : Sp := fun vs H Q _ => ∃ (a : Addr) (m : Str), vs = [.ref a, .str m] ∧ H a = some (exo a C none) ∧ Q .non H
theorem scSE : FnScope ["self", "message"] ["self", "message"] (defScope sSE) := ⟨rfl, rfl, rfl, by decide +kernel, rfl, by decide +kernel, by decide +kernel⟩
theorem ok_se (T : TxE K mg S C fI fS) : ∃ fd ps, FnOk P w K mg base CX0 1 fS fd ps (spSE K C) ∧ Binds K fd ps [] := by
  obtain ⟨fd, F⟩ := T.dS
  refine ⟨fd, ["self", "message"], ?_, ?_⟩
  · refine F.ok scSE (fun vs H Q E h => ?_) (fun cdv A outer s H vs Q E hr h => ?_)
    · obtain ⟨a, m, rfl, _⟩ := h
      rfl
    obtain ⟨a, m, rfl, ha, k⟩ := h
    refine ⟨_, pss_one (ps_expr (pe_veinit (by rfl) T.gV T.vV (pa_cons (pv 0) (pa_cons (pv 1) pa_nil)))), ?_⟩
    exact ⟨_, rfl, _, rfl, a, C, _, rfl, by show 1 ≤ 1000; decide, T.oC, ha, k⟩
  · obtain ⟨ds, h1, h2⟩ := F.binds1 (ps := ["self", "message"]) 2 1 (by simp) rfl (fun T0 kV doc pm an cdv ct us its h1 h2 => by
      match us, h1, its, h2 with
      | [_, _], _, [_], _ => exact ⟨_, rfl, rfl⟩)
    have e : ds = [] := by
      cases h1
      rfl
    rw [e] at h2
    exact h2
/-- Fault(page, row, column, why) -/
def fsF (pg why : Str) (r c : Int) : List (Str × V) := [("why", .str why), ("column", .int c), ("row", .int r), ("page", .str pg)]
def spFI (K : PySem.W.Frag) (C : Addr) : Sp := fun vs H Q _ => ∃ (a : Addr) (pg why : Str) (r c : Nat), vs = [.ref a, .str pg, .int (r : Nat), .int (c : Nat), .str why] ∧ H a = some (exo a C none) ∧ pg.length ≤ 1000 ∧ why.length ≤ 1000 ∧ r ≤ 1000000 ∧ c ≤ 1000000 ∧
  ∀ d, H d = none → d ≠ a → Q .non (upd (upd H a (exo a C (some d))) d (exd d (fsF pg why r c)))
theorem scFI : FnScope ["self", "page", "row", "column", "why"] ["self", "page", "row", "column", "why"] (defScope sFault) := ⟨rfl, rfl, rfl, by decide +kernel, rfl, by decide +kernel, by decide +kernel⟩
theorem ok_fi (T : TxE K mg S C fI fS) : ∃ fd ps, FnOk P w K mg base CX0 2 fI fd ps (spFI K C) ∧ Binds K fd ps [] := by
  obtain ⟨fd, F⟩ := T.dI
  obtain ⟨fdS, psS, GS_, bS⟩ := ok_se (P := P) (w := w) (base := base) T
  refine ⟨fd, ["self", "page", "row", "column", "why"], ?_, F.binds (ps := ["self", "page", "row", "column", "why"]) fun _ _ _ _ _ _ us hl => match us, hl with | [_, _, _, _, _], _ => rfl⟩
  refine F.ok scFI (fun vs H Q E h => ?_) (fun cdv A outer s H vs Q E hr h => ?_)
  · obtain ⟨a, pg, why, r, c, rfl, _⟩ := h
    rfl
  obtain ⟨a, pg, why, r, c, rfl, ha, h1, h2, h3, h4, k⟩ := h
  refine ⟨_, pss_cons (ps_expr (pe_clsf (pe_glob (v := .ref S) (by rfl) T.gS rfl) T.rS T.fndS T.kS GS_ hr bS pass0 (pa_cons (pv 0) (pa_cons (pe_joined
      (.cons pe_str (.cons (pe_fmt (pv 1)) (.cons pe_str (.cons (pe_fmt (pv 2)) (.cons pe_str (.cons (pe_fmt (pv 3)) (.cons pe_str (.cons (pe_fmt (pv 4)) .nil))))))))) pa_nil)))) <|
    pss_cons (ps_ost (pv 0) (pv 1)) <| pss_cons (ps_ost (pv 0) (pv 2)) <| pss_cons (ps_ost (pv 0) (pv 3)) <| pss_one (ps_ost (pv 0) (pv 4)), ?_⟩
  have app : ∀ x y : Str, (x ++ y).length = x.length + y.length := fun x y => by
    show (x.cps ++ y.cps).size = _
    rw [Array.size_append]
    rfl
  have numl : ∀ n : Nat, n ≤ 1000000 → (Str.ofString (toString ((n : Nat) : Int))).length ≤ 7 := fun n hn => by
    have e := TL.numL_len (n := n) (k := 7) (by decide) (by omega)
    rw [← len_tl]
    have e2 : tl (Str.ofString (toString ((n : Nat) : Int))) = TL.numL n := TL.tl_num n
    rw [e2]
    exact e
  have logl : ∀ n : Nat, n ≤ 1000000 → ((n : Nat) : Int).natAbs.log2 < 1920 := fun n hn => by
    rw [Int.natAbs_natCast]
    exact log_small (by omega)
  have l1 : (Str.ofString "page '").length = 6 := by decide +kernel
  have l2 : (Str.ofString "', row ").length = 7 := by decide +kernel
  have l3 : (Str.ofString ", column ").length = 9 := by decide +kernel
  have l4 : (Str.ofString ": ").length = 2 := by decide +kernel
  have l0 : Str.empty.length = 0 := rfl
  have n1 := numl r h3
  have n2 := numl c h4
  have hz := sizeLine_eq
  refine ⟨rfl, _, rfl, ?_⟩
  refine ⟨_, rfl, by rw [app]; omega, ?_⟩
  refine ⟨_, rfl, .inl ⟨_, rfl, by omega, _, rfl, by rw [app, app]; omega, ?_⟩⟩
  refine ⟨_, rfl, by rw [app, app, app]; omega, ?_⟩
  refine ⟨_, rfl, .inr ⟨_, rfl, logl r h3, _, rfl, by rw [app, app, app, app]; omega, ?_⟩⟩
  refine ⟨_, rfl, by rw [app, app, app, app, app]; omega, ?_⟩
  refine ⟨_, rfl, .inr ⟨_, rfl, logl c h4, _, rfl, by rw [app, app, app, app, app, app]; omega, ?_⟩⟩
  refine ⟨_, rfl, by rw [app, app, app, app, app, app, app]; omega, ?_⟩
  refine ⟨_, rfl, .inl ⟨_, rfl, by omega, _, rfl, by rw [app, app, app, app, app, app, app, app]; omega, ?_⟩⟩
  refine ⟨a, _, rfl, ha, ?_⟩
  refine ⟨_, rfl, _, rfl, a, C, rfl, T.oC, T.n1, .inl ⟨ha, fun d hd hda => ?_⟩⟩
  refine ⟨_, rfl, _, rfl, a, C, rfl, T.oC, T.n2, .inr ⟨d, _, upd_same, by rw [upd_ne hda, upd_same], by show 1 ≤ 900; decide, ?_⟩⟩
  refine ⟨_, rfl, _, rfl, a, C, rfl, T.oC, T.n3, .inr ⟨d, _, by rw [upd_ne hda.symm, upd_same], upd_same, by show 2 ≤ 900; decide, ?_⟩⟩
  refine ⟨_, rfl, _, rfl, a, C, rfl, T.oC, T.n4, .inr ⟨d, _, by rw [upd_ne hda.symm, upd_ne hda.symm, upd_same], upd_same, by show 3 ≤ 900; decide, ?_⟩⟩
  have q := k d hd hda
  have e : upd (upd (upd (upd (upd H d (exd d [(Str.ofString "page", V.str pg)])) a (exo a C (some d))) d (exd d [(Str.ofString "row", V.int (r : Nat)), (Str.ofString "page", V.str pg)])) d (exd d [(Str.ofString "column", V.int (c : Nat)), (Str.ofString "row", V.int (r : Nat)), (Str.ofString "page", V.str pg)])) d (exd d (fsF pg why r c)) = upd (upd H a (exo a C (some d))) d (exd d (fsF pg why r c)) := by
    funext b
    by_cases h : b = d
    · subst h; rw [upd_same, upd_same]
    · rw [upd_ne h, upd_ne h, upd_ne h, upd_ne h]
      by_cases h' : b = a
      · subst h'; rw [upd_same, upd_same]
      · rw [upd_ne h', upd_ne h', upd_ne h]
  rw [← e] at q
  exact q
end
end My
set_option Elab.async false
set_option linter.all false
set_option maxRecDepth 100000
set_option maxHeartbeats 2000000
namespace My
open PySem L2 SS
section
variable {P : Program} {w : World} {K : PySem.W.Frag} {mg : Str → Option Value} {base : Heap} {S C fI fS : Addr}
/-- what is asked where a Fault is made -/
theorem mkFault {H1 : Hp} {Q : XK} {pg why : Str} {r c : Nat} (h1 : pg.length ≤ 1000) (h2 : why.length ≤ 1000) (h3 : r ≤ 1000000) (h4 : c ≤ 1000000)
    (q : ∀ d H', Same H1 H' → H1 d = none → H' d = some (.xd (fsF pg why r c)) → Q (.ref C) (some d) H') (a : Addr) (ha : H1 a = none) :
    spFI K C (.ref a :: ([.str pg, .int (r : Nat), .int (c : Nat), .str why] ++ [])) (upd H1 a (exo a C none)) (fun v H2 => v = .non ∧ ∃ (d : Addr) (fs : List (Str × V)), H2 a = some (exo a C (some d)) ∧ H2 d = some (exd d fs) ∧ H1 d = none ∧ Q (.ref C) (some d) (upd (del H2 a) d (.xd fs))) (fun _ _ _ => False) := by
  refine ⟨a, pg, why, r, c, rfl, upd_same, h1, h2, h3, h4, fun d hd hda => ⟨rfl, d, fsF pg why r c, ?_, upd_same, ?_, ?_⟩⟩
  · rw [upd_ne hda.symm, upd_same]
  · rw [upd_ne hda] at hd
    exact hd
  · rw [upd_ne hda] at hd
    refine q d _ (fun b o e => ?_) hd upd_same
    have e1 : b ≠ d := ne_of_none e hd
    have e2 : b ≠ a := ne_of_none e ha
    rw [upd_ne e1, del_ne e2, upd_ne e1, upd_ne e2, upd_ne e2]
    exact e
end
end My
set_option Elab.async false
set_option linter.all false
set_option maxRecDepth 100000
set_option maxHeartbeats 2000000
namespace My
open PySem L2 SS
/-! ### the reader -/
abbrev rd (j : Nat) : Stmt := inClass (top 38) j
def rf (pg : Str) (wl : Addr) (st : V) (why : Str) (at_ op : Nat) (l1 l2 l3 : Addr) : List (Str × V) :=
  [("page", .str pg), ("words", .ref wl), ("stop", st), ("stop_why", .str why), ("at", .int (at_ : Nat)), ("many_open", .int (op : Nat)), ("starts", .ref l1), ("method_starts", .ref l2), ("node_starts", .ref l3)]
section
variable {pg why : Str} {wl l1 l2 l3 m : Addr} {st : V} {at_ op : Nat} {z : V}
theorem rf_page : (rf pg wl st why at_ op l1 l2 l3).lookup ("page" : Str) = some (.str pg) := by kernel_rfl
theorem rf_words : (rf pg wl st why at_ op l1 l2 l3).lookup ("words" : Str) = some (.ref wl) := by kernel_rfl
theorem rf_stop : (rf pg wl st why at_ op l1 l2 l3).lookup ("stop" : Str) = some st := by kernel_rfl
theorem rf_why : (rf pg wl st why at_ op l1 l2 l3).lookup ("stop_why" : Str) = some (.str why) := by kernel_rfl
theorem rf_at : (rf pg wl st why at_ op l1 l2 l3).lookup ("at" : Str) = some (.int (at_ : Nat)) := by kernel_rfl
theorem rf_open : (rf pg wl st why at_ op l1 l2 l3).lookup ("many_open" : Str) = some (.int (op : Nat)) := by kernel_rfl
theorem rf_st : (rf pg wl st why at_ op l1 l2 l3).lookup ("starts" : Str) = some (.ref l1) := by kernel_rfl
theorem rf_ms : (rf pg wl st why at_ op l1 l2 l3).lookup ("method_starts" : Str) = some (.ref l2) := by kernel_rfl
theorem rf_ns : (rf pg wl st why at_ op l1 l2 l3).lookup ("node_starts" : Str) = some (.ref l3) := by kernel_rfl
theorem rf_pat (k : Nat) : putF "at" (.int (k : Nat)) (rf pg wl st why at_ op l1 l2 l3) = rf pg wl st why k op l1 l2 l3 := by kernel_rfl
theorem rf_pms : putF "method_starts" (.ref m) (rf pg wl st why at_ op l1 l2 l3) = rf pg wl st why at_ op l1 m l3 := by kernel_rfl
theorem rf_pns : putF "node_starts" (.ref m) (rf pg wl st why at_ op l1 l2 l3) = rf pg wl st why at_ op l1 l2 m := by kernel_rfl
end
/-- what stands while one page is read: behind the heap H0 the reader at p; its words, its stop (at q: row r, column c), its page's name, the stop's why -/
structure RX where
  H0 : Hp
  p : Addr
  wl : Addr
  q : Addr
  us : List V
  ws : List W
  r : Nat
  c : Nat
  pg : Str
  why : Str
structure RX.Ok (x : RX) : Prop where
  hw : x.H0 x.wl = some (.tup x.us)
  al : AllT fW x.H0 x.us x.ws
  ln : x.ws.length ≤ 600000
  hq : x.H0 x.q = some (.tup [.int (x.r : Nat), .int (x.c : Nat)])
  rb : x.r ≤ 1000000
  cb : x.c ≤ 1000000
  pb : x.pg.length ≤ 1000
  wb : x.why.length ≤ 1000
  ww : ∀ k ∈ x.ws, k.1.length ≤ 1000 ∧ k.2.1 ≤ 1000000 ∧ k.2.2 ≤ 1000000
  p0 : x.H0 x.p = none
theorem RX.Ok.len {x : RX} (o : x.Ok) : x.us.length = x.ws.length := o.al.length
/-- the reader stands at word a, X1 and X2 its starts and method starts -/
def Rd (C : Addr) (x : RX) (H : Hp) (a op e : Nat) (X1 X2 : List V) : Prop :=
  Same x.H0 H ∧ ∃ (dx l1 l2 l3 : Addr) (X3 : List V), H x.p = some (.ins C dx (rf x.pg x.wl (.ref x.q) x.why a op l1 l2 l3)) ∧ x.H0 l1 = none ∧ x.H0 l2 = none ∧ x.H0 l3 = none ∧ H l1 = some (.lst X1) ∧ H l2 = some (.lst X2) ∧ H l3 = some (.lst X3) ∧
    l1 ≠ l2 ∧ l1 ≠ l3 ∧ l2 ≠ l3 ∧ X3.length ≤ a + e
section
variable {C : Addr} {x : RX} {H : Hp} {a op e : Nat} {X1 X2 : List V}
theorem Rd.new (h : Rd C x H a op e X1 X2) {q : Addr} (n : H q = none) (o : HO) : Rd C x (upd H q o) a op e X1 X2 := by
  obtain ⟨s, dx, l1, l2, l3, X3, h1, n1, n2, n3, h2, h3, h4, r⟩ := h
  have ne : ∀ {b : Addr} {u : HO}, H b = some u → upd H q o b = some u := fun {b u} z => by rw [upd_ne (ne_of_none z n)]; exact z
  exact ⟨s.trans (same_new n o), dx, l1, l2, l3, X3, ne h1, n1, n2, n3, ne h2, ne h3, ne h4, r⟩
theorem Rd.slack (h : Rd C x H a op e X1 X2) {e' : Nat} (he : e ≤ e') : Rd C x H a op e' X1 X2 := by
  obtain ⟨s, dx, l1, l2, l3, X3, h1, n1, n2, n3, h2, h3, h4, d1, d2, d3, ln⟩ := h
  exact ⟨s, dx, l1, l2, l3, X3, h1, n1, n2, n3, h2, h3, h4, d1, d2, d3, by omega⟩
/-- self.at = k -/
theorem Rd.at_ (o : x.Ok) (h : Rd C x H a op e X1 X2) {k e' : Nat} (he : a + e ≤ k + e') : ∃ dx fs, H x.p = some (.ins C dx fs) ∧ fs.lookup ("at" : Str) = some (.int (a : Nat)) ∧ fs.length < 1000 ∧ Rd C x (upd H x.p (.ins C dx (putF "at" (.int (k : Nat)) fs))) k op e' X1 X2 := by
  obtain ⟨s, dx, l1, l2, l3, X3, h1, n1, n2, n3, h2, h3, h4, d1, d2, d3, ln⟩ := h
  have ne : ∀ {b : Addr} {ys : List V} {u : HO}, H b = some (.lst ys) → upd H x.p u b = some (.lst ys) := fun {b ys u} z => by
    rw [upd_ne (ne_of z h1 (by intro q; cases q))]; exact z
  refine ⟨dx, _, h1, rf_at, by show 9 < 1000; decide, fun b u z => ?_, dx, l1, l2, l3, X3, ?_, n1, n2, n3, ne h2, ne h3, ne h4, d1, d2, d3, by omega⟩
  · rw [upd_ne (ne_of_none z o.p0)]
    exact s b u z
  · rw [upd_same, rf_pat]
/-- self.node_starts.append(v) -/
theorem Rd.node (o : x.Ok) (h : Rd C x H a op e X1 X2) (v : V) : ∃ dx fs l3 X3, H x.p = some (.ins C dx fs) ∧ fs.lookup ("node_starts" : Str) = some (.ref l3) ∧ fs.lookup ("at" : Str) = some (.int (a : Nat)) ∧ H l3 = some (.lst X3) ∧ X3.length ≤ a + e ∧ Rd C x (upd H l3 (.lst (X3 ++ [v]))) a op (e + 1) X1 X2 := by
  obtain ⟨s, dx, l1, l2, l3, X3, h1, n1, n2, n3, h2, h3, h4, d1, d2, d3, ln⟩ := h
  refine ⟨dx, _, l3, X3, h1, rf_ns, rf_at, h4, ln, fun b u z => ?_, dx, l1, l2, l3, X3 ++ [v], ?_, n1, n2, n3, ?_, ?_, upd_same, d1, d2, d3, ?_⟩
  · rw [upd_ne (ne_of_none z n3)]
    exact s b u z
  · rw [upd_ne (ne_of h1 h4 (by intro q; cases q))]
    exact h1
  · rw [upd_ne d2]; exact h2
  · rw [upd_ne d3]; exact h3
  · rw [List.length_append]
    simp only [List.length_cons, List.length_nil]
    omega
end
/-- the fault that leaves at row, column, why -/
def FE (CF : Addr) (x : RX) (E : XK) (r c : Nat) (why : Str) : Prop := ∀ d H', Same x.H0 H' → H' d = some (.xd (fsF x.pg why r c)) → E (.ref CF) (some d) H'
def SE_ (CF : Addr) (x : RX) (E : XK) : Prop := FE CF x E x.r x.c x.why
/-! ### methods by their class -/
structure Dm (K : PySem.W.Frag) (C : Addr) (x qual : Str) (st : Stmt) : Prop where
  ex : ∃ f fd, Fun K x qual st f fd ∧ Meth K C x f
structure Mm (P : Program) (w : World) (K : PySem.W.Frag) (mg : Str → Option Value) (base : Heap) (CX : CXT) (k : Nat) (C : Addr) (m : Str) (sp : Sp) : Prop where
  ex : ∃ f fd ps, FnOk P w K mg base CX k f fd ps sp ∧ Meth K C m f ∧ Binds K fd ps []
theorem pe_mm {X : Cx} {CX : CXT} {k j : Nat} {C : Addr} {m : Str} {sp : Sp} {E : XK} {apos pos : Pos} {o e : Expr} {es : List Expr} {ta : TE} {t : TA} {pl : Sem Bool} (c : Cls X.K C) (M : Mm X.prog X.w X.K X.mg X.base CX k C m sp) (hr : Room j X.A) (hk : k ≤ j) (hx : Passes CX X E) (he : PE X o ta) (ha : PA X (e :: es) t)
    (hst : starEach (e :: es) X.env = (false, eval e X.env) :: starEach es X.env := by rfl) (hpl : (backTo pos (starEach es X.env)).any (·.1) = false := by rfl)
    (ht : eval (.Call (.Attribute o m apos) (e :: es) [] pos) X.env = (do
      let ov ← eval o X.env
      standAt apos.atName
      let (f, first) ← holding [ov] (getMethod ov m pl)
      callWith pos f first (backTo pos (starEach (e :: es) X.env)) (backToKw pos (keywordEach [] X.env))) := by rfl) :
    PE X (.Call (.Attribute o m apos) (e :: es) [] pos) (tMeth C m sp [] E ta t) := by
  obtain ⟨f, fd, ps, F, hm, hb⟩ := M.ex
  exact pe_meth he c hm F (hr.mono hk) hb .nil hx ha hst hpl ht
theorem pe_mm0 {X : Cx} {CX : CXT} {k j : Nat} {C : Addr} {m : Str} {sp : Sp} {E : XK} {apos pos : Pos} {o : Expr} {ta : TE} {pl : Sem Bool} (c : Cls X.K C) (M : Mm X.prog X.w X.K X.mg X.base CX k C m sp) (hr : Room j X.A) (hk : k ≤ j) (hx : Passes CX X E) (he : PE X o ta)
    (ht : eval (.Call (.Attribute o m apos) [] [] pos) X.env = (do
      let ov ← eval o X.env
      standAt apos.atName
      let (f, first) ← holding [ov] (getMethod ov m pl)
      callWith pos f first (backTo pos (starEach [] X.env)) (backToKw pos (keywordEach [] X.env))) := by rfl) :
    PE X (.Call (.Attribute o m apos) [] [] pos) (tMeth C m sp [] E ta tNil) := by
  obtain ⟨f, fd, ps, F, hm, hb⟩ := M.ex
  exact pe_meth0 he c hm F (hr.mono hk) hb .nil hx ht
structure TxR (K : PySem.W.Frag) (mg : Str → Option Value) (C : Addr) : Prop where
  cl : Cls K C
  f1 : NoAttr K C "page"
  f2 : NoAttr K C "words"
  f3 : NoAttr K C "stop"
  f4 : NoAttr K C "stop_why"
  f5 : NoAttr K C "at"
  f6 : NoAttr K C "many_open"
  f7 : NoAttr K C "starts"
  f8 : NoAttr K C "method_starts"
  f9 : NoAttr K C "node_starts"
section
variable {P : Program} {w : World} {K : PySem.W.Frag} {mg : Str → Option Value} {base : Heap} {S CF fI fS C : Addr}
abbrev M0 (P : Program) (w : World) (K : PySem.W.Frag) (mg : Str → Option Value) (base : Heap) (C : Addr) (k : Nat) (m : Str) (sp : Sp) : Prop := Mm P w K mg base (L2.CX P w) k C m sp
end
end My
set_option Elab.async false
set_option linter.all false
set_option maxRecDepth 100000
set_option maxHeartbeats 2000000
namespace My
open PySem L2 SS
abbrev sDeck : Stmt := top 42
abbrev sNext : Stmt := top 43
structure TxL (mg : Str → Option Value) : Prop where
  range : mg "range" = none
  mn : mg "min" = none
section
variable {P : Program} {w : World} {K : PySem.W.Frag} {mg : Str → Option Value} {base : Heap} {S CF fI fS C CP fF fK : Addr}
def Small (xs : List Int) : Prop := ∀ v ∈ xs, 0 ≤ v ∧ v < 2147483648
/-- the deck at p: its place, its row of draws at l -/
theorem atI_0 {α : Type} {y : α} {ys : List α} : atI (y :: ys) 0 = some y := atI_nat (j := 0) rfl
def DeckAt (H : Hp) (p l : Addr) (a : Nat) (b : Int) (xs : List Int) : Prop := H p = some (.lst [.int (a : Nat), .ref l, .int b]) ∧ H l = some (.lst (xs.map V.int)) ∧ p ≠ l ∧ Small xs ∧ xs.length ≤ 5000
def spDeck (K : PySem.W.Frag) : Sp := fun vs H Q _ => ∃ (a : Addr) (ns : List Int), vs = [.ref a] ∧ SqL K H a (ns.map V.int) ∧ ns.length ≤ 63 ∧
  ∀ (H' : Hp) (p l : Addr) (xs : List Int), Same H H' → H p = none → H l = none → DeckAt H' p l 0 70 xs → Q (.ref p) H'
theorem scDeck : FnScope ["_law_script", "_law_row", "_law_k", "_law_cell", "_law_n", "_law_one"] ["_law_script"] (defScope sDeck) := ⟨rfl, rfl, rfl, by decide +kernel, rfl, by decide +kernel, by decide +kernel⟩
theorem c_deck (TS : TxS K mg) (T : TxL mg) (D : Dn K mg "_law_deck" sDeck) : C0 P w K mg base 1 "_law_deck" (spDeck K) := by
  obtain ⟨f, fd, F, m⟩ := D.ex
  refine ⟨f, fd, ["_law_script"], F.ok scDeck (fun vs H Q E h => ?_) (fun cdv A outer s H vs Q E hr h => ?_), m, F.kp, F.binds (ps := ["_law_script"]) fun _ _ _ _ _ _ us hl => match us, hl with | [_], _ => rfl⟩
  · obtain ⟨a, ns, rfl, _⟩ := h
    rfl
  obtain ⟨a, ns, rfl, hS, h63, k⟩ := h
  refine ⟨_, pss_cons (ps_set (i := 1) scDeck.nd rfl (Or.inl rfl) (pe_lst pa_nil)) <|
    pss_cons (ps_for PassesOwn.never rfl (pi_range1 rfl T.range (pa_cons (pe_callB (call_min2 rfl) (by rfl) T.mn (by decide +kernel) (pa_cons (pe_callB call_len_seq (by rfl) TS.len PySem.boot_len (pa_cons (pv 0) pa_nil)) (pa_cons pe_int pa_nil))) pa_nil)) (pg_name (i := 2) scDeck.nd rfl (Or.inl rfl)) <|
      pss_cons (ps_set (i := 3) scDeck.nd rfl (Or.inl rfl) (pe_ix ix_list (pv 0) (pv 2) (fun _ _ => rfl))) <|
      pss_one (ps_if (pt_cmpR op_ge (pv 3) (pe_op op_pow pe_int pe_int) (nomark _))
        (pss_one (ps_for PassesOwn.never rfl (pi_range1 rfl T.range (pa_cons pe_int pa_nil)) (pg_name (i := 4) scDeck.nd rfl (Or.inl rfl)) <|
          pss_one (ps_if (pt_cmpR op_gt (pv 3) pe_int (nomark _)) (pss_cons (ps_expr (pe_bm PySem.F.plainAttrs_list PySem.F.slot_list_append PySem.F.type_list_append mt_append (pv 1) (pa_cons (pe_op op_mod (pv 3) pe_int) pa_nil))) <|
            pss_one (ps_set (i := 3) scDeck.nd rfl (Or.inl rfl) (pe_op op_fdiv (pv 3) pe_int))) pss_nil)))
        (pss_cons (ps_set (i := 5) scDeck.nd rfl (Or.inl rfl) (pe_op op_add (pe_op op_add (pe_op op_mul (pv 3) pe_int) (pe_op op_mul (pe_op op_mul (pe_op op_add (pv 2) pe_int) (pe_op op_add (pv 2) pe_int)) pe_int)) pe_int)) <|
          pss_cons (ps_set (i := 5) scDeck.nd rfl (Or.inl rfl) (pe_op op_mod (pv 5) pe_int)) <|
          pss_one (ps_expr (pe_bm PySem.F.plainAttrs_list PySem.F.slot_list_append PySem.F.type_list_append mt_append (pv 1) (pa_cons (pe_op op_mod (pe_op op_mul (pv 5) (pv 5)) pe_int) pa_nil)))))) <|
    pss_one (ps_ret (pe_lst (pa_cons pe_int (pa_cons (pv 1) (pa_cons pe_int pa_nil))))), ?_⟩
  refine ⟨Nat.zero_le _, fun l hl => ?_⟩
  have s0 := same_new hl (.lst [])
  have hlen : (ns.map V.int).length = ns.length := List.length_map _
  refine ⟨_, rfl, a, _, rfl, .inl (s0.seq hS), _, _, rfl, ?_⟩
  have hmin : (if (63 : Int) < ((ns.map V.int).length : Nat) then (63 : Int) else ((ns.map V.int).length : Nat)) = ((ns.length : Nat) : Int) := by
    rw [hlen, if_neg (by omega)]
  rw [hmin]
  refine ⟨_, rfl, by omega, by omega, ?_⟩
  refine for_range (lo := 0) (n := ((ns.length : Nat) : Int).toNat) (fun i σ H1 => ∃ (xs : List Int) (v2 v3 v4 v5 : Option V), σ = [some (.ref a), some (.ref l), v2, v3, v4, v5] ∧ Same H H1 ∧ H1 l = some (.lst (xs.map V.int)) ∧ Small xs ∧ xs.length ≤ 60 * i)
    ⟨[], none, none, none, none, rfl, s0, upd_same, fun v h => by simp at h, by simp⟩ ?_ ?_
  · rintro i σ H1 hi ⟨xs, v2, v3, v4, v5, rfl, s1, h1, hsm, hxl⟩
    have hi2 : i < ns.length := by simpa using hi
    have e0 : (0 : Int) + ((i : Nat) : Int) = ((i : Nat) : Int) := by omega
    rw [e0]
    have hcell : (ns.map V.int)[i]? = some (.int ns[i]) := by rw [List.getElem?_map, List.getElem?_eq_getElem hi2]; rfl
    generalize ns[i] = cell at hcell
    have app : ∀ (H2 : Hp) (ys : List Int) (z : Int), Same H H2 → Same H (upd H2 l (.lst ((ys ++ [z]).map V.int))) := fun H2 ys z s b u e => by
      rw [upd_ne (ne_of_none e hl)]
      exact s b u e
    have sml : ∀ (ys : List Int) (z : Int), Small ys → 0 ≤ z → z < 2147483648 → Small (ys ++ [z]) := fun ys z h h1 h2 v hv => by
      rcases List.mem_append.mp hv with hv | hv
      · exact h v hv
      · simp at hv
        subst hv
        exact ⟨h1, h2⟩
    refine ⟨_, rfl, _, rfl, a, _, _, _, rfl, rfl, s1.seq hS, atI_nat hcell, ?_⟩
    refine ⟨_, rfl, _, _, rfl, rfl, ⟨by decide, by decide, by decide⟩, _, _, rfl, rfl, _, rfl, ?_⟩
    refine ite2 (fun c => ?_) (fun c => ?_)
    · refine ⟨60, rfl, by decide, by decide, ?_⟩
      refine for_range (lo := 0) (n := (60 : Int).toNat) (fun j σ H2 => ∃ (ys : List Int) (cl : Int) (v4 : Option V), σ = [some (.ref a), some (.ref l), some (.int (i : Nat)), some (.int cl), v4, v5] ∧ Same H H2 ∧ H2 l = some (.lst (ys.map V.int)) ∧ Small ys ∧ ys.length ≤ 60 * i + j)
        ⟨xs, cell, v4, rfl, s1, h1, hsm, by omega⟩ ?_ ?_
      · rintro j σ H2 hj ⟨ys, cl, v4', rfl, s2, h2, hs2, hyl⟩
        refine ⟨_, rfl, _, _, rfl, rfl, _, rfl, ?_⟩
        refine ite2 (fun c2 => ?_) (fun c2 => ?_)
        · have hlt : ys.length < sizeLine := by
            rw [sizeLine_eq]
            have : j < 60 := by simpa using hj
            omega
          refine ⟨_, rfl, .inl ⟨rfl, _, SqL.of h2⟩, _, rfl, _, _, rfl, rfl, (by show (0 : Int) < 1000000; decide), l, _, _, rfl, rfl, h2, by rw [List.length_map]; exact hlt, ?_⟩
          refine ⟨_, rfl, _, _, rfl, rfl, ⟨by decide, by decide⟩, ?_⟩
          refine ⟨ys ++ [cl % 1000000], _, _, rfl, ?_, by rw [upd_same, List.map_append]; rfl, sml _ _ hs2 (Int.emod_nonneg _ (by decide)) (by have := Int.emod_lt_of_pos cl (show (0 : Int) < 1000000 by decide); omega), by rw [List.length_append]; simp only [List.length_cons, List.length_nil]; omega⟩
          have := app H2 ys (cl % 1000000) s2
          rw [List.map_append] at this
          exact this
        · exact ⟨ys, cl, _, rfl, s2, h2, hs2, by omega⟩
      · rintro σ H2 ⟨ys, cl, v4', rfl, s2, h2, hs2, hyl⟩
        exact ⟨ys, _, _, _, _, rfl, s2, h2, hs2, by have : (60 : Int).toNat = 60 := rfl; omega⟩
    · have i64 : ((i : Nat) : Int) < 64 := by omega
      refine ⟨_, rfl, _, _, rfl, rfl, .inr ⟨by decide, by decide⟩, _, rfl, _, _, rfl, rfl, _, rfl, _, _, rfl, rfl, _, _, rfl, rfl, .inl ⟨by omega, by omega⟩, _, _, rfl, rfl, .inr ⟨by decide, by decide⟩, _, _, rfl, rfl, _, _, rfl, rfl, ?_⟩
      refine ⟨_, rfl, _, _, rfl, rfl, (by show (0 : Int) < 2147483647; decide), ?_⟩
      obtain ⟨one, hone⟩ : ∃ one : Int, one = (cell * 48271 + (((i : Nat) : Int) + 1) * (((i : Nat) : Int) + 1) * 7919 + 11) % 2147483647 := ⟨_, rfl⟩
      have o0 : 0 ≤ one := by rw [hone]; exact Int.emod_nonneg _ (by decide)
      have o1 : one < 2147483647 := by rw [hone]; exact Int.emod_lt_of_pos _ (by decide)
      show gName 5 (V.int ((cell * 48271 + (((i : Nat) : Int) + 1) * (((i : Nat) : Int) + 1) * 7919 + 11) % 2147483647)) _ _ _
      rw [← hone]
      refine ⟨_, rfl, .inl ⟨rfl, _, SqL.of h1⟩, _, rfl, _, rfl, _, _, rfl, rfl, .inl ⟨by omega, by omega⟩, _, _, rfl, rfl, (by show (0 : Int) < 2147483629; decide), l, _, _, rfl, rfl, h1, by rw [List.length_map, sizeLine_eq]; omega, ?_⟩
      refine ⟨xs ++ [one * one % 2147483629], _, _, _, _, rfl, ?_, by rw [upd_same, List.map_append]; rfl, sml _ _ hsm (Int.emod_nonneg _ (by decide)) (by have := Int.emod_lt_of_pos (one * one) (show (0 : Int) < 2147483629 by decide); omega), by rw [List.length_append]; simp only [List.length_cons, List.length_nil]; omega⟩
      have := app H1 xs (one * one % 2147483629) s1
      rw [List.map_append] at this
      exact this
  · rintro σ H1 ⟨xs, v2, v3, v4, v5, rfl, s1, h1, hsm, hxl⟩
    have hn : ((ns.length : Nat) : Int).toNat = ns.length := by omega
    rw [hn] at hxl
    refine ⟨_, rfl, by show 3 ≤ sizeLine; decide, fun p hp => ?_⟩
    have hpl : p ≠ l := fun z => by rw [z, h1] at hp; cases hp
    exact k _ p l xs (s1.trans (same_new hp _)) (s1.free hp) hl ⟨upd_same, by rw [upd_ne hpl.symm]; exact h1, hpl, hsm, by omega⟩
/-! _law_next -/
def spNext : Sp := fun vs H Q _ => ∃ (p l : Addr) (a : Nat) (b : Int) (xs : List Int), vs = [.ref p] ∧ DeckAt H p l a b xs ∧ a ≤ 10000 ∧ ∀ (n : Int), 0 ≤ n → DeckAt (upd H p (.lst [.int ((a + 1 : Nat) : Int), .ref l, .int b])) p l (a + 1) b xs → Q (.int n) (upd H p (.lst [.int ((a + 1 : Nat) : Int), .ref l, .int b]))
theorem scNext : FnScope ["_law_deck_here", "_law_at", "_law_row", "_law_one"] ["_law_deck_here"] (defScope sNext) := ⟨rfl, rfl, rfl, by decide +kernel, rfl, by decide +kernel, by decide +kernel⟩
theorem c_next (TS : TxS K mg) (D : Dn K mg "_law_next" sNext) : C0 P w K mg base 1 "_law_next" spNext := by
  obtain ⟨f, fd, F, m⟩ := D.ex
  refine ⟨f, fd, ["_law_deck_here"], F.ok scNext (fun vs H Q E h => ?_) (fun cdv A outer s H vs Q E hr h => ?_), m, F.kp, F.binds (ps := ["_law_deck_here"]) fun _ _ _ _ _ _ us hl => match us, hl with | [_], _ => rfl⟩
  · obtain ⟨p, l, a, b, xs, rfl, _⟩ := h
    rfl
  obtain ⟨p, l, a, b, xs, rfl, ⟨h1, h2, hpl, hsm, hxl⟩, ha, k⟩ := h
  refine ⟨_, pss_cons (ps_set (i := 1) scNext.nd rfl (Or.inl rfl) (pe_ix ix_list (pv 0) pe_int (fun _ _ => rfl))) <|
    pss_cons (ps_asg (pe_op op_add (pv 1) pe_int) (pg_sub (pv 0) pe_int set_list)) <|
    pss_cons (ps_set (i := 2) scNext.nd rfl (Or.inl rfl) (pe_ix ix_list (pv 0) pe_int (fun _ _ => rfl))) <|
    pss_cons (ps_if (pt_cmpR op_lt (pv 1) (pe_callB call_len_seq (by rfl) TS.len PySem.boot_len (pa_cons (pv 2) pa_nil)) (nomark _)) (pss_one (ps_ret (pe_ix ix_list (pv 2) (pv 1) (fun _ _ => rfl)))) pss_nil) <|
    pss_cons (ps_if (pt_cmpR op_eq (pe_callB call_len_seq (by rfl) TS.len PySem.boot_len (pa_cons (pv 2) pa_nil)) pe_int (nomark _)) (pss_one (ps_ret (pe_op op_mod (pe_op op_mul (pe_op op_mul (pe_op op_mul (pe_op op_add (pv 1) pe_int) (pe_op op_add (pv 1) pe_int)) (pe_op op_add (pv 1) pe_int)) pe_int) pe_int))) pss_nil) <|
    pss_cons (ps_set (i := 3) scNext.nd rfl (Or.inl rfl) (pe_op op_add (pe_ix ix_list (pv 2) (pe_op op_mod (pv 1) (pe_callB call_len_seq (by rfl) TS.len PySem.boot_len (pa_cons (pv 2) pa_nil))) (fun _ _ => rfl)) (pe_op op_mul pe_int (pe_ix ix_list (pv 2) (pe_op op_mod (pe_op op_mul (pv 1) pe_int) (pe_callB call_len_seq (by rfl) TS.len PySem.boot_len (pa_cons (pv 2) pa_nil))) (fun _ _ => rfl))))) <|
    pss_cons (ps_set (i := 3) scNext.nd rfl (Or.inl rfl) (pe_op op_add (pe_op op_add (pv 3) (pe_op op_mul (pe_op op_mul (pv 1) (pv 1)) pe_int)) pe_int)) <|
    pss_one (ps_ret (pe_op op_mod (pe_op op_mul (pv 3) (pv 3)) pe_int)), ?_⟩
  have hat0 : atI [V.int (a : Nat), .ref l, .int b] 0 = some (.int (a : Nat)) := atI_0
  have ec : ((a : Nat) : Int) + 1 = ((a + 1 : Nat) : Int) := by omega
  refine ⟨_, rfl, p, _, _, _, rfl, rfl, SqL.of h1, hat0, ?_⟩
  refine ⟨_, rfl, _, _, rfl, rfl, _, rfl, p, _, 0, 0, rfl, rfl, h1, rfl, ?_⟩
  have eset : ([V.int (a : Nat), .ref l, .int b] : List V).set 0 (.int (((a : Nat) : Int) + 1)) = [.int ((a + 1 : Nat) : Int), .ref l, .int b] := by
    rw [ec]
    rfl
  show tSeq _ _ _ _ (upd H p (.lst (([V.int (a : Nat), .ref l, .int b] : List V).set 0 (.int (((a : Nat) : Int) + 1)))))
  rw [eset]
  have dk : DeckAt (upd H p (.lst [.int ((a + 1 : Nat) : Int), .ref l, .int b])) p l (a + 1) b xs := ⟨upd_same, by rw [upd_ne hpl.symm]; exact h2, hpl, hsm, hxl⟩
  have kk : ∀ n : Int, 0 ≤ n → Q (.int n) (upd H p (.lst [.int ((a + 1 : Nat) : Int), .ref l, .int b])) := fun n hn => k n hn dk
  have hl2 := dk.2.1
  generalize upd H p (.lst [.int ((a + 1 : Nat) : Int), .ref l, .int b]) = H1 at dk kk hl2 ⊢
  have hat1 : atI [V.int ((a + 1 : Nat) : Int), .ref l, .int b] 1 = some (.ref l) := atI_nat (j := 1) rfl
  refine ⟨_, rfl, p, _, _, _, rfl, rfl, SqL.of dk.1, hat1, ?_⟩
  have hlen : (xs.map V.int).length = xs.length := List.length_map _
  have get : ∀ j : Nat, j < xs.length → ∃ z : Int, atI (xs.map V.int) ((j : Nat) : Int) = some (.int z) ∧ 0 ≤ z ∧ z < 2147483648 := fun j hj => by
    refine ⟨xs[j], atI_nat (by rw [List.getElem?_map, List.getElem?_eq_getElem hj]; rfl), hsm _ (List.getElem_mem hj)⟩
  refine ⟨_, rfl, _, rfl, l, _, rfl, .inl (SqL.of hl2), _, _, rfl, rfl, _, rfl, ?_⟩
  rw [hlen]
  refine ite2 (fun c => ?_) (fun c => ?_)
  · have c1 := of_decide_eq_true c
    obtain ⟨z, hz, z0, _⟩ := get a (by omega)
    exact ⟨_, rfl, _, rfl, l, _, _, _, rfl, rfl, SqL.of hl2, hz, kk z z0⟩
  refine ⟨_, rfl, l, _, rfl, .inl (SqL.of hl2), rfl, _, rfl, ?_⟩
  rw [hlen]
  have ha2 : ((a : Nat) : Int) ≤ 10000 := by omega
  have ha0 : 0 ≤ ((a : Nat) : Int) := by omega
  refine ite2 (fun c2 => ?_) (fun c2 => ?_)
  · refine ⟨_, rfl, _, _, rfl, rfl, _, rfl, _, _, rfl, rfl, _, _, rfl, rfl, .inl ⟨by omega, by omega⟩, _, rfl, _, _, rfl, rfl, _, _, rfl, rfl, .inr ⟨by omega, by omega⟩, _, _, rfl, rfl, .inr ⟨by decide, by decide⟩, _, _, rfl, rfl, (by show (0 : Int) < 2147483629; decide), ?_⟩
    exact kk _ (Int.emod_nonneg _ (by decide))
  · have c3 := of_decide_eq_false (Bool.eq_false_iff.mpr c2)
    have hx : 0 < xs.length := by
      rcases Nat.eq_zero_or_pos xs.length with h | h
      · exact absurd (by rw [h]; rfl) c3
      · exact h
    have hx' : (0 : Int) < ((xs.length : Nat) : Int) := by omega
    have md : ∀ y : Int, ∃ j : Nat, y % ((xs.length : Nat) : Int) = ((j : Nat) : Int) ∧ j < xs.length := fun y => by
      have h1 := Int.emod_nonneg y (show ((xs.length : Nat) : Int) ≠ 0 by omega)
      have h2 := Int.emod_lt_of_pos y hx'
      exact ⟨(y % ((xs.length : Nat) : Int)).toNat, by omega, by omega⟩
    obtain ⟨j1, e1, hj1⟩ := md ((a : Nat) : Int)
    obtain ⟨j2, e2, hj2⟩ := md (((a : Nat) : Int) * 5)
    obtain ⟨z1, hz1, z10, z11⟩ := get j1 hj1
    obtain ⟨z2, hz2, z20, z21⟩ := get j2 hj2
    refine ⟨_, rfl, _, rfl, _, rfl, l, _, rfl, .inl (SqL.of hl2), _, _, rfl, rfl, by rw [hlen]; exact hx', l, _, _, _, rfl, rfl, SqL.of hl2, by rw [hlen, e1]; exact hz1, ?_⟩
    refine ⟨_, rfl, _, rfl, _, _, rfl, rfl, .inl ⟨by omega, by omega⟩, _, rfl, l, _, rfl, .inl (SqL.of hl2), _, _, rfl, rfl, by rw [hlen]; exact hx', l, _, _, _, rfl, rfl, SqL.of hl2, by rw [hlen, e2]; exact hz2, ?_⟩
    refine ⟨_, _, rfl, rfl, .inl ⟨by decide, by decide⟩, _, _, rfl, rfl, ?_⟩
    refine ⟨_, rfl, _, rfl, _, rfl, _, _, rfl, rfl, .inl ⟨by omega, by omega⟩, _, _, rfl, rfl, .inr ⟨by decide, by decide⟩, _, _, rfl, rfl, _, _, rfl, rfl, ?_⟩
    have haa : ((a : Nat) : Int) * ((a : Nat) : Int) ≤ 100000000 := by
      have : ((a : Nat) : Int) * ((a : Nat) : Int) ≤ 10000 * 10000 := Int.mul_le_mul ha2 ha2 ha0 (by decide)
      omega
    have haa0 : 0 ≤ ((a : Nat) : Int) * ((a : Nat) : Int) := Int.mul_nonneg ha0 ha0
    obtain ⟨y, hy⟩ : ∃ y : Int, y = z1 + 7 * z2 + ((a : Nat) : Int) * ((a : Nat) : Int) * 40503 + 1 := ⟨_, rfl⟩
    show gName 3 (V.int (z1 + 7 * z2 + ((a : Nat) : Int) * ((a : Nat) : Int) * 40503 + 1)) _ _ _
    rw [← hy]
    refine ⟨_, rfl, _, rfl, _, _, rfl, rfl, .inl ⟨by omega, by omega⟩, _, _, rfl, rfl, (by show (0 : Int) < 2147483629; decide), ?_⟩
    exact kk _ (Int.emod_nonneg _ (by decide))
end
end My
set_option Elab.async false
set_option linter.all false
set_option maxRecDepth 100000
set_option maxHeartbeats 2000000
namespace My
open PySem L2 SS
/-! ### trees of es and statements -/
mutual
inductive Ex : Type
  | num (n : Int) : Ex
  | txt (s : List Nat) : Ex
  | tru (b : Bool) : Ex
  | non : Ex
  | slf : Ex
  | nam (w : List Nat) : Ex
  | fld (w : List Nat) : Ex
  | new (w : List Nat) : Ex
  | send (r : Ex) (m : List Nat) (es : Exs) : Ex
  | up (m : List Nat) (es : Exs) : Ex
  | lst (es : Exs) : Ex
  | blk (ps : List (List Nat)) (ss : Sts) : Ex
inductive Exs : Type
  | nil : Exs
  | cons (e : Ex) (r : Exs) : Exs
inductive St_ : Type
  | set (w : List Nat) (e : Ex) : St_
  | sfl (w : List Nat) (e : Ex) : St_
  | pl (k : List Nat) (e : Ex) : St_
  | iff (e : Ex) (a b : Sts) : St_
  | whl (e : Ex) (a : Sts) : St_
  | tri (a : Sts) (w : List Nat) (b : Sts) : St_
inductive Sts : Type
  | nil : Sts
  | cons (s : St_) (r : Sts) : Sts
end
def wsV (ws : List T) : List V := ws.map fun w => V.str (mk w)
/-- a tuple of texts -/
def AtW (H : Hp) (ws : List T) (v : V) : Prop := ∃ p, v = .ref p ∧ H p = some (.tup (wsV ws))
abbrev S_ (s : String) : V := V.str (Str.ofString s)
mutual
def AtE (H : Hp) : Ex → V → Prop
  | .num n, v => ∃ p, v = .ref p ∧ H p = some (.tup [S_ "number", .int n])
  | .txt s, v => ∃ p, v = .ref p ∧ H p = some (.tup [S_ "text", .str (mk s)])
  | .tru b, v => ∃ p, v = .ref p ∧ H p = some (.tup [S_ "truth", .bl b])
  | .non, v => ∃ p, v = .ref p ∧ H p = some (.tup [S_ "none"])
  | .slf, v => ∃ p, v = .ref p ∧ H p = some (.tup [S_ "self"])
  | .nam w, v => ∃ p, v = .ref p ∧ H p = some (.tup [S_ "name", .str (mk w)])
  | .fld w, v => ∃ p, v = .ref p ∧ H p = some (.tup [S_ "field", .str (mk w)])
  | .new w, v => ∃ p, v = .ref p ∧ H p = some (.tup [S_ "new", .str (mk w)])
  | .send r m es, v => ∃ p vr q xs, v = .ref p ∧ H p = some (.tup [S_ "send", vr, .str (mk m), .ref q]) ∧ H q = some (.tup xs) ∧ AtE H r vr ∧ AtEs H es xs
  | .up m es, v => ∃ p q xs, v = .ref p ∧ H p = some (.tup [S_ "up", .str (mk m), .ref q]) ∧ H q = some (.tup xs) ∧ AtEs H es xs
  | .lst es, v => ∃ p q xs, v = .ref p ∧ H p = some (.tup [S_ "list", .ref q]) ∧ H q = some (.tup xs) ∧ AtEs H es xs
  | .blk ps ss, v => ∃ p vw q xs, v = .ref p ∧ H p = some (.tup [S_ "block", vw, .ref q]) ∧ H q = some (.tup xs) ∧ AtW H ps vw ∧ AtSs H ss xs
def AtEs (H : Hp) : Exs → List V → Prop
  | .nil, xs => xs = []
  | .cons e r, xs => ∃ v vs, xs = v :: vs ∧ AtE H e v ∧ AtEs H r vs
def AtS (H : Hp) : St_ → V → Prop
  | .set w e, v => ∃ p ve, v = .ref p ∧ H p = some (.tup [S_ "set", .str (mk w), ve]) ∧ AtE H e ve
  | .sfl w e, v => ∃ p ve, v = .ref p ∧ H p = some (.tup [S_ "setfield", .str (mk w), ve]) ∧ AtE H e ve
  | .pl k e, v => ∃ p ve, v = .ref p ∧ H p = some (.tup [.str (mk k), ve]) ∧ AtE H e ve
  | .iff e a b, v => ∃ p ve q xs r ys, v = .ref p ∧ H p = some (.tup [S_ "if", ve, .ref q, .ref r]) ∧ H q = some (.tup xs) ∧ H r = some (.tup ys) ∧ AtE H e ve ∧ AtSs H a xs ∧ AtSs H b ys
  | .whl e a, v => ∃ p ve q xs, v = .ref p ∧ H p = some (.tup [S_ "while", ve, .ref q]) ∧ H q = some (.tup xs) ∧ AtE H e ve ∧ AtSs H a xs
  | .tri a w b, v => ∃ p q xs r ys, v = .ref p ∧ H p = some (.tup [S_ "try", .ref q, .str (mk w), .ref r]) ∧ H q = some (.tup xs) ∧ H r = some (.tup ys) ∧ AtSs H a xs ∧ AtSs H b ys
def AtSs (H : Hp) : Sts → List V → Prop
  | .nil, xs => xs = []
  | .cons s r, xs => ∃ v vs, xs = v :: vs ∧ AtS H s v ∧ AtSs H r vs
end
theorem AtW.on {H H' : Hp} {ws : List T} {v : V} (t : Tups H H') (h : AtW H ws v) : AtW H' ws v := by
  obtain ⟨p, e, h⟩ := h
  exact ⟨p, e, t _ _ h⟩
mutual
theorem AtE.on {H H' : Hp} (t : Tups H H') : ∀ (e : Ex) (v : V), AtE H e v → AtE H' e v
  | .num n, v, ⟨p, e, h⟩ => ⟨p, e, t _ _ h⟩
  | .txt s, v, ⟨p, e, h⟩ => ⟨p, e, t _ _ h⟩
  | .tru b, v, ⟨p, e, h⟩ => ⟨p, e, t _ _ h⟩
  | .non, v, ⟨p, e, h⟩ => ⟨p, e, t _ _ h⟩
  | .slf, v, ⟨p, e, h⟩ => ⟨p, e, t _ _ h⟩
  | .nam w, v, ⟨p, e, h⟩ => ⟨p, e, t _ _ h⟩
  | .fld w, v, ⟨p, e, h⟩ => ⟨p, e, t _ _ h⟩
  | .new w, v, ⟨p, e, h⟩ => ⟨p, e, t _ _ h⟩
  | .send r m es, v, ⟨p, vr, q, xs, e, h1, h2, h3, h4⟩ => ⟨p, vr, q, xs, e, t _ _ h1, t _ _ h2, AtE.on t r vr h3, AtEs.on t es xs h4⟩
  | .up m es, v, ⟨p, q, xs, e, h1, h2, h4⟩ => ⟨p, q, xs, e, t _ _ h1, t _ _ h2, AtEs.on t es xs h4⟩
  | .lst es, v, ⟨p, q, xs, e, h1, h2, h4⟩ => ⟨p, q, xs, e, t _ _ h1, t _ _ h2, AtEs.on t es xs h4⟩
  | .blk ps ss, v, ⟨p, vw, q, xs, e, h1, h2, h3, h4⟩ => ⟨p, vw, q, xs, e, t _ _ h1, t _ _ h2, h3.on t, AtSs.on t ss xs h4⟩
theorem AtEs.on {H H' : Hp} (t : Tups H H') : ∀ (e : Exs) (v : List V), AtEs H e v → AtEs H' e v
  | .nil, xs, h => h
  | .cons e r, xs, ⟨v, vs, h1, h2, h3⟩ => ⟨v, vs, h1, AtE.on t e v h2, AtEs.on t r vs h3⟩
theorem AtS.on {H H' : Hp} (t : Tups H H') : ∀ (s : St_) (v : V), AtS H s v → AtS H' s v
  | .set w e, v, ⟨p, ve, h1, h2, h3⟩ => ⟨p, ve, h1, t _ _ h2, AtE.on t e ve h3⟩
  | .sfl w e, v, ⟨p, ve, h1, h2, h3⟩ => ⟨p, ve, h1, t _ _ h2, AtE.on t e ve h3⟩
  | .pl w e, v, ⟨p, ve, h1, h2, h3⟩ => ⟨p, ve, h1, t _ _ h2, AtE.on t e ve h3⟩
  | .iff e a b, v, ⟨p, ve, q, xs, r, ys, h1, h2, h3, h4, h5, h6, h7⟩ => ⟨p, ve, q, xs, r, ys, h1, t _ _ h2, t _ _ h3, t _ _ h4, AtE.on t e ve h5, AtSs.on t a xs h6, AtSs.on t b ys h7⟩
  | .whl e a, v, ⟨p, ve, q, xs, h1, h2, h3, h5, h6⟩ => ⟨p, ve, q, xs, h1, t _ _ h2, t _ _ h3, AtE.on t e ve h5, AtSs.on t a xs h6⟩
  | .tri a w b, v, ⟨p, q, xs, r, ys, h1, h2, h3, h4, h6, h7⟩ => ⟨p, q, xs, r, ys, h1, t _ _ h2, t _ _ h3, t _ _ h4, AtSs.on t a xs h6, AtSs.on t b ys h7⟩
theorem AtSs.on {H H' : Hp} (t : Tups H H') : ∀ (e : Sts) (v : List V), AtSs H e v → AtSs H' e v
  | .nil, xs, h => h
  | .cons e r, xs, ⟨v, vs, h1, h2, h3⟩ => ⟨v, vs, h1, AtS.on t e v h2, AtSs.on t r vs h3⟩
end
end My
set_option Elab.async false
set_option linter.all false
set_option maxRecDepth 100000
set_option maxHeartbeats 2000000
namespace My
open PySem L2 SS
/-! ### words, measures, what a tree can be -/
abbrev kSay : T := tl "say"
abbrev tk (s : String) : T := tl (Str.ofString s)
def numT (n : Int) : T := tl (numStr n)
abbrev WB := List Nat × Bool
def plainW (ws : List T) : List WB := ws.map fun w => (w, false)
mutual
def wE : Ex → List WB
  | .num n => [(numT n, true)]
  | .txt s => [(39 :: s, true)]
  | .tru true => [(tk "true", true)]
  | .tru false => [(tk "false", true)]
  | .non => [(tk "none", true)]
  | .slf => [(tk "self", true)]
  | .nam w => [(w, true)]
  | .fld w => [(64 :: w, true)]
  | .new w => [(tk "new", true), (w, false)]
  | .send r m es => (tk "(", true) :: (wE r ++ (m, false) :: (wEs es ++ [(tk ")", false)]))
  | .up m es => (tk "(", true) :: (tk "up", false) :: (m, false) :: (wEs es ++ [(tk ")", false)])
  | .lst es => (tk "[", true) :: (wEs es ++ [(tk "]", false)])
  | .blk ps ss => (tk "{", true) :: (plainW ps ++ (tk "|", false) :: (wSs ss ++ [(tk "}", false)]))
def wEs : Exs → List WB
  | .nil => []
  | .cons e r => wE e ++ wEs r
def wS : St_ → List WB
  | .set w e => (w, true) :: (tk ":=", false) :: wE e
  | .sfl w e => (64 :: w, true) :: (tk ":=", false) :: wE e
  | .pl k e => (k, true) :: wE e
  | .iff e a b => (tk "if", true) :: (wE e ++ (tk "then", false) :: (wSs a ++ (tk "else", false) :: (wSs b ++ [(tk "end", false)])))
  | .whl e a => (tk "while", true) :: (wE e ++ (tk "then", false) :: (wSs a ++ [(tk "end", false)]))
  | .tri a w b => (tk "try", true) :: (wSs a ++ (tk "taken", false) :: (w, false) :: (wSs b ++ [(tk "end", false)]))
def wSs : Sts → List WB
  | .nil => []
  | .cons s r => wS s ++ wSs r
end
mutual
/-- how many are open within one another -/
def oE : Ex → Nat
  | .send r _ es => 1 + max (oE r) (oEs es)
  | .up _ es => 1 + oEs es
  | .lst es => 1 + oEs es
  | .blk _ ss => 1 + oSs ss
  | _ => 0
def oEs : Exs → Nat
  | .nil => 0
  | .cons e r => max (oE e) (oEs r)
def oS : St_ → Nat
  | .set _ e => oE e
  | .sfl _ e => oE e
  | .pl _ e => oE e
  | .iff e a b => 1 + max (oE e) (max (oSs a) (oSs b))
  | .whl e a => 1 + max (oE e) (oSs a)
  | .tri a _ b => 1 + max (oSs a) (oSs b)
def oSs : Sts → Nat
  | .nil => 0
  | .cons s r => max (oS s) (oSs r)
end
mutual
/-- how many nodes -/
def nE : Ex → Nat
  | .send r _ es => 1 + nE r + nEs es
  | .up _ es => 1 + nEs es
  | .lst es => 1 + nEs es
  | .blk _ ss => 1 + nSs ss
  | _ => 1
def nEs : Exs → Nat
  | .nil => 0
  | .cons e r => nE e + nEs r
def nS : St_ → Nat
  | .set _ e => 1 + nE e
  | .sfl _ e => 1 + nE e
  | .pl _ e => 1 + nE e
  | .iff e a b => 1 + nE e + nSs a + nSs b
  | .whl e a => 1 + nE e + nSs a
  | .tri a _ b => 1 + nSs a + nSs b
def nSs : Sts → Nat
  | .nil => 0
  | .cons s r => nS s + nSs r
end
def cE : Exs → Nat
  | .nil => 0
  | .cons _ r => 1 + cE r
def cS : Sts → Nat
  | .nil => 0
  | .cons _ r => 1 + cS r
def isMsg (w : T) : Bool := isFree w || inS [mk [43], mk [45], mk [42], mk [47], mk [60], mk [61]] w
def isPl (w : T) : Bool := inS ["do", "say", "return", "raise"] w
mutual
def okE : Ex → Prop
  | .num n => -1000000000000 < n ∧ n < 1000000000000
  | .txt s => isText s = true
  | .nam w => isFree w = true
  | .fld w => isFree w = true
  | .new w => isKindName w = true
  | .send r m es => isMsg m = true ∧ okE r ∧ okEs es
  | .up m es => isFree m = true ∧ okEs es
  | .lst es => okEs es
  | .blk ps ss => ps.length ≤ 2 ∧ (∀ w ∈ ps, isFree w = true) ∧ okSs ss
  | _ => True
def okEs : Exs → Prop
  | .nil => True
  | .cons e r => okE e ∧ okEs r
def okS : St_ → Prop
  | .set w e => isFree w = true ∧ okE e
  | .sfl w e => isFree w = true ∧ okE e
  | .pl k e => isPl k = true ∧ okE e
  | .iff e a b => okE e ∧ okSs a ∧ okSs b
  | .whl e a => okE e ∧ okSs a
  | .tri a w b => isFree w = true ∧ okSs a ∧ okSs b
def okSs : Sts → Prop
  | .nil => True
  | .cons s r => okS s ∧ okSs r
end
/-- what words weigh in a layout -/
def wt (ws : List WB) : Nat := (ws.map fun q => q.1.length + 3).sum
theorem wt_app (a b : List WB) : wt (a ++ b) = wt a + wt b := by unfold wt; rw [List.map_append, List.sum_append]
theorem wt_cons (q : WB) (b : List WB) : wt (q :: b) = q.1.length + 3 + wt b := by unfold wt; rw [List.map_cons, List.sum_cons]
theorem wt_nil : wt [] = 0 := rfl
theorem free_len {w : T} (h : isFree w = true) : w.length ≤ 12 := by
  unfold isFree isSmall isName at h
  simp only [Bool.and_eq_true, decide_eq_true_eq] at h
  exact h.1.1.2
theorem kind_len {w : T} (h : isKindName w = true) : w.length ≤ 12 := by
  unfold isKindName isName at h
  simp only [Bool.and_eq_true, decide_eq_true_eq] at h
  exact h.1.2
theorem text_len {w : T} (h : isText w = true) : w.length ≤ 40 := by
  unfold isText at h
  simp only [Bool.and_eq_true, decide_eq_true_eq] at h
  exact h.1
theorem inS_len {zs : List Str} {w : T} {n : Nat} (hz : ∀ z ∈ zs, z.length ≤ n) (h : inS zs w = true) : w.length ≤ n := by
  unfold inS at h
  obtain ⟨z, hz1, hz2⟩ := List.any_eq_true.mp h
  have e := eq_of_beq hz2
  have := hz z hz1
  rw [e, mk_len] at this
  exact this
theorem msg_len {w : T} (h : isMsg w = true) : w.length ≤ 12 := by
  unfold isMsg at h
  rcases Bool.or_eq_true_iff.mp h with h | h
  · exact free_len h
  · have := inS_len (n := 1) (by decide +kernel) h
    omega
theorem pl_len {w : T} (h : isPl w = true) : w.length ≤ 6 := inS_len (by decide +kernel) h
end My
set_option Elab.async false
set_option linter.all false
set_option maxRecDepth 100000
set_option maxHeartbeats 2000000
namespace My
open PySem L2 SS
theorem ofS_app (a b : String) : tl (Str.ofString (a ++ b)) = tl (Str.ofString a) ++ tl (Str.ofString b) := by
  rw [Str.ofString_eq_toList, Str.ofString_eq_toList, Str.ofString_eq_toList]
  show (((a ++ b).toList.map Char.toNat).toArray).toList = (a.toList.map Char.toNat).toArray.toList ++ (b.toList.map Char.toNat).toArray.toList
  simp
theorem numT_neg (m : Nat) : numT (Int.negSucc m) = 45 :: TL.numL (m + 1) := by
  have e2 : toString (Int.negSucc m) = "-" ++ toString (((m + 1 : Nat) : Nat) : Int) := rfl
  show tl (Str.ofString (toString (Int.negSucc m))) = _
  rw [e2, ofS_app]
  have e3 : tl (Str.ofString (toString ((m + 1 : Nat) : Int))) = TL.numL (m + 1) := TL.tl_num (m + 1)
  rw [e3]
  have e4 : tl (Str.ofString "-") = [45] := by decide +kernel
  rw [e4]
  rfl
theorem numT_pos (m : Nat) : numT ((m : Nat) : Int) = TL.numL m := TL.tl_num m
theorem numL_head {m : Nat} : ∃ c r, TL.numL m = c :: r ∧ 48 ≤ c ∧ c ≤ 57 := by
  cases e : TL.numL m with
  | nil => exact absurd e (TL.numL_ne m)
  | cons c r =>
    have := TL.numL_digits m c (by rw [e]; exact List.mem_cons_self)
    exact ⟨c, r, rfl, this.1, this.2⟩
/-- figures of a number are read back -/
theorem numT_back (n : Int) : numOf (numT n) = n ∧ NumText.AllDigits (figsOf (numT n)) ∧ figsOf (numT n) ≠ [] := by
  cases n with
  | ofNat m =>
    have e : numT (Int.ofNat m) = TL.numL m := TL.tl_num m
    obtain ⟨c, r, hc, h1, h2⟩ := numL_head (m := m)
    have hv := TL.numL_val m
    have hd := TL.numL_digits m
    rw [e]
    rw [hc] at hv hd ⊢
    have n45 : c ≠ 45 := by omega
    have ef : figsOf (c :: r) = c :: r := by
      unfold figsOf
      split
      · rename_i h; injection h with h; exact absurd h n45
      · rfl
    have eo : numOf (c :: r) = ((NumText.digitsVal (c :: r) : Nat) : Int) := by
      unfold numOf
      split
      · rename_i h; injection h with h; exact absurd h n45
      · rfl
    rw [ef, eo, hv]
    exact ⟨rfl, hd, by simp⟩
  | negSucc m =>
    rw [numT_neg]
    show -((NumText.digitsVal (TL.numL (m + 1)) : Nat) : Int) = _ ∧ NumText.AllDigits (TL.numL (m + 1)) ∧ TL.numL (m + 1) ≠ []
    rw [TL.numL_val]
    exact ⟨rfl, TL.numL_digits _, TL.numL_ne _⟩
theorem numT_len {n : Int} (h1 : -1000000000000 < n) (h2 : n < 1000000000000) : (numT n).length ≤ 13 := by
  cases n with
  | ofNat m =>
    have e : numT (Int.ofNat m) = TL.numL m := TL.tl_num m
    rw [e]
    have := TL.numL_len (n := m) (k := 12) (by decide) (by have : (Int.ofNat m) = (m : Int) := rfl; omega)
    omega
  | negSucc m =>
    have e := numT_neg m
    rw [e]
    have := TL.numL_len (n := m + 1) (k := 12) (by decide) (by omega)
    rw [List.length_cons]
    omega
theorem plainW_len (ps : List T) : (plainW ps).length = ps.length := List.length_map _
theorem plainW_wt : ∀ (ps : List T), (∀ w ∈ ps, isFree w = true) → wt (plainW ps) ≤ 15 * ps.length
  | [], _ => by simp [plainW, wt]
  | w :: ps, h => by
    have h1 := free_len (h w List.mem_cons_self)
    have h2 := plainW_wt ps fun x hx => h x (List.mem_cons_of_mem _ hx)
    show wt ((w, false) :: plainW ps) ≤ _
    rw [wt_cons, List.length_cons]
    show w.length + 3 + wt (plainW ps) ≤ _
    omega
theorem tkl : (tk "true").length = 4 ∧ (tk "false").length = 5 ∧ (tk "none").length = 4 ∧ (tk "self").length = 4 ∧ (tk "new").length = 3 ∧ (tk "(").length = 1 ∧ (tk ")").length = 1 ∧ (tk "up").length = 2 ∧ (tk "[").length = 1 ∧ (tk "]").length = 1 ∧ (tk "{").length = 1 ∧ (tk "}").length = 1 ∧ (tk "|").length = 1 ∧ (tk ":=").length = 2 ∧ (tk "if").length = 2 ∧ (tk "then").length = 4 ∧ (tk "else").length = 4 ∧ (tk "end").length = 3 ∧ (tk "while").length = 5 ∧ (tk "try").length = 3 ∧ (tk "taken").length = 5 := by decide +kernel
mutual
theorem wE_b : ∀ e : Ex, okE e → (wE e).length ≤ 5 * nE e ∧ wt (wE e) ≤ 44 * nE e
  | .num n, h => by
    have := numT_len h.1 h.2
    simp only [wE, nE, wt_cons, wt_nil, List.length_cons, List.length_nil]
    omega
  | .txt s, h => by
    have := text_len h
    simp only [wE, nE, wt_cons, wt_nil, List.length_cons, List.length_nil]
    omega
  | .tru true, h => by
    have := tkl
    simp only [wE, nE, wt_cons, wt_nil, List.length_cons, List.length_nil]
    omega
  | .tru false, h => by
    have := tkl
    simp only [wE, nE, wt_cons, wt_nil, List.length_cons, List.length_nil]
    omega
  | .non, h => by
    have := tkl
    simp only [wE, nE, wt_cons, wt_nil, List.length_cons, List.length_nil]
    omega
  | .slf, h => by
    have := tkl
    simp only [wE, nE, wt_cons, wt_nil, List.length_cons, List.length_nil]
    omega
  | .nam w, h => by
    have := free_len h
    simp only [wE, nE, wt_cons, wt_nil, List.length_cons, List.length_nil]
    omega
  | .fld w, h => by
    have := free_len h
    simp only [wE, nE, wt_cons, wt_nil, List.length_cons, List.length_nil]
    omega
  | .new w, h => by
    have := kind_len h
    have := tkl
    simp only [wE, nE, wt_cons, wt_nil, List.length_cons, List.length_nil]
    omega
  | .send r m es, h => by
    have h0 := msg_len h.1
    have h1 := wE_b r h.2.1
    have h2 := wEs_b es h.2.2
    have := tkl
    simp only [wE, nE, wt_cons, wt_app, wt_nil, List.length_cons, List.length_append, List.length_nil]
    omega
  | .up m es, h => by
    have h0 := free_len h.1
    have h2 := wEs_b es h.2
    have := tkl
    simp only [wE, nE, wt_cons, wt_app, wt_nil, List.length_cons, List.length_append, List.length_nil]
    omega
  | .lst es, h => by
    have h2 := wEs_b es h
    have := tkl
    simp only [wE, nE, wt_cons, wt_app, wt_nil, List.length_cons, List.length_append, List.length_nil]
    omega
  | .blk ps ss, h => by
    have h0 := h.1
    have h1 := plainW_wt ps h.2.1
    have h2 := wSs_b ss h.2.2
    have := tkl
    have := plainW_len ps
    simp only [wE, nE, wt_cons, wt_app, wt_nil, List.length_cons, List.length_append, List.length_nil]
    omega
theorem wEs_b : ∀ e : Exs, okEs e → (wEs e).length ≤ 5 * nEs e ∧ wt (wEs e) ≤ 44 * nEs e
  | .nil, _ => by simp [wEs, nEs, wt]
  | .cons e r, h => by
    have h1 := wE_b e h.1
    have h2 := wEs_b r h.2
    simp only [wEs, nEs, wt_app, List.length_append]
    omega
theorem wS_b : ∀ s : St_, okS s → (wS s).length ≤ 5 * nS s ∧ wt (wS s) ≤ 44 * nS s
  | .set w e, h => by
    have h0 := free_len h.1
    have h1 := wE_b e h.2
    have := tkl
    simp only [wS, nS, wt_cons, wt_app, wt_nil, List.length_cons, List.length_append, List.length_nil]
    omega
  | .sfl w e, h => by
    have h0 := free_len h.1
    have h1 := wE_b e h.2
    have := tkl
    simp only [wS, nS, wt_cons, wt_app, wt_nil, List.length_cons, List.length_append, List.length_nil]
    omega
  | .pl w e, h => by
    have h0 := pl_len h.1
    have h1 := wE_b e h.2
    have := tkl
    simp only [wS, nS, wt_cons, wt_app, wt_nil, List.length_cons, List.length_append, List.length_nil]
    omega
  | .iff e a b, h => by
    have h1 := wE_b e h.1
    have h2 := wSs_b a h.2.1
    have h3 := wSs_b b h.2.2
    have := tkl
    simp only [wS, nS, wt_cons, wt_app, wt_nil, List.length_cons, List.length_append, List.length_nil]
    omega
  | .whl e a, h => by
    have h1 := wE_b e h.1
    have h2 := wSs_b a h.2
    have := tkl
    simp only [wS, nS, wt_cons, wt_app, wt_nil, List.length_cons, List.length_append, List.length_nil]
    omega
  | .tri a w b, h => by
    have h1 := free_len h.1
    have h2 := wSs_b a h.2.1
    have h3 := wSs_b b h.2.2
    have := tkl
    simp only [wS, nS, wt_cons, wt_app, wt_nil, List.length_cons, List.length_append, List.length_nil]
    omega
theorem wSs_b : ∀ e : Sts, okSs e → (wSs e).length ≤ 5 * nSs e ∧ wt (wSs e) ≤ 44 * nSs e
  | .nil, _ => by simp [wSs, nSs, wt]
  | .cons e r, h => by
    have h1 := wS_b e h.1
    have h2 := wSs_b r h.2
    simp only [wSs, nSs, wt_app, List.length_append]
    omega
end
end My
set_option Elab.async false
set_option linter.all false
set_option maxRecDepth 100000
set_option maxHeartbeats 2000000
namespace My
open PySem L2 SS
def Exs.snoc : Exs → Ex → Exs
  | .nil, e => .cons e .nil
  | .cons x r, e => .cons x (r.snoc e)
def Sts.snoc : Sts → St_ → Sts
  | .nil, e => .cons e .nil
  | .cons x r, e => .cons x (r.snoc e)
theorem Exs.at_snoc {H : Hp} : ∀ {es : Exs} {vs : List V} {e : Ex} {v : V}, AtEs H es vs → AtE H e v → AtEs H (es.snoc e) (vs ++ [v])
  | .nil, vs, e, v, h, he => by
    have h' : vs = [] := h
    subst h'
    exact ⟨v, [], rfl, he, rfl⟩
  | .cons x r, vs, e, v, ⟨u, us, h1, h2, h3⟩, he => by
    subst h1
    exact ⟨u, us ++ [v], rfl, h2, Exs.at_snoc h3 he⟩
theorem Sts.at_snoc {H : Hp} : ∀ {es : Sts} {vs : List V} {e : St_} {v : V}, AtSs H es vs → AtS H e v → AtSs H (es.snoc e) (vs ++ [v])
  | .nil, vs, e, v, h, he => by
    have h' : vs = [] := h
    subst h'
    exact ⟨v, [], rfl, he, rfl⟩
  | .cons x r, vs, e, v, ⟨u, us, h1, h2, h3⟩, he => by
    subst h1
    exact ⟨u, us ++ [v], rfl, h2, Sts.at_snoc h3 he⟩
theorem Exs.snoc_n : ∀ (es : Exs) (e : Ex), nEs (es.snoc e) = nEs es + nE e ∧ oEs (es.snoc e) = max (oEs es) (oE e) ∧ (okEs (es.snoc e) ↔ okEs es ∧ okE e) ∧ cE (es.snoc e) = cE es + 1 ∧ wEs (es.snoc e) = wEs es ++ wE e
  | .nil, e => by simp [Exs.snoc, nEs, oEs, okEs, cE, wEs]
  | .cons x r, e => by
    obtain ⟨h1, h2, h3, h4, h5⟩ := Exs.snoc_n r e
    simp only [Exs.snoc, nEs, oEs, okEs, cE, wEs, h1, h2, h3, h4, h5]
    refine ⟨by omega, by omega, by rw [and_assoc], by omega, by rw [List.append_assoc]⟩
theorem Sts.snoc_n : ∀ (es : Sts) (e : St_), nSs (es.snoc e) = nSs es + nS e ∧ oSs (es.snoc e) = max (oSs es) (oS e) ∧ (okSs (es.snoc e) ↔ okSs es ∧ okS e) ∧ cS (es.snoc e) = cS es + 1 ∧ wSs (es.snoc e) = wSs es ++ wS e
  | .nil, e => by simp [Sts.snoc, nSs, oSs, okSs, cS, wSs]
  | .cons x r, e => by
    obtain ⟨h1, h2, h3, h4, h5⟩ := Sts.snoc_n r e
    simp only [Sts.snoc, nSs, oSs, okSs, cS, wSs, h1, h2, h3, h4, h5]
    refine ⟨by omega, by omega, by rw [and_assoc], by omega, by rw [List.append_assoc]⟩
theorem AtEs.len {H : Hp} : ∀ {es : Exs} {vs : List V}, AtEs H es vs → vs.length = cE es
  | .nil, vs, h => by
    have h' : vs = [] := h
    subst h'
    rfl
  | .cons x r, vs, ⟨u, us, h1, h2, h3⟩ => by
    subst h1
    rw [List.length_cons, AtEs.len h3, cE]
    omega
theorem AtSs.len {H : Hp} : ∀ {es : Sts} {vs : List V}, AtSs H es vs → vs.length = cS es
  | .nil, vs, h => by
    have h' : vs = [] := h
    subst h'
    rfl
  | .cons x r, vs, ⟨u, us, h1, h2, h3⟩ => by
    subst h1
    rw [List.length_cons, AtSs.len h3, cS]
    omega
theorem AtE.on_ {H H' : Hp} {e : Ex} {v : V} (h : AtE H e v) (t : Tups H H') : AtE H' e v := AtE.on t e v h
theorem AtEs.on_ {H H' : Hp} {e : Exs} {v : List V} (h : AtEs H e v) (t : Tups H H') : AtEs H' e v := AtEs.on t e v h
theorem AtS.on_ {H H' : Hp} {e : St_} {v : V} (h : AtS H e v) (t : Tups H H') : AtS H' e v := AtS.on t e v h
theorem AtSs.on_ {H H' : Hp} {e : Sts} {v : List V} (h : AtSs H e v) (t : Tups H H') : AtSs H' e v := AtSs.on t e v h
/-- all stands but what is at p -/
def SB (p : Addr) (H H' : Hp) : Prop := ∀ b u, b ≠ p → H b = some u → H' b = some u
theorem SB.refl {p : Addr} {H : Hp} : SB p H H := fun _ _ _ h => h
theorem SB.trans {p : Addr} {H H1 H2 : Hp} (a : SB p H H1) (b : SB p H1 H2) : SB p H H2 := fun q u n h => b q u n (a q u n h)
theorem SB.same {p : Addr} {H H' : Hp} (s : Same H H') : SB p H H' := fun q u _ h => s q u h
theorem SB.upd {p : Addr} {H : Hp} (o : HO) : SB p H (upd H p o) := fun q u n h => by rw [upd_ne n]; exact h
theorem SB.tups {p : Addr} {H H' : Hp} {xs : List V} (s : SB p H H') (h : H p = some (.lst xs)) : Tups H H' := fun q ys e => s q _ (fun z => by rw [z, h] at e; cases e) e
theorem DeckAt.same {H H' : Hp} {p l : Addr} {a : Nat} {b : Int} {xs : List Int} (h : DeckAt H p l a b xs) (s : Same H H') : DeckAt H' p l a b xs := ⟨s _ _ h.1, s _ _ h.2.1, h.2.2⟩
theorem DeckAt.new {H : Hp} {p l q : Addr} {a : Nat} {b : Int} {xs : List Int} (h : DeckAt H p l a b xs) (n : H q = none) (o : HO) : DeckAt (upd H q o) p l a b xs := h.same (same_new n o)
theorem DeckAt.ne {H : Hp} {p l q : Addr} {a : Nat} {b : Int} {xs : List Int} (h : DeckAt H p l a b xs) (n : H q = none) : q ≠ p ∧ q ≠ l := ⟨fun z => (by rw [z, h.1] at n; cases n), fun z => (by rw [z, h.2.1] at n; cases n)⟩
end My
set_option Elab.async false
set_option linter.all false
set_option maxRecDepth 100000
set_option maxHeartbeats 2000000
namespace My
open PySem L2 SS
/-! ### where the reader stands, with all that it has noted -/
/-- the reader stands at word a, op are open; X1, X2, X3 its starts, method starts, node starts -/
def Rn (C : Addr) (x : RX) (H : Hp) (a op : Nat) (X1 X2 X3 : List V) : Prop :=
  Same x.H0 H ∧ ∃ (dx l1 l2 l3 : Addr), H x.p = some (.ins C dx (rf x.pg x.wl (.ref x.q) x.why a op l1 l2 l3)) ∧ x.H0 l1 = none ∧ x.H0 l2 = none ∧ x.H0 l3 = none ∧ H l1 = some (.lst X1) ∧ H l2 = some (.lst X2) ∧ H l3 = some (.lst X3) ∧
    l1 ≠ l2 ∧ l1 ≠ l3 ∧ l2 ≠ l3
def RX.on (x : RX) (H0 : Hp) : RX := { x with H0 := H0 }
theorem RX.Ok.on {x : RX} (o : x.Ok) {H0 : Hp} (t : Tups x.H0 H0) (p0 : H0 x.p = none) : (x.on H0).Ok :=
  ⟨t _ _ o.hw, o.al.on t, o.ln, t _ _ o.hq, o.rb, o.cb, o.pb, o.wb, o.ww, p0⟩
theorem rf_pop {pg why : Str} {wl l1 l2 l3 : Addr} {st : V} {at_ op : Nat} (k : Nat) : putF "many_open" (.int (k : Nat)) (rf pg wl st why at_ op l1 l2 l3) = rf pg wl st why at_ k l1 l2 l3 := by kernel_rfl
section
variable {C : Addr} {x : RX} {H : Hp} {a op : Nat} {X1 X2 X3 : List V}
theorem Rn.same (h : Rn C x H a op X1 X2 X3) {H' : Hp} (s : Same H H') : Rn C x H' a op X1 X2 X3 := by
  obtain ⟨s0, dx, l1, l2, l3, h1, n1, n2, n3, h2, h3, h4, r⟩ := h
  exact ⟨s0.trans s, dx, l1, l2, l3, s _ _ h1, n1, n2, n3, s _ _ h2, s _ _ h3, s _ _ h4, r⟩
theorem Rn.new (h : Rn C x H a op X1 X2 X3) {q : Addr} (n : H q = none) (o : HO) : Rn C x (upd H q o) a op X1 X2 X3 := h.same (same_new n o)
theorem Rn.obj (h : Rn C x H a op X1 X2 X3) : ∃ dx l1 l2 l3, H x.p = some (.ins C dx (rf x.pg x.wl (.ref x.q) x.why a op l1 l2 l3)) := by
  obtain ⟨s0, dx, l1, l2, l3, h1, _⟩ := h
  exact ⟨dx, l1, l2, l3, h1⟩
/-- self.at = k -/
theorem Rn.at_ (o : x.Ok) (h : Rn C x H a op X1 X2 X3) (k : Nat) : ∃ dx fs, H x.p = some (.ins C dx fs) ∧ fs.lookup ("at" : Str) = some (.int (a : Nat)) ∧ fs.length < 1000 ∧ Rn C x (upd H x.p (.ins C dx (putF "at" (.int (k : Nat)) fs))) k op X1 X2 X3 := by
  obtain ⟨s, dx, l1, l2, l3, h1, n1, n2, n3, h2, h3, h4, d1, d2, d3⟩ := h
  have ne : ∀ {b : Addr} {ys : List V} {u : HO}, H b = some (.lst ys) → upd H x.p u b = some (.lst ys) := fun {b ys u} z => by
    rw [upd_ne (ne_of z h1 (by intro q; cases q))]; exact z
  refine ⟨dx, _, h1, rf_at, by show 9 < 1000; decide, fun b u z => ?_, dx, l1, l2, l3, ?_, n1, n2, n3, ne h2, ne h3, ne h4, d1, d2, d3⟩
  · rw [upd_ne (ne_of_none z o.p0)]
    exact s b u z
  · rw [upd_same, rf_pat]
/-- self.many_open = k -/
theorem Rn.op_ (o : x.Ok) (h : Rn C x H a op X1 X2 X3) (k : Nat) : ∃ dx fs, H x.p = some (.ins C dx fs) ∧ fs.lookup ("many_open" : Str) = some (.int (op : Nat)) ∧ fs.length < 1000 ∧ Rn C x (upd H x.p (.ins C dx (putF "many_open" (.int (k : Nat)) fs))) a k X1 X2 X3 := by
  obtain ⟨s, dx, l1, l2, l3, h1, n1, n2, n3, h2, h3, h4, d1, d2, d3⟩ := h
  have ne : ∀ {b : Addr} {ys : List V} {u : HO}, H b = some (.lst ys) → upd H x.p u b = some (.lst ys) := fun {b ys u} z => by
    rw [upd_ne (ne_of z h1 (by intro q; cases q))]; exact z
  refine ⟨dx, _, h1, rf_open, by show 9 < 1000; decide, fun b u z => ?_, dx, l1, l2, l3, ?_, n1, n2, n3, ne h2, ne h3, ne h4, d1, d2, d3⟩
  · rw [upd_ne (ne_of_none z o.p0)]
    exact s b u z
  · rw [upd_same, rf_pop]
/-- self.node_starts.append(v) -/
theorem Rn.node (h : Rn C x H a op X1 X2 X3) (v : V) : ∃ dx fs l3, H x.p = some (.ins C dx fs) ∧ fs.lookup ("node_starts" : Str) = some (.ref l3) ∧ fs.lookup ("at" : Str) = some (.int (a : Nat)) ∧ H l3 = some (.lst X3) ∧ Rn C x (upd H l3 (.lst (X3 ++ [v]))) a op X1 X2 (X3 ++ [v]) := by
  obtain ⟨s, dx, l1, l2, l3, h1, n1, n2, n3, h2, h3, h4, d1, d2, d3⟩ := h
  refine ⟨dx, _, l3, h1, rf_ns, rf_at, h4, fun b u z => ?_, dx, l1, l2, l3, ?_, n1, n2, n3, ?_, ?_, upd_same, d1, d2, d3⟩
  · rw [upd_ne (ne_of_none z n3)]
    exact s b u z
  · rw [upd_ne (ne_of h1 h4 (by intro q; cases q))]
    exact h1
  · rw [upd_ne d2]; exact h2
  · rw [upd_ne d3]; exact h3
/-- self.node_starts = [] -/
theorem Rn.ns (o : x.Ok) (h : Rn C x H a op X1 X2 X3) {m : Addr} (n : H m = none) : ∃ dx fs, upd H m (.lst []) x.p = some (.ins C dx fs) ∧ fs.length < 1000 ∧ Rn C x (upd (upd H m (.lst [])) x.p (.ins C dx (putF "node_starts" (.ref m) fs))) a op X1 X2 [] := by
  obtain ⟨s, dx, l1, l2, l3, h1, n1, n2, n3, h2, h3, h4, d1, d2, d3⟩ := h
  have up : ∀ {b : Addr} {u : HO}, H b = some u → upd H m (.lst []) b = some u := fun {b u} z => by rw [upd_ne (ne_of_none z n)]; exact z
  have nm : ∀ {b : Addr} {u : HO}, H b = some u → b ≠ m := fun {b u} z => ne_of_none z n
  have np : ∀ {b : Addr} {ys : List V}, H b = some (.lst ys) → b ≠ x.p := fun {b ys} z => ne_of z h1 (by intro q; cases q)
  have hpm := nm h1
  refine ⟨dx, _, up h1, by show 9 < 1000; decide, fun b u z => ?_, dx, l1, l2, m, ?_, n1, n2, s.free n, ?_, ?_, ?_, d1, nm h2, nm h3⟩
  · rw [upd_ne (ne_of_none z o.p0), upd_ne (ne_of_none (s b u z) n)]
    exact s b u z
  · rw [upd_same, rf_pns]
  · rw [upd_ne (np h2)]; exact up h2
  · rw [upd_ne (np h3)]; exact up h3
  · rw [upd_ne hpm.symm, upd_same]
/-- self.method_starts = [] -/
theorem Rn.ms (o : x.Ok) (h : Rn C x H a op X1 X2 X3) {m : Addr} (n : H m = none) : ∃ dx fs, upd H m (.lst []) x.p = some (.ins C dx fs) ∧ fs.length < 1000 ∧ Rn C x (upd (upd H m (.lst [])) x.p (.ins C dx (putF "method_starts" (.ref m) fs))) a op X1 [] X3 := by
  obtain ⟨s, dx, l1, l2, l3, h1, n1, n2, n3, h2, h3, h4, d1, d2, d3⟩ := h
  have up : ∀ {b : Addr} {u : HO}, H b = some u → upd H m (.lst []) b = some u := fun {b u} z => by rw [upd_ne (ne_of_none z n)]; exact z
  have nm : ∀ {b : Addr} {u : HO}, H b = some u → b ≠ m := fun {b u} z => ne_of_none z n
  have np : ∀ {b : Addr} {ys : List V}, H b = some (.lst ys) → b ≠ x.p := fun {b ys} z => ne_of z h1 (by intro q; cases q)
  have hpm := nm h1
  refine ⟨dx, _, up h1, by show 9 < 1000; decide, fun b u z => ?_, dx, l1, m, l3, ?_, n1, s.free n, n3, ?_, ?_, ?_, nm h2, d2, (nm h4).symm⟩
  · rw [upd_ne (ne_of_none z o.p0), upd_ne (ne_of_none (s b u z) n)]
    exact s b u z
  · rw [upd_same, rf_pms]
  · rw [upd_ne (np h2)]; exact up h2
  · rw [upd_ne hpm.symm, upd_same]
  · rw [upd_ne (np h4)]; exact up h4
/-- self.method_starts.append(v) -/
theorem Rn.mapp (h : Rn C x H a op X1 X2 X3) (v : V) : ∃ dx fs l2, H x.p = some (.ins C dx fs) ∧ fs.lookup ("method_starts" : Str) = some (.ref l2) ∧ H l2 = some (.lst X2) ∧ Rn C x (upd H l2 (.lst (X2 ++ [v]))) a op X1 (X2 ++ [v]) X3 := by
  obtain ⟨s, dx, l1, l2, l3, h1, n1, n2, n3, h2, h3, h4, d1, d2, d3⟩ := h
  refine ⟨dx, _, l2, h1, rf_ms, h3, fun b u z => ?_, dx, l1, l2, l3, ?_, n1, n2, n3, ?_, upd_same, ?_, d1, d2, d3⟩
  · rw [upd_ne (ne_of_none z n2)]
    exact s b u z
  · rw [upd_ne (ne_of h1 h3 (by intro q; cases q))]
    exact h1
  · rw [upd_ne d1]; exact h2
  · rw [upd_ne d3.symm]; exact h4
/-- self.starts.append(v) -/
theorem Rn.sapp (h : Rn C x H a op X1 X2 X3) (v : V) : ∃ dx fs l1, H x.p = some (.ins C dx fs) ∧ fs.lookup ("starts" : Str) = some (.ref l1) ∧ H l1 = some (.lst X1) ∧ Rn C x (upd H l1 (.lst (X1 ++ [v]))) a op (X1 ++ [v]) X2 X3 := by
  obtain ⟨s, dx, l1, l2, l3, h1, n1, n2, n3, h2, h3, h4, d1, d2, d3⟩ := h
  refine ⟨dx, _, l1, h1, rf_st, h2, fun b u z => ?_, dx, l1, l2, l3, ?_, n1, n2, n3, upd_same, ?_, ?_, d1, d2, d3⟩
  · rw [upd_ne (ne_of_none z n1)]
    exact s b u z
  · rw [upd_ne (ne_of h1 h2 (by intro q; cases q))]
    exact h1
  · rw [upd_ne d1.symm]; exact h3
  · rw [upd_ne d2.symm]; exact h4
theorem Rn.lists (h : Rn C x H a op X1 X2 X3) : ∃ dx fs l1 l2 l3, H x.p = some (.ins C dx fs) ∧ fs.lookup ("at" : Str) = some (.int (a : Nat)) ∧ fs.lookup ("starts" : Str) = some (.ref l1) ∧ fs.lookup ("method_starts" : Str) = some (.ref l2) ∧ fs.lookup ("node_starts" : Str) = some (.ref l3) ∧ H l1 = some (.lst X1) ∧ H l2 = some (.lst X2) ∧ H l3 = some (.lst X3) := by
  obtain ⟨s, dx, l1, l2, l3, h1, n1, n2, n3, h2, h3, h4, d1, d2, d3⟩ := h
  exact ⟨dx, _, l1, l2, l3, h1, rf_at, rf_st, rf_ms, rf_ns, h2, h3, h4⟩
theorem Rn.back {H0 : Hp} (h : Rn C (x.on H0) H a op X1 X2 X3) (s0 : Same x.H0 H0) : Rn C x H a op X1 X2 X3 := by
  obtain ⟨s, dx, l1, l2, l3, h1, n1, n2, n3, h2, h3, h4, r⟩ := h
  have un : ∀ {b : Addr}, H0 b = none → x.H0 b = none := fun {b} y => s0.free y
  exact ⟨s0.trans s, dx, l1, l2, l3, h1, un n1, un n2, un n3, h2, h3, h4, r⟩
open Classical in
/-- all that stands but the reader's own may be its ground; l0 is a list that is none of its own -/
theorem Rn.gr_ (o : x.Ok) (h : Rn C x H a op X1 X2 X3) : ∃ H0', Same x.H0 H0' ∧ Tups H H0' ∧ (x.on H0').Ok ∧ Rn C (x.on H0') H a op X1 X2 X3 ∧ (∀ l Y, x.H0 l = some (.lst Y) → H0' l = some (.lst Y)) ∧ (∀ b, H b = none → H0' b = none) := by
  obtain ⟨s, dx, l1, l2, l3, h1, n1, n2, n3, h2, h3, h4, d1, d2, d3⟩ := h
  obtain ⟨H0', hH⟩ : ∃ H0' : Hp, ∀ b, H0' b = if b = x.p ∨ b = l1 ∨ b = l2 ∨ b = l3 then none else H b := ⟨_, fun _ => rfl⟩
  have no : ∀ b, (b = x.p ∨ b = l1 ∨ b = l2 ∨ b = l3) → H0' b = none := fun b z => by rw [hH, if_pos z]
  have ye : ∀ b, ¬ (b = x.p ∨ b = l1 ∨ b = l2 ∨ b = l3) → H0' b = H b := fun b z => by rw [hH, if_neg z]
  have s1 : Same x.H0 H0' := fun b u e => by
    rw [ye b (fun z => by
      rcases z with z | z | z | z
      · rw [z, o.p0] at e; cases e
      · rw [z, n1] at e; cases e
      · rw [z, n2] at e; cases e
      · rw [z, n3] at e; cases e)]
    exact s b u e
  have t1 : Tups H H0' := fun b ys e => by
    rw [ye b (fun z => by
      rcases z with z | z | z | z
      · rw [z, h1] at e; cases e
      · rw [z, h2] at e; cases e
      · rw [z, h3] at e; cases e
      · rw [z, h4] at e; cases e)]
    exact e
  refine ⟨H0', s1, t1, o.on (same_tups s1) (no _ (.inl rfl)), ⟨fun b u e => ?_, dx, l1, l2, l3, h1, no _ (.inr (.inl rfl)), no _ (.inr (.inr (.inl rfl))), no _ (.inr (.inr (.inr rfl))), h2, h3, h4, d1, d2, d3⟩, fun l Y e => s1 _ _ e, fun b e => ?_⟩
  · by_cases z : b = x.p ∨ b = l1 ∨ b = l2 ∨ b = l3
    · have e' : H0' b = some u := e
      rw [no b z] at e'
      cases e'
    · have e' : H0' b = some u := e
      rw [ye b z] at e'
      exact e'
  · by_cases z : b = x.p ∨ b = l1 ∨ b = l2 ∨ b = l3
    · exact no b z
    · rw [ye b z]; exact e
theorem Rn.gr (o : x.Ok) (h : Rn C x H a op X1 X2 X3) : ∃ H0', Same x.H0 H0' ∧ Tups H H0' ∧ (x.on H0').Ok ∧ Rn C (x.on H0') H a op X1 X2 X3 := by
  obtain ⟨H0', h1, h2, h3, h4, _⟩ := h.gr_ o
  exact ⟨H0', h1, h2, h3, h4⟩
/-- a list of the ground may be another -/
theorem Rn.put (o : x.Ok) (h : Rn C x H a op X1 X2 X3) {l : Addr} {Y : List V} (n : x.H0 l = some (.lst Y)) (Y' : List V) : (x.on (upd x.H0 l (.lst Y'))).Ok ∧ Rn C (x.on (upd x.H0 l (.lst Y'))) (upd H l (.lst Y')) a op X1 X2 X3 := by
  obtain ⟨s, dx, l1, l2, l3, h1, n1, n2, n3, h2, h3, h4, r⟩ := h
  have ne : ∀ {b : Addr}, x.H0 b = none → b ≠ l := fun {b} y => fun q => by rw [q, n] at y; cases y
  have up : ∀ {b : Addr} {u : HO}, x.H0 b = none → H b = some u → upd H l (.lst Y') b = some u := fun {b u} y z => by rw [upd_ne (ne y)]; exact z
  have un : ∀ {b : Addr}, x.H0 b = none → upd x.H0 l (.lst Y') b = none := fun {b} y => by rw [upd_ne (ne y)]; exact y
  refine ⟨o.on (tups_lst n) (un o.p0), fun b u z => ?_, dx, l1, l2, l3, up o.p0 h1, un n1, un n2, un n3, up n1 h2, up n2 h3, up n3 h4, r⟩
  by_cases c : b = l
  · subst c
    have z' : upd x.H0 b (.lst Y') b = some u := z
    rw [upd_same] at z'
    rw [upd_same]
    exact z'
  · have z' : upd x.H0 l (.lst Y') b = some u := z
    rw [upd_ne c] at z'
    rw [upd_ne c]
    exact s b u z'
/-- a new list of one's own, the ground all that stands -/
theorem Rn.begin (o : x.Ok) (h : Rn C x H a op X1 X2 X3) {l : Addr} (n : H l = none) : ∃ H0', Same x.H0 H0' ∧ Tups H H0' ∧ H0' l = some (.lst []) ∧ (x.on H0').Ok ∧ Rn C (x.on H0') (upd H l (.lst [])) a op X1 X2 X3 := by
  obtain ⟨H0', s1, t1, o1, h1, _, fr⟩ := h.gr_ o
  have n0 : H0' l = none := fr l n
  have hpl : x.p ≠ l := by
    obtain ⟨dx, l1, l2, l3, z⟩ := h.obj
    exact ne_of_none z n
  obtain ⟨s, dx, l1, l2, l3, e1, n1, n2, n3, e2, e3, e4, r⟩ := h1
  have ne : ∀ {b : Addr} {u : HO}, H b = some u → b ≠ l := fun {b u} z => ne_of_none z n
  have up : ∀ {b : Addr} {u : HO}, H b = some u → upd H l (.lst []) b = some u := fun {b u} z => by rw [upd_ne (ne z)]; exact z
  have un : ∀ {b : Addr} {u : HO}, H b = some u → H0' b = none → upd H0' l (.lst []) b = none := fun {b u} z y => by rw [upd_ne (ne z)]; exact y
  refine ⟨upd H0' l (.lst []), s1.trans (same_new n0 _), t1.trans (tups_new n0 _), upd_same, o1.on (tups_new n0 _) (by show upd H0' l _ x.p = none; rw [upd_ne hpl]; exact o1.p0), fun b u z => ?_, dx, l1, l2, l3, up e1, un e2 n1, un e3 n2, un e4 n3, up e2, up e3, up e4, r⟩
  by_cases c : b = l
  · subst c
    have z' : upd H0' b (.lst []) b = some u := z
    rw [upd_same] at z'
    rw [upd_same]
    exact z'
  · have z' : upd H0' l (.lst []) b = some u := z
    rw [upd_ne c] at z'
    rw [upd_ne c]
    exact s b u z'
end
theorem FE.on {CF : Addr} {x : RX} {E : XK} {r c : Nat} {z : Str} (h : FE CF x E r c z) {H0 : Hp} (s : Same x.H0 H0) : FE CF (x.on H0) E r c z := fun d H' s' hx => h d H' (s.trans s') hx
theorem SE_.on {CF : Addr} {x : RX} {E : XK} (h : SE_ CF x E) {H0 : Hp} (s : Same x.H0 H0) : SE_ CF (x.on H0) E := fun d H' s' hx => h d H' (s.trans s') hx
/-- refused at word i: d where too much is open -/
def BadAt (CF : Addr) (x : RX) (E : XK) (i : Nat) (d : Bool) : Prop := (∀ k, x.ws[i]? = some k → FE CF x E k.2.1 k.2.2 (if d = true then Str.ofString "deep" else Str.ofString "word")) ∧ (i = x.ws.length → SE_ CF x E)
theorem BadAt.on {CF : Addr} {x : RX} {E : XK} {i : Nat} {d : Bool} (h : BadAt CF x E i d) {H0 : Hp} (s : Same x.H0 H0) : BadAt CF (x.on H0) E i d := ⟨fun k hk => (h.1 k hk).on s, fun e => (h.2 e).on s⟩
def RX.wd (x : RX) (i : Nat) : Option (List Nat) := (x.ws[i]?).map (·.1)
theorem RX.wd_some {x : RX} {i : Nat} {z : List Nat} (h : x.wd i = some z) : ∃ k, x.ws[i]? = some k ∧ k.1 = z := by
  unfold RX.wd at h
  cases e : x.ws[i]? with
  | none => rw [e] at h; cases h
  | some k => rw [e] at h; exact ⟨k, rfl, Option.some.inj h⟩
theorem RX.wd_none {x : RX} {i : Nat} (h : x.wd i = none) : x.ws.length ≤ i := by
  unfold RX.wd at h
  cases e : x.ws[i]? with
  | none => exact List.getElem?_eq_none_iff.mp e
  | some k => rw [e] at h; cases h
theorem RX.wd_lt {x : RX} {i : Nat} {z : List Nat} (h : x.wd i = some z) : i < x.ws.length := by
  obtain ⟨k, hk, _⟩ := RX.wd_some h
  exact (List.getElem?_eq_some_iff.mp hk).1
theorem RX.wd_of {x : RX} {i : Nat} {k : W} (h : x.ws[i]? = some k) : x.wd i = some k.1 := by unfold RX.wd; rw [h]; rfl
end My
set_option Elab.async false
set_option linter.all false
set_option maxRecDepth 100000
set_option maxHeartbeats 2000000
namespace My
open PySem L2 SS
section
variable {P : Program} {w : World} {K : PySem.W.Frag} {mg : Str → Option Value} {base : Heap} {S CF fI fS C : Addr}
/-! refuse_stop, refuse -/
def nRS (C CF : Addr) : Sp := fun vs H Q E => ∃ (x : RX) (a op : Nat) (X1 X2 X3 : List V), vs = [.ref x.p] ∧ x.Ok ∧ Rn C x H a op X1 X2 X3 ∧ SE_ CF x E
theorem scRS : FnScope ["self", "row", "column"] ["self"] (defScope (rd 2)) := ⟨rfl, rfl, rfl, by decide +kernel, rfl, by decide +kernel, by decide +kernel⟩
theorem n_rs (T : TxR K mg C) (TE : TxE K mg S CF fI fS) (D : Dm K C "refuse_stop" "Reader.refuse_stop" (rd 2)) : M0 P w K mg base C 4 "refuse_stop" (nRS C CF) := by
  obtain ⟨fdI, psI, GI_, bI⟩ := ok_fi (P := P) (w := w) (base := base) TE
  obtain ⟨f, fd, F, hm⟩ := D.ex
  refine ⟨f, fd, ["self"], F.okX scRS (fun vs H Q E h => ?_) (fun cdv A outer s H vs Q E hr h => ?_), hm, F.binds (ps := ["self"]) fun _ _ _ _ _ _ us hl => match us, hl with | [_], _ => rfl⟩
  · obtain ⟨x, a, op, X1, X2, X3, rfl, _⟩ := h
    rfl
  obtain ⟨x, a, op, X1, X2, X3, rfl, o, R, k⟩ := h
  have s0 := R.1
  obtain ⟨dx, l1, l2, l3, h1⟩ := R.obj
  refine ⟨_, pss_cons (ps_asg (pe_fld (pv 0) rfl) (pg_tup (by rfl) (pgs_cons (pg_name (i := 1) scRS.nd rfl (Or.inl rfl)) (pgs_cons (pg_name (i := 2) scRS.nd rfl (Or.inl rfl)) pgs_nil)))) <|
    pss_one (ps_raise rfl (takes_of rfl rfl rfl rfl) (pmk_oex TE.oC TE.iC TE.tI GI_ hr bI .nil pass0 (by rfl) TE.gC (pa_cons (pe_fld (pv 0) rfl) (pa_cons (pv 1) (pa_cons (pv 2) (pa_cons (pe_fld (pv 0) rfl) pa_nil)))))), ?_⟩
  refine ⟨_, rfl, x.p, C, dx, _, _, rfl, h1, T.cl, T.f3, rf_stop, x.q, _, rfl, SqT.of (s0 _ _ o.hq), rfl, _, _, rfl, _, _, rfl, rfl, ?_⟩
  refine ⟨_, rfl, x.p, C, dx, _, _, rfl, h1, T.cl, T.f1, rf_page, _, rfl, _, rfl, _, rfl, x.p, C, dx, _, _, rfl, h1, T.cl, T.f4, rf_why, by show 4 ≤ 1000; decide, fun b hb => ?_⟩
  exact mkFault o.pb o.wb o.rb o.cb (fun d H' s1 _ hx => k d H' (s0.trans s1) hx) b hb
def nRef (C CF : Addr) : Sp := fun vs H Q E => ∃ (x : RX) (a op : Nat) (X1 X2 X3 : List V) (z : Str) (k : W), vs = [.ref x.p, .str z] ∧ x.Ok ∧ Rn C x H a op X1 X2 X3 ∧ z.length ≤ 1000 ∧ x.ws[a]? = some k ∧ FE CF x E k.2.1 k.2.2 z
theorem scRef : FnScope ["self", "why", "_", "row", "column"] ["self", "why"] (defScope (rd 3)) := ⟨rfl, rfl, rfl, by decide +kernel, rfl, by decide +kernel, by decide +kernel⟩
/-- the word at a -/
theorem RX.Ok.word {x : RX} (o : x.Ok) {a : Nat} {k : W} (h : x.ws[a]? = some k) : ∃ p, x.us[a]? = some (.ref p) ∧ x.H0 p = some (.tup (fW k)) := by
  have hl : a < x.us.length := by
    have := (List.getElem?_eq_some_iff.mp h).1
    have := o.len
    omega
  have e : x.us[a]? = some x.us[a] := by simp [hl]
  obtain ⟨q, h1, p, h2, h3⟩ := o.al.get e
  rw [h] at h1
  obtain rfl := Option.some.inj h1
  exact ⟨p, by rw [e, h2], h3⟩
theorem n_ref (T : TxR K mg C) (TE : TxE K mg S CF fI fS) (D : Dm K C "refuse" "Reader.refuse" (rd 3)) : M0 P w K mg base C 4 "refuse" (nRef C CF) := by
  obtain ⟨fdI, psI, GI_, bI⟩ := ok_fi (P := P) (w := w) (base := base) TE
  obtain ⟨f, fd, F, hm⟩ := D.ex
  refine ⟨f, fd, ["self", "why"], F.okX scRef (fun vs H Q E h => ?_) (fun cdv A outer s H vs Q E hr h => ?_), hm, F.binds (ps := ["self", "why"]) fun _ _ _ _ _ _ us hl => match us, hl with | [_, _], _ => rfl⟩
  · obtain ⟨x, a, op, X1, X2, X3, z, k, rfl, _⟩ := h
    rfl
  obtain ⟨x, a, op, X1, X2, X3, z, wk, rfl, o, R, hz, hk, k⟩ := h
  have s0 := R.1
  obtain ⟨dx, l1, l2, l3, h1⟩ := R.obj
  obtain ⟨p, hp1, hp2⟩ := o.word hk
  have wb := o.ww wk (List.mem_of_getElem? hk)
  refine ⟨_, pss_cons (ps_asg (pe_ix ix_tup (pe_fld (pv 0) rfl) (pe_fld (pv 0) rfl) (fun _ _ => rfl)) (pg_tup (by rfl) (pgs_cons (pg_name (i := 2) scRef.nd rfl (Or.inl rfl)) (pgs_cons (pg_name (i := 3) scRef.nd rfl (Or.inl rfl)) (pgs_cons (pg_name (i := 4) scRef.nd rfl (Or.inl rfl)) pgs_nil))))) <|
    pss_one (ps_raise rfl (takes_of rfl rfl rfl rfl) (pmk_oex TE.oC TE.iC TE.tI GI_ hr bI .nil pass0 (by rfl) TE.gC (pa_cons (pe_fld (pv 0) rfl) (pa_cons (pv 3) (pa_cons (pv 4) (pa_cons (pv 1) pa_nil)))))), ?_⟩
  refine ⟨_, rfl, x.p, C, dx, _, _, rfl, h1, T.cl, T.f2, rf_words, _, rfl, x.p, C, dx, _, _, rfl, h1, T.cl, T.f5, rf_at, x.wl, _, _, _, rfl, rfl, SqT.of (s0 _ _ o.hw), atI_nat hp1, p, _, rfl, SqT.of (s0 _ _ hp2), rfl, _, _, rfl, _, _, rfl, _, _, rfl, rfl, ?_⟩
  refine ⟨_, rfl, x.p, C, dx, _, _, rfl, h1, T.cl, T.f1, rf_page, _, rfl, _, rfl, _, rfl, by show 4 ≤ 1000; decide, fun b hb => ?_⟩
  exact mkFault o.pb hz wb.2.1 wb.2.2 (fun d H' s1 _ hx => k d H' (s0.trans s1) hx) b hb
/-! word -/
def nWd (C CF : Addr) : Sp := fun vs H Q E => ∃ (x : RX) (a op : Nat) (X1 X2 X3 : List V), vs = [.ref x.p] ∧ x.Ok ∧ Rn C x H a op X1 X2 X3 ∧ a ≤ x.ws.length ∧ (∀ k, x.ws[a]? = some k → Q (.str (mk k.1)) H) ∧ (a = x.ws.length → SE_ CF x E)
theorem scWd : FnScope ["self"] ["self"] (defScope (rd 1)) := ⟨rfl, rfl, rfl, by decide +kernel, rfl, by decide +kernel, by decide +kernel⟩
theorem n_wd (T : TxR K mg C) (TS : TxS K mg) (D : Dm K C "word" "Reader.word" (rd 1)) (M : M0 P w K mg base C 4 "refuse_stop" (nRS C CF)) : M0 P w K mg base C 5 "word" (nWd C CF) := by
  obtain ⟨f, fd, F, hm⟩ := D.ex
  refine ⟨f, fd, ["self"], F.okX scWd (fun vs H Q E h => ?_) (fun cdv A outer s H vs Q E hr h => ?_), hm, F.binds (ps := ["self"]) fun _ _ _ _ _ _ us hl => match us, hl with | [_], _ => rfl⟩
  · obtain ⟨x, a, op, X1, X2, X3, rfl, _⟩ := h
    rfl
  obtain ⟨x, a, op, X1, X2, X3, rfl, o, R, ha, k1, k2⟩ := h
  have s0 := R.1
  obtain ⟨dx, l1, l2, l3, h1⟩ := R.obj
  have ol : x.us.length = x.ws.length := o.al.length
  refine ⟨_, pss_cons (ps_if (pt_cmpR op_eq (pe_fld (pv 0) rfl) (pe_callB call_len_seq (by rfl) TS.len PySem.boot_len (pa_cons (pe_fld (pv 0) rfl) pa_nil)) (nomark _))
      (pss_one (ps_expr (pe_mm0 T.cl M hr (Nat.le_refl _) (passes_call (takes_of rfl rfl rfl rfl) fun _ _ _ _ h => h) (pv 0)))) pss_nil) <|
    pss_one (ps_ret (pe_ix ix_tup (pe_ix ix_tup (pe_fld (pv 0) rfl) (pe_fld (pv 0) rfl) (fun _ _ => rfl)) pe_int (fun _ _ => rfl))), ?_⟩
  refine ⟨_, rfl, x.p, C, dx, _, _, rfl, h1, T.cl, T.f5, rf_at, _, rfl, x.p, C, dx, _, _, rfl, h1, T.cl, T.f2, rf_words, x.wl, _, rfl, .inr (SqT.of (s0 _ _ o.hw)), rfl, _, rfl, ?_⟩
  refine ite2 (fun c => ?_) (fun c => ?_)
  · have c1 := of_decide_eq_true c
    injection c1 with c2
    have c3 : a = x.ws.length := by omega
    exact ⟨_, rfl, x.p, dx, _, rfl, h1, by kernel_rfl, x, a, op, X1, X2, X3, rfl, o, R, k2 c3⟩
  · have c1 := of_decide_eq_false (Bool.eq_false_iff.mpr c)
    have c3 : a < x.ws.length := by
      rcases Nat.lt_or_ge a x.ws.length with h | h
      · exact h
      · exact absurd (by rw [show a = x.us.length by omega]) c1
    have hk : x.ws[a]? = some x.ws[a] := by simp [c3]
    obtain ⟨p, hp1, hp2⟩ := o.word hk
    refine ⟨_, rfl, x.p, C, dx, _, _, rfl, h1, T.cl, T.f2, rf_words, _, rfl, x.p, C, dx, _, _, rfl, h1, T.cl, T.f5, rf_at, x.wl, _, _, _, rfl, rfl, SqT.of (s0 _ _ o.hw), atI_nat hp1, p, _, _, _, rfl, rfl, SqT.of (s0 _ _ hp2), atI_0, k1 _ hk⟩
/-! skip -/
def nSkip (C CF : Addr) : Sp := fun vs H Q E => ∃ (x : RX) (a op : Nat) (X1 X2 X3 : List V) (z : Str), vs = [.ref x.p, .str z] ∧ x.Ok ∧ Rn C x H a op X1 X2 X3 ∧ a ≤ x.ws.length ∧
  (x.wd a = some (tl z) → ∀ H', Rn C x H' (a + 1) op X1 X2 X3 → Q .non H') ∧ (x.wd a ≠ some (tl z) → BadAt CF x E a false)
theorem scSkip : FnScope ["self", "word"] ["self", "word"] (defScope (rd 4)) := ⟨rfl, rfl, rfl, by decide +kernel, rfl, by decide +kernel, by decide +kernel⟩
theorem n_skip (T : TxR K mg C) (D : Dm K C "skip" "Reader.skip" (rd 4)) (M1 : M0 P w K mg base C 5 "word" (nWd C CF)) (M2 : M0 P w K mg base C 4 "refuse" (nRef C CF)) : M0 P w K mg base C 6 "skip" (nSkip C CF) := by
  obtain ⟨f, fd, F, hm⟩ := D.ex
  refine ⟨f, fd, ["self", "word"], F.okX scSkip (fun vs H Q E h => ?_) (fun cdv A outer s H vs Q E hr h => ?_), hm, F.binds (ps := ["self", "word"]) fun _ _ _ _ _ _ us hl => match us, hl with | [_, _], _ => rfl⟩
  · obtain ⟨x, a, op, X1, X2, X3, z, rfl, _⟩ := h
    rfl
  obtain ⟨x, a, op, X1, X2, X3, z, rfl, o, R, ha, k1, k2⟩ := h
  obtain ⟨dx, l1, l2, l3, h1⟩ := R.obj
  refine ⟨_, pss_cons (ps_if (pt_cmpR op_ne (pe_mm0 T.cl M1 hr (Nat.le_refl _) (passes_call (takes_of rfl rfl rfl rfl) fun _ _ _ _ h => h) (pv 0)) (pv 1) (nomark _))
      (pss_one (ps_expr (pe_mm T.cl M2 hr (by decide) (passes_call (takes_of rfl rfl rfl rfl) fun _ _ _ _ h => h) (pv 0) (pa_cons pe_str pa_nil)))) pss_nil) <|
    pss_one (ps_fldaug (pv 0) pe_int in_add), ?_⟩
  refine ⟨_, rfl, x.p, dx, _, rfl, h1, by kernel_rfl, x, a, op, X1, X2, X3, rfl, o, R, ha, fun k hk => ?_, fun h => ?_⟩
  · refine ⟨_, rfl, rfl, _, rfl, ?_⟩
    rw [dec_str]
    have hw := x.wd_of hk
    refine ite2 (fun c => ?_) (fun c => ?_)
    · have c1 : mk k.1 ≠ z := by simpa using c
      have c2 : x.wd a ≠ some (tl z) := fun e => by
        rw [hw] at e
        exact c1 (by rw [Option.some.inj e, mk_tl])
      exact ⟨_, rfl, x.p, dx, _, rfl, h1, by kernel_rfl, x, a, op, X1, X2, X3, _, k, rfl, o, R, by decide +kernel, hk, (k2 c2).1 k hk⟩
    · have c1 : mk k.1 = z := by simpa using c
      obtain ⟨dx2, fs, g1, g2, g3, g4⟩ := R.at_ o (a + 1)
      have ec : ((a : Nat) : Int) + 1 = ((a + 1 : Nat) : Int) := by omega
      refine ⟨_, rfl, x.p, C, dx2, fs, _, rfl, g1, T.cl, T.f5, g2, _, _, rfl, rfl, dx2, fs, g1, g3, ?_⟩
      rw [ec]
      exact k1 (by rw [hw, ← c1]) _ g4
  · have c2 : x.wd a ≠ some (tl z) := fun e => by
      have := x.wd_lt e
      omega
    exact (k2 c2).2 h
/-! take -/
def nTake (C CF : Addr) (Sf : Addr → Option Sp) : Sp := fun vs H Q E => ∃ (x : RX) (a op : Nat) (X1 X2 X3 : List V) (f : Addr) (g : List Nat → Bool), vs = [.ref x.p, .ref f] ∧ Sf f = some (spB g) ∧ x.Ok ∧ Rn C x H a op X1 X2 X3 ∧ a ≤ x.ws.length ∧
  (∀ z, x.wd a = some z → g z = true → ∀ H', Rn C x H' (a + 1) op X1 X2 X3 → Q (.str (mk z)) H') ∧ ((∀ z, x.wd a = some z → g z = false) → BadAt CF x E a false)
theorem scTake : FnScope ["self", "fits", "word"] ["self", "fits"] (defScope (rd 5)) := ⟨rfl, rfl, rfl, by decide +kernel, rfl, by decide +kernel, by decide +kernel⟩
theorem n_take {Sf : Addr → Option Sp} (T : TxR K mg C) (D : Dm K C "take" "Reader.take" (rd 5)) (A : ∀ f sp, Sf f = some sp → Held P w K mg base 5 f sp) (M1 : M0 P w K mg base C 5 "word" (nWd C CF)) (M2 : M0 P w K mg base C 4 "refuse" (nRef C CF)) : M0 P w K mg base C 6 "take" (nTake C CF Sf) := by
  obtain ⟨f, fd, F, hm⟩ := D.ex
  refine ⟨f, fd, ["self", "fits"], F.okX scTake (fun vs H Q E h => ?_) (fun cdv A0 outer s H vs Q E hr h => ?_), hm, F.binds (ps := ["self", "fits"]) fun _ _ _ _ _ _ us hl => match us, hl with | [_, _], _ => rfl⟩
  · obtain ⟨x, a, op, X1, X2, X3, f, g, rfl, _⟩ := h
    rfl
  obtain ⟨x, a, op, X1, X2, X3, ff, g, rfl, hS, o, R, ha, k1, k2⟩ := h
  obtain ⟨dx, l1, l2, l3, h1⟩ := R.obj
  refine ⟨_, pss_cons (ps_set (i := 2) scTake.nd rfl (Or.inl rfl) (pe_mm0 T.cl M1 hr (Nat.le_refl _) (passes_call (takes_of rfl rfl rfl rfl) fun _ _ _ _ h => h) (pv 0))) <|
    pss_cons (ps_if (pt_not (pt_val (pe_callA (i := 1) (S := Sf) A hr rfl (Or.inl rfl) (pa_cons (pv 2) pa_nil))))
      (pss_one (ps_expr (pe_mm T.cl M2 hr (by decide) (passes_call (takes_of rfl rfl rfl rfl) fun _ _ _ _ h => h) (pv 0) (pa_cons pe_str pa_nil)))) pss_nil) <|
    pss_cons (ps_fldaug (pv 0) pe_int in_add) <| pss_one (ps_ret (pv 2)), ?_⟩
  refine ⟨_, rfl, x.p, dx, _, rfl, h1, by kernel_rfl, x, a, op, X1, X2, X3, rfl, o, R, ha, fun k hk => ?_, fun h => ?_⟩
  · have wb := o.ww k (List.mem_of_getElem? hk)
    have hw := x.wd_of hk
    refine ⟨ff, _, rfl, hS, _, rfl, mk k.1, rfl, by rw [mk_len]; omega, fun H1 s1 => ⟨_, rfl, ?_⟩⟩
    have R1 := R.same s1
    obtain ⟨dx2, fs, g1, g2, g3, g4⟩ := R1.at_ o (a + 1)
    refine ite2 (fun c => ?_) (fun c => ?_)
    · have c1 : g k.1 = false := by simpa using c
      exact ⟨_, rfl, x.p, dx, _, rfl, s1 _ _ h1, by kernel_rfl, x, a, op, X1, X2, X3, _, k, rfl, o, R1, by decide +kernel, hk, (k2 fun z hz => by rw [hw] at hz; rw [← Option.some.inj hz]; exact c1).1 k hk⟩
    · have c1 : g k.1 = true := by simpa using c
      have ec : ((a : Nat) : Int) + 1 = ((a + 1 : Nat) : Int) := by omega
      refine ⟨_, rfl, x.p, C, dx2, fs, _, rfl, g1, T.cl, T.f5, g2, _, _, rfl, rfl, dx2, fs, g1, g3, ?_⟩
      rw [ec]
      exact ⟨_, rfl, k1 k.1 hw c1 _ g4⟩
  · exact (k2 fun z hz => by have := x.wd_lt hz; omega).2 h
/-! enter, leave -/
def nEnter (C CF : Addr) : Sp := fun vs H Q E => ∃ (x : RX) (a op : Nat) (X1 X2 X3 : List V), vs = [.ref x.p] ∧ x.Ok ∧ Rn C x H a op X1 X2 X3 ∧ a < x.ws.length ∧ op ≤ 12 ∧
  (op < 12 → ∀ H', Rn C x H' (a + 1) (op + 1) X1 X2 X3 → Q .non H') ∧ (op = 12 → BadAt CF x E a true)
theorem scEnter : FnScope ["self"] ["self"] (defScope (rd 6)) := ⟨rfl, rfl, rfl, by decide +kernel, rfl, by decide +kernel, by decide +kernel⟩
theorem n_enter (T : TxR K mg C) (mO : GI mg "MOST_OPEN" 12) (D : Dm K C "enter" "Reader.enter" (rd 6)) (M2 : M0 P w K mg base C 4 "refuse" (nRef C CF)) : M0 P w K mg base C 5 "enter" (nEnter C CF) := by
  obtain ⟨f, fd, F, hm⟩ := D.ex
  refine ⟨f, fd, ["self"], F.okX scEnter (fun vs H Q E h => ?_) (fun cdv A0 outer s H vs Q E hr h => ?_), hm, F.binds (ps := ["self"]) fun _ _ _ _ _ _ us hl => match us, hl with | [_], _ => rfl⟩
  · obtain ⟨x, a, op, X1, X2, X3, rfl, _⟩ := h
    rfl
  obtain ⟨x, a, op, X1, X2, X3, rfl, o, R, ha, hop, k1, k2⟩ := h
  obtain ⟨dx, l1, l2, l3, h1⟩ := R.obj
  refine ⟨_, pss_cons (ps_if (pt_cmpR op_eq (pe_fld (pv 0) rfl) (pe_gi mO) (nomark _))
      (pss_one (ps_expr (pe_mm T.cl M2 hr (by decide) (passes_call (takes_of rfl rfl rfl rfl) fun _ _ _ _ h => h) (pv 0) (pa_cons pe_str pa_nil)))) pss_nil) <|
    pss_cons (ps_fldaug (pv 0) pe_int in_add) <| pss_one (ps_fldaug (pv 0) pe_int in_add), ?_⟩
  refine ⟨_, rfl, x.p, C, dx, _, _, rfl, h1, T.cl, T.f6, rf_open, rfl, _, rfl, ?_⟩
  refine ite2 (fun c => ?_) (fun c => ?_)
  · have c1 := of_decide_eq_true c
    injection c1 with c2
    have c3 : op = 12 := by omega
    have hk : x.ws[a]? = some x.ws[a] := by simp [ha]
    exact ⟨_, rfl, x.p, dx, _, rfl, h1, by kernel_rfl, x, a, op, X1, X2, X3, _, x.ws[a], rfl, o, R, by decide +kernel, hk, (k2 c3).1 _ hk⟩
  · have c1 := of_decide_eq_false (Bool.eq_false_iff.mpr c)
    have c3 : op < 12 := by
      rcases Nat.lt_or_ge op 12 with h | h
      · exact h
      · exact absurd (by rw [show op = 12 by omega]; rfl) c1
    obtain ⟨dx2, fs, g1, g2, g3, g4⟩ := R.op_ o (op + 1)
    have ec : ((op : Nat) : Int) + 1 = ((op + 1 : Nat) : Int) := by omega
    refine ⟨_, rfl, x.p, C, dx2, fs, _, rfl, g1, T.cl, T.f6, g2, _, _, rfl, rfl, dx2, fs, g1, g3, ?_⟩
    rw [ec]
    obtain ⟨dx3, fs3, j1, j2, j3, j4⟩ := g4.at_ o (a + 1)
    have ec2 : ((a : Nat) : Int) + 1 = ((a + 1 : Nat) : Int) := by omega
    refine ⟨_, rfl, x.p, C, dx3, fs3, _, rfl, j1, T.cl, T.f5, j2, _, _, rfl, rfl, dx3, fs3, j1, j3, ?_⟩
    rw [ec2]
    exact k1 c3 _ j4
def nLeave (C : Addr) : Sp := fun vs H Q _ => ∃ (x : RX) (a op : Nat) (X1 X2 X3 : List V), vs = [.ref x.p] ∧ x.Ok ∧ Rn C x H a (op + 1) X1 X2 X3 ∧ ∀ H', Rn C x H' a op X1 X2 X3 → Q .non H'
theorem scLeave : FnScope ["self"] ["self"] (defScope (rd 7)) := ⟨rfl, rfl, rfl, by decide +kernel, rfl, by decide +kernel, by decide +kernel⟩
theorem n_leave (T : TxR K mg C) (D : Dm K C "leave" "Reader.leave" (rd 7)) : M0 P w K mg base C 1 "leave" (nLeave C) := by
  obtain ⟨f, fd, F, hm⟩ := D.ex
  refine ⟨f, fd, ["self"], F.okX scLeave (fun vs H Q E h => ?_) (fun cdv A0 outer s H vs Q E hr h => ?_), hm, F.binds (ps := ["self"]) fun _ _ _ _ _ _ us hl => match us, hl with | [_], _ => rfl⟩
  · obtain ⟨x, a, op, X1, X2, X3, rfl, _⟩ := h
    rfl
  obtain ⟨x, a, op, X1, X2, X3, rfl, o, R, k⟩ := h
  refine ⟨_, pss_one (ps_fldaug (pv 0) pe_int in_sub), ?_⟩
  obtain ⟨dx2, fs, g1, g2, g3, g4⟩ := R.op_ o op
  have ec : ((op + 1 : Nat) : Int) - 1 = ((op : Nat) : Int) := by omega
  refine ⟨_, rfl, x.p, C, dx2, fs, _, rfl, g1, T.cl, T.f6, g2, _, _, rfl, rfl, dx2, fs, g1, g3, ?_⟩
  rw [ec]
  exact k _ g4
end
end My
set_option Elab.async false
set_option linter.all false
set_option maxRecDepth 100000
set_option maxHeartbeats 2000000
namespace My
open PySem L2 SS
/-! ### the reader's way, told as a relation of words -/
abbrev sMsg : Stmt := top 35
abbrev sFF : Stmt := top 36
abbrev sLeaf : Stmt := top 37
def isFF (l : List Nat) : Bool := decide (l.head? = some 64) && isFree (l.drop 1)
/-- the e that is this word alone -/
def lfE (l : T) : Option Ex :=
  if isNum l = true then some (.num (numOf l)) else if l.head? = some 39 then some (.txt (l.drop 1)) else if inS ["true", "false"] l = true then some (.tru (decide (mk l = Str.ofString "true")))
  else if mk l = Str.ofString "none" then some .non else if mk l = Str.ofString "self" then some .slf else if isFree l = true then some (.nam l) else if isFF l = true then some (.fld (l.drop 1)) else none
inductive Out (α : Type) : Type
  | ok (e : α) : Out α
  | bad (i : Nat) (d : Bool) : Out α
def Out.map {α β : Type} (f : α → β) : Out α → Out β
  | .ok e => .ok (f e)
  | .bad i d => .bad i d
abbrev lE (e : Ex) : Nat := (wE e).length
abbrev lS (s : St_) : Nat := (wS s).length
abbrev lSs (s : Sts) : Nat := (wSs s).length
abbrev lEs (s : Exs) : Nat := (wEs s).length
/-- no bracket, no new -/
def NBw (z : T) : Prop := z ≠ tk "(" ∧ z ≠ tk "[" ∧ z ≠ tk "{" ∧ z ≠ tk "new"
def opnE (z : T) : Prop := z = tk "(" ∨ z = tk "[" ∨ z = tk "{"
def opnS (z : T) : Prop := z = tk "if" ∨ z = tk "while" ∨ z = tk "try"
/-- free words up to z, the ones ahead of a being ws -/
inductive RFw (g : Nat → Option T) (z : T) : Nat → List T → Out (List T) → Prop
  | stop {a : Nat} {ws : List T} : g a = none → RFw g z a ws (.bad a false)
  | done {a : Nat} {ws : List T} : g a = some z → RFw g z a ws (.ok ws)
  | bad {a : Nat} {ws : List T} {y : T} : g a = some y → y ≠ z → isFree y = false → RFw g z a ws (.bad a false)
  | cons {a : Nat} {ws : List T} {y : T} {o : Out (List T)} : g a = some y → y ≠ z → isFree y = true → RFw g z (a + 1) (ws ++ [y]) o → RFw g z a ws o
mutual
inductive RE (g : Nat → Option T) : Nat → Nat → Out Ex → Prop
  | stop {op a : Nat} : g a = none → RE g op a (.bad a false)
  | deep {a : Nat} {z : T} : g a = some z → opnE z → RE g 12 a (.bad a true)
  | send {op a : Nat} {o : Out Ex} : g a = some (tk "(") → op < 12 → RSd g (op + 1) (a + 1) o → RE g op a o
  | lst {op a : Nat} {o : Out Exs} : g a = some (tk "[") → op < 12 → REs g (tk "]") (op + 1) (a + 1) .nil o → RE g op a (o.map .lst)
  | blkB {op a i : Nat} {d : Bool} : g a = some (tk "{") → op < 12 → RFw g (tk "|") (a + 1) [] (.bad i d) → RE g op a (.bad i d)
  | blk {op a : Nat} {ps : List T} {o : Out Sts} : g a = some (tk "{") → op < 12 → RFw g (tk "|") (a + 1) [] (.ok ps) → RSs g (tk "}") (op + 1) (a + 1 + ps.length + 1) .nil o → RE g op a (o.map (.blk ps))
  | newB {op a : Nat} : g a = some (tk "new") → (∀ z, g (a + 1) = some z → isKindName z = false) → RE g op a (.bad (a + 1) false)
  | new {op a : Nat} {z : T} : g a = some (tk "new") → g (a + 1) = some z → isKindName z = true → RE g op a (.ok (.new z))
  | leaf {op a : Nat} {z : T} {e : Ex} : g a = some z → NBw z → lfE z = some e → RE g op a (.ok e)
  | word {op a : Nat} {z : T} : g a = some z → NBw z → lfE z = none → RE g op a (.bad a false)
/-- behind the bracket of a send or an up -/
inductive RSd (g : Nat → Option T) : Nat → Nat → Out Ex → Prop
  | stop {op a : Nat} : g a = none → RSd g op a (.bad a false)
  | upB {op a : Nat} : g a = some (tk "up") → (∀ z, g (a + 1) = some z → isFree z = false) → RSd g op a (.bad (a + 1) false)
  | up {op a : Nat} {m : T} {o : Out Exs} : g a = some (tk "up") → g (a + 1) = some m → isFree m = true → REs g (tk ")") op (a + 2) .nil o → RSd g op a (o.map (.up m))
  | rB {op a i : Nat} {d : Bool} {z : T} : g a = some z → z ≠ tk "up" → RE g op a (.bad i d) → RSd g op a (.bad i d)
  | mB {op a : Nat} {z : T} {r : Ex} : g a = some z → z ≠ tk "up" → RE g op a (.ok r) → (∀ m, g (a + lE r) = some m → isMsg m = false) → RSd g op a (.bad (a + lE r) false)
  | send {op a : Nat} {z : T} {r : Ex} {m : T} {o : Out Exs} : g a = some z → z ≠ tk "up" → RE g op a (.ok r) → g (a + lE r) = some m → isMsg m = true → REs g (tk ")") op (a + lE r + 1) .nil o → RSd g op a (o.map (.send r m))
/-- es up to z, the ones ahead of a being es -/
inductive REs (g : Nat → Option T) : T → Nat → Nat → Exs → Out Exs → Prop
  | stop {z : T} {op a : Nat} {es : Exs} : g a = none → REs g z op a es (.bad a false)
  | done {z : T} {op a : Nat} {es : Exs} : g a = some z → REs g z op a es (.ok es)
  | bad {z : T} {op a i : Nat} {d : Bool} {es : Exs} {y : T} : g a = some y → y ≠ z → RE g op a (.bad i d) → REs g z op a es (.bad i d)
  | cons {z : T} {op a : Nat} {es : Exs} {y : T} {e : Ex} {o : Out Exs} : g a = some y → y ≠ z → RE g op a (.ok e) → REs g z op (a + lE e) (es.snoc e) o → REs g z op a es o
inductive RS (g : Nat → Option T) : Nat → Nat → Out St_ → Prop
  | stop {op a : Nat} : g a = none → RS g op a (.bad a false)
  | pl {op a : Nat} {k : T} {o : Out Ex} : g a = some k → isPl k = true → RE g op (a + 1) o → RS g op a (o.map (.pl k))
  | deep {a : Nat} {z : T} : g a = some z → opnS z → RS g 12 a (.bad a true)
  | iff {op a : Nat} {o : Out St_} : g a = some (tk "if") → op < 12 → RIf g (op + 1) (a + 1) o → RS g op a o
  | whl {op a : Nat} {o : Out St_} : g a = some (tk "while") → op < 12 → RWh g (op + 1) (a + 1) o → RS g op a o
  | tri {op a : Nat} {o : Out St_} : g a = some (tk "try") → op < 12 → RTr g (op + 1) (a + 1) o → RS g op a o
  | sfW {op a : Nat} {z : T} : g a = some z → z.head? = some 64 → isFF z = false → RS g op a (.bad a false)
  | sfS {op a : Nat} {z : T} : g a = some z → z.head? = some 64 → isFF z = true → g (a + 1) ≠ some (tk ":=") → RS g op a (.bad (a + 1) false)
  | sfl {op a : Nat} {z : T} {o : Out Ex} : g a = some z → z.head? = some 64 → isFF z = true → g (a + 1) = some (tk ":=") → RE g op (a + 2) o → RS g op a (o.map (.sfl (z.drop 1)))
  | stW {op a : Nat} {z : T} : g a = some z → z.head? ≠ some 64 → isPl z = false → ¬ opnS z → isFree z = false → RS g op a (.bad a false)
  | stS {op a : Nat} {z : T} : g a = some z → z.head? ≠ some 64 → isPl z = false → ¬ opnS z → isFree z = true → g (a + 1) ≠ some (tk ":=") → RS g op a (.bad (a + 1) false)
  | set {op a : Nat} {z : T} {o : Out Ex} : g a = some z → z.head? ≠ some 64 → isPl z = false → ¬ opnS z → isFree z = true → g (a + 1) = some (tk ":=") → RE g op (a + 2) o → RS g op a (o.map (.set z))
inductive RIf (g : Nat → Option T) : Nat → Nat → Out St_ → Prop
  | eB {op a i : Nat} {d : Bool} : RE g op a (.bad i d) → RIf g op a (.bad i d)
  | tB {op a : Nat} {e : Ex} : RE g op a (.ok e) → g (a + lE e) ≠ some (tk "then") → RIf g op a (.bad (a + lE e) false)
  | aB {op a i : Nat} {d : Bool} {e : Ex} : RE g op a (.ok e) → g (a + lE e) = some (tk "then") → RSs g (tk "else") op (a + lE e + 1) .nil (.bad i d) → RIf g op a (.bad i d)
  | mk {op a : Nat} {e : Ex} {x : Sts} {o : Out Sts} : RE g op a (.ok e) → g (a + lE e) = some (tk "then") → RSs g (tk "else") op (a + lE e + 1) .nil (.ok x) → RSs g (tk "end") op (a + lE e + 1 + lSs x + 1) .nil o → RIf g op a (o.map (.iff e x))
inductive RWh (g : Nat → Option T) : Nat → Nat → Out St_ → Prop
  | eB {op a i : Nat} {d : Bool} : RE g op a (.bad i d) → RWh g op a (.bad i d)
  | tB {op a : Nat} {e : Ex} : RE g op a (.ok e) → g (a + lE e) ≠ some (tk "then") → RWh g op a (.bad (a + lE e) false)
  | mk {op a : Nat} {e : Ex} {o : Out Sts} : RE g op a (.ok e) → g (a + lE e) = some (tk "then") → RSs g (tk "end") op (a + lE e + 1) .nil o → RWh g op a (o.map (.whl e))
inductive RTr (g : Nat → Option T) : Nat → Nat → Out St_ → Prop
  | aB {op a i : Nat} {d : Bool} : RSs g (tk "taken") op a .nil (.bad i d) → RTr g op a (.bad i d)
  | wB {op a : Nat} {x : Sts} : RSs g (tk "taken") op a .nil (.ok x) → (∀ z, g (a + lSs x + 1) = some z → isFree z = false) → RTr g op a (.bad (a + lSs x + 1) false)
  | mk {op a : Nat} {x : Sts} {w : T} {o : Out Sts} : RSs g (tk "taken") op a .nil (.ok x) → g (a + lSs x + 1) = some w → isFree w = true → RSs g (tk "end") op (a + lSs x + 2) .nil o → RTr g op a (o.map (.tri x w))
inductive RSs (g : Nat → Option T) : T → Nat → Nat → Sts → Out Sts → Prop
  | stop {z : T} {op a : Nat} {es : Sts} : g a = none → RSs g z op a es (.bad a false)
  | done {z : T} {op a : Nat} {es : Sts} : g a = some z → RSs g z op a es (.ok es)
  | bad {z : T} {op a i : Nat} {d : Bool} {es : Sts} {y : T} : g a = some y → y ≠ z → RS g op a (.bad i d) → RSs g z op a es (.bad i d)
  | cons {z : T} {op a : Nat} {es : Sts} {y : T} {e : St_} {o : Out Sts} : g a = some y → y ≠ z → RS g op a (.ok e) → RSs g z op (a + lS e) (es.snoc e) o → RSs g z op a es o
end
/-- where nodes begin, by words' numbers -/
def stW : Nat → List WB → List V
  | _, [] => []
  | a, q :: r => (if q.2 = true then [V.int (a : Nat)] else []) ++ stW (a + 1) r
theorem stW_app : ∀ (x y : List WB) (a : Nat), stW a (x ++ y) = stW a x ++ stW (a + x.length) y
  | [], y, a => rfl
  | q :: r, y, a => by
    rw [List.cons_append, stW, stW, stW_app r y (a + 1), List.append_assoc, List.length_cons, show a + 1 + r.length = a + (r.length + 1) by omega]
theorem stW_len : ∀ (x : List WB) (a : Nat), (stW a x).length ≤ x.length
  | [], a => Nat.le_refl _
  | q :: r, a => by
    have := stW_len r (a + 1)
    rw [stW, List.length_append, List.length_cons]
    split
    · simp only [List.length_cons, List.length_nil]; omega
    · simp only [List.length_nil]; omega
theorem plainW_st : ∀ (ws : List T) (a : Nat), stW a (plainW ws) = []
  | [], a => rfl
  | z :: r, a => by
    show stW a ((z, false) :: plainW r) = []
    rw [stW, plainW_st r (a + 1)]
    rfl
section
variable {P : Program} {w : World} {K : PySem.W.Frag} {mg : Str → Option Value} {base : Heap} {S CF fI fS C : Addr}
theorem scFF : FnScope ["word"] ["word"] (defScope sFF) := ⟨rfl, rfl, rfl, by decide +kernel, rfl, by decide +kernel, by decide +kernel⟩
theorem c_ff (D : Dn K mg "is_free_field" sFF) (G : C0 P w K mg base 4 "is_free" (spB isFree)) : C0 P w K mg base 5 "is_free_field" (spB isFF) := by
  obtain ⟨f, fd, F, m⟩ := D.ex
  refine ⟨f, fd, ["word"], F.ok scFF (fun vs H Q E h => ?_) (fun cdv A outer s H vs Q E hr h => ?_), m, F.kp, F.binds (ps := ["word"]) fun _ _ _ _ _ _ us hl => match us, hl with | [_], _ => rfl⟩
  · obtain ⟨z, rfl, _⟩ := h
    rfl
  obtain ⟨z, rfl, hz, k⟩ := h
  have hsz : z.length ≤ sizeLine := by rw [sizeLine_eq]; omega
  have hl := len_tl z
  refine ⟨_, pss_one (ps_ret (pe_and (pe_m1 PySem.F.slot_str_startswith PySem.F.type_str_startswith mt_startswith (pv 0) pe_str) (pe_one (pe_cc G hr (by decide) pass0 (pa_cons (pe_slice sl_str (pv 0) (po_some pe_int) po_none) pa_nil))))), ?_⟩
  refine ⟨_, rfl, ⟨_, rfl⟩, _, _, rfl, rfl, _, rfl, ?_⟩
  rw [s_at, starts1]
  refine ite2 (fun c => ?_) (fun c => ?_)
  · refine ⟨_, rfl, _, rfl, z, rfl, hsz, ?_⟩
    rw [cut1]
    refine ⟨_, rfl, by rw [mk_len, List.length_drop]; omega, fun H' s => ?_⟩
    have := k H' s
    unfold isFF at this
    rw [c, Bool.true_and] at this
    exact this
  · have c1 : decide ((tl z).head? = some 64) = false := by simpa using c
    have := k H (Same.refl H)
    unfold isFF at this
    rw [c1, Bool.false_and] at this
    exact this
def MSGs : List Str := [mk [43], mk [45], mk [42], mk [47], mk [60], mk [61]]
theorem scMsg : FnScope ["word"] ["word"] (defScope sMsg) := ⟨rfl, rfl, rfl, by decide +kernel, rfl, by decide +kernel, by decide +kernel⟩
theorem c_msg (mM : GT K mg "MESSAGE_MARKS" MSGs) (D : Dn K mg "is_message" sMsg) (G : C0 P w K mg base 4 "is_free" (spB isFree)) : C0 P w K mg base 5 "is_message" (spB isMsg) := by
  obtain ⟨f, fd, F, m⟩ := D.ex
  refine ⟨f, fd, ["word"], F.ok scMsg (fun vs H Q E h => ?_) (fun cdv A outer s H vs Q E hr h => ?_), m, F.kp, F.binds (ps := ["word"]) fun _ _ _ _ _ _ us hl => match us, hl with | [_], _ => rfl⟩
  · obtain ⟨z, rfl, _⟩ := h
    rfl
  obtain ⟨z, rfl, hz, k⟩ := h
  refine ⟨_, pss_one (ps_ret (pe_or (pe_cc G hr (by decide) pass0 (pa_cons (pv 0) pa_nil)) (pe_one (pe_cmpR op_in_seq (pv 0) (pe_gt mM) rfl)))), ?_⟩
  refine ⟨_, rfl, z, rfl, hz, fun H1 s1 => ⟨_, rfl, ?_⟩⟩
  have hin : inV (.str z) (MSGs.map V.str) = inS MSGs (tl z) := by rw [inV_strs]; unfold inS; rw [mk_tl]
  refine ite2 (fun c => ?_) (fun c => ?_)
  · have := k H1 s1
    unfold isMsg at this
    rw [c, Bool.true_or] at this
    exact this
  · have c1 : isFree (tl z) = false := by simpa using c
    have := k H1 s1
    unfold isMsg at this
    rw [c1, Bool.false_or] at this
    refine ⟨_, rfl, fun a ha => ⟨a, _, rfl, .inr ha, rfl, flat_strs _, ?_⟩⟩
    rw [if_neg (by decide : ¬ false = true), hin]
    exact this
def nLeaf : Sp := fun vs H Q _ => ∃ z : Str, vs = [.str z] ∧ z.length ≤ 1000 ∧ (∀ e, lfE (tl z) = some e → ∀ v H', Same H H' → AtE H' e v → Q v H') ∧ (lfE (tl z) = none → ∀ H', Same H H' → Q .non H')
theorem scLeaf : FnScope ["word"] ["word"] (defScope sLeaf) := ⟨rfl, rfl, rfl, by decide +kernel, rfl, by decide +kernel, by decide +kernel⟩
theorem n_leaf (T : TxS K mg) (D : Dn K mg "leaf" sLeaf) (G1 : C0 P w K mg base 2 "is_number" (spB isNum)) (G2 : C0 P w K mg base 4 "is_free" (spB isFree)) (G3 : C0 P w K mg base 5 "is_free_field" (spB isFF)) : C0 P w K mg base 6 "leaf" nLeaf := by
  obtain ⟨f, fd, F, m⟩ := D.ex
  refine ⟨f, fd, ["word"], F.ok scLeaf (fun vs H Q E h => ?_) (fun cdv A outer s H vs Q E hr h => ?_), m, F.kp, F.binds (ps := ["word"]) fun _ _ _ _ _ _ us hl => match us, hl with | [_], _ => rfl⟩
  · obtain ⟨z, rfl, _⟩ := h
    rfl
  obtain ⟨z, rfl, hz, k, kn⟩ := h
  have hsz : z.length ≤ sizeLine := by rw [sizeLine_eq]; omega
  have hl := len_tl z
  refine ⟨_, pss_cons (ps_if (pt_val (pe_cc G1 hr (by decide) pass0 (pa_cons (pv 0) pa_nil))) (pss_one (ps_ret (pe_tup (pa_cons pe_str (pa_cons (pe_callTy call_int_str (by rfl) T.int (by decide +kernel) (pa_cons (pv 0) pa_nil)) pa_nil))))) pss_nil) <|
    pss_cons (ps_if (pt_val (pe_m1 PySem.F.slot_str_startswith PySem.F.type_str_startswith mt_startswith (pv 0) pe_str)) (pss_one (ps_ret (pe_tup (pa_cons pe_str (pa_cons (pe_slice sl_str (pv 0) (po_some pe_int) po_none) pa_nil))))) pss_nil) <|
    pss_cons (ps_if (pt_cmpR op_in_seq (pv 0) (pe_tup (pa_cons pe_str (pa_cons pe_str pa_nil))) rfl) (pss_one (ps_ret (pe_tup (pa_cons pe_str (pa_cons (pe_cmpR op_eq (pv 0) pe_str (nomark _)) pa_nil))))) pss_nil) <|
    pss_cons (ps_if (pt_cmpR op_in_seq (pv 0) (pe_tup (pa_cons pe_str (pa_cons pe_str pa_nil))) rfl) (pss_one (ps_ret (pe_tup (pa_cons (pv 0) pa_nil)))) pss_nil) <|
    pss_cons (ps_if (pt_val (pe_cc G2 hr (by decide) pass0 (pa_cons (pv 0) pa_nil))) (pss_one (ps_ret (pe_tup (pa_cons pe_str (pa_cons (pv 0) pa_nil))))) pss_nil) <|
    pss_cons (ps_if (pt_val (pe_cc G3 hr (by decide) pass0 (pa_cons (pv 0) pa_nil))) (pss_one (ps_ret (pe_tup (pa_cons pe_str (pa_cons (pe_slice sl_str (pv 0) (po_some pe_int) po_none) pa_nil))))) pss_nil) <|
    pss_one (ps_ret pe_non), ?_⟩
  have hin : ∀ zs : List Str, inV (.str z) (zs.map V.str) = inS zs (tl z) := fun zs => by
    rw [inV_strs]
    unfold inS
    rw [mk_tl]
  -- an answer that is a new tuple
  have ret : ∀ (e : Ex) (xs : List V), lfE (tl z) = some e → (∀ (H2 : Hp) (p : Addr), H2 p = some (.tup xs) → AtE H2 e (.ref p)) → ∀ (H1 : Hp) (p : Addr), Same H H1 → H1 p = none → Q (.ref p) (upd H1 p (.tup xs)) := fun e xs ok hat H1 p s1 n => k e ok _ _ (s1.trans (same_new n _)) (hat _ _ upd_same)
  refine ⟨_, rfl, z, rfl, by omega, fun H1 s1 => ⟨_, rfl, ?_⟩⟩
  refine ite2 (fun c1 => ?_) (fun c1 => ?_)
  · have hn : intText? z = some (numOf (tl z)) ∧ z.length ≤ 14 := by
      unfold isNum at c1
      rw [Bool.and_eq_true, Bool.and_eq_true] at c1
      obtain ⟨d1, d2, _⟩ := c1
      have d3 := of_decide_eq_true d1
      obtain ⟨n1, _, n3⟩ := num_facts d3.1 d3.2 d2
      rw [mk_tl] at n1 n3
      exact ⟨n1, n3⟩
    have ok : lfE (tl z) = some (.num (numOf (tl z))) := by unfold lfE; rw [if_pos c1]
    exact ⟨_, rfl, z, _, rfl, hn.1, by omega, by show 2 ≤ sizeLine; decide, fun p hp => ret _ _ ok (fun H2 p h => ⟨p, rfl, h⟩) _ p s1 hp⟩
  have c1' : ¬ isNum (tl z) = true := by simpa using c1
  refine ⟨_, rfl, ⟨_, rfl⟩, _, _, rfl, rfl, _, rfl, ?_⟩
  rw [s_quote, starts1]
  refine ite2 (fun c2 => ?_) (fun c2 => ?_)
  · have c2' : (tl z).head? = some 39 := of_decide_eq_true c2
    have ok : lfE (tl z) = some (.txt ((tl z).drop 1)) := by unfold lfE; rw [if_neg c1', if_pos c2']
    refine ⟨_, rfl, _, rfl, z, rfl, hsz, by show 2 ≤ sizeLine; decide, fun p hp => ?_⟩
    rw [cut1]
    exact ret _ _ ok (fun H2 p h => ⟨p, rfl, h⟩) _ p s1 hp
  have c2' : ¬ (tl z).head? = some 39 := by simpa using c2
  refine ⟨_, rfl, by show 2 ≤ sizeLine; decide, fun t1 ht1 => ?_⟩
  have s2 := s1.trans (same_new ht1 (.tup [.str (Str.ofString "true"), .str (Str.ofString "false")]))
  refine ⟨t1, (["true", "false"] : List Str).map V.str, rfl, .inr (SqT.of upd_same), rfl, flat_strs _, _, rfl, ?_⟩
  rw [if_neg (by decide : ¬ false = true), hin]
  refine ite2 (fun c3 => ?_) (fun c3 => ?_)
  · have ok : lfE (tl z) = some (.tru (decide (z = Str.ofString "true"))) := by
      unfold lfE
      rw [if_neg c1', if_neg c2', if_pos c3, mk_tl]
    refine ⟨_, rfl, rfl, by show 2 ≤ sizeLine; decide, fun p hp => ?_⟩
    rw [dec_str]
    exact ret _ _ ok (fun H2 p h => ⟨p, rfl, h⟩) _ p s2 hp
  have c3' : ¬ inS ["true", "false"] (tl z) = true := by simpa using c3
  refine ⟨_, rfl, by show 2 ≤ sizeLine; decide, fun t2 ht2 => ?_⟩
  have s3 := s2.trans (same_new ht2 (.tup [.str (Str.ofString "none"), .str (Str.ofString "self")]))
  refine ⟨t2, (["none", "self"] : List Str).map V.str, rfl, .inr (SqT.of upd_same), rfl, flat_strs _, _, rfl, ?_⟩
  rw [if_neg (by decide : ¬ false = true), hin]
  refine ite2 (fun c4 => ?_) (fun c4 => ?_)
  · refine ⟨_, rfl, by show 1 ≤ sizeLine; decide, fun p hp => ?_⟩
    have c5 : z = Str.ofString "none" ∨ z = Str.ofString "self" := by
      unfold inS at c4
      simp only [List.any_cons, List.any_nil, Bool.or_false, Bool.or_eq_true, mk_tl] at c4
      rcases c4 with h | h
      · exact .inl (eq_of_beq h).symm
      · exact .inr (eq_of_beq h).symm
    rcases c5 with h | h
    · have ok : lfE (tl z) = some .non := by
        unfold lfE
        rw [if_neg c1', if_neg c2', if_neg c3', mk_tl, if_pos h]
      rw [h] at ok ⊢
      subst h
      exact ret _ _ ok (fun H2 p h => ⟨p, rfl, h⟩) _ p s3 hp
    · have ok : lfE (tl z) = some .slf := by
        unfold lfE
        rw [if_neg c1', if_neg c2', if_neg c3', mk_tl, if_neg (by rw [h]; decide +kernel), if_pos h]
      subst h
      exact ret _ _ ok (fun H2 p h => ⟨p, rfl, h⟩) _ p s3 hp
  have c4' : ¬ z = Str.ofString "none" ∧ ¬ z = Str.ofString "self" := by
    constructor
    · intro h
      apply c4
      rw [h]
      decide +kernel
    · intro h
      apply c4
      rw [h]
      decide +kernel
  refine ⟨_, rfl, z, rfl, by omega, fun H4 s4 => ⟨_, rfl, ?_⟩⟩
  refine ite2 (fun c5 => ?_) (fun c5 => ?_)
  · have ok : lfE (tl z) = some (.nam (tl z)) := by
      unfold lfE
      rw [if_neg c1', if_neg c2', if_neg c3', mk_tl, if_neg c4'.1, if_neg c4'.2, if_pos c5]
    exact ⟨_, rfl, by show 2 ≤ sizeLine; decide, fun p hp => ret _ _ ok (fun H2 p h => ⟨p, rfl, by rw [mk_tl]; exact h⟩) _ p (s3.trans s4) hp⟩
  have c5' : ¬ isFree (tl z) = true := by simpa using c5
  refine ⟨_, rfl, z, rfl, by omega, fun H5 s5 => ⟨_, rfl, ?_⟩⟩
  refine ite2 (fun c6 => ?_) (fun c6 => ?_)
  · have ok : lfE (tl z) = some (.fld ((tl z).drop 1)) := by
      unfold lfE
      rw [if_neg c1', if_neg c2', if_neg c3', mk_tl, if_neg c4'.1, if_neg c4'.2, if_neg c5', if_pos c6]
    refine ⟨_, rfl, _, rfl, z, rfl, hsz, by show 2 ≤ sizeLine; decide, fun p hp => ?_⟩
    rw [cut1]
    exact ret _ _ ok (fun H2 p h => ⟨p, rfl, h⟩) _ p ((s3.trans s4).trans s5) hp
  have c6' : ¬ isFF (tl z) = true := by simpa using c6
  refine kn ?_ _ ((s3.trans s4).trans s5)
  unfold lfE
  rw [if_neg c1', if_neg c2', if_neg c3', mk_tl, if_neg c4'.1, if_neg c4'.2, if_neg c5', if_neg c6']
end
end My
set_option Elab.async false
set_option linter.all false
set_option maxRecDepth 100000
set_option maxHeartbeats 4000000
namespace My
open PySem L2 SS
section
variable {P : Program} {w : World} {K : PySem.W.Frag} {mg : Str → Option Value} {base : Heap} {S CF fI fS C fF fK fM fX : Addr}
/-- the tests that are handed to take -/
def Sq (fF fK fM fX : Addr) : Addr → Option Sp := fun f => if f = fF then some (spB isFree) else if f = fK then some (spB isKindName) else if f = fM then some (spB isMsg) else if f = fX then some (spB isFF) else none
structure TxF (mg : Str → Option Value) (fF fK fM fX : Addr) : Prop where
  gF : mg "is_free" = some (.ref fF)
  gK : mg "is_kind_name" = some (.ref fK)
  gM : mg "is_message" = some (.ref fM)
  gX : mg "is_free_field" = some (.ref fX)
  kF : fK ≠ fF
  mF : fM ≠ fF
  mK : fM ≠ fK
  xF : fX ≠ fF
  xK : fX ≠ fK
  xM : fX ≠ fM
theorem Sq_F : Sq fF fK fM fX fF = some (spB isFree) := if_pos rfl
theorem TxF.sK (t : TxF mg fF fK fM fX) : Sq fF fK fM fX fK = some (spB isKindName) := by unfold Sq; rw [if_neg t.kF, if_pos rfl]
theorem TxF.sM (t : TxF mg fF fK fM fX) : Sq fF fK fM fX fM = some (spB isMsg) := by unfold Sq; rw [if_neg t.mF, if_neg t.mK, if_pos rfl]
theorem TxF.sX (t : TxF mg fF fK fM fX) : Sq fF fK fM fX fX = some (spB isFF) := by unfold Sq; rw [if_neg t.xF, if_neg t.xK, if_neg t.xM, if_pos rfl]
theorem Mm.mono {CX : CXT} {j k : Nat} {m : Str} {sp : Sp} (h : Mm P w K mg base CX j C m sp) (hk : j ≤ k) : Mm P w K mg base CX k C m sp := by
  obtain ⟨f, fd, ps, F, r⟩ := h.ex
  exact ⟨f, fd, ps, F.mono hk, r⟩
def spN0 : Sp := fun _ _ _ _ => False
/-- what is asked of a reading: what o is, v its tree, and where the reader then stands -/
abbrev Asks {α : Type} (C CF : Addr) (x : RX) (op : Nat) (X1 X2 X3 : List V) (At : Hp → α → V → Prop) (len : α → Nat) (st : α → List V) (a : Nat) (o : Out α) (Q : VK) (E : XK) : Prop :=
  (∀ e, o = .ok e → ∀ v H', At H' e v → a + len e ≤ x.ws.length → Rn C x H' (a + len e) op X1 X2 (X3 ++ st e) → Q v H') ∧ (∀ i d, o = .bad i d → BadAt CF x E i d)
/-! free_words -/
def nFw (C CF : Addr) : Sp := fun vs H Q E => ∃ (x : RX) (a op : Nat) (X1 X2 X3 : List V) (z : Str) (o : Out (List T)), vs = [.ref x.p, .str z] ∧ x.Ok ∧ Rn C x H a op X1 X2 X3 ∧ a ≤ x.ws.length ∧ RFw x.wd (tl z) a [] o ∧
  Asks C CF x op X1 X2 X3 AtW (fun ws => ws.length + 1) (fun _ => []) a o Q E
theorem scFw : FnScope ["self", "last", "words"] ["self", "last"] (defScope (rd 14)) := ⟨rfl, rfl, rfl, by decide +kernel, rfl, by decide +kernel, by decide +kernel⟩
def FwInv (C : Addr) (x : RX) (a op : Nat) (X1 X2 X3 : List V) (z : Str) (o : Out (List T)) (l : Addr) (m : Nat) (σ : L2.St) (H1 : Hp) : Prop :=
  ∃ (H0' : Hp) (a' : Nat) (ws : List T), σ = [some (V.ref x.p), some (V.str z), some (V.ref l)] ∧ m = x.ws.length - a' ∧ Same x.H0 H0' ∧ H0' l = some (HO.lst (wsV ws)) ∧ (x.on H0').Ok ∧ a' = a + ws.length ∧ a' ≤ x.ws.length ∧ RFw x.wd (tl z) a' ws o ∧ Rn C (x.on H0') H1 a' op X1 X2 X3
theorem n_fw (T : TxR K mg C) (TS : TxS K mg) (TF : TxF mg fF fK fM fX) (D : Dm K C "free_words" "Reader.free_words" (rd 14)) (M1 : M0 P w K mg base C 5 "word" (nWd C CF)) (M2 : M0 P w K mg base C 6 "take" (nTake C CF (Sq fF fK fM fX))) : M0 P w K mg base C 7 "free_words" (nFw C CF) := by
  obtain ⟨f, fd, F, hm⟩ := D.ex
  refine ⟨f, fd, ["self", "last"], F.okX scFw (fun vs H Q E h => ?_) (fun cdv A0 outer s H vs Q E hr h => ?_), hm, F.binds (ps := ["self", "last"]) fun _ _ _ _ _ _ us hl => match us, hl with | [_, _], _ => rfl⟩
  · obtain ⟨x, a, op, X1, X2, X3, z, o, rfl, _⟩ := h
    rfl
  obtain ⟨x, a, op, X1, X2, X3, z, o, rfl, ok, R, ha, hrel, q1, q2⟩ := h
  refine ⟨_, pss_cons (ps_set (i := 2) scFw.nd rfl (Or.inl rfl) (pe_lst pa_nil)) <|
    pss_cons (ps_while (passes_of rfl) (pt_cmpR op_ne (pe_mm0 T.cl M1 hr (by decide) (passes_call (takes_of rfl rfl rfl rfl) fun _ _ _ _ h => h) (pv 0)) (pv 1) (nomark _))
      (pss_one (ps_expr (pe_bm PySem.F.plainAttrs_list PySem.F.slot_list_append PySem.F.type_list_append mt_append (pv 2) (pa_cons (pe_mm T.cl M2 hr (by decide) (passes_call (takes_of rfl rfl rfl rfl) fun _ _ _ _ h => h) (pv 0) (pa_cons (pe_glob (v := .ref fF) (by rfl) TF.gF rfl) pa_nil)) pa_nil))))) <|
    pss_cons (ps_fldaug (pv 0) pe_int in_add) <|
    pss_one (ps_ret (pe_callTy call_tuple_of (by rfl) TS.tup (by decide +kernel) (pa_cons (pv 2) pa_nil))), ?_⟩
  have oln := ok.ln
  refine ⟨Nat.zero_le _, fun l hl => ?_⟩
  have hl0 : x.H0 l = none := R.1.free hl
  obtain ⟨G0, sG, tG, gl, ok0, R0⟩ := R.begin ok hl
  refine ⟨FwInv C x a op X1 X2 X3 z o l, ⟨_, G0, a, [], rfl, rfl, sG, gl, ok0, rfl, ha, hrel, R0⟩, ?_⟩
  rintro m σ H1 ⟨H0', a', ws, rfl, rfl, sH, hY, o1, ea, ha', hrel', R1⟩
  obtain ⟨dx, l1, l2, l3, h1⟩ := R1.obj
  have fb : ∀ {i : Nat} {d : Bool}, BadAt CF x E i d → BadAt CF (x.on H0') E i d := fun h => h.on sH
  refine ⟨_, rfl, x.p, dx, _, rfl, h1, by kernel_rfl, x.on H0', a', op, X1, X2, X3, rfl, o1, R1, ha', fun k hk => ?_, fun hn => ?_⟩
  · have hw : x.wd a' = some k.1 := x.wd_of hk
    have hlt := x.wd_lt hw
    refine ⟨_, rfl, rfl, _, rfl, ?_⟩
    rw [dec_str]
    cases hrel' with
    | stop h => rw [hw] at h; cases h
    | done h =>
      rw [hw] at h
      have e1 : k.1 = tl z := Option.some.inj h
      rw [decide_eq_true (by rw [e1, mk_tl])]
      refine iteF ?_
      obtain ⟨dx3, fs3, j1, j2, j3, j4⟩ := R1.at_ o1 (a' + 1)
      have ec : ((a' : Nat) : Int) + 1 = ((a' + 1 : Nat) : Int) := by omega
      refine ⟨_, rfl, x.p, C, dx3, fs3, _, rfl, j1, T.cl, T.f5, j2, _, _, rfl, rfl, dx3, fs3, j1, j3, ?_⟩
      rw [ec]
      have hlY := j4.1 _ _ hY
      refine ⟨_, rfl, l, wsV ws, rfl, .inl ⟨SqL.of hlY, fun tp htp => ?_⟩⟩
      refine q1 ws rfl _ _ ⟨tp, rfl, upd_same⟩ (by show a + (ws.length + 1) ≤ _; omega) ?_
      rw [List.append_nil, show a + (ws.length + 1) = a' + 1 by omega]
      exact (j4.new htp _).back sH
    | bad h hne hf =>
      rw [hw] at h
      obtain rfl := Option.some.inj h
      rw [decide_eq_false (fun e => hne (by rw [← e]))]
      refine iteT ⟨_, fun σ' H' z => z, ?_⟩
      refine ⟨_, rfl, .inl ⟨rfl, _, SqL.of (R1.1 _ _ hY)⟩, _, rfl, x.p, dx, _, rfl, h1, by kernel_rfl, x.on H0', a', op, X1, X2, X3, fF, isFree, rfl, Sq_F, o1, R1, ha', fun y hy hg => ?_, fun _ => fb (q2 _ _ rfl)⟩
      have hy' : x.wd a' = some y := hy
      rw [hw] at hy'
      rw [← Option.some.inj hy', hf] at hg
      cases hg
    | @cons _ _ y _ h hne hf hrest =>
      rw [hw] at h
      obtain rfl := Option.some.inj h
      rw [decide_eq_false (fun e => hne (by rw [← e]))]
      refine iteT ⟨_, fun σ' H' z => z, ?_⟩
      refine ⟨_, rfl, .inl ⟨rfl, _, SqL.of (R1.1 _ _ hY)⟩, _, rfl, x.p, dx, _, rfl, h1, by kernel_rfl, x.on H0', a', op, X1, X2, X3, fF, isFree, rfl, Sq_F, o1, R1, ha', fun y hy hg H2 R2 => ?_, fun hn => ?_⟩
      · have hy' : x.wd a' = some y := hy
        rw [hw] at hy'
        obtain rfl := Option.some.inj hy'
        obtain ⟨o3, R3⟩ := R2.put o1 hY (wsV (ws ++ [k.1]))
        have e1 : wsV (ws ++ [k.1]) = wsV ws ++ [.str (mk k.1)] := by unfold wsV; rw [List.map_append]; rfl
        have hlen : (wsV ws).length = ws.length := List.length_map _
        refine ⟨l, wsV ws, _, rfl, rfl, R2.1 _ _ hY, by rw [sizeLine_eq, hlen]; omega, x.ws.length - (a' + 1), by omega, upd H0' l (.lst (wsV (ws ++ [k.1]))), a' + 1, ws ++ [k.1], rfl, rfl, ?_, upd_same, o3, by rw [List.length_append]; simp only [List.length_cons, List.length_nil]; omega, by omega, hrest, by rw [← e1]; exact R3⟩
        exact fun b u z => by
          rw [upd_ne (ne_of_none z hl0)]
          exact sH b u z
      · have := hn k.1 hw
        rw [hf] at this
        cases this
  · have hn' : a' = x.ws.length := hn
    cases hrel' with
    | stop h => exact (fb (q2 _ _ rfl)).2 hn'
    | done h => have := x.wd_lt h; omega
    | bad h hne hf => have := x.wd_lt h; omega
    | cons h hne hf hrest => have := x.wd_lt h; omega
/-! expressions -/
def nEx (C CF : Addr) (d : Nat) : Sp := fun vs H Q E => ∃ (x : RX) (a op : Nat) (X1 X2 X3 : List V) (o : Out Ex), vs = [.ref x.p] ∧ x.Ok ∧ Rn C x H a op X1 X2 X3 ∧ op + d = 12 ∧ a ≤ x.ws.length ∧ X3.length ≤ a ∧ RE x.wd op a o ∧
  Asks C CF x op X1 X2 X3 AtE lE (fun e => stW a (wE e)) a o Q E
/-- a row of es in a tuple -/
def AtTE (H : Hp) (es : Exs) (v : V) : Prop := ∃ p vs, v = .ref p ∧ H p = some (.tup vs) ∧ AtEs H es vs
def AtTS (H : Hp) (es : Sts) (v : V) : Prop := ∃ p vs, v = .ref p ∧ H p = some (.tup vs) ∧ AtSs H es vs
def qEs (C CF : Addr) (d : Nat) : Sp := fun vs H Q E => ∃ (x : RX) (a op : Nat) (X1 X2 X3 : List V) (z : Str) (o : Out Exs), vs = [.ref x.p, .str z] ∧ x.Ok ∧ Rn C x H a op X1 X2 X3 ∧ op + d = 12 ∧ a ≤ x.ws.length ∧ X3.length ≤ a ∧ REs x.wd (tl z) op a .nil o ∧
  Asks C CF x op X1 X2 X3 AtTE (fun es => lEs es + 1) (fun es => stW a (wEs es)) a o Q E
theorem scEs : FnScope ["self", "last", "expressions"] ["self", "last"] (defScope (rd 21)) := ⟨rfl, rfl, rfl, by decide +kernel, rfl, by decide +kernel, by decide +kernel⟩
theorem wE_head : ∀ e : Ex, ∃ z r, wE e = (z, true) :: r
  | .num n => ⟨_, _, rfl⟩
  | .txt s => ⟨_, _, rfl⟩
  | .tru true => ⟨_, _, rfl⟩
  | .tru false => ⟨_, _, rfl⟩
  | .non => ⟨_, _, rfl⟩
  | .slf => ⟨_, _, rfl⟩
  | .nam w => ⟨_, _, rfl⟩
  | .fld w => ⟨_, _, rfl⟩
  | .new w => ⟨_, _, rfl⟩
  | .send r m es => ⟨_, _, rfl⟩
  | .up m es => ⟨_, _, rfl⟩
  | .lst es => ⟨_, _, rfl⟩
  | .blk ps ss => ⟨_, _, rfl⟩
theorem wS_head : ∀ e : St_, ∃ z r, wS e = (z, true) :: r
  | .set w e => ⟨_, _, rfl⟩
  | .sfl w e => ⟨_, _, rfl⟩
  | .pl k e => ⟨_, _, rfl⟩
  | .iff e a b => ⟨_, _, rfl⟩
  | .whl e a => ⟨_, _, rfl⟩
  | .tri a w b => ⟨_, _, rfl⟩
theorem lE_pos (e : Ex) : 1 ≤ lE e := by obtain ⟨z, r, h⟩ := wE_head e; unfold lE; rw [h]; simp
theorem lS_pos (e : St_) : 1 ≤ lS e := by obtain ⟨z, r, h⟩ := wS_head e; unfold lS; rw [h]; simp
theorem cE_le : ∀ es : Exs, cE es ≤ lEs es
  | .nil => Nat.le_refl _
  | .cons e r => by
    have := cE_le r
    have := lE_pos e
    show 1 + cE r ≤ (wE e ++ wEs r).length
    rw [List.length_append]
    have : lEs r = (wEs r).length := rfl
    have : lE e = (wE e).length := rfl
    omega
theorem cS_le : ∀ es : Sts, cS es ≤ lSs es
  | .nil => Nat.le_refl _
  | .cons e r => by
    have := cS_le r
    have := lS_pos e
    show 1 + cS r ≤ (wS e ++ wSs r).length
    rw [List.length_append]
    have : lSs r = (wSs r).length := rfl
    have : lS e = (wS e).length := rfl
    omega
def EsInv (C : Addr) (x : RX) (a op : Nat) (X1 X2 X3 : List V) (z : Str) (o : Out Exs) (l : Addr) (m : Nat) (σ : L2.St) (H1 : Hp) : Prop :=
  ∃ (H0' : Hp) (a' : Nat) (es : Exs) (Y : List V), σ = [some (V.ref x.p), some (V.str z), some (V.ref l)] ∧ m = x.ws.length - a' ∧ Same x.H0 H0' ∧ H0' l = some (HO.lst Y) ∧ AtEs H0' es Y ∧ (x.on H0').Ok ∧ a' = a + lEs es ∧ a' ≤ x.ws.length ∧ REs x.wd (tl z) op a' es o ∧ Rn C (x.on H0') H1 a' op X1 X2 (X3 ++ stW a (wEs es))
theorem n_es {d k : Nat} (hk : 5 ≤ k) (T : TxR K mg C) (TS : TxS K mg) (D : Dm K C "expressions" "Reader.expressions" (rd 21)) (M1 : M0 P w K mg base C 5 "word" (nWd C CF)) (M2 : M0 P w K mg base C k "expression" (nEx C CF d)) : M0 P w K mg base C (k + 1) "expressions" (qEs C CF d) := by
  obtain ⟨f, fd, F, hm⟩ := D.ex
  refine ⟨f, fd, ["self", "last"], F.okX scEs (fun vs H Q E h => ?_) (fun cdv A0 outer s H vs Q E hr h => ?_), hm, F.binds (ps := ["self", "last"]) fun _ _ _ _ _ _ us hl => match us, hl with | [_, _], _ => rfl⟩
  · obtain ⟨x, a, op, X1, X2, X3, z, o, rfl, _⟩ := h
    rfl
  obtain ⟨x, a, op, X1, X2, X3, z, o, rfl, ok, R, hop, ha, hX3, hrel, q1, q2⟩ := h
  refine ⟨_, pss_cons (ps_set (i := 2) scEs.nd rfl (Or.inl rfl) (pe_lst pa_nil)) <|
    pss_cons (ps_while (passes_of rfl) (pt_cmpR op_ne (pe_mm0 T.cl M1 hr hk (passes_call (takes_of rfl rfl rfl rfl) fun _ _ _ _ h => h) (pv 0)) (pv 1) (nomark _))
      (pss_one (ps_expr (pe_bm PySem.F.plainAttrs_list PySem.F.slot_list_append PySem.F.type_list_append mt_append (pv 2) (pa_cons (pe_mm0 T.cl M2 hr (Nat.le_refl _) (passes_call (takes_of rfl rfl rfl rfl) fun _ _ _ _ h => h) (pv 0)) pa_nil))))) <|
    pss_cons (ps_fldaug (pv 0) pe_int in_add) <|
    pss_one (ps_ret (pe_callTy call_tuple_of (by rfl) TS.tup (by decide +kernel) (pa_cons (pv 2) pa_nil))), ?_⟩
  have oln := ok.ln
  refine ⟨Nat.zero_le _, fun l hl => ?_⟩
  have hl0 : x.H0 l = none := R.1.free hl
  obtain ⟨G0, sG, tG, gl, ok0, R0⟩ := R.begin ok hl
  refine ⟨EsInv C x a op X1 X2 X3 z o l, ⟨_, G0, a, .nil, [], rfl, rfl, sG, gl, rfl, ok0, rfl, ha, hrel, by rw [show stW a (wEs Exs.nil) = [] from rfl, List.append_nil]; exact R0⟩, ?_⟩
  rintro m σ H1 ⟨H0', a', es, Y, rfl, rfl, sH, hY, hat, o1, ea, ha', hrel', R1⟩
  obtain ⟨dx, l1, l2, l3, h1⟩ := R1.obj
  have fb : ∀ {i : Nat} {d : Bool}, BadAt CF x E i d → BadAt CF (x.on H0') E i d := fun h => h.on sH
  have hYl : Y.length ≤ lEs es := by rw [AtEs.len hat]; exact cE_le es
  have hXl : (X3 ++ stW a (wEs es)).length ≤ a' := by
    have := stW_len (wEs es) a
    rw [List.length_append]
    have : lEs es = (wEs es).length := rfl
    omega
  refine ⟨_, rfl, x.p, dx, _, rfl, h1, by kernel_rfl, x.on H0', a', op, X1, X2, _, rfl, o1, R1, ha', fun k hk => ?_, fun hn => ?_⟩
  · have hw : x.wd a' = some k.1 := x.wd_of hk
    have hlt := x.wd_lt hw
    refine ⟨_, rfl, rfl, _, rfl, ?_⟩
    rw [dec_str]
    cases hrel' with
    | stop h => rw [hw] at h; cases h
    | done h =>
      rw [hw] at h
      have e1 : k.1 = tl z := Option.some.inj h
      rw [decide_eq_true (by rw [e1, mk_tl])]
      refine iteF ?_
      obtain ⟨dx3, fs3, j1, j2, j3, j4⟩ := R1.at_ o1 (a' + 1)
      have ec : ((a' : Nat) : Int) + 1 = ((a' + 1 : Nat) : Int) := by omega
      refine ⟨_, rfl, x.p, C, dx3, fs3, _, rfl, j1, T.cl, T.f5, j2, _, _, rfl, rfl, dx3, fs3, j1, j3, ?_⟩
      rw [ec]
      have hlY := j4.1 _ _ hY
      have tq := same_tups j4.1
      refine ⟨_, rfl, l, Y, rfl, .inl ⟨SqL.of hlY, fun tp htp => ?_⟩⟩
      refine q1 es rfl _ _ ⟨tp, Y, rfl, upd_same, (hat.on_ tq).on_ (tups_new htp _)⟩ (by show a + (lEs es + 1) ≤ _; omega) ?_
      rw [show a + (lEs es + 1) = a' + 1 by omega]
      exact (j4.new htp _).back sH
    | @bad _ _ _ i d _ y h hne hr2 =>
      rw [hw] at h
      obtain rfl := Option.some.inj h
      rw [decide_eq_false (fun e => hne (by rw [← e]))]
      refine iteT ⟨_, fun σ' H' z => z, ?_⟩
      refine ⟨_, rfl, .inl ⟨rfl, _, SqL.of (R1.1 _ _ hY)⟩, _, rfl, x.p, dx, _, rfl, h1, by kernel_rfl, x.on H0', a', op, X1, X2, _, _, rfl, o1, R1, hop, ha', hXl, hr2, ⟨fun e he => (nomatch he), fun i' d' he => ?_⟩⟩
      cases he
      exact fb (q2 _ _ rfl)
    | @cons _ _ _ _ y e _ h hne hr2 hrest =>
      rw [hw] at h
      obtain rfl := Option.some.inj h
      rw [decide_eq_false (fun e => hne (by rw [← e]))]
      refine iteT ⟨_, fun σ' H' z => z, ?_⟩
      refine ⟨_, rfl, .inl ⟨rfl, _, SqL.of (R1.1 _ _ hY)⟩, _, rfl, x.p, dx, _, rfl, h1, by kernel_rfl, x.on H0', a', op, X1, X2, _, _, rfl, o1, R1, hop, ha', hXl, hr2, fun e' he v H2 hv hle R2 => ?_, fun i' d' he => by cases he⟩
      cases he
      have hle' : a' + lE e ≤ x.ws.length := hle
      obtain ⟨G1, s1, t1, ok1, R3⟩ := R2.gr o1
      have hlG : G1 l = some (.lst Y) := s1 _ _ hY
      obtain ⟨o3, R4⟩ := R3.put ok1 hlG (Y ++ [v])
      have tt : Tups G1 (upd G1 l (.lst (Y ++ [v]))) := tups_lst hlG
      have he1 := lE_pos e
      have en := (Exs.snoc_n es e).2.2.2.2
      refine ⟨l, Y, v, rfl, rfl, R2.1 _ _ hY, by rw [sizeLine_eq]; omega, x.ws.length - (a' + lE e), by omega, upd G1 l (.lst (Y ++ [v])), a' + lE e, es.snoc e, Y ++ [v], rfl, rfl, ?_, upd_same, ?_, o3, ?_, hle', hrest, ?_⟩
      · exact fun b u z => by
          rw [upd_ne (ne_of_none z hl0)]
          exact s1 b u (sH b u z)
      · exact Exs.at_snoc ((hat.on_ (same_tups s1)).on_ tt) ((hv.on_ t1).on_ tt)
      · unfold lEs
        rw [en, List.length_append]
        have : lEs es = (wEs es).length := rfl
        have : lE e = (wE e).length := rfl
        omega
      · rw [en, stW_app, ← List.append_assoc, show a + (wEs es).length = a' from ea.symm]
        exact R4
  · have hn' : a' = x.ws.length := hn
    cases hrel' with
    | stop h => exact (fb (q2 _ _ rfl)).2 hn'
    | done h => have := x.wd_lt h; omega
    | bad h hne hf => have := x.wd_lt h; omega
    | cons h hne hf hrest => have := x.wd_lt h; omega
/-! statements -/
def nSt (C CF : Addr) (d : Nat) : Sp := fun vs H Q E => ∃ (x : RX) (a op : Nat) (X1 X2 X3 : List V) (o : Out St_), vs = [.ref x.p] ∧ x.Ok ∧ Rn C x H a op X1 X2 X3 ∧ op + d = 12 ∧ a ≤ x.ws.length ∧ X3.length ≤ a ∧ RS x.wd op a o ∧
  Asks C CF x op X1 X2 X3 AtS lS (fun e => stW a (wS e)) a o Q E
def qSs (C CF : Addr) (d : Nat) : Sp := fun vs H Q E => ∃ (x : RX) (a op : Nat) (X1 X2 X3 : List V) (z : Str) (o : Out Sts), vs = [.ref x.p, .str z] ∧ x.Ok ∧ Rn C x H a op X1 X2 X3 ∧ op + d = 12 ∧ a ≤ x.ws.length ∧ X3.length ≤ a ∧ RSs x.wd (tl z) op a .nil o ∧
  Asks C CF x op X1 X2 X3 AtTS (fun es => lSs es + 1) (fun es => stW a (wSs es)) a o Q E
theorem scSts : FnScope ["self", "last", "statements"] ["self", "last"] (defScope (rd 15)) := ⟨rfl, rfl, rfl, by decide +kernel, rfl, by decide +kernel, by decide +kernel⟩
def SsInv (C : Addr) (x : RX) (a op : Nat) (X1 X2 X3 : List V) (z : Str) (o : Out Sts) (l : Addr) (m : Nat) (σ : L2.St) (H1 : Hp) : Prop :=
  ∃ (H0' : Hp) (a' : Nat) (es : Sts) (Y : List V), σ = [some (V.ref x.p), some (V.str z), some (V.ref l)] ∧ m = x.ws.length - a' ∧ Same x.H0 H0' ∧ H0' l = some (HO.lst Y) ∧ AtSs H0' es Y ∧ (x.on H0').Ok ∧ a' = a + lSs es ∧ a' ≤ x.ws.length ∧ RSs x.wd (tl z) op a' es o ∧ Rn C (x.on H0') H1 a' op X1 X2 (X3 ++ stW a (wSs es))
theorem n_ss {d k : Nat} (hk : 5 ≤ k) (T : TxR K mg C) (TS : TxS K mg) (D : Dm K C "statements" "Reader.statements" (rd 15)) (M1 : M0 P w K mg base C 5 "word" (nWd C CF)) (M2 : M0 P w K mg base C k "statement" (nSt C CF d)) : M0 P w K mg base C (k + 1) "statements" (qSs C CF d) := by
  obtain ⟨f, fd, F, hm⟩ := D.ex
  refine ⟨f, fd, ["self", "last"], F.okX scSts (fun vs H Q E h => ?_) (fun cdv A0 outer s H vs Q E hr h => ?_), hm, F.binds (ps := ["self", "last"]) fun _ _ _ _ _ _ us hl => match us, hl with | [_, _], _ => rfl⟩
  · obtain ⟨x, a, op, X1, X2, X3, z, o, rfl, _⟩ := h
    rfl
  obtain ⟨x, a, op, X1, X2, X3, z, o, rfl, ok, R, hop, ha, hX3, hrel, q1, q2⟩ := h
  refine ⟨_, pss_cons (ps_set (i := 2) scSts.nd rfl (Or.inl rfl) (pe_lst pa_nil)) <|
    pss_cons (ps_while (passes_of rfl) (pt_cmpR op_ne (pe_mm0 T.cl M1 hr hk (passes_call (takes_of rfl rfl rfl rfl) fun _ _ _ _ h => h) (pv 0)) (pv 1) (nomark _))
      (pss_one (ps_expr (pe_bm PySem.F.plainAttrs_list PySem.F.slot_list_append PySem.F.type_list_append mt_append (pv 2) (pa_cons (pe_mm0 T.cl M2 hr (Nat.le_refl _) (passes_call (takes_of rfl rfl rfl rfl) fun _ _ _ _ h => h) (pv 0)) pa_nil))))) <|
    pss_cons (ps_fldaug (pv 0) pe_int in_add) <|
    pss_one (ps_ret (pe_callTy call_tuple_of (by rfl) TS.tup (by decide +kernel) (pa_cons (pv 2) pa_nil))), ?_⟩
  have oln := ok.ln
  refine ⟨Nat.zero_le _, fun l hl => ?_⟩
  have hl0 : x.H0 l = none := R.1.free hl
  obtain ⟨G0, sG, tG, gl, ok0, R0⟩ := R.begin ok hl
  refine ⟨SsInv C x a op X1 X2 X3 z o l, ⟨_, G0, a, .nil, [], rfl, rfl, sG, gl, rfl, ok0, rfl, ha, hrel, by rw [show stW a (wSs Sts.nil) = [] from rfl, List.append_nil]; exact R0⟩, ?_⟩
  rintro m σ H1 ⟨H0', a', es, Y, rfl, rfl, sH, hY, hat, o1, ea, ha', hrel', R1⟩
  obtain ⟨dx, l1, l2, l3, h1⟩ := R1.obj
  have fb : ∀ {i : Nat} {d : Bool}, BadAt CF x E i d → BadAt CF (x.on H0') E i d := fun h => h.on sH
  have hYl : Y.length ≤ lSs es := by rw [AtSs.len hat]; exact cS_le es
  have hXl : (X3 ++ stW a (wSs es)).length ≤ a' := by
    have := stW_len (wSs es) a
    rw [List.length_append]
    have : lSs es = (wSs es).length := rfl
    omega
  refine ⟨_, rfl, x.p, dx, _, rfl, h1, by kernel_rfl, x.on H0', a', op, X1, X2, _, rfl, o1, R1, ha', fun k hk => ?_, fun hn => ?_⟩
  · have hw : x.wd a' = some k.1 := x.wd_of hk
    have hlt := x.wd_lt hw
    refine ⟨_, rfl, rfl, _, rfl, ?_⟩
    rw [dec_str]
    cases hrel' with
    | stop h => rw [hw] at h; cases h
    | done h =>
      rw [hw] at h
      have e1 : k.1 = tl z := Option.some.inj h
      rw [decide_eq_true (by rw [e1, mk_tl])]
      refine iteF ?_
      obtain ⟨dx3, fs3, j1, j2, j3, j4⟩ := R1.at_ o1 (a' + 1)
      have ec : ((a' : Nat) : Int) + 1 = ((a' + 1 : Nat) : Int) := by omega
      refine ⟨_, rfl, x.p, C, dx3, fs3, _, rfl, j1, T.cl, T.f5, j2, _, _, rfl, rfl, dx3, fs3, j1, j3, ?_⟩
      rw [ec]
      have hlY := j4.1 _ _ hY
      have tq := same_tups j4.1
      refine ⟨_, rfl, l, Y, rfl, .inl ⟨SqL.of hlY, fun tp htp => ?_⟩⟩
      refine q1 es rfl _ _ ⟨tp, Y, rfl, upd_same, (hat.on_ tq).on_ (tups_new htp _)⟩ (by show a + (lSs es + 1) ≤ _; omega) ?_
      rw [show a + (lSs es + 1) = a' + 1 by omega]
      exact (j4.new htp _).back sH
    | @bad _ _ _ i d _ y h hne hr2 =>
      rw [hw] at h
      obtain rfl := Option.some.inj h
      rw [decide_eq_false (fun e => hne (by rw [← e]))]
      refine iteT ⟨_, fun σ' H' z => z, ?_⟩
      refine ⟨_, rfl, .inl ⟨rfl, _, SqL.of (R1.1 _ _ hY)⟩, _, rfl, x.p, dx, _, rfl, h1, by kernel_rfl, x.on H0', a', op, X1, X2, _, _, rfl, o1, R1, hop, ha', hXl, hr2, ⟨fun e he => (nomatch he), fun i' d' he => ?_⟩⟩
      cases he
      exact fb (q2 _ _ rfl)
    | @cons _ _ _ _ y e _ h hne hr2 hrest =>
      rw [hw] at h
      obtain rfl := Option.some.inj h
      rw [decide_eq_false (fun e => hne (by rw [← e]))]
      refine iteT ⟨_, fun σ' H' z => z, ?_⟩
      refine ⟨_, rfl, .inl ⟨rfl, _, SqL.of (R1.1 _ _ hY)⟩, _, rfl, x.p, dx, _, rfl, h1, by kernel_rfl, x.on H0', a', op, X1, X2, _, _, rfl, o1, R1, hop, ha', hXl, hr2, fun e' he v H2 hv hle R2 => ?_, fun i' d' he => by cases he⟩
      cases he
      have hle' : a' + lS e ≤ x.ws.length := hle
      obtain ⟨G1, s1, t1, ok1, R3⟩ := R2.gr o1
      have hlG : G1 l = some (.lst Y) := s1 _ _ hY
      obtain ⟨o3, R4⟩ := R3.put ok1 hlG (Y ++ [v])
      have tt : Tups G1 (upd G1 l (.lst (Y ++ [v]))) := tups_lst hlG
      have he1 := lS_pos e
      have en := (Sts.snoc_n es e).2.2.2.2
      refine ⟨l, Y, v, rfl, rfl, R2.1 _ _ hY, by rw [sizeLine_eq]; omega, x.ws.length - (a' + lS e), by omega, upd G1 l (.lst (Y ++ [v])), a' + lS e, es.snoc e, Y ++ [v], rfl, rfl, ?_, upd_same, ?_, o3, ?_, hle', hrest, ?_⟩
      · exact fun b u z => by
          rw [upd_ne (ne_of_none z hl0)]
          exact s1 b u (sH b u z)
      · exact Sts.at_snoc ((hat.on_ (same_tups s1)).on_ tt) ((hv.on_ t1).on_ tt)
      · unfold lSs
        rw [en, List.length_append]
        have : lSs es = (wSs es).length := rfl
        have : lS e = (wS e).length := rfl
        omega
      · rw [en, stW_app, ← List.append_assoc, show a + (wSs es).length = a' from ea.symm]
        exact R4
  · have hn' : a' = x.ws.length := hn
    cases hrel' with
    | stop h => exact (fb (q2 _ _ rfl)).2 hn'
    | done h => have := x.wd_lt h; omega
    | bad h hne hf => have := x.wd_lt h; omega
    | cons h hne hf hrest => have := x.wd_lt h; omega
end
end My
set_option Elab.async false
set_option linter.all false
set_option maxRecDepth 100000
set_option maxHeartbeats 4000000
namespace My
open PySem L2 SS
theorem mk_ne {z : T} {s : Str} (h : z ≠ tl s) : ¬ mk z = s := fun e => h (by rw [← e])
theorem mk_eq {z : T} {s : Str} (h : z = tl s) : mk z = s := by rw [h, mk_tl]
theorem stE (e : Ex) (a : Nat) : stW a (wE e) = [V.int (a : Nat)] ++ stW (a + 1) (wE e).tail := by
  obtain ⟨z, r, h⟩ := wE_head e
  rw [h]
  rfl
theorem stS (e : St_) (a : Nat) : stW a (wS e) = [V.int (a : Nat)] ++ stW (a + 1) (wS e).tail := by
  obtain ⟨z, r, h⟩ := wS_head e
  rw [h]
  rfl
theorem lfE_w {z : T} {e : Ex} (h : lfE z = some e) : ∃ y, wE e = [(y, true)] := by
  unfold lfE at h
  split at h
  · obtain rfl := Option.some.inj h; exact ⟨_, rfl⟩
  split at h
  · obtain rfl := Option.some.inj h; exact ⟨_, rfl⟩
  split at h
  · obtain rfl := Option.some.inj h
    cases decide (mk z = Str.ofString "true") <;> exact ⟨_, rfl⟩
  split at h
  · obtain rfl := Option.some.inj h; exact ⟨_, rfl⟩
  split at h
  · obtain rfl := Option.some.inj h; exact ⟨_, rfl⟩
  split at h
  · obtain rfl := Option.some.inj h; exact ⟨_, rfl⟩
  split at h
  · obtain rfl := Option.some.inj h; exact ⟨_, rfl⟩
  · cases h
section
variable {P : Program} {w : World} {K : PySem.W.Frag} {mg : Str → Option Value} {base : Heap} {S CF fI fS C fF fK fM fX : Addr}
def pEx (C CF : Addr) : Nat → Sp
  | 0 => spN0
  | d + 1 => nEx C CF d
def pEs (C CF : Addr) : Nat → Sp
  | 0 => spN0
  | d + 1 => qEs C CF d
def pSs (C CF : Addr) : Nat → Sp
  | 0 => spN0
  | d + 1 => qSs C CF d
/-- what is asked of something that is opened at word a: it may be one too many -/
abbrev Opens {α : Type} (C CF : Addr) (x : RX) (D op : Nat) (X1 X2 X3 : List V) (At : Hp → α → V → Prop) (wf : α → List WB) (rel : Out α → Prop) (a : Nat) (Q : VK) (E : XK) : Prop :=
  (D = 0 ∧ BadAt CF x E a true) ∨ (∃ d o, D = d + 1 ∧ rel o ∧ Asks C CF x op X1 X2 X3 At (fun e => (wf e).length) (fun e => stW (a + 1) (wf e).tail) a o Q E)
def nSd (C CF : Addr) (D : Nat) : Sp := fun vs H Q E => ∃ (x : RX) (a op : Nat) (X1 X2 X3 : List V), vs = [.ref x.p] ∧ x.Ok ∧ Rn C x H a op X1 X2 X3 ∧ op + D = 12 ∧ a < x.ws.length ∧ X3.length ≤ a + 1 ∧
  Opens C CF x D op X1 X2 X3 AtE wE (RSd x.wd (op + 1) (a + 1)) a Q E
theorem scSd : FnScope ["self", "tree", "receiver"] ["self"] (defScope (rd 23)) := ⟨rfl, rfl, rfl, by decide +kernel, rfl, by decide +kernel, by decide +kernel⟩
theorem n_sd {D k : Nat} (hk : 7 ≤ k) (T : TxR K mg C) (TF : TxF mg fF fK fM fX) (Df : Dm K C "sending" "Reader.sending" (rd 23)) (M1 : M0 P w K mg base C 5 "word" (nWd C CF)) (M2 : M0 P w K mg base C 6 "take" (nTake C CF (Sq fF fK fM fX))) (M3 : M0 P w K mg base C 5 "enter" (nEnter C CF)) (M4 : M0 P w K mg base C 1 "leave" (nLeave C))
    (M5 : M0 P w K mg base C k "expression" (pEx C CF D)) (M6 : M0 P w K mg base C k "expressions" (pEs C CF D)) : M0 P w K mg base C (k + 1) "sending" (nSd C CF D) := by
  obtain ⟨f, fd, F, hm⟩ := Df.ex
  refine ⟨f, fd, ["self"], F.okX scSd (fun vs H Q E h => ?_) (fun cdv A0 outer s H vs Q E hr h => ?_), hm, F.binds (ps := ["self"]) fun _ _ _ _ _ _ us hl => match us, hl with | [_], _ => rfl⟩
  · obtain ⟨x, a, op, X1, X2, X3, rfl, _⟩ := h
    rfl
  obtain ⟨x, a, op, X1, X2, X3, rfl, ok, R, hop, ha, hX3, hcase⟩ := h
  refine ⟨_, pss_cons (ps_expr (pe_mm0 T.cl M3 hr (by omega) (passes_call (takes_of rfl rfl rfl rfl) fun _ _ _ _ h => h) (pv 0))) <|
    pss_cons (ps_if (pt_cmpR op_eq (pe_mm0 T.cl M1 hr (by omega) (passes_call (takes_of rfl rfl rfl rfl) fun _ _ _ _ h => h) (pv 0)) pe_str (nomark _))
      (pss_cons (ps_fldaug (pv 0) pe_int in_add) <| pss_one (ps_set (i := 1) scSd.nd rfl (Or.inl rfl) (pe_tup (pa_cons pe_str (pa_cons (pe_mm T.cl M2 hr (by omega) (passes_call (takes_of rfl rfl rfl rfl) fun _ _ _ _ h => h) (pv 0) (pa_cons (pe_glob (v := .ref fF) (by rfl) TF.gF rfl) pa_nil)) (pa_cons (pe_mm T.cl M6 hr (Nat.le_refl _) (passes_call (takes_of rfl rfl rfl rfl) fun _ _ _ _ h => h) (pv 0) (pa_cons pe_str pa_nil)) pa_nil))))))
      (pss_cons (ps_set (i := 2) scSd.nd rfl (Or.inl rfl) (pe_mm0 T.cl M5 hr (Nat.le_refl _) (passes_call (takes_of rfl rfl rfl rfl) fun _ _ _ _ h => h) (pv 0))) <|
        pss_one (ps_set (i := 1) scSd.nd rfl (Or.inl rfl) (pe_tup (pa_cons pe_str (pa_cons (pv 2) (pa_cons (pe_mm T.cl M2 hr (by omega) (passes_call (takes_of rfl rfl rfl rfl) fun _ _ _ _ h => h) (pv 0) (pa_cons (pe_glob (v := .ref fM) (by rfl) TF.gM rfl) pa_nil)) (pa_cons (pe_mm T.cl M6 hr (Nat.le_refl _) (passes_call (takes_of rfl rfl rfl rfl) fun _ _ _ _ h => h) (pv 0) (pa_cons pe_str pa_nil)) pa_nil)))))))) <|
    pss_cons (ps_expr (pe_mm0 T.cl M4 hr (by omega) (passes_call (takes_of rfl rfl rfl rfl) fun _ _ _ _ h => h) (pv 0))) <|
    pss_one (ps_ret (pv 1)), ?_⟩
  obtain ⟨dx, l1, l2, l3, h1⟩ := R.obj
  refine ⟨_, rfl, x.p, dx, _, rfl, h1, by kernel_rfl, x, a, op, X1, X2, X3, rfl, ok, R, ha, by omega, fun hlt H1 R1 => ?_, fun he => ?_⟩
  rotate_left
  · rcases hcase with ⟨_, hb⟩ | ⟨d, o, hd, _⟩
    · exact hb
    · omega
  rcases hcase with ⟨h0, _⟩ | ⟨d, o, rfl, hrel, q1, q2⟩
  · omega
  obtain ⟨dx2, i1, i2, i3, i4⟩ := R1.obj
  refine ⟨_, rfl, x.p, dx2, _, rfl, i4, by kernel_rfl, x, a + 1, op + 1, X1, X2, X3, rfl, ok, R1, ha, fun kw hkw => ?_, fun hn => ?_⟩
  rotate_left
  · cases hrel with
    | stop h => exact (q2 _ _ rfl).2 hn
    | upB h _ => have := x.wd_lt h; omega
    | up h _ _ _ => have := x.wd_lt h; omega
    | rB h _ _ => have := x.wd_lt h; omega
    | mB h _ _ _ => have := x.wd_lt h; omega
    | send h _ _ _ _ _ => have := x.wd_lt h; omega
  have hw : x.wd (a + 1) = some kw.1 := x.wd_of hkw
  have hlt1 := x.wd_lt hw
  refine ⟨rfl, _, rfl, ?_⟩
  rw [dec_str]
  have ec : ((a + 1 : Nat) : Int) + 1 = ((a + 2 : Nat) : Int) := by omega
  cases hrel with
  | stop h => rw [hw] at h; cases h
  | upB h hno =>
    rw [hw] at h
    rw [decide_eq_true (mk_eq (Option.some.inj h))]
    refine iteT ?_
    obtain ⟨dx3, fs3, j1, j2, j3, j4⟩ := R1.at_ ok (a + 2)
    refine ⟨_, rfl, x.p, C, dx3, fs3, _, rfl, j1, T.cl, T.f5, j2, _, _, rfl, rfl, dx3, fs3, j1, j3, ?_⟩
    rw [ec]
    generalize upd H1 x.p _ = H2 at j4 ⊢
    obtain ⟨dx4, u1, u2, u3, u4⟩ := j4.obj
    exact ⟨_, rfl, x.p, dx4, _, rfl, u4, by kernel_rfl, x, a + 2, op + 1, X1, X2, X3, fF, isFree, rfl, Sq_F, ok, j4, by omega, fun y hy hg => (by rw [hno y hy] at hg; cases hg), fun _ => q2 _ _ rfl⟩
  | @up _ _ m o' h hm1 hm2 hes =>
    rw [hw] at h
    rw [decide_eq_true (mk_eq (Option.some.inj h))]
    refine iteT ?_
    obtain ⟨dx3, fs3, j1, j2, j3, j4⟩ := R1.at_ ok (a + 2)
    refine ⟨_, rfl, x.p, C, dx3, fs3, _, rfl, j1, T.cl, T.f5, j2, _, _, rfl, rfl, dx3, fs3, j1, j3, ?_⟩
    rw [ec]
    generalize upd H1 x.p _ = H2 at j4 ⊢
    obtain ⟨dx4, u1, u2, u3, u4⟩ := j4.obj
    refine ⟨_, rfl, x.p, dx4, _, rfl, u4, by kernel_rfl, x, a + 2, op + 1, X1, X2, X3, fF, isFree, rfl, Sq_F, ok, j4, by omega, fun y hy hg H3 R3 => ?_, fun hno => ?_⟩
    rotate_left
    · have := hno m hm1
      rw [hm2] at this
      cases this
    have hlt2 := x.wd_lt hm1
    have hy2 : x.wd (a + 1 + 1) = some y := hy
    rw [hm1] at hy2
    obtain rfl := Option.some.inj hy2
    obtain ⟨dx5, v1, v2, v3, v4⟩ := R3.obj
    refine ⟨_, rfl, x.p, dx5, _, rfl, v4, by kernel_rfl, x, a + 1 + 2, op + 1, X1, X2, X3, _, o', rfl, ok, R3, by omega, by omega, by omega, hes, ⟨fun es he v H4 hv hle R4 => ?_, fun i dp he => ?_⟩⟩
    rotate_left
    · subst he
      exact q2 _ _ rfl
    subst he
    obtain ⟨q, vs, rfl, hq, hat⟩ := hv
    refine ⟨by show 3 ≤ sizeLine; decide, fun p hp => ?_⟩
    have R5 := R4.new hp (.tup [S_ "up", .str (mk m), .ref q])
    have t5 := tups_new hp (.tup [S_ "up", .str (mk m), .ref q])
    have hat5 : AtE (upd H4 p (.tup [S_ "up", .str (mk m), .ref q])) (.up m es) (.ref p) := ⟨p, q, vs, rfl, upd_same, t5 _ _ hq, hat.on_ t5⟩
    obtain ⟨H0', s6, t6, ok6, R6⟩ := R5.gr ok
    obtain ⟨dx6, y1, y2, y3, y4⟩ := R6.obj
    refine ⟨_, rfl, x.p, dx6, _, rfl, y4, by kernel_rfl, x.on H0', _, op, X1, X2, _, rfl, ok6, R6, fun H7 R7 => ⟨_, rfl, ?_⟩⟩
    have hln : (wE (.up m es)).length = 3 + (lEs es + 1) := by show _ = 3 + ((wEs es).length + 1); simp [wE]; omega
    have hle' : a + 1 + 2 + (lEs es + 1) ≤ x.ws.length := hle
    refine q1 _ rfl _ _ ((hat5.on_ t6).on_ (same_tups R7.1)) (by show a + (wE (.up m es)).length ≤ _; rw [hln]; omega) ?_
    have e1 : a + (wE (.up m es)).length = a + 1 + 2 + (lEs es + 1) := by rw [hln]; omega
    have e2 : stW (a + 1) (wE (.up m es)).tail = stW (a + 1 + 2) (wEs es) := by
      show stW (a + 1) ((tk "up", false) :: (m, false) :: (wEs es ++ [(tk ")", false)])) = _
      rw [stW, stW, stW_app]
      simp [stW]
    show Rn C x _ (a + (wE (.up m es)).length) _ _ _ (_ ++ stW (a + 1) (wE (.up m es)).tail)
    rw [e1, e2]
    exact R7.back s6
  | @rB _ _ i dp z h hz hr1 =>
    rw [hw] at h
    obtain rfl := Option.some.inj h
    rw [decide_eq_false (mk_ne hz)]
    refine iteF ?_
    refine ⟨_, rfl, x.p, dx2, _, rfl, i4, by kernel_rfl, x, a + 1, op + 1, X1, X2, X3, _, rfl, ok, R1, by omega, by omega, hX3, hr1, ⟨fun e he => (nomatch he), fun i' d' he => ?_⟩⟩
    cases he
    exact q2 _ _ rfl
  | @mB _ _ z r h hz hr1 hno =>
    rw [hw] at h
    obtain rfl := Option.some.inj h
    rw [decide_eq_false (mk_ne hz)]
    refine iteF ?_
    refine ⟨_, rfl, x.p, dx2, _, rfl, i4, by kernel_rfl, x, a + 1, op + 1, X1, X2, X3, _, rfl, ok, R1, by omega, by omega, hX3, hr1, ⟨fun e he v H2 hv hle R2 => ?_, fun i' d' he => (nomatch he)⟩⟩
    cases he
    obtain ⟨dx4, u1, u2, u3, u4⟩ := R2.obj
    exact ⟨_, rfl, _, rfl, x.p, dx4, _, rfl, u4, by kernel_rfl, x, _, op + 1, X1, X2, _, fM, isMsg, rfl, TF.sM, ok, R2, hle, fun y hy hg => (by rw [hno y hy] at hg; cases hg), fun _ => q2 _ _ rfl⟩
  | @send _ _ z r m o' h hz hr1 hm1 hm2 hes =>
    rw [hw] at h
    obtain rfl := Option.some.inj h
    rw [decide_eq_false (mk_ne hz)]
    refine iteF ?_
    refine ⟨_, rfl, x.p, dx2, _, rfl, i4, by kernel_rfl, x, a + 1, op + 1, X1, X2, X3, _, rfl, ok, R1, by omega, by omega, hX3, hr1, ⟨fun e he v H2 hv hle R2 => ?_, fun i' d' he => (nomatch he)⟩⟩
    cases he
    obtain ⟨G2, s2, t2, ok2, R2'⟩ := R2.gr ok
    have hv2 := hv.on_ t2
    obtain ⟨dx4, u1, u2, u3, u4⟩ := R2'.obj
    refine ⟨_, rfl, _, rfl, x.p, dx4, _, rfl, u4, by kernel_rfl, x.on G2, _, op + 1, X1, X2, _, fM, isMsg, rfl, TF.sM, ok2, R2', hle, fun y hy hg H3 R3 => ?_, fun hno => ?_⟩
    rotate_left
    · have := hno m hm1
      rw [hm2] at this
      cases this
    have hlt2 := x.wd_lt hm1
    have hy2 : x.wd (a + 1 + lE r) = some y := hy
    rw [hm1] at hy2
    obtain rfl := Option.some.inj hy2
    obtain ⟨dx5, v1, v2, v3, v4⟩ := R3.obj
    have hX4 : (X3 ++ stW (a + 1) (wE r)).length ≤ a + 1 + lE r + 1 := by
      have := stW_len (wE r) (a + 1)
      rw [List.length_append]
      have : lE r = (wE r).length := rfl
      omega
    refine ⟨_, rfl, x.p, dx5, _, rfl, v4, by kernel_rfl, x.on G2, a + 1 + lE r + 1, op + 1, X1, X2, _, _, o', rfl, ok2, R3, by omega, hlt2, hX4, hes, ⟨fun es he v6 H4 hv6 hle6 R4 => ?_, fun i dp he => ?_⟩⟩
    rotate_left
    · subst he
      exact (q2 _ _ rfl).on s2
    subst he
    obtain ⟨q, vs, rfl, hq, hat⟩ := hv6
    have hr4 := hv2.on_ (same_tups R4.1)
    refine ⟨by show 4 ≤ sizeLine; decide, fun p hp => ?_⟩
    have R5 := R4.new hp (.tup [S_ "send", v, .str (mk m), .ref q])
    have t5 := tups_new hp (.tup [S_ "send", v, .str (mk m), .ref q])
    have hat5 : AtE (upd H4 p (.tup [S_ "send", v, .str (mk m), .ref q])) (.send r m es) (.ref p) := ⟨p, v, q, vs, rfl, upd_same, t5 _ _ hq, hr4.on_ t5, hat.on_ t5⟩
    obtain ⟨G6, s6, t6, ok6, R6⟩ := R5.gr ok2
    obtain ⟨dx6, y1, y2, y3, y4⟩ := R6.obj
    refine ⟨_, rfl, x.p, dx6, _, rfl, y4, by kernel_rfl, (x.on G2).on G6, _, op, X1, X2, _, rfl, ok6, R6, fun H7 R7 => ⟨_, rfl, ?_⟩⟩
    have hln : (wE (.send r m es)).length = 1 + lE r + 1 + (lEs es + 1) := by show _ = 1 + (wE r).length + 1 + ((wEs es).length + 1); simp [wE]; omega
    have hle7 : a + 1 + lE r + 1 + (lEs es + 1) ≤ x.ws.length := hle6
    refine q1 _ rfl _ _ ((hat5.on_ t6).on_ (same_tups R7.1)) (by show a + (wE (.send r m es)).length ≤ _; rw [hln]; omega) ?_
    have e1 : a + (wE (.send r m es)).length = a + 1 + lE r + 1 + (lEs es + 1) := by rw [hln]; omega
    have e2 : stW (a + 1) (wE (.send r m es)).tail = stW (a + 1) (wE r) ++ stW (a + 1 + lE r + 1) (wEs es) := by
      show stW (a + 1) (wE r ++ (m, false) :: (wEs es ++ [(tk ")", false)])) = _
      rw [stW_app, stW, stW_app]
      simp [stW]
    show Rn C x _ (a + (wE (.send r m es)).length) _ _ _ (_ ++ stW (a + 1) (wE (.send r m es)).tail)
    rw [e1, e2, ← List.append_assoc]
    exact ((R7.back (x := x.on G2) s6).back s2)
/-! listing -/
def nLs (C CF : Addr) (D : Nat) : Sp := fun vs H Q E => ∃ (x : RX) (a op : Nat) (X1 X2 X3 : List V), vs = [.ref x.p] ∧ x.Ok ∧ Rn C x H a op X1 X2 X3 ∧ op + D = 12 ∧ a < x.ws.length ∧ X3.length ≤ a + 1 ∧
  Opens C CF x D op X1 X2 X3 AtE wE (fun o => ∃ o', o = Out.map Ex.lst o' ∧ REs x.wd (tk "]") (op + 1) (a + 1) .nil o') a Q E
theorem scLs : FnScope ["self", "expressions"] ["self"] (defScope (rd 24)) := ⟨rfl, rfl, rfl, by decide +kernel, rfl, by decide +kernel, by decide +kernel⟩
theorem n_ls {D k : Nat} (hk : 7 ≤ k) (T : TxR K mg C) (Df : Dm K C "listing" "Reader.listing" (rd 24)) (M3 : M0 P w K mg base C 5 "enter" (nEnter C CF)) (M4 : M0 P w K mg base C 1 "leave" (nLeave C))
    (M6 : M0 P w K mg base C k "expressions" (pEs C CF D)) : M0 P w K mg base C (k + 1) "listing" (nLs C CF D) := by
  obtain ⟨f, fd, F, hm⟩ := Df.ex
  refine ⟨f, fd, ["self"], F.okX scLs (fun vs H Q E h => ?_) (fun cdv A0 outer s H vs Q E hr h => ?_), hm, F.binds (ps := ["self"]) fun _ _ _ _ _ _ us hl => match us, hl with | [_], _ => rfl⟩
  · obtain ⟨x, a, op, X1, X2, X3, rfl, _⟩ := h
    rfl
  obtain ⟨x, a, op, X1, X2, X3, rfl, ok, R, hop, ha, hX3, hcase⟩ := h
  refine ⟨_, pss_cons (ps_expr (pe_mm0 T.cl M3 hr (by omega) (passes_call (takes_of rfl rfl rfl rfl) fun _ _ _ _ h => h) (pv 0))) <|
    pss_cons (ps_set (i := 1) scLs.nd rfl (Or.inl rfl) (pe_mm T.cl M6 hr (Nat.le_refl _) (passes_call (takes_of rfl rfl rfl rfl) fun _ _ _ _ h => h) (pv 0) (pa_cons pe_str pa_nil))) <|
    pss_cons (ps_expr (pe_mm0 T.cl M4 hr (by omega) (passes_call (takes_of rfl rfl rfl rfl) fun _ _ _ _ h => h) (pv 0))) <|
    pss_one (ps_ret (pe_tup (pa_cons pe_str (pa_cons (pv 1) pa_nil)))), ?_⟩
  obtain ⟨dx, l1, l2, l3, h1⟩ := R.obj
  refine ⟨_, rfl, x.p, dx, _, rfl, h1, by kernel_rfl, x, a, op, X1, X2, X3, rfl, ok, R, ha, by omega, fun hlt H1 R1 => ?_, fun he => ?_⟩
  rotate_left
  · rcases hcase with ⟨_, hb⟩ | ⟨d, o, hd, _⟩
    · exact hb
    · omega
  rcases hcase with ⟨h0, _⟩ | ⟨d, o, rfl, ⟨o', rfl, hes⟩, q1, q2⟩
  · omega
  obtain ⟨dx2, i1, i2, i3, i4⟩ := R1.obj
  refine ⟨_, rfl, x.p, dx2, _, rfl, i4, by kernel_rfl, x, a + 1, op + 1, X1, X2, X3, _, o', rfl, ok, R1, by omega, ha, hX3, hes, ⟨fun es he v H4 hv hle R4 => ?_, fun i dp he => ?_⟩⟩
  rotate_left
  · subst he
    exact q2 _ _ rfl
  subst he
  obtain ⟨q, vs, rfl, hq, hat⟩ := hv
  obtain ⟨G6, s6, t6, ok6, R6⟩ := R4.gr ok
  obtain ⟨dx6, y1, y2, y3, y4⟩ := R6.obj
  refine ⟨_, rfl, x.p, dx6, _, rfl, y4, by kernel_rfl, x.on G6, _, op, X1, X2, _, rfl, ok6, R6, fun H7 R7 => ?_⟩
  have tq := t6.trans (same_tups R7.1)
  refine ⟨_, rfl, by show 2 ≤ sizeLine; decide, fun p hp => ?_⟩
  have t5 := tups_new hp (.tup [S_ "list", .ref q])
  have hln : (wE (.lst es)).length = 1 + (lEs es + 1) := by show _ = 1 + ((wEs es).length + 1); simp [wE]; omega
  have hle' : a + 1 + (lEs es + 1) ≤ x.ws.length := hle
  refine q1 _ rfl _ _ ⟨p, q, vs, rfl, upd_same, t5 _ _ (tq _ _ hq), (hat.on_ tq).on_ t5⟩ (by show a + (wE (.lst es)).length ≤ _; rw [hln]; omega) ?_
  have e1 : a + (wE (.lst es)).length = a + 1 + (lEs es + 1) := by rw [hln]; omega
  have e2 : stW (a + 1) (wE (.lst es)).tail = stW (a + 1) (wEs es) := by
    show stW (a + 1) (wEs es ++ [(tk "]", false)]) = _
    rw [stW_app]
    simp [stW]
  show Rn C x _ (a + (wE (.lst es)).length) _ _ _ (_ ++ stW (a + 1) (wE (.lst es)).tail)
  rw [e1, e2]
  exact (R7.back s6).new hp _
/-! block -/
inductive RBk (g : Nat → Option T) : Nat → Nat → Out Ex → Prop
  | fB {op a i : Nat} {d : Bool} : RFw g (tk "|") a [] (.bad i d) → RBk g op a (.bad i d)
  | mk {op a : Nat} {ps : List T} {o : Out Sts} : RFw g (tk "|") a [] (.ok ps) → RSs g (tk "}") op (a + ps.length + 1) .nil o → RBk g op a (o.map (.blk ps))
def nBk (C CF : Addr) (D : Nat) : Sp := fun vs H Q E => ∃ (x : RX) (a op : Nat) (X1 X2 X3 : List V), vs = [.ref x.p] ∧ x.Ok ∧ Rn C x H a op X1 X2 X3 ∧ op + D = 12 ∧ a < x.ws.length ∧ X3.length ≤ a + 1 ∧
  Opens C CF x D op X1 X2 X3 AtE wE (RBk x.wd (op + 1) (a + 1)) a Q E
theorem scBk : FnScope ["self", "parameters", "statements"] ["self"] (defScope (rd 25)) := ⟨rfl, rfl, rfl, by decide +kernel, rfl, by decide +kernel, by decide +kernel⟩
theorem n_bk {D k : Nat} (hk : 7 ≤ k) (T : TxR K mg C) (Df : Dm K C "block" "Reader.block" (rd 25)) (M2 : M0 P w K mg base C 7 "free_words" (nFw C CF)) (M3 : M0 P w K mg base C 5 "enter" (nEnter C CF)) (M4 : M0 P w K mg base C 1 "leave" (nLeave C))
    (M6 : M0 P w K mg base C k "statements" (pSs C CF D)) : M0 P w K mg base C (k + 1) "block" (nBk C CF D) := by
  obtain ⟨f, fd, F, hm⟩ := Df.ex
  refine ⟨f, fd, ["self"], F.okX scBk (fun vs H Q E h => ?_) (fun cdv A0 outer s H vs Q E hr h => ?_), hm, F.binds (ps := ["self"]) fun _ _ _ _ _ _ us hl => match us, hl with | [_], _ => rfl⟩
  · obtain ⟨x, a, op, X1, X2, X3, rfl, _⟩ := h
    rfl
  obtain ⟨x, a, op, X1, X2, X3, rfl, ok, R, hop, ha, hX3, hcase⟩ := h
  refine ⟨_, pss_cons (ps_expr (pe_mm0 T.cl M3 hr (by omega) (passes_call (takes_of rfl rfl rfl rfl) fun _ _ _ _ h => h) (pv 0))) <|
    pss_cons (ps_set (i := 1) scBk.nd rfl (Or.inl rfl) (pe_mm T.cl M2 hr (by omega) (passes_call (takes_of rfl rfl rfl rfl) fun _ _ _ _ h => h) (pv 0) (pa_cons pe_str pa_nil))) <|
    pss_cons (ps_set (i := 2) scBk.nd rfl (Or.inl rfl) (pe_mm T.cl M6 hr (Nat.le_refl _) (passes_call (takes_of rfl rfl rfl rfl) fun _ _ _ _ h => h) (pv 0) (pa_cons pe_str pa_nil))) <|
    pss_cons (ps_expr (pe_mm0 T.cl M4 hr (by omega) (passes_call (takes_of rfl rfl rfl rfl) fun _ _ _ _ h => h) (pv 0))) <|
    pss_one (ps_ret (pe_tup (pa_cons pe_str (pa_cons (pv 1) (pa_cons (pv 2) pa_nil))))), ?_⟩
  obtain ⟨dx, l1, l2, l3, h1⟩ := R.obj
  refine ⟨_, rfl, x.p, dx, _, rfl, h1, by kernel_rfl, x, a, op, X1, X2, X3, rfl, ok, R, ha, by omega, fun hlt H1 R1 => ?_, fun he => ?_⟩
  rotate_left
  · rcases hcase with ⟨_, hb⟩ | ⟨d, o, hd, _⟩
    · exact hb
    · omega
  rcases hcase with ⟨h0, _⟩ | ⟨d, o, rfl, hrel, q1, q2⟩
  · omega
  obtain ⟨dx2, i1, i2, i3, i4⟩ := R1.obj
  cases hrel with
  | @fB i dp hf =>
    refine ⟨_, rfl, x.p, dx2, _, rfl, i4, by kernel_rfl, x, a + 1, op + 1, X1, X2, X3, _, _, rfl, ok, R1, ha, hf, ⟨fun e he => (nomatch he), fun i' d' he => ?_⟩⟩
    cases he
    exact q2 _ _ rfl
  | @mk ps o' hf hss =>
    refine ⟨_, rfl, x.p, dx2, _, rfl, i4, by kernel_rfl, x, a + 1, op + 1, X1, X2, X3, _, _, rfl, ok, R1, ha, hf, ⟨fun e he v H2 hv hle R2 => ?_, fun i' d' he => (nomatch he)⟩⟩
    cases he
    obtain ⟨G2, s2, t2, ok2, R2'⟩ := R2.gr ok
    have hv2 := hv.on t2
    rw [List.append_nil] at R2'
    obtain ⟨dx4, u1, u2, u3, u4⟩ := R2'.obj
    refine ⟨_, rfl, x.p, dx4, _, rfl, u4, by kernel_rfl, x.on G2, a + 1 + (ps.length + 1), op + 1, X1, X2, X3, _, o', rfl, ok2, R2', by omega, hle, by omega, hss, ⟨fun es he v6 H4 hv6 hle6 R4 => ?_, fun i dp he => ?_⟩⟩
    rotate_left
    · subst he
      exact (q2 _ _ rfl).on s2
    subst he
    obtain ⟨q, vs, rfl, hq, hat⟩ := hv6
    have hr4 := hv2.on (same_tups R4.1)
    obtain ⟨G6, s6, t6, ok6, R6⟩ := R4.gr ok2
    obtain ⟨dx6, y1, y2, y3, y4⟩ := R6.obj
    refine ⟨_, rfl, x.p, dx6, _, rfl, y4, by kernel_rfl, (x.on G2).on G6, _, op, X1, X2, _, rfl, ok6, R6, fun H7 R7 => ?_⟩
    have tq := t6.trans (same_tups R7.1)
    refine ⟨_, rfl, _, rfl, by show 3 ≤ sizeLine; decide, fun p hp => ?_⟩
    have t5 := tups_new hp (.tup [S_ "block", v, .ref q])
    have hln : (wE (.blk ps es)).length = 1 + (ps.length + 1) + (lSs es + 1) := by show _ = 1 + (ps.length + 1) + ((wSs es).length + 1); simp [wE, plainW_len]; omega
    have hle7 : a + 1 + (ps.length + 1) + (lSs es + 1) ≤ x.ws.length := hle6
    refine q1 _ rfl _ _ ⟨p, v, q, vs, rfl, upd_same, t5 _ _ (tq _ _ hq), (hr4.on tq).on t5, (hat.on_ tq).on_ t5⟩ (by show a + (wE (.blk ps es)).length ≤ _; rw [hln]; omega) ?_
    have e1 : a + (wE (.blk ps es)).length = a + 1 + (ps.length + 1) + (lSs es + 1) := by rw [hln]; omega
    have e2 : stW (a + 1) (wE (.blk ps es)).tail = stW (a + 1 + (ps.length + 1)) (wSs es) := by
      show stW (a + 1) (plainW ps ++ (tk "|", false) :: (wSs es ++ [(tk "}", false)])) = _
      rw [stW_app, plainW_st, stW, stW_app, plainW_len, show a + 1 + ps.length + 1 = a + 1 + (ps.length + 1) by omega]
      simp [stW]
    show Rn C x _ (a + (wE (.blk ps es)).length) _ _ _ (_ ++ stW (a + 1) (wE (.blk ps es)).tail)
    rw [e1, e2]
    exact ((R7.back (x := x.on G2) s6).back s2).new hp _
end
end My
set_option Elab.async false
set_option linter.all false
set_option maxRecDepth 100000
set_option maxHeartbeats 4000000
namespace My
open PySem L2 SS
section
variable {P : Program} {w : World} {K : PySem.W.Frag} {mg : Str → Option Value} {base : Heap} {S CF fI fS C fF fK fM fX : Addr}
/-! expression -/
theorem scEx : FnScope ["self", "word", "tree"] ["self"] (defScope (rd 22)) := ⟨rfl, rfl, rfl, by decide +kernel, rfl, by decide +kernel, by decide +kernel⟩
theorem n_ex {D k : Nat} (hk : 7 ≤ k) (T : TxR K mg C) (TF : TxF mg fF fK fM fX) (Df : Dm K C "expression" "Reader.expression" (rd 22)) (G : C0 P w K mg base 6 "leaf" nLeaf) (M1 : M0 P w K mg base C 5 "word" (nWd C CF)) (M2 : M0 P w K mg base C 4 "refuse" (nRef C CF)) (M3 : M0 P w K mg base C 6 "take" (nTake C CF (Sq fF fK fM fX)))
    (M4 : M0 P w K mg base C k "sending" (nSd C CF D)) (M5 : M0 P w K mg base C k "listing" (nLs C CF D)) (M6 : M0 P w K mg base C k "block" (nBk C CF D)) : M0 P w K mg base C (k + 1) "expression" (nEx C CF D) := by
  obtain ⟨f, fd, F, hm⟩ := Df.ex
  refine ⟨f, fd, ["self"], F.okX scEx (fun vs H Q E h => ?_) (fun cdv A0 outer s H vs Q E hr h => ?_), hm, F.binds (ps := ["self"]) fun _ _ _ _ _ _ us hl => match us, hl with | [_], _ => rfl⟩
  · obtain ⟨x, a, op, X1, X2, X3, o, rfl, _⟩ := h
    rfl
  obtain ⟨x, a, op, X1, X2, X3, o, rfl, ok, R, hop, ha, hX3, hrel, q1, q2⟩ := h
  refine ⟨_, pss_cons (ps_set (i := 1) scEx.nd rfl (Or.inl rfl) (pe_mm0 T.cl M1 hr (by omega) (passes_call (takes_of rfl rfl rfl rfl) fun _ _ _ _ h => h) (pv 0))) <|
    pss_cons (ps_expr (pe_bm PySem.F.plainAttrs_list PySem.F.slot_list_append PySem.F.type_list_append mt_append (pe_fld (pv 0) rfl) (pa_cons (pe_fld (pv 0) rfl) pa_nil))) <|
    pss_cons (ps_if (pt_cmpR op_eq (pv 1) pe_str (nomark _)) (pss_one (ps_ret (pe_mm0 T.cl M4 hr (Nat.le_refl _) (passes_call (takes_of rfl rfl rfl rfl) fun _ _ _ _ h => h) (pv 0)))) pss_nil) <|
    pss_cons (ps_if (pt_cmpR op_eq (pv 1) pe_str (nomark _)) (pss_one (ps_ret (pe_mm0 T.cl M5 hr (Nat.le_refl _) (passes_call (takes_of rfl rfl rfl rfl) fun _ _ _ _ h => h) (pv 0)))) pss_nil) <|
    pss_cons (ps_if (pt_cmpR op_eq (pv 1) pe_str (nomark _)) (pss_one (ps_ret (pe_mm0 T.cl M6 hr (Nat.le_refl _) (passes_call (takes_of rfl rfl rfl rfl) fun _ _ _ _ h => h) (pv 0)))) pss_nil) <|
    pss_cons (ps_if (pt_cmpR op_eq (pv 1) pe_str (nomark _)) (pss_cons (ps_fldaug (pv 0) pe_int in_add) <| pss_one (ps_ret (pe_tup (pa_cons pe_str (pa_cons (pe_mm T.cl M3 hr (by omega) (passes_call (takes_of rfl rfl rfl rfl) fun _ _ _ _ h => h) (pv 0) (pa_cons (pe_glob (v := .ref fK) (by rfl) TF.gK rfl) pa_nil)) pa_nil))))) pss_nil) <|
    pss_cons (ps_set (i := 2) scEx.nd rfl (Or.inl rfl) (pe_cc G hr (by omega) pass0 (pa_cons (pv 1) pa_nil))) <|
    pss_cons (ps_if (pt_cmpR op_isN (pv 2) pe_non (nomark _)) (pss_one (ps_expr (pe_mm T.cl M2 hr (by omega) (passes_call (takes_of rfl rfl rfl rfl) fun _ _ _ _ h => h) (pv 0) (pa_cons pe_str pa_nil)))) pss_nil) <|
    pss_cons (ps_fldaug (pv 0) pe_int in_add) <| pss_one (ps_ret (pv 2)), ?_⟩
  obtain ⟨dx, l1, l2, l3, h1⟩ := R.obj
  have oln := ok.ln
  refine ⟨_, rfl, x.p, dx, _, rfl, h1, by kernel_rfl, x, a, op, X1, X2, X3, rfl, ok, R, ha, fun kw hkw => ?_, fun hn => ?_⟩
  rotate_left
  · cases hrel with
    | stop h => exact (q2 _ _ rfl).2 hn
    | deep h _ => have := x.wd_lt h; omega
    | send h _ _ => have := x.wd_lt h; omega
    | lst h _ _ => have := x.wd_lt h; omega
    | blkB h _ _ => have := x.wd_lt h; omega
    | blk h _ _ _ => have := x.wd_lt h; omega
    | newB h _ => have := x.wd_lt h; omega
    | new h _ _ => have := x.wd_lt h; omega
    | leaf h _ _ => have := x.wd_lt h; omega
    | word h _ _ => have := x.wd_lt h; omega
  have hw : x.wd a = some kw.1 := x.wd_of hkw
  have hlt := x.wd_lt hw
  obtain ⟨dx2, fs, m3, g1, g2, g3, g4, g6⟩ := R.node (.int (a : Nat))
  refine ⟨_, rfl, x.p, C, dx2, fs, _, rfl, g1, T.cl, T.f9, g2, .inl ⟨rfl, _, SqL.of g4⟩, _, rfl, x.p, C, dx2, fs, _, rfl, g1, T.cl, T.f5, g3, m3, X3, _, rfl, rfl, g4, by rw [sizeLine_eq]; omega, ?_⟩
  generalize upd H m3 (.lst (X3 ++ [.int (a : Nat)])) = H1 at g6 ⊢
  have hX4 : (X3 ++ [V.int (a : Nat)]).length ≤ a + 1 := by rw [List.length_append]; simp only [List.length_cons, List.length_nil]; omega
  have conv : ∀ e : Ex, (X3 ++ [V.int (a : Nat)]) ++ stW (a + 1) (wE e).tail = X3 ++ stW a (wE e) := fun e => by rw [stE, List.append_assoc]
  obtain ⟨dx3, i1, i2, i3, i4⟩ := g6.obj
  have ec : ((a : Nat) : Int) + 1 = ((a + 1 : Nat) : Int) := by omega
  refine ⟨_, rfl, rfl, _, rfl, ?_⟩
  cases hrel with
  | stop h => rw [hw] at h; cases h
  | @deep _ z h ho =>
    have hD : D = 0 := by omega
    rw [hw] at h
    obtain rfl := Option.some.inj h
    have hb := q2 _ _ rfl
    rcases ho with hz | hz | hz
    · rw [dec_str, decide_eq_true (mk_eq hz)]
      exact iteT ⟨_, rfl, x.p, dx3, _, rfl, i4, by kernel_rfl, x, a, 12, X1, X2, _, rfl, ok, g6, hop, hlt, hX4, .inl ⟨hD, hb⟩⟩
    · rw [dec_str, decide_eq_false (by rw [hz, mk_tl]; decide +kernel)]
      refine iteF ⟨_, rfl, rfl, _, rfl, ?_⟩
      rw [dec_str, decide_eq_true (mk_eq hz)]
      exact iteT ⟨_, rfl, x.p, dx3, _, rfl, i4, by kernel_rfl, x, a, 12, X1, X2, _, rfl, ok, g6, hop, hlt, hX4, .inl ⟨hD, hb⟩⟩
    · rw [dec_str, decide_eq_false (by rw [hz, mk_tl]; decide +kernel)]
      refine iteF ⟨_, rfl, rfl, _, rfl, ?_⟩
      rw [dec_str, decide_eq_false (by rw [hz, mk_tl]; decide +kernel)]
      refine iteF ⟨_, rfl, rfl, _, rfl, ?_⟩
      rw [dec_str, decide_eq_true (mk_eq hz)]
      exact iteT ⟨_, rfl, x.p, dx3, _, rfl, i4, by kernel_rfl, x, a, 12, X1, X2, _, rfl, ok, g6, hop, hlt, hX4, .inl ⟨hD, hb⟩⟩
  | send h hlt12 hr1 =>
    rw [hw] at h
    have hz := Option.some.inj h
    rw [dec_str, decide_eq_true (mk_eq hz)]
    refine iteT ⟨_, rfl, x.p, dx3, _, rfl, i4, by kernel_rfl, x, a, op, X1, X2, _, rfl, ok, g6, hop, hlt, hX4, .inr ⟨D - 1, o, by omega, hr1, fun e he v H' hv hle RR => q1 e he v H' hv hle ?_, q2⟩⟩
    have := conv e
    rw [← this]
    exact RR
  | @lst _ _ o' h hlt12 hr1 =>
    rw [hw] at h
    have hz := Option.some.inj h
    rw [dec_str, decide_eq_false (by rw [hz, mk_tl]; decide +kernel)]
    refine iteF ⟨_, rfl, rfl, _, rfl, ?_⟩
    rw [dec_str, decide_eq_true (mk_eq hz)]
    refine iteT ⟨_, rfl, x.p, dx3, _, rfl, i4, by kernel_rfl, x, a, op, X1, X2, _, rfl, ok, g6, hop, hlt, hX4, .inr ⟨D - 1, _, by omega, ⟨o', rfl, hr1⟩, fun e he v H' hv hle RR => q1 e he v H' hv hle ?_, q2⟩⟩
    have := conv e
    rw [← this]
    exact RR
  | blkB h hlt12 hr1 =>
    rw [hw] at h
    have hz := Option.some.inj h
    rw [dec_str, decide_eq_false (by rw [hz, mk_tl]; decide +kernel)]
    refine iteF ⟨_, rfl, rfl, _, rfl, ?_⟩
    rw [dec_str, decide_eq_false (by rw [hz, mk_tl]; decide +kernel)]
    refine iteF ⟨_, rfl, rfl, _, rfl, ?_⟩
    rw [dec_str, decide_eq_true (mk_eq hz)]
    refine iteT ⟨_, rfl, x.p, dx3, _, rfl, i4, by kernel_rfl, x, a, op, X1, X2, _, rfl, ok, g6, hop, hlt, hX4, .inr ⟨D - 1, _, by omega, .fB hr1, fun e he => (nomatch he), q2⟩⟩
  | @blk _ _ ps o' h hlt12 hr1 hr2 =>
    rw [hw] at h
    have hz := Option.some.inj h
    rw [dec_str, decide_eq_false (by rw [hz, mk_tl]; decide +kernel)]
    refine iteF ⟨_, rfl, rfl, _, rfl, ?_⟩
    rw [dec_str, decide_eq_false (by rw [hz, mk_tl]; decide +kernel)]
    refine iteF ⟨_, rfl, rfl, _, rfl, ?_⟩
    rw [dec_str, decide_eq_true (mk_eq hz)]
    refine iteT ⟨_, rfl, x.p, dx3, _, rfl, i4, by kernel_rfl, x, a, op, X1, X2, _, rfl, ok, g6, hop, hlt, hX4, .inr ⟨D - 1, _, by omega, .mk hr1 hr2, fun e he v H' hv hle RR => q1 e he v H' hv hle ?_, q2⟩⟩
    have := conv e
    rw [← this]
    exact RR
  | newB h hno =>
    rw [hw] at h
    have hz := Option.some.inj h
    rw [dec_str, decide_eq_false (by rw [hz, mk_tl]; decide +kernel)]
    refine iteF ⟨_, rfl, rfl, _, rfl, ?_⟩
    rw [dec_str, decide_eq_false (by rw [hz, mk_tl]; decide +kernel)]
    refine iteF ⟨_, rfl, rfl, _, rfl, ?_⟩
    rw [dec_str, decide_eq_false (by rw [hz, mk_tl]; decide +kernel)]
    refine iteF ⟨_, rfl, rfl, _, rfl, ?_⟩
    rw [dec_str, decide_eq_true (mk_eq hz)]
    refine iteT ?_
    obtain ⟨dx4, fs4, j1, j2, j3, j4⟩ := g6.at_ ok (a + 1)
    refine ⟨_, rfl, x.p, C, dx4, fs4, _, rfl, j1, T.cl, T.f5, j2, _, _, rfl, rfl, dx4, fs4, j1, j3, ?_⟩
    rw [ec]
    generalize upd H1 x.p _ = H2 at j4 ⊢
    obtain ⟨dx5, u1, u2, u3, u4⟩ := j4.obj
    exact ⟨_, rfl, x.p, dx5, _, rfl, u4, by kernel_rfl, x, a + 1, op, X1, X2, _, fK, isKindName, rfl, TF.sK, ok, j4, hlt, fun y hy hg => (by rw [hno y hy] at hg; cases hg), fun _ => q2 _ _ rfl⟩
  | @new _ _ z h hz1 hz2 =>
    rw [hw] at h
    have hz := Option.some.inj h
    rw [dec_str, decide_eq_false (by rw [hz, mk_tl]; decide +kernel)]
    refine iteF ⟨_, rfl, rfl, _, rfl, ?_⟩
    rw [dec_str, decide_eq_false (by rw [hz, mk_tl]; decide +kernel)]
    refine iteF ⟨_, rfl, rfl, _, rfl, ?_⟩
    rw [dec_str, decide_eq_false (by rw [hz, mk_tl]; decide +kernel)]
    refine iteF ⟨_, rfl, rfl, _, rfl, ?_⟩
    rw [dec_str, decide_eq_true (mk_eq hz)]
    refine iteT ?_
    obtain ⟨dx4, fs4, j1, j2, j3, j4⟩ := g6.at_ ok (a + 1)
    refine ⟨_, rfl, x.p, C, dx4, fs4, _, rfl, j1, T.cl, T.f5, j2, _, _, rfl, rfl, dx4, fs4, j1, j3, ?_⟩
    rw [ec]
    generalize upd H1 x.p _ = H2 at j4 ⊢
    obtain ⟨dx5, u1, u2, u3, u4⟩ := j4.obj
    refine ⟨_, rfl, x.p, dx5, _, rfl, u4, by kernel_rfl, x, a + 1, op, X1, X2, _, fK, isKindName, rfl, TF.sK, ok, j4, hlt, fun y hy hg H3 R3 => ?_, fun hno => ?_⟩
    · rw [hz1] at hy
      obtain rfl := Option.some.inj hy
      have hlt2 := x.wd_lt hz1
      exact ⟨by show 2 ≤ sizeLine; decide, fun p hp => q1 _ rfl _ _ ⟨p, rfl, upd_same⟩ (by show a + 2 ≤ _; omega) (R3.new hp _)⟩
    · have := hno z hz1
      rw [hz2] at this
      cases this
  | @leaf _ _ z e h hnb hlf =>
    rw [hw] at h
    obtain rfl := Option.some.inj h
    rw [dec_str, decide_eq_false (mk_ne hnb.1)]
    refine iteF ⟨_, rfl, rfl, _, rfl, ?_⟩
    rw [dec_str, decide_eq_false (mk_ne hnb.2.1)]
    refine iteF ⟨_, rfl, rfl, _, rfl, ?_⟩
    rw [dec_str, decide_eq_false (mk_ne hnb.2.2.1)]
    refine iteF ⟨_, rfl, rfl, _, rfl, ?_⟩
    rw [dec_str, decide_eq_false (mk_ne hnb.2.2.2)]
    have wb := ok.ww kw (List.mem_of_getElem? hkw)
    refine iteF ⟨_, rfl, mk kw.1, rfl, by rw [mk_len]; omega, fun e' he v H2 s2 hv => ?_, fun hno => ?_⟩
    rotate_left
    · have e1 : lfE kw.1 = none := hno
      rw [hlf] at e1
      cases e1
    have he2 : lfE kw.1 = some e' := he
    rw [hlf] at he2
    obtain rfl := Option.some.inj he2
    have R2 := g6.same s2
    obtain ⟨dx4, fs4, j1, j2, j3, j4⟩ := R2.at_ ok (a + 1)
    have hnn : ∃ q, v = .ref q := by
      have hh := hv
      obtain ⟨y, hy⟩ := lfE_w hlf
      cases e with
      | num n => obtain ⟨p, e, _⟩ := hh; exact ⟨p, e⟩
      | txt n => obtain ⟨p, e, _⟩ := hh; exact ⟨p, e⟩
      | tru n => obtain ⟨p, e, _⟩ := hh; exact ⟨p, e⟩
      | non => obtain ⟨p, e, _⟩ := hh; exact ⟨p, e⟩
      | slf => obtain ⟨p, e, _⟩ := hh; exact ⟨p, e⟩
      | nam n => obtain ⟨p, e, _⟩ := hh; exact ⟨p, e⟩
      | fld n => obtain ⟨p, e, _⟩ := hh; exact ⟨p, e⟩
      | new n => obtain ⟨p, e, _⟩ := hh; exact ⟨p, e⟩
      | send r m es => obtain ⟨p, _, _, _, e, _⟩ := hh; exact ⟨p, e⟩
      | up m es => obtain ⟨p, _, _, e, _⟩ := hh; exact ⟨p, e⟩
      | lst es => obtain ⟨p, _, _, e, _⟩ := hh; exact ⟨p, e⟩
      | blk ps ss => obtain ⟨p, _, _, _, e, _⟩ := hh; exact ⟨p, e⟩
    obtain ⟨q, rfl⟩ := hnn
    refine ⟨_, rfl, rfl, _, rfl, ?_⟩
    rw [decide_eq_false (fun z => by cases z)]
    refine iteF ⟨_, rfl, x.p, C, dx4, fs4, _, rfl, j1, T.cl, T.f5, j2, _, _, rfl, rfl, dx4, fs4, j1, j3, ?_⟩
    rw [ec]
    obtain ⟨y, hy⟩ := lfE_w hlf
    refine ⟨_, rfl, q1 e rfl _ _ ?_ ?_ ?_⟩
    · obtain ⟨dx5, l5, l6, l7, i5⟩ := R2.obj
      refine hv.on_ fun b ys z => ?_
      rw [upd_ne (ne_of z i5 (by intro q; cases q))]
      exact z
    · show a + (wE e).length ≤ _
      rw [hy]
      exact hlt
    · show Rn C x _ (a + (wE e).length) _ _ _ (X3 ++ stW a (wE e))
      rw [hy]
      exact j4
  | @word _ _ z h hnb hlf =>
    rw [hw] at h
    obtain rfl := Option.some.inj h
    rw [dec_str, decide_eq_false (mk_ne hnb.1)]
    refine iteF ⟨_, rfl, rfl, _, rfl, ?_⟩
    rw [dec_str, decide_eq_false (mk_ne hnb.2.1)]
    refine iteF ⟨_, rfl, rfl, _, rfl, ?_⟩
    rw [dec_str, decide_eq_false (mk_ne hnb.2.2.1)]
    refine iteF ⟨_, rfl, rfl, _, rfl, ?_⟩
    rw [dec_str, decide_eq_false (mk_ne hnb.2.2.2)]
    have wb := ok.ww kw (List.mem_of_getElem? hkw)
    refine iteF ⟨_, rfl, mk kw.1, rfl, by rw [mk_len]; omega, fun e' he v H2 s2 hv => ?_, fun hno H2 s2 => ?_⟩
    · have e1 : lfE kw.1 = some e' := he
      rw [hlf] at e1
      cases e1
    have R2 := g6.same s2
    obtain ⟨dx4, u1, u2, u3, u4⟩ := R2.obj
    refine ⟨_, rfl, rfl, _, rfl, ?_⟩
    rw [decide_eq_true rfl]
    exact iteT ⟨_, rfl, x.p, dx4, _, rfl, u4, by kernel_rfl, x, a, op, X1, X2, _, _, kw, rfl, ok, R2, by decide +kernel, hkw, (q2 _ _ rfl).1 kw hkw⟩
/-! new_worth -/
def nNw (C CF : Addr) (d : Nat) : Sp := fun vs H Q E => ∃ (x : RX) (a op : Nat) (X1 X2 X3 : List V), vs = [.ref x.p] ∧ x.Ok ∧ Rn C x H a op X1 X2 X3 ∧ op + d = 12 ∧ a ≤ x.ws.length ∧ X3.length ≤ a ∧
  ((x.wd a ≠ some (tk ":=") ∧ BadAt CF x E a false) ∨ (∃ o, x.wd a = some (tk ":=") ∧ RE x.wd op (a + 1) o ∧ Asks C CF x op X1 X2 X3 AtE lE (fun e => stW (a + 1) (wE e)) (a + 1) o Q E))
theorem scNw : FnScope ["self"] ["self"] (defScope (rd 17)) := ⟨rfl, rfl, rfl, by decide +kernel, rfl, by decide +kernel, by decide +kernel⟩
theorem n_nw {D k : Nat} (hk : 7 ≤ k) (T : TxR K mg C) (Df : Dm K C "new_worth" "Reader.new_worth" (rd 17)) (M1 : M0 P w K mg base C 6 "skip" (nSkip C CF)) (M2 : M0 P w K mg base C k "expression" (nEx C CF D)) : M0 P w K mg base C (k + 1) "new_worth" (nNw C CF D) := by
  obtain ⟨f, fd, F, hm⟩ := Df.ex
  refine ⟨f, fd, ["self"], F.okX scNw (fun vs H Q E h => ?_) (fun cdv A0 outer s H vs Q E hr h => ?_), hm, F.binds (ps := ["self"]) fun _ _ _ _ _ _ us hl => match us, hl with | [_], _ => rfl⟩
  · obtain ⟨x, a, op, X1, X2, X3, rfl, _⟩ := h
    rfl
  obtain ⟨x, a, op, X1, X2, X3, rfl, ok, R, hop, ha, hX3, hcase⟩ := h
  refine ⟨_, pss_cons (ps_expr (pe_mm T.cl M1 hr (by omega) (passes_call (takes_of rfl rfl rfl rfl) fun _ _ _ _ h => h) (pv 0) (pa_cons pe_str pa_nil))) <|
    pss_one (ps_ret (pe_mm0 T.cl M2 hr (Nat.le_refl _) (passes_call (takes_of rfl rfl rfl rfl) fun _ _ _ _ h => h) (pv 0))), ?_⟩
  obtain ⟨dx, l1, l2, l3, h1⟩ := R.obj
  refine ⟨_, rfl, x.p, dx, _, rfl, h1, by kernel_rfl, x, a, op, X1, X2, X3, _, rfl, ok, R, ha, fun hy H1 R1 => ?_, fun hn => ?_⟩
  · rcases hcase with ⟨hno, _⟩ | ⟨o, hyes, hrel, q1, q2⟩
    · exact absurd hy hno
    · obtain ⟨dx2, i1, i2, i3, i4⟩ := R1.obj
      have hlt := x.wd_lt hyes
      exact ⟨_, rfl, x.p, dx2, _, rfl, i4, by kernel_rfl, x, a + 1, op, X1, X2, X3, o, rfl, ok, R1, hop, hlt, by omega, hrel, q1, q2⟩
  · rcases hcase with ⟨_, hb⟩ | ⟨o, hyes, _⟩
    · exact hb
    · exact absurd hyes hn
end
end My
set_option Elab.async false
set_option linter.all false
set_option maxRecDepth 100000
set_option maxHeartbeats 4000000
namespace My
open PySem L2 SS
section
variable {P : Program} {w : World} {K : PySem.W.Frag} {mg : Str → Option Value} {base : Heap} {S CF fI fS C fF fK fM fX : Addr}
theorem lenX {X3 : List V} {a n : Nat} (h : X3.length ≤ a) (ws : List WB) (e : ws.length = n) : (X3 ++ stW a ws).length ≤ a + n := by
  have := stW_len ws a
  rw [List.length_append]
  omega
/-! choice -/
def nCh (C CF : Addr) (D : Nat) : Sp := fun vs H Q E => ∃ (x : RX) (a op : Nat) (X1 X2 X3 : List V), vs = [.ref x.p] ∧ x.Ok ∧ Rn C x H a op X1 X2 X3 ∧ op + D = 12 ∧ a < x.ws.length ∧ X3.length ≤ a + 1 ∧
  Opens C CF x D op X1 X2 X3 AtS wS (RIf x.wd (op + 1) (a + 1)) a Q E
theorem scCh : FnScope ["self", "test", "first", "second"] ["self"] (defScope (rd 18)) := ⟨rfl, rfl, rfl, by decide +kernel, rfl, by decide +kernel, by decide +kernel⟩
theorem n_ch {D k : Nat} (hk : 7 ≤ k) (T : TxR K mg C) (Df : Dm K C "choice" "Reader.choice" (rd 18)) (M1 : M0 P w K mg base C 6 "skip" (nSkip C CF)) (M3 : M0 P w K mg base C 5 "enter" (nEnter C CF)) (M4 : M0 P w K mg base C 1 "leave" (nLeave C))
    (M5 : M0 P w K mg base C k "expression" (pEx C CF D)) (M6 : M0 P w K mg base C k "statements" (pSs C CF D)) : M0 P w K mg base C (k + 1) "choice" (nCh C CF D) := by
  obtain ⟨f, fd, F, hm⟩ := Df.ex
  refine ⟨f, fd, ["self"], F.okX scCh (fun vs H Q E h => ?_) (fun cdv A0 outer s H vs Q E hr h => ?_), hm, F.binds (ps := ["self"]) fun _ _ _ _ _ _ us hl => match us, hl with | [_], _ => rfl⟩
  · obtain ⟨x, a, op, X1, X2, X3, rfl, _⟩ := h
    rfl
  obtain ⟨x, a, op, X1, X2, X3, rfl, ok, R, hop, ha, hX3, hcase⟩ := h
  refine ⟨_, pss_cons (ps_expr (pe_mm0 T.cl M3 hr (by omega) (passes_call (takes_of rfl rfl rfl rfl) fun _ _ _ _ h => h) (pv 0))) <|
    pss_cons (ps_set (i := 1) scCh.nd rfl (Or.inl rfl) (pe_mm0 T.cl M5 hr (Nat.le_refl _) (passes_call (takes_of rfl rfl rfl rfl) fun _ _ _ _ h => h) (pv 0))) <|
    pss_cons (ps_expr (pe_mm T.cl M1 hr (by omega) (passes_call (takes_of rfl rfl rfl rfl) fun _ _ _ _ h => h) (pv 0) (pa_cons pe_str pa_nil))) <|
    pss_cons (ps_set (i := 2) scCh.nd rfl (Or.inl rfl) (pe_mm T.cl M6 hr (Nat.le_refl _) (passes_call (takes_of rfl rfl rfl rfl) fun _ _ _ _ h => h) (pv 0) (pa_cons pe_str pa_nil))) <|
    pss_cons (ps_set (i := 3) scCh.nd rfl (Or.inl rfl) (pe_mm T.cl M6 hr (Nat.le_refl _) (passes_call (takes_of rfl rfl rfl rfl) fun _ _ _ _ h => h) (pv 0) (pa_cons pe_str pa_nil))) <|
    pss_cons (ps_expr (pe_mm0 T.cl M4 hr (by omega) (passes_call (takes_of rfl rfl rfl rfl) fun _ _ _ _ h => h) (pv 0))) <|
    pss_one (ps_ret (pe_tup (pa_cons pe_str (pa_cons (pv 1) (pa_cons (pv 2) (pa_cons (pv 3) pa_nil)))))), ?_⟩
  obtain ⟨dx, l1, l2, l3, h1⟩ := R.obj
  refine ⟨_, rfl, x.p, dx, _, rfl, h1, by kernel_rfl, x, a, op, X1, X2, X3, rfl, ok, R, ha, by omega, fun hlt H1 R1 => ?_, fun he => ?_⟩
  rotate_left
  · rcases hcase with ⟨_, hb⟩ | ⟨d, o, hd, _⟩
    · exact hb
    · omega
  rcases hcase with ⟨h0, _⟩ | ⟨d, o, rfl, hrel, q1, q2⟩
  · omega
  obtain ⟨dx2, i1, i2, i3, i4⟩ := R1.obj
  cases hrel with
  | @eB _ _ i dp hr1 =>
    refine ⟨_, rfl, x.p, dx2, _, rfl, i4, by kernel_rfl, x, a + 1, op + 1, X1, X2, X3, _, rfl, ok, R1, by omega, ha, hX3, hr1, ⟨fun e he => (nomatch he), fun i' d' he => ?_⟩⟩
    cases he
    exact q2 _ _ rfl
  | @tB _ _ e hr1 hno =>
    refine ⟨_, rfl, x.p, dx2, _, rfl, i4, by kernel_rfl, x, a + 1, op + 1, X1, X2, X3, _, rfl, ok, R1, by omega, ha, hX3, hr1, ⟨fun e' he v H2 hv hle R2 => ?_, fun i' d' he => (nomatch he)⟩⟩
    cases he
    obtain ⟨dx4, u1, u2, u3, u4⟩ := R2.obj
    exact ⟨_, rfl, x.p, dx4, _, rfl, u4, by kernel_rfl, x, _, op + 1, X1, X2, _, _, rfl, ok, R2, hle, fun hy => absurd hy hno, fun _ => q2 _ _ rfl⟩
  | @aB _ _ i dp e hr1 hth hss =>
    refine ⟨_, rfl, x.p, dx2, _, rfl, i4, by kernel_rfl, x, a + 1, op + 1, X1, X2, X3, _, rfl, ok, R1, by omega, ha, hX3, hr1, ⟨fun e' he v H2 hv hle R2 => ?_, fun i' d' he => (nomatch he)⟩⟩
    cases he
    obtain ⟨dx4, u1, u2, u3, u4⟩ := R2.obj
    refine ⟨_, rfl, x.p, dx4, _, rfl, u4, by kernel_rfl, x, _, op + 1, X1, X2, _, _, rfl, ok, R2, hle, fun hy H3 R3 => ?_, fun hn => absurd hth hn⟩
    obtain ⟨dx5, v1, v2, v3, v4⟩ := R3.obj
    have hlt2 := x.wd_lt hth
    have hXl := lenX hX3 (wE e) rfl
    refine ⟨_, rfl, x.p, dx5, _, rfl, v4, by kernel_rfl, x, a + 1 + lE e + 1, op + 1, X1, X2, _, _, _, rfl, ok, R3, by omega, hlt2, (show (X3 ++ stW (a + 1) (wE e)).length ≤ a + 1 + lE e + 1 by (have : lE e = (wE e).length := rfl); omega), hss, ⟨fun e' he => (nomatch he), fun i' d' he => ?_⟩⟩
    cases he
    exact q2 _ _ rfl
  | @mk _ _ e sx o' hr1 hth hs1 hs2 =>
    refine ⟨_, rfl, x.p, dx2, _, rfl, i4, by kernel_rfl, x, a + 1, op + 1, X1, X2, X3, _, rfl, ok, R1, by omega, ha, hX3, hr1, ⟨fun e' he v H2 hv hle R2 => ?_, fun i' d' he => (nomatch he)⟩⟩
    cases he
    obtain ⟨G2, s2, t2, ok2, R2'⟩ := R2.gr ok
    have hv2 := hv.on_ t2
    obtain ⟨dx4, u1, u2, u3, u4⟩ := R2'.obj
    refine ⟨_, rfl, x.p, dx4, _, rfl, u4, by kernel_rfl, x.on G2, _, op + 1, X1, X2, _, _, rfl, ok2, R2', hle, fun hy H3 R3 => ?_, fun hn => absurd hth hn⟩
    obtain ⟨dx5, v1, v2, v3, v4⟩ := R3.obj
    have hlt2 := x.wd_lt hth
    have hXl := lenX hX3 (wE e) rfl
    have hXl' : (X3 ++ stW (a + 1) (wE e)).length ≤ a + 1 + lE e + 1 := by (have : lE e = (wE e).length := rfl); omega
    refine ⟨_, rfl, x.p, dx5, _, rfl, v4, by kernel_rfl, x.on G2, a + 1 + lE e + 1, op + 1, X1, X2, _, _, _, rfl, ok2, R3, by omega, hlt2, hXl', hs1, ⟨fun e' he w1 H4 hw1 hle4 R4 => ?_, fun i' d' he => (nomatch he)⟩⟩
    cases he
    obtain ⟨q, vs, rfl, hq, hat⟩ := hw1
    have hv4 := hv2.on_ (same_tups R4.1)
    obtain ⟨G4, s4, t4, ok4, R4'⟩ := R4.gr ok2
    have hv5 := hv4.on_ t4
    have hq5 := t4 _ _ hq
    have hat5 := hat.on_ t4
    obtain ⟨dx6, y1, y2, y3, y4⟩ := R4'.obj
    have hle4' : a + 1 + lE e + 1 + (lSs sx + 1) ≤ x.ws.length := hle4
    have hXl6 := lenX hXl' (wSs sx) rfl
    refine ⟨_, rfl, x.p, dx6, _, rfl, y4, by kernel_rfl, (x.on G2).on G4, a + 1 + lE e + 1 + (lSs sx + 1), op + 1, X1, X2, _, _, o', rfl, ok4, R4', by omega, hle4', (show (X3 ++ stW (a + 1) (wE e) ++ stW (a + 1 + lE e + 1) (wSs sx)).length ≤ a + 1 + lE e + 1 + (lSs sx + 1) by (have : lSs sx = (wSs sx).length := rfl); omega), hs2, ⟨fun es he w2 H6 hw2 hle6 R6 => ?_, fun i dp he => ?_⟩⟩
    rotate_left
    · subst he
      exact ((q2 _ _ rfl).on s2).on s4
    subst he
    obtain ⟨q', vs', rfl, hq', hat'⟩ := hw2
    have hv7 := hv5.on_ (same_tups R6.1)
    have hq7 := R6.1 _ _ hq5
    have hat7 := hat5.on_ (same_tups R6.1)
    obtain ⟨G6, s6, t6, ok6, R6'⟩ := R6.gr ok4
    obtain ⟨dx8, y5, y6, y7, y8⟩ := R6'.obj
    refine ⟨_, rfl, x.p, dx8, _, rfl, y8, by kernel_rfl, ((x.on G2).on G4).on G6, _, op, X1, X2, _, rfl, ok6, R6', fun H7 R7 => ?_⟩
    have tq := t6.trans (same_tups R7.1)
    refine ⟨_, rfl, _, rfl, _, rfl, by show 4 ≤ sizeLine; decide, fun p hp => ?_⟩
    have t5 := tups_new hp (.tup [S_ "if", v, .ref q, .ref q'])
    have hln : (wS (.iff e sx es)).length = 1 + lE e + 1 + (lSs sx + 1) + (lSs es + 1) := by
      show _ = 1 + (wE e).length + 1 + ((wSs sx).length + 1) + ((wSs es).length + 1)
      simp [wS]; omega
    have hle7 : a + 1 + lE e + 1 + (lSs sx + 1) + (lSs es + 1) ≤ x.ws.length := hle6
    refine q1 _ rfl _ _ ⟨p, v, q, vs, q', vs', rfl, upd_same, t5 _ _ (tq _ _ hq7), t5 _ _ (tq _ _ hq'), (hv7.on_ tq).on_ t5, (hat7.on_ tq).on_ t5, (hat'.on_ tq).on_ t5⟩ (by show a + (wS (.iff e sx es)).length ≤ _; rw [hln]; omega) ?_
    have e1 : a + (wS (.iff e sx es)).length = a + 1 + lE e + 1 + (lSs sx + 1) + (lSs es + 1) := by rw [hln]; omega
    have e2 : stW (a + 1) (wS (.iff e sx es)).tail = stW (a + 1) (wE e) ++ stW (a + 1 + lE e + 1) (wSs sx) ++ stW (a + 1 + lE e + 1 + (lSs sx + 1)) (wSs es) := by
      show stW (a + 1) (wE e ++ (tk "then", false) :: (wSs sx ++ (tk "else", false) :: (wSs es ++ [(tk "end", false)]))) = _
      rw [stW_app, stW, stW_app, stW, stW_app]
      simp [stW, List.append_assoc, Nat.add_assoc]
    show Rn C x _ (a + (wS (.iff e sx es)).length) _ _ _ (_ ++ stW (a + 1) (wS (.iff e sx es)).tail)
    rw [e1, e2, ← List.append_assoc, ← List.append_assoc]
    exact (((R7.back (x := (x.on G2).on G4) s6).back (x := x.on G2) s4).back s2).new hp _
/-! loop -/
def nLp (C CF : Addr) (D : Nat) : Sp := fun vs H Q E => ∃ (x : RX) (a op : Nat) (X1 X2 X3 : List V), vs = [.ref x.p] ∧ x.Ok ∧ Rn C x H a op X1 X2 X3 ∧ op + D = 12 ∧ a < x.ws.length ∧ X3.length ≤ a + 1 ∧
  Opens C CF x D op X1 X2 X3 AtS wS (RWh x.wd (op + 1) (a + 1)) a Q E
theorem scLp : FnScope ["self", "test", "statements"] ["self"] (defScope (rd 19)) := ⟨rfl, rfl, rfl, by decide +kernel, rfl, by decide +kernel, by decide +kernel⟩
theorem n_lp {D k : Nat} (hk : 7 ≤ k) (T : TxR K mg C) (Df : Dm K C "loop" "Reader.loop" (rd 19)) (M1 : M0 P w K mg base C 6 "skip" (nSkip C CF)) (M3 : M0 P w K mg base C 5 "enter" (nEnter C CF)) (M4 : M0 P w K mg base C 1 "leave" (nLeave C))
    (M5 : M0 P w K mg base C k "expression" (pEx C CF D)) (M6 : M0 P w K mg base C k "statements" (pSs C CF D)) : M0 P w K mg base C (k + 1) "loop" (nLp C CF D) := by
  obtain ⟨f, fd, F, hm⟩ := Df.ex
  refine ⟨f, fd, ["self"], F.okX scLp (fun vs H Q E h => ?_) (fun cdv A0 outer s H vs Q E hr h => ?_), hm, F.binds (ps := ["self"]) fun _ _ _ _ _ _ us hl => match us, hl with | [_], _ => rfl⟩
  · obtain ⟨x, a, op, X1, X2, X3, rfl, _⟩ := h
    rfl
  obtain ⟨x, a, op, X1, X2, X3, rfl, ok, R, hop, ha, hX3, hcase⟩ := h
  refine ⟨_, pss_cons (ps_expr (pe_mm0 T.cl M3 hr (by omega) (passes_call (takes_of rfl rfl rfl rfl) fun _ _ _ _ h => h) (pv 0))) <|
    pss_cons (ps_set (i := 1) scLp.nd rfl (Or.inl rfl) (pe_mm0 T.cl M5 hr (Nat.le_refl _) (passes_call (takes_of rfl rfl rfl rfl) fun _ _ _ _ h => h) (pv 0))) <|
    pss_cons (ps_expr (pe_mm T.cl M1 hr (by omega) (passes_call (takes_of rfl rfl rfl rfl) fun _ _ _ _ h => h) (pv 0) (pa_cons pe_str pa_nil))) <|
    pss_cons (ps_set (i := 2) scLp.nd rfl (Or.inl rfl) (pe_mm T.cl M6 hr (Nat.le_refl _) (passes_call (takes_of rfl rfl rfl rfl) fun _ _ _ _ h => h) (pv 0) (pa_cons pe_str pa_nil))) <|
    pss_cons (ps_expr (pe_mm0 T.cl M4 hr (by omega) (passes_call (takes_of rfl rfl rfl rfl) fun _ _ _ _ h => h) (pv 0))) <|
    pss_one (ps_ret (pe_tup (pa_cons pe_str (pa_cons (pv 1) (pa_cons (pv 2) pa_nil))))), ?_⟩
  obtain ⟨dx, l1, l2, l3, h1⟩ := R.obj
  refine ⟨_, rfl, x.p, dx, _, rfl, h1, by kernel_rfl, x, a, op, X1, X2, X3, rfl, ok, R, ha, by omega, fun hlt H1 R1 => ?_, fun he => ?_⟩
  rotate_left
  · rcases hcase with ⟨_, hb⟩ | ⟨d, o, hd, _⟩
    · exact hb
    · omega
  rcases hcase with ⟨h0, _⟩ | ⟨d, o, rfl, hrel, q1, q2⟩
  · omega
  obtain ⟨dx2, i1, i2, i3, i4⟩ := R1.obj
  cases hrel with
  | @eB _ _ i dp hr1 =>
    refine ⟨_, rfl, x.p, dx2, _, rfl, i4, by kernel_rfl, x, a + 1, op + 1, X1, X2, X3, _, rfl, ok, R1, by omega, ha, hX3, hr1, ⟨fun e he => (nomatch he), fun i' d' he => ?_⟩⟩
    cases he
    exact q2 _ _ rfl
  | @tB _ _ e hr1 hno =>
    refine ⟨_, rfl, x.p, dx2, _, rfl, i4, by kernel_rfl, x, a + 1, op + 1, X1, X2, X3, _, rfl, ok, R1, by omega, ha, hX3, hr1, ⟨fun e' he v H2 hv hle R2 => ?_, fun i' d' he => (nomatch he)⟩⟩
    cases he
    obtain ⟨dx4, u1, u2, u3, u4⟩ := R2.obj
    exact ⟨_, rfl, x.p, dx4, _, rfl, u4, by kernel_rfl, x, _, op + 1, X1, X2, _, _, rfl, ok, R2, hle, fun hy => absurd hy hno, fun _ => q2 _ _ rfl⟩
  | @mk _ _ e o' hr1 hth hs2 =>
    refine ⟨_, rfl, x.p, dx2, _, rfl, i4, by kernel_rfl, x, a + 1, op + 1, X1, X2, X3, _, rfl, ok, R1, by omega, ha, hX3, hr1, ⟨fun e' he v H2 hv hle R2 => ?_, fun i' d' he => (nomatch he)⟩⟩
    cases he
    obtain ⟨G2, s2, t2, ok2, R2'⟩ := R2.gr ok
    have hv2 := hv.on_ t2
    obtain ⟨dx4, u1, u2, u3, u4⟩ := R2'.obj
    refine ⟨_, rfl, x.p, dx4, _, rfl, u4, by kernel_rfl, x.on G2, _, op + 1, X1, X2, _, _, rfl, ok2, R2', hle, fun hy H3 R3 => ?_, fun hn => absurd hth hn⟩
    obtain ⟨dx5, v1, v2, v3, v4⟩ := R3.obj
    have hlt2 := x.wd_lt hth
    have hXl := lenX hX3 (wE e) rfl
    have hXl' : (X3 ++ stW (a + 1) (wE e)).length ≤ a + 1 + lE e + 1 := by (have : lE e = (wE e).length := rfl); omega
    refine ⟨_, rfl, x.p, dx5, _, rfl, v4, by kernel_rfl, x.on G2, a + 1 + lE e + 1, op + 1, X1, X2, _, _, o', rfl, ok2, R3, by omega, hlt2, hXl', hs2, ⟨fun es he w2 H6 hw2 hle6 R6 => ?_, fun i dp he => ?_⟩⟩
    rotate_left
    · subst he
      exact (q2 _ _ rfl).on s2
    subst he
    obtain ⟨q', vs', rfl, hq', hat'⟩ := hw2
    have hv7 := hv2.on_ (same_tups R6.1)
    obtain ⟨G6, s6, t6, ok6, R6'⟩ := R6.gr ok2
    obtain ⟨dx8, y5, y6, y7, y8⟩ := R6'.obj
    refine ⟨_, rfl, x.p, dx8, _, rfl, y8, by kernel_rfl, (x.on G2).on G6, _, op, X1, X2, _, rfl, ok6, R6', fun H7 R7 => ?_⟩
    have tq := t6.trans (same_tups R7.1)
    refine ⟨_, rfl, _, rfl, by show 3 ≤ sizeLine; decide, fun p hp => ?_⟩
    have t5 := tups_new hp (.tup [S_ "while", v, .ref q'])
    have hln : (wS (.whl e es)).length = 1 + lE e + 1 + (lSs es + 1) := by
      show _ = 1 + (wE e).length + 1 + ((wSs es).length + 1)
      simp [wS]; omega
    have hle7 : a + 1 + lE e + 1 + (lSs es + 1) ≤ x.ws.length := hle6
    refine q1 _ rfl _ _ ⟨p, v, q', vs', rfl, upd_same, t5 _ _ (tq _ _ hq'), (hv7.on_ tq).on_ t5, (hat'.on_ tq).on_ t5⟩ (by show a + (wS (.whl e es)).length ≤ _; rw [hln]; omega) ?_
    have e1 : a + (wS (.whl e es)).length = a + 1 + lE e + 1 + (lSs es + 1) := by rw [hln]; omega
    have e2 : stW (a + 1) (wS (.whl e es)).tail = stW (a + 1) (wE e) ++ stW (a + 1 + lE e + 1) (wSs es) := by
      show stW (a + 1) (wE e ++ (tk "then", false) :: (wSs es ++ [(tk "end", false)])) = _
      rw [stW_app, stW, stW_app]
      simp [stW, Nat.add_assoc]
    show Rn C x _ (a + (wS (.whl e es)).length) _ _ _ (_ ++ stW (a + 1) (wS (.whl e es)).tail)
    rw [e1, e2, ← List.append_assoc]
    exact ((R7.back (x := x.on G2) s6).back s2).new hp _
/-! attempt -/
def nAt (C CF : Addr) (D : Nat) : Sp := fun vs H Q E => ∃ (x : RX) (a op : Nat) (X1 X2 X3 : List V), vs = [.ref x.p] ∧ x.Ok ∧ Rn C x H a op X1 X2 X3 ∧ op + D = 12 ∧ a < x.ws.length ∧ X3.length ≤ a + 1 ∧
  Opens C CF x D op X1 X2 X3 AtS wS (RTr x.wd (op + 1) (a + 1)) a Q E
theorem scAt : FnScope ["self", "first", "name", "second"] ["self"] (defScope (rd 20)) := ⟨rfl, rfl, rfl, by decide +kernel, rfl, by decide +kernel, by decide +kernel⟩
theorem n_at {D k : Nat} (hk : 7 ≤ k) (T : TxR K mg C) (TF : TxF mg fF fK fM fX) (Df : Dm K C "attempt" "Reader.attempt" (rd 20)) (M1 : M0 P w K mg base C 6 "take" (nTake C CF (Sq fF fK fM fX))) (M3 : M0 P w K mg base C 5 "enter" (nEnter C CF)) (M4 : M0 P w K mg base C 1 "leave" (nLeave C))
    (M6 : M0 P w K mg base C k "statements" (pSs C CF D)) : M0 P w K mg base C (k + 1) "attempt" (nAt C CF D) := by
  obtain ⟨f, fd, F, hm⟩ := Df.ex
  refine ⟨f, fd, ["self"], F.okX scAt (fun vs H Q E h => ?_) (fun cdv A0 outer s H vs Q E hr h => ?_), hm, F.binds (ps := ["self"]) fun _ _ _ _ _ _ us hl => match us, hl with | [_], _ => rfl⟩
  · obtain ⟨x, a, op, X1, X2, X3, rfl, _⟩ := h
    rfl
  obtain ⟨x, a, op, X1, X2, X3, rfl, ok, R, hop, ha, hX3, hcase⟩ := h
  refine ⟨_, pss_cons (ps_expr (pe_mm0 T.cl M3 hr (by omega) (passes_call (takes_of rfl rfl rfl rfl) fun _ _ _ _ h => h) (pv 0))) <|
    pss_cons (ps_set (i := 1) scAt.nd rfl (Or.inl rfl) (pe_mm T.cl M6 hr (Nat.le_refl _) (passes_call (takes_of rfl rfl rfl rfl) fun _ _ _ _ h => h) (pv 0) (pa_cons pe_str pa_nil))) <|
    pss_cons (ps_set (i := 2) scAt.nd rfl (Or.inl rfl) (pe_mm T.cl M1 hr (by omega) (passes_call (takes_of rfl rfl rfl rfl) fun _ _ _ _ h => h) (pv 0) (pa_cons (pe_glob (v := .ref fF) (by rfl) TF.gF rfl) pa_nil))) <|
    pss_cons (ps_set (i := 3) scAt.nd rfl (Or.inl rfl) (pe_mm T.cl M6 hr (Nat.le_refl _) (passes_call (takes_of rfl rfl rfl rfl) fun _ _ _ _ h => h) (pv 0) (pa_cons pe_str pa_nil))) <|
    pss_cons (ps_expr (pe_mm0 T.cl M4 hr (by omega) (passes_call (takes_of rfl rfl rfl rfl) fun _ _ _ _ h => h) (pv 0))) <|
    pss_one (ps_ret (pe_tup (pa_cons pe_str (pa_cons (pv 1) (pa_cons (pv 2) (pa_cons (pv 3) pa_nil)))))), ?_⟩
  obtain ⟨dx, l1, l2, l3, h1⟩ := R.obj
  refine ⟨_, rfl, x.p, dx, _, rfl, h1, by kernel_rfl, x, a, op, X1, X2, X3, rfl, ok, R, ha, by omega, fun hlt H1 R1 => ?_, fun he => ?_⟩
  rotate_left
  · rcases hcase with ⟨_, hb⟩ | ⟨d, o, hd, _⟩
    · exact hb
    · omega
  rcases hcase with ⟨h0, _⟩ | ⟨d, o, rfl, hrel, q1, q2⟩
  · omega
  obtain ⟨dx2, i1, i2, i3, i4⟩ := R1.obj
  cases hrel with
  | @aB _ _ i dp hr1 =>
    refine ⟨_, rfl, x.p, dx2, _, rfl, i4, by kernel_rfl, x, a + 1, op + 1, X1, X2, X3, _, _, rfl, ok, R1, by omega, ha, hX3, hr1, ⟨fun e he => (nomatch he), fun i' d' he => ?_⟩⟩
    cases he
    exact q2 _ _ rfl
  | @wB _ _ sx hr1 hno =>
    refine ⟨_, rfl, x.p, dx2, _, rfl, i4, by kernel_rfl, x, a + 1, op + 1, X1, X2, X3, _, _, rfl, ok, R1, by omega, ha, hX3, hr1, ⟨fun e' he v H2 hv hle R2 => ?_, fun i' d' he => (nomatch he)⟩⟩
    cases he
    obtain ⟨dx4, u1, u2, u3, u4⟩ := R2.obj
    exact ⟨_, rfl, x.p, dx4, _, rfl, u4, by kernel_rfl, x, a + 1 + (lSs sx + 1), op + 1, X1, X2, _, fF, isFree, rfl, Sq_F, ok, R2, hle, fun y hy hg => (by rw [hno y hy] at hg; cases hg), fun _ => q2 _ _ rfl⟩
  | @mk _ _ sx wd o' hr1 hw1 hw2 hs2 =>
    refine ⟨_, rfl, x.p, dx2, _, rfl, i4, by kernel_rfl, x, a + 1, op + 1, X1, X2, X3, _, _, rfl, ok, R1, by omega, ha, hX3, hr1, ⟨fun e' he v H2 hv hle R2 => ?_, fun i' d' he => (nomatch he)⟩⟩
    cases he
    obtain ⟨q, vs, rfl, hq, hat⟩ := hv
    obtain ⟨G2, s2, t2, ok2, R2'⟩ := R2.gr ok
    have hq2 := t2 _ _ hq
    have hat2 := hat.on_ t2
    obtain ⟨dx4, u1, u2, u3, u4⟩ := R2'.obj
    refine ⟨_, rfl, x.p, dx4, _, rfl, u4, by kernel_rfl, x.on G2, a + 1 + (lSs sx + 1), op + 1, X1, X2, _, fF, isFree, rfl, Sq_F, ok2, R2', hle, fun y hy hg H3 R3 => ?_, fun hno => ?_⟩
    rotate_left
    · have := hno wd hw1
      rw [hw2] at this
      cases this
    have hlt2 := x.wd_lt hw1
    have hy2 : x.wd (a + 1 + lSs sx + 1) = some y := hy
    rw [hw1] at hy2
    obtain rfl := Option.some.inj hy2
    obtain ⟨dx5, v1, v2, v3, v4⟩ := R3.obj
    have hXl := lenX hX3 (wSs sx) rfl
    have hXl' : (X3 ++ stW (a + 1) (wSs sx)).length ≤ a + 1 + (lSs sx + 1) + 1 := by (have : lSs sx = (wSs sx).length := rfl); omega
    refine ⟨_, rfl, x.p, dx5, _, rfl, v4, by kernel_rfl, x.on G2, a + 1 + (lSs sx + 1) + 1, op + 1, X1, X2, _, _, o', rfl, ok2, R3, by omega, hlt2, hXl', hs2, ⟨fun es he w2 H6 hw2 hle6 R6 => ?_, fun i dp he => ?_⟩⟩
    rotate_left
    · subst he
      exact (q2 _ _ rfl).on s2
    subst he
    obtain ⟨q', vs', rfl, hq', hat'⟩ := hw2
    have hq7 := R6.1 _ _ hq2
    have hat7 := hat2.on_ (same_tups R6.1)
    obtain ⟨G6, s6, t6, ok6, R6'⟩ := R6.gr ok2
    obtain ⟨dx8, y5, y6, y7, y8⟩ := R6'.obj
    refine ⟨_, rfl, x.p, dx8, _, rfl, y8, by kernel_rfl, (x.on G2).on G6, _, op, X1, X2, _, rfl, ok6, R6', fun H7 R7 => ?_⟩
    have tq := t6.trans (same_tups R7.1)
    refine ⟨_, rfl, _, rfl, _, rfl, by show 4 ≤ sizeLine; decide, fun p hp => ?_⟩
    have t5 := tups_new hp (.tup [S_ "try", .ref q, .str (mk wd), .ref q'])
    have hln : (wS (.tri sx wd es)).length = 1 + (lSs sx + 1) + 1 + (lSs es + 1) := by
      show _ = 1 + ((wSs sx).length + 1) + 1 + ((wSs es).length + 1)
      simp [wS]; omega
    have hle7 : a + 1 + (lSs sx + 1) + 1 + (lSs es + 1) ≤ x.ws.length := hle6
    refine q1 _ rfl _ _ ⟨p, q, vs, q', vs', rfl, upd_same, t5 _ _ (tq _ _ hq7), t5 _ _ (tq _ _ hq'), (hat7.on_ tq).on_ t5, (hat'.on_ tq).on_ t5⟩ (by show a + (wS (.tri sx wd es)).length ≤ _; rw [hln]; omega) ?_
    have e1 : a + (wS (.tri sx wd es)).length = a + 1 + (lSs sx + 1) + 1 + (lSs es + 1) := by rw [hln]; omega
    have e2 : stW (a + 1) (wS (.tri sx wd es)).tail = stW (a + 1) (wSs sx) ++ stW (a + 1 + (lSs sx + 1) + 1) (wSs es) := by
      show stW (a + 1) (wSs sx ++ (tk "taken", false) :: (wd, false) :: (wSs es ++ [(tk "end", false)])) = _
      rw [stW_app, stW, stW, stW_app]
      simp [stW, Nat.add_assoc]
    show Rn C x _ (a + (wS (.tri sx wd es)).length) _ _ _ (_ ++ stW (a + 1) (wS (.tri sx wd es)).tail)
    rw [e1, e2, ← List.append_assoc]
    exact ((R7.back (x := x.on G2) s6).back s2).new hp _
end
end My
set_option Elab.async false
set_option linter.all false
set_option maxRecDepth 100000
set_option maxHeartbeats 4000000
namespace My
open PySem L2 SS
theorem pl_cases_ {k : T} (h : isPl k = true) : k = tk "do" ∨ k = tk "say" ∨ k = tk "return" ∨ k = tk "raise" := by
  unfold isPl inS at h
  have e : ∀ z : Str, (z == mk k) = true → k = tl z := fun z hz => by rw [eq_of_beq hz]
  simp only [List.any_cons, List.any_nil, Bool.or_false, Bool.or_eq_true] at h
  rcases h with h | h | h | h
  · exact .inl (e _ h)
  · exact .inr (.inl (e _ h))
  · exact .inr (.inr (.inl (e _ h)))
  · exact .inr (.inr (.inr (e _ h)))
theorem pl_head {z : T} (h : isPl z = true) : z.head? ≠ some 64 := by
  rcases pl_cases_ h with h | h | h | h <;> (rw [h]; decide +kernel)
theorem at_not {z : T} (h : z.head? = some 64) : isPl z = false ∧ ¬ mk z = Str.ofString "if" ∧ ¬ mk z = Str.ofString "while" ∧ ¬ mk z = Str.ofString "try" := by
  refine ⟨?_, fun e => ?_, fun e => ?_, fun e => ?_⟩
  · cases q : isPl z with
    | false => rfl
    | true => exact absurd h (pl_head q)
  all_goals
    have e2 : z = tl _ := congrArg tl e
    rw [e2] at h
    revert h
    decide +kernel
def PLq : List Str := ["do", "say", "return", "raise"]
section
variable {P : Program} {w : World} {K : PySem.W.Frag} {mg : Str → Option Value} {base : Heap} {S CF fI fS C fF fK fM fX : Addr}
theorem scSt : FnScope ["self", "word"] ["self"] (defScope (rd 16)) := ⟨rfl, rfl, rfl, by decide +kernel, rfl, by decide +kernel, by decide +kernel⟩
theorem n_st {D k k2 : Nat} (hk : 7 ≤ k) (hk2 : k2 ≤ k) (T : TxR K mg C) (TF : TxF mg fF fK fM fX) (mPL : GT K mg "PLAIN_STATEMENTS" PLq) (Df : Dm K C "statement" "Reader.statement" (rd 16)) (M1 : M0 P w K mg base C 5 "word" (nWd C CF)) (M2 : M0 P w K mg base C 6 "take" (nTake C CF (Sq fF fK fM fX)))
    (M3 : M0 P w K mg base C k "expression" (nEx C CF D)) (M4 : M0 P w K mg base C k "new_worth" (nNw C CF D)) (M5 : M0 P w K mg base C k2 "choice" (nCh C CF D)) (M6 : M0 P w K mg base C k2 "loop" (nLp C CF D)) (M7 : M0 P w K mg base C k2 "attempt" (nAt C CF D)) : M0 P w K mg base C (k + 1) "statement" (nSt C CF D) := by
  obtain ⟨f, fd, F, hm⟩ := Df.ex
  refine ⟨f, fd, ["self"], F.okX scSt (fun vs H Q E h => ?_) (fun cdv A0 outer s H vs Q E hr h => ?_), hm, F.binds (ps := ["self"]) fun _ _ _ _ _ _ us hl => match us, hl with | [_], _ => rfl⟩
  · obtain ⟨x, a, op, X1, X2, X3, o, rfl, _⟩ := h
    rfl
  obtain ⟨x, a, op, X1, X2, X3, o, rfl, ok, R, hop, ha, hX3, hrel, q1, q2⟩ := h
  refine ⟨_, pss_cons (ps_set (i := 1) scSt.nd rfl (Or.inl rfl) (pe_mm0 T.cl M1 hr (by omega) (passes_call (takes_of rfl rfl rfl rfl) fun _ _ _ _ h => h) (pv 0))) <|
    pss_cons (ps_expr (pe_bm PySem.F.plainAttrs_list PySem.F.slot_list_append PySem.F.type_list_append mt_append (pe_fld (pv 0) rfl) (pa_cons (pe_fld (pv 0) rfl) pa_nil))) <|
    pss_cons (ps_if (pt_cmpR op_in_seq (pv 1) (pe_gt mPL) rfl) (pss_cons (ps_fldaug (pv 0) pe_int in_add) (pss_one (ps_ret (pe_tup (pa_cons (pv 1) (pa_cons (pe_mm0 T.cl M3 hr (Nat.le_refl _) (passes_call (takes_of rfl rfl rfl rfl) fun _ _ _ _ h => h) (pv 0)) pa_nil)))))) pss_nil) <|
    pss_cons (ps_if (pt_cmpR op_eq (pv 1) pe_str (nomark _)) (pss_one (ps_ret (pe_mm0 T.cl M5 hr hk2 (passes_call (takes_of rfl rfl rfl rfl) fun _ _ _ _ h => h) (pv 0)))) pss_nil) <|
    pss_cons (ps_if (pt_cmpR op_eq (pv 1) pe_str (nomark _)) (pss_one (ps_ret (pe_mm0 T.cl M6 hr hk2 (passes_call (takes_of rfl rfl rfl rfl) fun _ _ _ _ h => h) (pv 0)))) pss_nil) <|
    pss_cons (ps_if (pt_cmpR op_eq (pv 1) pe_str (nomark _)) (pss_one (ps_ret (pe_mm0 T.cl M7 hr hk2 (passes_call (takes_of rfl rfl rfl rfl) fun _ _ _ _ h => h) (pv 0)))) pss_nil) <|
    pss_cons (ps_if (pt_val (pe_m1 PySem.F.slot_str_startswith PySem.F.type_str_startswith mt_startswith (pv 1) pe_str)) (pss_one (ps_ret (pe_tup (pa_cons pe_str (pa_cons (pe_slice sl_str (pe_mm T.cl M2 hr (by omega) (passes_call (takes_of rfl rfl rfl rfl) fun _ _ _ _ h => h) (pv 0) (pa_cons (pe_glob (v := .ref fX) (by rfl) TF.gX rfl) pa_nil)) (po_some pe_int) po_none) (pa_cons (pe_mm0 T.cl M4 hr (Nat.le_refl _) (passes_call (takes_of rfl rfl rfl rfl) fun _ _ _ _ h => h) (pv 0)) pa_nil)))))) pss_nil) <|
    pss_one (ps_ret (pe_tup (pa_cons pe_str (pa_cons (pe_mm T.cl M2 hr (by omega) (passes_call (takes_of rfl rfl rfl rfl) fun _ _ _ _ h => h) (pv 0) (pa_cons (pe_glob (v := .ref fF) (by rfl) TF.gF rfl) pa_nil)) (pa_cons (pe_mm0 T.cl M4 hr (Nat.le_refl _) (passes_call (takes_of rfl rfl rfl rfl) fun _ _ _ _ h => h) (pv 0)) pa_nil))))), ?_⟩
  obtain ⟨dx, l1, l2, l3, h1⟩ := R.obj
  have oln := ok.ln
  refine ⟨_, rfl, x.p, dx, _, rfl, h1, by kernel_rfl, x, a, op, X1, X2, X3, rfl, ok, R, ha, fun kw hkw => ?_, fun hn => ?_⟩
  rotate_left
  · cases hrel with
    | stop h => exact (q2 _ _ rfl).2 hn
    | pl h _ _ => have := x.wd_lt h; omega
    | deep h _ => have := x.wd_lt h; omega
    | iff h _ _ => have := x.wd_lt h; omega
    | whl h _ _ => have := x.wd_lt h; omega
    | tri h _ _ => have := x.wd_lt h; omega
    | sfW h _ _ => have := x.wd_lt h; omega
    | sfS h _ _ _ => have := x.wd_lt h; omega
    | sfl h _ _ _ _ => have := x.wd_lt h; omega
    | stW h _ _ _ _ => have := x.wd_lt h; omega
    | stS h _ _ _ _ _ => have := x.wd_lt h; omega
    | set h _ _ _ _ _ _ => have := x.wd_lt h; omega
  have hw : x.wd a = some kw.1 := x.wd_of hkw
  have hlt := x.wd_lt hw
  have wb := ok.ww kw (List.mem_of_getElem? hkw)
  obtain ⟨dx2, fs, m3, g1, g2, g3, g4, g6⟩ := R.node (.int (a : Nat))
  refine ⟨_, rfl, x.p, C, dx2, fs, _, rfl, g1, T.cl, T.f9, g2, .inl ⟨rfl, _, SqL.of g4⟩, _, rfl, x.p, C, dx2, fs, _, rfl, g1, T.cl, T.f5, g3, m3, X3, _, rfl, rfl, g4, by rw [sizeLine_eq]; omega, ?_⟩
  generalize upd H m3 (.lst (X3 ++ [.int (a : Nat)])) = H1 at g6 ⊢
  have hX4 : (X3 ++ [V.int (a : Nat)]).length ≤ a + 1 := by rw [List.length_append]; simp only [List.length_cons, List.length_nil]; omega
  have conv : ∀ e : St_, (X3 ++ [V.int (a : Nat)]) ++ stW (a + 1) (wS e).tail = X3 ++ stW a (wS e) := fun e => by rw [stS, List.append_assoc]
  obtain ⟨dx3, i1, i2, i3, i4⟩ := g6.obj
  have ec : ((a : Nat) : Int) + 1 = ((a + 1 : Nat) : Int) := by omega
  have hin : inV (.str (mk kw.1)) (PLq.map V.str) = isPl kw.1 := by rw [inV_strs]; rfl
  refine ⟨_, rfl, fun pl hpl => ⟨pl, _, rfl, .inr hpl, rfl, flat_strs _, _, rfl, ?_⟩⟩
  rw [if_neg (by decide : ¬ false = true), hin]
  -- the tests ahead of @
  cases hrel with
  | stop h => rw [hw] at h; cases h
  | @pl _ _ kz o' h hp hr1 =>
    rw [hw] at h
    obtain rfl := Option.some.inj h
    rw [hp]
    refine iteT ?_
    obtain ⟨dx4, fs4, j1, j2, j3, j4⟩ := g6.at_ ok (a + 1)
    refine ⟨_, rfl, x.p, C, dx4, fs4, _, rfl, j1, T.cl, T.f5, j2, _, _, rfl, rfl, dx4, fs4, j1, j3, ?_⟩
    rw [ec]
    generalize upd H1 x.p _ = H2 at j4 ⊢
    obtain ⟨dx5, u1, u2, u3, u4⟩ := j4.obj
    refine ⟨_, rfl, _, rfl, x.p, dx5, _, rfl, u4, by kernel_rfl, x, a + 1, op, X1, X2, _, o', rfl, ok, j4, hop, hlt, hX4, hr1, ⟨fun e he v H3 hv hle R3 => ?_, fun i d he => ?_⟩⟩
    · subst he
      refine ⟨by show 2 ≤ sizeLine; decide, fun p hp => ?_⟩
      have hle' : a + 1 + lE e ≤ x.ws.length := hle
      have hln : (wS (.pl kw.1 e)).length = 1 + lE e := by show (wE e).length + 1 = 1 + (wE e).length; omega
      refine q1 _ rfl _ _ ⟨p, v, rfl, upd_same, hv.on_ (tups_new hp _)⟩ (by show a + (wS (.pl kw.1 e)).length ≤ _; rw [hln]; omega) ?_
      have e1 : a + (wS (.pl kw.1 e)).length = a + 1 + lE e := by rw [hln]; omega
      show Rn C x _ (a + (wS (.pl kw.1 e)).length) _ _ _ (X3 ++ stW a (wS (.pl kw.1 e)))
      rw [e1, ← conv]
      exact R3.new hp _
    · subst he
      exact q2 _ _ rfl
  | @deep _ z h ho =>
    have hD : D = 0 := by omega
    rw [hw] at h
    obtain rfl := Option.some.inj h
    have hb := q2 _ _ rfl
    rcases ho with hz | hz | hz
    · rw [hz, show isPl (tk "if") = false by decide +kernel]
      refine iteF ⟨_, rfl, rfl, _, rfl, ?_⟩
      rw [dec_str, decide_eq_true (mk_tl _)]
      exact iteT ⟨_, rfl, x.p, dx3, _, rfl, i4, by kernel_rfl, x, a, 12, X1, X2, _, rfl, ok, g6, hop, hlt, hX4, .inl ⟨hD, hb⟩⟩
    · rw [hz, show isPl (tk "while") = false by decide +kernel]
      refine iteF ⟨_, rfl, rfl, _, rfl, ?_⟩
      rw [dec_str, decide_eq_false (by rw [mk_tl]; decide +kernel)]
      refine iteF ⟨_, rfl, rfl, _, rfl, ?_⟩
      rw [dec_str, decide_eq_true (mk_tl _)]
      exact iteT ⟨_, rfl, x.p, dx3, _, rfl, i4, by kernel_rfl, x, a, 12, X1, X2, _, rfl, ok, g6, hop, hlt, hX4, .inl ⟨hD, hb⟩⟩
    · rw [hz, show isPl (tk "try") = false by decide +kernel]
      refine iteF ⟨_, rfl, rfl, _, rfl, ?_⟩
      rw [dec_str, decide_eq_false (by rw [mk_tl]; decide +kernel)]
      refine iteF ⟨_, rfl, rfl, _, rfl, ?_⟩
      rw [dec_str, decide_eq_false (by rw [mk_tl]; decide +kernel)]
      refine iteF ⟨_, rfl, rfl, _, rfl, ?_⟩
      rw [dec_str, decide_eq_true (mk_tl _)]
      exact iteT ⟨_, rfl, x.p, dx3, _, rfl, i4, by kernel_rfl, x, a, 12, X1, X2, _, rfl, ok, g6, hop, hlt, hX4, .inl ⟨hD, hb⟩⟩
  | iff h hlt12 hr1 =>
    rw [hw] at h
    have hz := Option.some.inj h
    rw [hz, show isPl (tk "if") = false by decide +kernel]
    refine iteF ⟨_, rfl, rfl, _, rfl, ?_⟩
    rw [dec_str, decide_eq_true (mk_tl _)]
    refine iteT ⟨_, rfl, x.p, dx3, _, rfl, i4, by kernel_rfl, x, a, op, X1, X2, _, rfl, ok, g6, hop, hlt, hX4, .inr ⟨D - 1, o, by omega, hr1, fun e he v H' hv hle RR => q1 e he v H' hv hle ?_, q2⟩⟩
    have := conv e
    rw [← this]
    exact RR
  | whl h hlt12 hr1 =>
    rw [hw] at h
    have hz := Option.some.inj h
    rw [hz, show isPl (tk "while") = false by decide +kernel]
    refine iteF ⟨_, rfl, rfl, _, rfl, ?_⟩
    rw [dec_str, decide_eq_false (by rw [mk_tl]; decide +kernel)]
    refine iteF ⟨_, rfl, rfl, _, rfl, ?_⟩
    rw [dec_str, decide_eq_true (mk_tl _)]
    refine iteT ⟨_, rfl, x.p, dx3, _, rfl, i4, by kernel_rfl, x, a, op, X1, X2, _, rfl, ok, g6, hop, hlt, hX4, .inr ⟨D - 1, o, by omega, hr1, fun e he v H' hv hle RR => q1 e he v H' hv hle ?_, q2⟩⟩
    have := conv e
    rw [← this]
    exact RR
  | tri h hlt12 hr1 =>
    rw [hw] at h
    have hz := Option.some.inj h
    rw [hz, show isPl (tk "try") = false by decide +kernel]
    refine iteF ⟨_, rfl, rfl, _, rfl, ?_⟩
    rw [dec_str, decide_eq_false (by rw [mk_tl]; decide +kernel)]
    refine iteF ⟨_, rfl, rfl, _, rfl, ?_⟩
    rw [dec_str, decide_eq_false (by rw [mk_tl]; decide +kernel)]
    refine iteF ⟨_, rfl, rfl, _, rfl, ?_⟩
    rw [dec_str, decide_eq_true (mk_tl _)]
    refine iteT ⟨_, rfl, x.p, dx3, _, rfl, i4, by kernel_rfl, x, a, op, X1, X2, _, rfl, ok, g6, hop, hlt, hX4, .inr ⟨D - 1, o, by omega, hr1, fun e he v H' hv hle RR => q1 e he v H' hv hle ?_, q2⟩⟩
    have := conv e
    rw [← this]
    exact RR
  | @sfW _ _ z h hh hf =>
    rw [hw] at h
    obtain rfl := Option.some.inj h
    obtain ⟨n1, n2, n3, n4⟩ := at_not hh
    rw [n1]
    refine iteF ⟨_, rfl, rfl, _, rfl, ?_⟩
    rw [dec_str, decide_eq_false n2]
    refine iteF ⟨_, rfl, rfl, _, rfl, ?_⟩
    rw [dec_str, decide_eq_false n3]
    refine iteF ⟨_, rfl, rfl, _, rfl, ?_⟩
    rw [dec_str, decide_eq_false n4]
    refine iteF ⟨_, rfl, ⟨_, rfl⟩, _, _, rfl, rfl, _, rfl, ?_⟩
    rw [s_at, starts1, decide_eq_true (show (tl (mk kw.1)).head? = some 64 from hh)]
    refine iteT ?_
    exact ⟨_, rfl, x.p, dx3, _, rfl, i4, by kernel_rfl, x, a, op, X1, X2, _, fX, isFF, rfl, TF.sX, ok, g6, ha, fun y hy hg => (by rw [hw] at hy; rw [← Option.some.inj hy, hf] at hg; cases hg), fun _ => q2 _ _ rfl⟩
  | @sfS _ _ z h hh hf hno =>
    rw [hw] at h
    obtain rfl := Option.some.inj h
    obtain ⟨n1, n2, n3, n4⟩ := at_not hh
    rw [n1]
    refine iteF ⟨_, rfl, rfl, _, rfl, ?_⟩
    rw [dec_str, decide_eq_false n2]
    refine iteF ⟨_, rfl, rfl, _, rfl, ?_⟩
    rw [dec_str, decide_eq_false n3]
    refine iteF ⟨_, rfl, rfl, _, rfl, ?_⟩
    rw [dec_str, decide_eq_false n4]
    refine iteF ⟨_, rfl, ⟨_, rfl⟩, _, _, rfl, rfl, _, rfl, ?_⟩
    rw [s_at, starts1, decide_eq_true (show (tl (mk kw.1)).head? = some 64 from hh)]
    refine iteT ?_
    refine ⟨_, rfl, x.p, dx3, _, rfl, i4, by kernel_rfl, x, a, op, X1, X2, _, fX, isFF, rfl, TF.sX, ok, g6, ha, fun y hy hg H3 R3 => ?_, fun hn => ?_⟩
    · rw [hw] at hy
      obtain rfl := Option.some.inj hy
      obtain ⟨dx5, u1, u2, u3, u4⟩ := R3.obj
      refine ⟨_, rfl, mk kw.1, rfl, by rw [mk_len, sizeLine_eq]; omega, ?_⟩
      exact ⟨_, rfl, x.p, dx5, _, rfl, u4, by kernel_rfl, x, a + 1, op, X1, X2, _, rfl, ok, R3, hop, hlt, hX4, .inl ⟨hno, q2 _ _ rfl⟩⟩
    · have := hn kw.1 hw
      rw [hf] at this
      cases this
  | @sfl _ _ z o' h hh hf hset hr1 =>
    rw [hw] at h
    obtain rfl := Option.some.inj h
    obtain ⟨n1, n2, n3, n4⟩ := at_not hh
    rw [n1]
    refine iteF ⟨_, rfl, rfl, _, rfl, ?_⟩
    rw [dec_str, decide_eq_false n2]
    refine iteF ⟨_, rfl, rfl, _, rfl, ?_⟩
    rw [dec_str, decide_eq_false n3]
    refine iteF ⟨_, rfl, rfl, _, rfl, ?_⟩
    rw [dec_str, decide_eq_false n4]
    refine iteF ⟨_, rfl, ⟨_, rfl⟩, _, _, rfl, rfl, _, rfl, ?_⟩
    rw [s_at, starts1, decide_eq_true (show (tl (mk kw.1)).head? = some 64 from hh)]
    refine iteT ?_
    refine ⟨_, rfl, x.p, dx3, _, rfl, i4, by kernel_rfl, x, a, op, X1, X2, _, fX, isFF, rfl, TF.sX, ok, g6, ha, fun y hy hg H3 R3 => ?_, fun hn => ?_⟩
    rotate_left
    · have := hn kw.1 hw
      rw [hf] at this
      cases this
    rw [hw] at hy
    obtain rfl := Option.some.inj hy
    obtain ⟨dx5, u1, u2, u3, u4⟩ := R3.obj
    refine ⟨_, rfl, mk kw.1, rfl, by rw [mk_len, sizeLine_eq]; omega, ?_⟩
    rw [cut1]
    refine ⟨_, rfl, x.p, dx5, _, rfl, u4, by kernel_rfl, x, a + 1, op, X1, X2, _, rfl, ok, R3, hop, hlt, hX4, .inr ⟨o', hset, hr1, fun e he v H4 hv hle R4 => ?_, fun i d he => ?_⟩⟩
    · subst he
      refine ⟨by show 3 ≤ sizeLine; decide, fun p hp => ?_⟩
      have hle' : a + 1 + 1 + lE e ≤ x.ws.length := hle
      have hln : (wS (.sfl (kw.1.drop 1) e)).length = 1 + 1 + lE e := by show (wE e).length + 1 + 1 = 1 + 1 + (wE e).length; omega
      refine q1 _ rfl _ _ ⟨p, v, rfl, upd_same, hv.on_ (tups_new hp _)⟩ (by show a + (wS (.sfl (kw.1.drop 1) e)).length ≤ _; rw [hln]; omega) ?_
      have e1 : a + (wS (.sfl (kw.1.drop 1) e)).length = a + 1 + 1 + lE e := by rw [hln]; omega
      show Rn C x _ (a + (wS (.sfl (kw.1.drop 1) e)).length) _ _ _ (X3 ++ stW a (wS (.sfl (kw.1.drop 1) e)))
      rw [e1, ← conv]
      exact R4.new hp _
    · subst he
      exact q2 _ _ rfl
  | @stW _ _ z h hh hp hs hf =>
    rw [hw] at h
    obtain rfl := Option.some.inj h
    rw [hp]
    refine iteF ⟨_, rfl, rfl, _, rfl, ?_⟩
    rw [dec_str, decide_eq_false (mk_ne fun e => hs (.inl e))]
    refine iteF ⟨_, rfl, rfl, _, rfl, ?_⟩
    rw [dec_str, decide_eq_false (mk_ne fun e => hs (.inr (.inl e)))]
    refine iteF ⟨_, rfl, rfl, _, rfl, ?_⟩
    rw [dec_str, decide_eq_false (mk_ne fun e => hs (.inr (.inr e)))]
    refine iteF ⟨_, rfl, ⟨_, rfl⟩, _, _, rfl, rfl, _, rfl, ?_⟩
    rw [s_at, starts1, decide_eq_false (show ¬ (tl (mk kw.1)).head? = some 64 from hh)]
    refine iteF ?_
    exact ⟨_, rfl, x.p, dx3, _, rfl, i4, by kernel_rfl, x, a, op, X1, X2, _, fF, isFree, rfl, Sq_F, ok, g6, ha, fun y hy hg => (by rw [hw] at hy; rw [← Option.some.inj hy, hf] at hg; cases hg), fun _ => q2 _ _ rfl⟩
  | @stS _ _ z h hh hp hs hf hno =>
    rw [hw] at h
    obtain rfl := Option.some.inj h
    rw [hp]
    refine iteF ⟨_, rfl, rfl, _, rfl, ?_⟩
    rw [dec_str, decide_eq_false (mk_ne fun e => hs (.inl e))]
    refine iteF ⟨_, rfl, rfl, _, rfl, ?_⟩
    rw [dec_str, decide_eq_false (mk_ne fun e => hs (.inr (.inl e)))]
    refine iteF ⟨_, rfl, rfl, _, rfl, ?_⟩
    rw [dec_str, decide_eq_false (mk_ne fun e => hs (.inr (.inr e)))]
    refine iteF ⟨_, rfl, ⟨_, rfl⟩, _, _, rfl, rfl, _, rfl, ?_⟩
    rw [s_at, starts1, decide_eq_false (show ¬ (tl (mk kw.1)).head? = some 64 from hh)]
    refine iteF ?_
    refine ⟨_, rfl, x.p, dx3, _, rfl, i4, by kernel_rfl, x, a, op, X1, X2, _, fF, isFree, rfl, Sq_F, ok, g6, ha, fun y hy hg H3 R3 => ?_, fun hn => ?_⟩
    · obtain ⟨dx5, u1, u2, u3, u4⟩ := R3.obj
      exact ⟨_, rfl, x.p, dx5, _, rfl, u4, by kernel_rfl, x, a + 1, op, X1, X2, _, rfl, ok, R3, hop, hlt, hX4, .inl ⟨hno, q2 _ _ rfl⟩⟩
    · have := hn kw.1 hw
      rw [hf] at this
      cases this
  | @set _ _ z o' h hh hp hs hf hset hr1 =>
    rw [hw] at h
    obtain rfl := Option.some.inj h
    rw [hp]
    refine iteF ⟨_, rfl, rfl, _, rfl, ?_⟩
    rw [dec_str, decide_eq_false (mk_ne fun e => hs (.inl e))]
    refine iteF ⟨_, rfl, rfl, _, rfl, ?_⟩
    rw [dec_str, decide_eq_false (mk_ne fun e => hs (.inr (.inl e)))]
    refine iteF ⟨_, rfl, rfl, _, rfl, ?_⟩
    rw [dec_str, decide_eq_false (mk_ne fun e => hs (.inr (.inr e)))]
    refine iteF ⟨_, rfl, ⟨_, rfl⟩, _, _, rfl, rfl, _, rfl, ?_⟩
    rw [s_at, starts1, decide_eq_false (show ¬ (tl (mk kw.1)).head? = some 64 from hh)]
    refine iteF ?_
    refine ⟨_, rfl, x.p, dx3, _, rfl, i4, by kernel_rfl, x, a, op, X1, X2, _, fF, isFree, rfl, Sq_F, ok, g6, ha, fun y hy hg H3 R3 => ?_, fun hn => ?_⟩
    rotate_left
    · have := hn kw.1 hw
      rw [hf] at this
      cases this
    rw [hw] at hy
    obtain rfl := Option.some.inj hy
    obtain ⟨dx5, u1, u2, u3, u4⟩ := R3.obj
    refine ⟨_, rfl, x.p, dx5, _, rfl, u4, by kernel_rfl, x, a + 1, op, X1, X2, _, rfl, ok, R3, hop, hlt, hX4, .inr ⟨o', hset, hr1, fun e he v H4 hv hle R4 => ?_, fun i d he => ?_⟩⟩
    · subst he
      refine ⟨by show 3 ≤ sizeLine; decide, fun p hp => ?_⟩
      have hle' : a + 1 + 1 + lE e ≤ x.ws.length := hle
      have hln : (wS (.set kw.1 e)).length = 1 + 1 + lE e := by show (wE e).length + 1 + 1 = 1 + 1 + (wE e).length; omega
      refine q1 _ rfl _ _ ⟨p, v, rfl, upd_same, hv.on_ (tups_new hp _)⟩ (by show a + (wS (.set kw.1 e)).length ≤ _; rw [hln]; omega) ?_
      have e1 : a + (wS (.set kw.1 e)).length = a + 1 + 1 + lE e := by rw [hln]; omega
      show Rn C x _ (a + (wS (.set kw.1 e)).length) _ _ _ (X3 ++ stW a (wS (.set kw.1 e)))
      rw [e1, ← conv]
      exact R4.new hp _
    · subst he
      exact q2 _ _ rfl
/-! the knot: at every depth -/
structure DmR (K : PySem.W.Frag) (C : Addr) : Prop where
  ss : Dm K C "statements" "Reader.statements" (rd 15)
  st : Dm K C "statement" "Reader.statement" (rd 16)
  nw : Dm K C "new_worth" "Reader.new_worth" (rd 17)
  ch : Dm K C "choice" "Reader.choice" (rd 18)
  lp : Dm K C "loop" "Reader.loop" (rd 19)
  att : Dm K C "attempt" "Reader.attempt" (rd 20)
  es : Dm K C "expressions" "Reader.expressions" (rd 21)
  ex : Dm K C "expression" "Reader.expression" (rd 22)
  sd : Dm K C "sending" "Reader.sending" (rd 23)
  ls : Dm K C "listing" "Reader.listing" (rd 24)
  bk : Dm K C "block" "Reader.block" (rd 25)
/-- what there is of the small ones -/
structure RdS (P : Program) (w : World) (K : PySem.W.Frag) (mg : Str → Option Value) (base : Heap) (C CF fF fK fM fX : Addr) : Prop where
  wd : M0 P w K mg base C 5 "word" (nWd C CF)
  rf : M0 P w K mg base C 4 "refuse" (nRef C CF)
  sk : M0 P w K mg base C 6 "skip" (nSkip C CF)
  tk : M0 P w K mg base C 6 "take" (nTake C CF (Sq fF fK fM fX))
  en : M0 P w K mg base C 5 "enter" (nEnter C CF)
  lv : M0 P w K mg base C 1 "leave" (nLeave C)
  fw : M0 P w K mg base C 7 "free_words" (nFw C CF)
  lf : C0 P w K mg base 6 "leaf" nLeaf
theorem m_none {x qual : Str} {st : Stmt} {N : List Str} (D : Dm K C x qual st) (ps : List Str) (sc : FnScope N ps (defScope st)) (k : Nat) (hb : ∀ (kV doc pm : Value) (an : Option Addr) (cdv ct : Value) (us : List Value), us.length = ps.length → bindArgs (PySem.W.fnOf x qual (defArgs st) (defBody st) (defScope st) .none kV doc pm an cdv ct) ⟨us, []⟩ = pure (ps.zip us)) : M0 P w K mg base C (k + 1) x spN0 := by
  obtain ⟨f, fd, F, hm⟩ := D.ex
  exact ⟨f, fd, ps, F.okX sc (fun vs H Q E h => h.elim) (fun cdv A outer s H vs Q E hr h => h.elim), hm, F.binds hb⟩
theorem knot1 {D k : Nat} (hk : 7 ≤ k) (T : TxR K mg C) (TS : TxS K mg) (TF : TxF mg fF fK fM fX) (mPL : GT K mg "PLAIN_STATEMENTS" PLq) (DR : DmR K C) (B : RdS P w K mg base C CF fF fK fM fX)
    (M1 : M0 P w K mg base C k "expression" (pEx C CF D)) (M2 : M0 P w K mg base C k "expressions" (pEs C CF D)) (M3 : M0 P w K mg base C k "statements" (pSs C CF D)) :
    M0 P w K mg base C (k + 5) "expression" (nEx C CF D) ∧ M0 P w K mg base C (k + 5) "expressions" (qEs C CF D) ∧ M0 P w K mg base C (k + 5) "statements" (qSs C CF D) := by
  have sd := n_sd (P := P) (w := w) (base := base) hk T TF DR.sd B.wd B.tk B.en B.lv M1 M2
  have ls := n_ls (P := P) (w := w) (base := base) hk T DR.ls B.en B.lv M2
  have bk := n_bk (P := P) (w := w) (base := base) hk T DR.bk B.fw B.en B.lv M3
  have ex := n_ex (P := P) (w := w) (base := base) (k := k + 1) (by omega) T TF DR.ex B.lf B.wd B.rf B.tk sd ls bk
  have es := n_es (P := P) (w := w) (base := base) (k := k + 2) (by omega) T TS DR.es B.wd ex
  have nw := n_nw (P := P) (w := w) (base := base) (k := k + 2) (by omega) T DR.nw B.sk ex
  have ch := n_ch (P := P) (w := w) (base := base) hk T DR.ch B.sk B.en B.lv M1 M3
  have lp := n_lp (P := P) (w := w) (base := base) hk T DR.lp B.sk B.en B.lv M1 M3
  have at_ := n_at (P := P) (w := w) (base := base) hk T TF DR.att B.tk B.en B.lv M3
  have st := n_st (P := P) (w := w) (base := base) (k := k + 3) (k2 := k + 1) (by omega) (by omega) T TF mPL DR.st B.wd B.tk (ex.mono (by omega)) nw ch lp at_
  have ss := n_ss (P := P) (w := w) (base := base) (k := k + 4) (by omega) T TS DR.ss B.wd st
  exact ⟨ex.mono (by omega), es.mono (by omega), ss⟩
theorem knot (T : TxR K mg C) (TS : TxS K mg) (TF : TxF mg fF fK fM fX) (mPL : GT K mg "PLAIN_STATEMENTS" PLq) (DR : DmR K C) (B : RdS P w K mg base C CF fF fK fM fX) :
    ∀ D : Nat, M0 P w K mg base C (12 + 5 * D) "expression" (nEx C CF D) ∧ M0 P w K mg base C (12 + 5 * D) "expressions" (qEs C CF D) ∧ M0 P w K mg base C (12 + 5 * D) "statements" (qSs C CF D)
  | 0 => knot1 (D := 0) (k := 7) (by omega) T TS TF mPL DR B (m_none DR.ex ["self"] scEx 6 fun _ _ _ _ _ _ us hl => match us, hl with | [_], _ => rfl) (m_none DR.es ["self", "last"] scEs 6 fun _ _ _ _ _ _ us hl => match us, hl with | [_, _], _ => rfl) (m_none DR.ss ["self", "last"] scSts 6 fun _ _ _ _ _ _ us hl => match us, hl with | [_, _], _ => rfl)
  | D + 1 => by
    obtain ⟨h1, h2, h3⟩ := knot T TS TF mPL DR B D
    have := knot1 (P := P) (w := w) (base := base) (D := D + 1) (k := 12 + 5 * D) (by omega) T TS TF mPL DR B h1 h2 h3
    exact this
end
end My
set_option Elab.async false
set_option linter.all false
set_option maxRecDepth 100000
set_option maxHeartbeats 2000000
namespace My
open PySem L2 SS
abbrev sLWord : Stmt := top 44
abbrev sLName : Stmt := top 45
abbrev sLLeaf : Stmt := top 46
/-- an item of a written list by a draw -/
theorem pick {α : Type} {xs : List V} {n : Nat} (hn : xs.length = n) (h0 : 0 < n) {f : α → V} {Pz : α → Prop} (h : ∀ v ∈ xs, ∃ z, v = f z ∧ Pz z) (d : Int) : ∃ z, atI xs (d % ((n : Nat) : Int)) = some (f z) ∧ Pz z := by
  have e0 := Int.emod_nonneg d (show ((n : Nat) : Int) ≠ 0 by omega)
  have e1 := Int.emod_lt_of_pos d (show (0 : Int) < ((n : Nat) : Int) by omega)
  obtain ⟨j, hj⟩ : ∃ j : Nat, d % ((n : Nat) : Int) = (j : Nat) := ⟨(d % ((n : Nat) : Int)).toNat, by omega⟩
  rw [hj]
  have hj5 : j < xs.length := by omega
  obtain ⟨z, e, hz⟩ := h xs[j] (List.getElem_mem hj5)
  exact ⟨z, atI_nat (by rw [List.getElem?_eq_getElem hj5, e]), hz⟩
section
variable {P : Program} {w : World} {K : PySem.W.Frag} {mg : Str → Option Value} {base : Heap}
def spLWord (g : T → Bool) : Sp := fun vs H Q _ => ∃ d : Int, vs = [.int d] ∧ ∀ z H', Same H H' → g z = true → Q (.str (mk z)) H'
theorem scLWord : FnScope ["_law_draw"] ["_law_draw"] (defScope sLWord) := ⟨rfl, rfl, rfl, by decide +kernel, rfl, by decide +kernel, by decide +kernel⟩
theorem scLName : FnScope ["_law_draw"] ["_law_draw"] (defScope sLName) := ⟨rfl, rfl, rfl, by decide +kernel, rfl, by decide +kernel, by decide +kernel⟩
theorem all_ok {g : T → Bool} : ∀ {ws : List String}, (ws.all fun s => g (tl (Str.ofString s))) = true → ∀ v ∈ ws.map (fun s => V.str (Str.ofString s)), ∃ z, v = V.str (mk z) ∧ g z = true
  | ws, h, v, hv => by
    obtain ⟨s, hs, rfl⟩ := List.mem_map.mp hv
    exact ⟨tl (Str.ofString s), by rw [mk_tl], (List.all_eq_true.mp h) s hs⟩
theorem c_lword (D : Dn K mg "_law_word" sLWord) : C0 P w K mg base 1 "_law_word" (spLWord isFree) := by
  obtain ⟨f, fd, F, m⟩ := D.ex
  refine ⟨f, fd, ["_law_draw"], F.ok scLWord (fun vs H Q E h => ?_) (fun cdv A outer s H vs Q E hr h => ?_), m, F.kp, F.binds (ps := ["_law_draw"]) fun _ _ _ _ _ _ us hl => match us, hl with | [_], _ => rfl⟩
  · obtain ⟨d, rfl, _⟩ := h
    rfl
  obtain ⟨d, rfl, k⟩ := h
  refine ⟨_, pss_one (ps_ret (pe_ix ix_list (pe_lst (pa_cons pe_str (pa_cons pe_str (pa_cons pe_str (pa_cons pe_str (pa_cons pe_str (pa_cons pe_str (pa_cons pe_str (pa_cons pe_str (pa_cons pe_str (pa_cons pe_str pa_nil))))))))))) (pe_op op_mod (pv 0) pe_int) (fun _ _ => rfl))), ?_⟩
  refine ⟨by decide, fun l hl => ?_⟩
  obtain ⟨z, hz, gz⟩ := pick (n := 10) (f := fun z => V.str (mk z)) (Pz := fun z => isFree z = true) rfl (by decide) (all_ok (g := isFree) (ws := ["a", "b", "x1", "sum", "longnameofal", "k9", "z", "kinds", "news", "e"]) (by decide +kernel)) d
  exact ⟨_, rfl, _, _, rfl, rfl, (by show (0 : Int) < 10; decide), l, _, _, _, rfl, rfl, SqL.of upd_same, hz, k z _ (same_new hl _) gz⟩
theorem c_lname (D : Dn K mg "_law_name" sLName) : C0 P w K mg base 1 "_law_name" (spLWord isKindName) := by
  obtain ⟨f, fd, F, m⟩ := D.ex
  refine ⟨f, fd, ["_law_draw"], F.ok scLName (fun vs H Q E h => ?_) (fun cdv A outer s H vs Q E hr h => ?_), m, F.kp, F.binds (ps := ["_law_draw"]) fun _ _ _ _ _ _ us hl => match us, hl with | [_], _ => rfl⟩
  · obtain ⟨d, rfl, _⟩ := h
    rfl
  obtain ⟨d, rfl, k⟩ := h
  refine ⟨_, pss_one (ps_ret (pe_ix ix_list (pe_lst (pa_cons pe_str (pa_cons pe_str (pa_cons pe_str (pa_cons pe_str (pa_cons pe_str (pa_cons pe_str pa_nil))))))) (pe_op op_mod (pv 0) pe_int) (fun _ _ => rfl))), ?_⟩
  refine ⟨by decide, fun l hl => ?_⟩
  obtain ⟨z, hz, gz⟩ := pick (n := 6) (f := fun z => V.str (mk z)) (Pz := fun z => isKindName z = true) rfl (by decide) (all_ok (g := isKindName) (ws := ["Point", "A", "Cell9", "Thing", "LongNameOfIt", "ZZ"]) (by decide +kernel)) d
  exact ⟨_, rfl, _, _, rfl, rfl, (by show (0 : Int) < 6; decide), l, _, _, _, rfl, rfl, SqL.of upd_same, hz, k z _ (same_new hl _) gz⟩
/-! a leaf by a draw -/
def spLLeaf : Sp := fun vs H Q _ => ∃ d : Int, vs = [.int d] ∧ ∀ e v H', Same H H' → AtE H' e v → okE e → oE e = 0 → nE e = 1 → Q v H'
theorem scLLeaf : FnScope ["_law_draw", "_law_way", "_law_rest", "_law_some"] ["_law_draw"] (defScope sLLeaf) := ⟨rfl, rfl, rfl, by decide +kernel, rfl, by decide +kernel, by decide +kernel⟩
theorem c_lleaf (G1 : C0 P w K mg base 1 "_law_word" (spLWord isFree)) (G2 : C0 P w K mg base 1 "_law_name" (spLWord isKindName)) (D : Dn K mg "_law_leaf" sLLeaf) : C0 P w K mg base 2 "_law_leaf" spLLeaf := by
  obtain ⟨f, fd, F, m⟩ := D.ex
  refine ⟨f, fd, ["_law_draw"], F.ok scLLeaf (fun vs H Q E h => ?_) (fun cdv A outer s H vs Q E hr h => ?_), m, F.kp, F.binds (ps := ["_law_draw"]) fun _ _ _ _ _ _ us hl => match us, hl with | [_], _ => rfl⟩
  · obtain ⟨d, rfl, _⟩ := h
    rfl
  obtain ⟨d, rfl, k⟩ := h
  refine ⟨_, pss_cons (ps_set (i := 1) scLLeaf.nd rfl (Or.inl rfl) (pe_op op_mod (pv 0) pe_int)) <|
    pss_cons (ps_set (i := 2) scLLeaf.nd rfl (Or.inl rfl) (pe_op op_fdiv (pv 0) pe_int)) <|
    pss_cons (ps_if (pt_cmpR op_eq (pv 1) pe_int (nomark _))
      (pss_cons (ps_set (i := 3) scLLeaf.nd rfl (Or.inl rfl) (pe_lst (pa_cons pe_int (pa_cons pe_int (pa_cons (pe_un un_neg pe_int) (pa_cons pe_int (pa_cons (pe_op op_sub (pe_op op_pow pe_int pe_int) pe_int) (pa_cons (pe_op op_sub pe_int (pe_op op_pow pe_int pe_int)) (pa_cons (pe_op op_pow pe_int pe_int) (pa_cons (pe_un un_neg pe_int) pa_nil)))))))))) <|
        pss_one (ps_ret (pe_tup (pa_cons pe_str (pa_cons (pe_ix ix_list (pv 3) (pe_op op_mod (pv 2) pe_int) (fun _ _ => rfl)) pa_nil))))) pss_nil) <|
    pss_cons (ps_if (pt_cmpR op_eq (pv 1) pe_int (nomark _)) (pss_one (ps_ret (pe_tup (pa_cons pe_str (pa_cons (pe_ix ix_list (pe_lst (pa_cons pe_str (pa_cons pe_str (pa_cons pe_str (pa_cons (pe_op op_mul_str pe_str pe_int) (pa_cons pe_str (pa_cons pe_str pa_nil))))))) (pe_op op_mod (pv 2) pe_int) (fun _ _ => rfl)) pa_nil))))) pss_nil) <|
    pss_cons (ps_if (pt_cmpR op_eq (pv 1) pe_int (nomark _)) (pss_one (ps_ret (pe_tup (pa_cons pe_str (pa_cons (pe_cmpR op_eq (pe_op op_mod (pv 2) pe_int) pe_int (nomark _)) pa_nil))))) pss_nil) <|
    pss_cons (ps_if (pt_cmpR op_eq (pv 1) pe_int (nomark _)) (pss_one (ps_ret (pe_tup (pa_cons pe_str pa_nil)))) pss_nil) <|
    pss_cons (ps_if (pt_cmpR op_eq (pv 1) pe_int (nomark _)) (pss_one (ps_ret (pe_tup (pa_cons pe_str pa_nil)))) pss_nil) <|
    pss_cons (ps_if (pt_cmpR op_eq (pv 1) pe_int (nomark _)) (pss_one (ps_ret (pe_tup (pa_cons pe_str (pa_cons (pe_cc G1 hr (by decide) pass0 (pa_cons (pv 2) pa_nil)) pa_nil))))) pss_nil) <|
    pss_cons (ps_if (pt_cmpR op_eq (pv 1) pe_int (nomark _)) (pss_one (ps_ret (pe_tup (pa_cons pe_str (pa_cons (pe_cc G1 hr (by decide) pass0 (pa_cons (pv 2) pa_nil)) pa_nil))))) pss_nil) <|
    pss_one (ps_ret (pe_tup (pa_cons pe_str (pa_cons (pe_cc G2 hr (by decide) pass0 (pa_cons (pv 2) pa_nil)) pa_nil)))), ?_⟩
  refine ⟨_, rfl, _, _, rfl, rfl, (by show (0 : Int) < 8; decide), ?_⟩
  refine ⟨_, rfl, _, _, rfl, rfl, ⟨by decide, by decide⟩, ?_⟩
  refine ⟨_, rfl, rfl, _, rfl, ?_⟩
  refine ite2 (fun c => ?_) (fun c => ?_)
  · refine ⟨1, rfl, _, _, rfl, rfl, ⟨by decide, by decide, by decide⟩, _, _, rfl, rfl, _, _, rfl, rfl, ⟨by decide, by decide, by decide⟩, _, _, rfl, rfl, _, _, rfl, rfl, ⟨by decide, by decide, by decide⟩, 90, rfl, by show 8 ≤ sizeLine; decide, fun l hl => ?_⟩
    obtain ⟨z, hz, gz⟩ := pick (n := 8) (xs := [V.int 0, V.int 7, V.int (-1), V.int 42, V.int (10 ^ Int.toNat 12 - 1), V.int (1 - 10 ^ Int.toNat 12), V.int (10 ^ Int.toNat 11), V.int (-90)]) (f := V.int) (Pz := fun z => -1000000000000 < z ∧ z < 1000000000000) rfl (by decide) (fun v hv => by
      simp only [List.mem_cons, List.not_mem_nil, or_false] at hv
      rcases hv with rfl | rfl | rfl | rfl | rfl | rfl | rfl | rfl <;> exact ⟨_, rfl, by decide, by decide⟩) (d / 8)
    refine ⟨_, rfl, _, rfl, _, _, rfl, rfl, (by show (0 : Int) < 8; decide), l, _, _, _, rfl, rfl, SqL.of upd_same, hz, by show 2 ≤ sizeLine; decide, fun p hp => ?_⟩
    exact k (.num z) _ _ ((same_new hl _).trans (same_new hp _)) ⟨p, rfl, upd_same⟩ gz rfl rfl
  refine ⟨_, rfl, rfl, _, rfl, ?_⟩
  refine ite2 (fun c => ?_) (fun c => ?_)
  · refine ⟨_, 40, rfl, rfl, by decide, by decide, by decide +kernel, by decide +kernel, by show 6 ≤ sizeLine; decide, fun l hl => ?_⟩
    obtain ⟨z, hz, gz⟩ := pick (n := 6) (xs := [V.str (Str.ofString ""), V.str (Str.ofString "a"), V.str (Str.ofString "Hello_9"), V.str (repS (Str.ofString "x") 40), V.str (Str.ofString "_"), V.str (Str.ofString "nomethod")]) (f := fun z => V.str (mk z)) (Pz := fun z => isText z = true) rfl (by decide) (fun v hv => by
      simp only [List.mem_cons, List.not_mem_nil, or_false] at hv
      rcases hv with rfl | rfl | rfl | rfl | rfl | rfl
      · exact ⟨tl (Str.ofString ""), by rw [mk_tl], by decide +kernel⟩
      · exact ⟨tl (Str.ofString "a"), by rw [mk_tl], by decide +kernel⟩
      · exact ⟨tl (Str.ofString "Hello_9"), by rw [mk_tl], by decide +kernel⟩
      · exact ⟨tl (repS (Str.ofString "x") 40), by rw [mk_tl], by decide +kernel⟩
      · exact ⟨tl (Str.ofString "_"), by rw [mk_tl], by decide +kernel⟩
      · exact ⟨tl (Str.ofString "nomethod"), by rw [mk_tl], by decide +kernel⟩) (d / 8)
    refine ⟨_, rfl, _, _, rfl, rfl, (by show (0 : Int) < 6; decide), l, _, _, _, rfl, rfl, SqL.of upd_same, hz, by show 2 ≤ sizeLine; decide, fun p hp => ?_⟩
    exact k (.txt z) _ _ ((same_new hl _).trans (same_new hp _)) ⟨p, rfl, upd_same⟩ gz rfl rfl
  refine ⟨_, rfl, rfl, _, rfl, ?_⟩
  refine ite2 (fun c => ?_) (fun c => ?_)
  · refine ⟨_, rfl, _, _, rfl, rfl, (by show (0 : Int) < 2; decide), rfl, by show 2 ≤ sizeLine; decide, fun p hp => ?_⟩
    exact k (.tru _) _ _ (same_new hp _) ⟨p, rfl, upd_same⟩ trivial rfl rfl
  refine ⟨_, rfl, rfl, _, rfl, ?_⟩
  refine ite2 (fun c => ?_) (fun c => ?_)
  · exact ⟨by show 1 ≤ sizeLine; decide, fun p hp => k .non _ _ (same_new hp _) ⟨p, rfl, upd_same⟩ trivial rfl rfl⟩
  refine ⟨_, rfl, rfl, _, rfl, ?_⟩
  refine ite2 (fun c => ?_) (fun c => ?_)
  · exact ⟨by show 1 ≤ sizeLine; decide, fun p hp => k .slf _ _ (same_new hp _) ⟨p, rfl, upd_same⟩ trivial rfl rfl⟩
  refine ⟨_, rfl, rfl, _, rfl, ?_⟩
  refine ite2 (fun c => ?_) (fun c => ?_)
  · exact ⟨_, rfl, _, rfl, fun z H1 s1 gz => ⟨by show 2 ≤ sizeLine; decide, fun p hp => k (.nam z) _ _ (s1.trans (same_new hp _)) ⟨p, rfl, upd_same⟩ gz rfl rfl⟩⟩
  refine ⟨_, rfl, rfl, _, rfl, ?_⟩
  refine ite2 (fun c => ?_) (fun c => ?_)
  · exact ⟨_, rfl, _, rfl, fun z H1 s1 gz => ⟨by show 2 ≤ sizeLine; decide, fun p hp => k (.fld z) _ _ (s1.trans (same_new hp _)) ⟨p, rfl, upd_same⟩ gz rfl rfl⟩⟩
  exact ⟨_, rfl, _, rfl, fun z H1 s1 gz => ⟨by show 2 ≤ sizeLine; decide, fun p hp => k (.new z) _ _ (s1.trans (same_new hp _)) ⟨p, rfl, upd_same⟩ gz rfl rfl⟩⟩
end
end My
set_option Elab.async false
set_option linter.all false
set_option maxRecDepth 100000
set_option maxHeartbeats 2000000
namespace My
open PySem L2 SS
abbrev sGEs : Stmt := top 47
abbrev sGE : Stmt := top 48
abbrev sGB : Stmt := top 49
abbrev sGS : Stmt := top 50
section
variable {P : Program} {w : World} {K : PySem.W.Frag} {mg : Str → Option Value} {base : Heap}
/-! trees by draws: what the defs promise at depth d -/
def spGE (d : Nat) : Sp := fun vs H Q _ => ∃ (p l : Addr) (a : Nat) (b : Int) (xs : List Int) (dd : Int), vs = [.ref p, .int dd] ∧ dd = (d : Nat) ∧ DeckAt H p l a b xs ∧ (0 < b → (a : Int) + b + 10 * d + 1 ≤ 9000) ∧ (b ≤ 0 → a + 2 ≤ 9000) ∧
  ∀ e v H', SB p H H' → DeckAt H' p l (a + nE e) (b - nE e) xs → AtE H' e v → okE e → oE e ≤ d → (0 < b → (nE e : Int) ≤ b + 10 * d) → (b ≤ 0 → nE e = 1) → Q v H'
def spGS (d : Nat) : Sp := fun vs H Q _ => ∃ (p l : Addr) (a : Nat) (b : Int) (xs : List Int) (dd : Int), vs = [.ref p, .int dd] ∧ dd = (d : Nat) ∧ DeckAt H p l a b xs ∧ (0 < b → (a : Int) + b + 10 * d + 2 ≤ 9000) ∧ (b ≤ 0 → a + 3 ≤ 9000) ∧
  ∀ e v H', SB p H H' → DeckAt H' p l (a + nS e) (b - nS e) xs → AtS H' e v → okS e → oS e ≤ d → (0 < b → (nS e : Int) ≤ b + 10 * d + 1) → (b ≤ 0 → nS e = 2) → Q v H'
def spGEs (d : Nat) : Sp := fun vs H Q _ => ∃ (p l : Addr) (a : Nat) (b : Int) (xs : List Int) (dd mm : Int) (m : Nat), vs = [.ref p, .int mm, .int dd] ∧ dd = (d : Nat) ∧ mm = (m : Nat) ∧ m ≤ 100 ∧ DeckAt H p l a b xs ∧ (0 < b → (a : Int) + b + 10 * d + m + 1 ≤ 9000) ∧ (b ≤ 0 → a + m + 2 ≤ 9000) ∧
  ∀ es q ys H', SB p H H' → DeckAt H' p l (a + nEs es) (b - nEs es) xs → H' q = some (.tup ys) → AtEs H' es ys → okEs es → oEs es ≤ d → (0 < b → (nEs es : Int) ≤ b + 10 * d + m) → (b ≤ 0 → nEs es = m) → Q (.ref q) H'
def spGB (d : Nat) : Sp := fun vs H Q _ => ∃ (p l : Addr) (a : Nat) (b : Int) (xs : List Int) (dd mm : Int) (m : Nat), vs = [.ref p, .int mm, .int dd] ∧ dd = (d : Nat) ∧ mm = (m : Nat) ∧ m ≤ 100 ∧ DeckAt H p l a b xs ∧ (0 < b → (a : Int) + b + 10 * d + 2 * m + 2 ≤ 9000) ∧ (b ≤ 0 → a + 2 * m + 3 ≤ 9000) ∧
  ∀ es q ys H', SB p H H' → DeckAt H' p l (a + nSs es) (b - nSs es) xs → H' q = some (.tup ys) → AtSs H' es ys → okSs es → oSs es ≤ d → (0 < b → (nSs es : Int) ≤ b + 10 * d + 1 + 2 * m) → (b ≤ 0 → nSs es = 2 * m) → Q (.ref q) H'
theorem scGEs : FnScope ["_law_deck_here", "_law_many", "_law_depth", "_law_k"] ["_law_deck_here", "_law_many", "_law_depth"] (defScope sGEs) := ⟨rfl, rfl, rfl, by decide +kernel, rfl, by decide +kernel, by decide +kernel⟩
theorem scGB : FnScope ["_law_deck_here", "_law_many", "_law_depth", "_law_k"] ["_law_deck_here", "_law_many", "_law_depth"] (defScope sGB) := ⟨rfl, rfl, rfl, by decide +kernel, rfl, by decide +kernel, by decide +kernel⟩
theorem c_ges {d k : Nat} (TS : TxS K mg) (T : TxL mg) (D : Dn K mg "_law_es" sGEs) (G : C0 P w K mg base k "_law_e" (spGE d)) : C0 P w K mg base (k + 1) "_law_es" (spGEs d) := by
  obtain ⟨f, fd, F, m⟩ := D.ex
  refine ⟨f, fd, ["_law_deck_here", "_law_many", "_law_depth"], F.ok scGEs (fun vs H Q E h => ?_) (fun cdv A outer s H vs Q E hr h => ?_), m, F.kp, F.binds (ps := ["_law_deck_here", "_law_many", "_law_depth"]) fun _ _ _ _ _ _ us hl => match us, hl with | [_, _, _], _ => rfl⟩
  · obtain ⟨p, l, a, b, xs, dd, mm, m, rfl, _⟩ := h
    rfl
  obtain ⟨p, l, a, b, xs, dd, mm, m, rfl, rfl, rfl, hm, hd, hp1, hp2, kq⟩ := h
  refine ⟨_, pss_one (ps_ret (pe_callTy call_tuple_of (by rfl) TS.tup (by decide +kernel) (pa_cons (pe_lc (own := [("_law_k", 3)]) (g := gName 3) (tt := tYes) rfl scGEs.nd (pi_range1 rfl T.range (pa_cons (pv 1) pa_nil))
    (blkOk_by (own := [("_law_k", 3)]) (N := ["_law_deck_here", "_law_many", "_law_depth", "_law_k"]) (sc := defScope sGEs) (by decide +kernel)) (fun _ _ _ _ _ => pg_name (i := 3) scGEs.nd rfl (Or.inl rfl)) (fun _ _ _ _ _ => pts_nil)
    (fun _ _ _ _ _ => pe_cc G hr (Nat.le_refl _) pass0 (pa_cons (pv 0) (pa_cons (pv 2) pa_nil)))) pa_nil))), ?_⟩
  refine ⟨_, rfl, ((m : Nat) : Int), rfl, by omega, by omega, fun D hD => ?_⟩
  have hDn := hd.ne hD
  refine lc_range (lo := 0) (n := ((m : Nat) : Int).toNat) (fun i H1 => ∃ (es : Exs) (ys : List V), SB p H H1 ∧ DeckAt H1 p l (a + nEs es) (b - nEs es) xs ∧ H1 D = some (.lst ys) ∧ AtEs H1 es ys ∧ okEs es ∧ oEs es ≤ d ∧ cE es = i ∧ (0 < b → (nEs es : Int) ≤ b + 10 * d + i) ∧ (b ≤ 0 → nEs es = i))
    ⟨.nil, [], SB.same (same_new hD _), by show DeckAt _ p l (a + 0) (b - ((0 : Nat) : Int)) xs; rw [Nat.add_zero, show b - ((0 : Nat) : Int) = b by omega]; exact hd.new hD _, upd_same, rfl, trivial, Nat.zero_le _, rfl, fun h => by show ((0 : Nat) : Int) ≤ _; omega, fun _ => rfl⟩ ?_ ?_
  · rintro i H1 hi ⟨es, ys, s1, d1, hD1, at1, ok1, o1, c1, n1, n2⟩
    have hi' : i < m := by omega
    refine ⟨rfl, ?_⟩
    unfold tYes
    refine iteT ?_
    refine ⟨_, rfl, _, rfl, p, l, a + nEs es, b - nEs es, xs, _, rfl, rfl, d1, fun h => ?_, fun h => ?_, fun e v H2 s2 d2 at2 ok2 o2 g1 g2 => ?_⟩
    · by_cases hb : 0 < b
      · have := hp1 hb; have := n1 hb; omega
      · have := n2 (by omega); omega
    · by_cases hb : 0 < b
      · have := hp1 hb; have := n1 hb; omega
      · have := n2 (by omega); have := hp2 (by omega); omega
    obtain ⟨q1, q2, q3, q4, q5⟩ := Exs.snoc_n es e
    have hD2 : H2 D = some (.lst ys) := s2 _ _ hDn.1 hD1
    have tup : Tups H1 (upd H2 D (.lst (ys ++ [v]))) := (s2.tups d1.1).trans (tups_lst hD2)
    refine ⟨ys, hD2, by rw [at1.len, c1, sizeLine_eq]; omega, es.snoc e, ys ++ [v], ?_, ?_, upd_same, ?_, q3.mpr ⟨ok1, ok2⟩, by rw [q2]; exact Nat.max_le.mpr ⟨o1, o2⟩, by rw [q4, c1], fun hb => ?_, fun hb => ?_⟩
    · intro q u n h
      rw [upd_ne (ne_of_none h hD)]
      exact s2 q u n (s1 q u n h)
    · rw [q1]
      have e1 : a + nEs es + nE e = a + (nEs es + nE e) := by omega
      have e2 : b - (nEs es : Int) - (nE e : Int) = b - ((nEs es + nE e : Nat) : Int) := by omega
      rw [e1, e2] at d2
      exact ⟨by rw [upd_ne hDn.1.symm]; exact d2.1, by rw [upd_ne hDn.2.symm]; exact d2.2.1, d2.2.2⟩
    · exact Exs.at_snoc (at1.on_ tup) (at2.on_ (tups_lst hD2))
    · rw [q1]
      have := n1 hb
      by_cases h : 0 < b - (nEs es : Int)
      · have := g1 h; omega
      · have := g2 (by omega); omega
    · rw [q1]
      have := n2 hb
      have := g2 (by omega)
      omega
  · rintro H1 ⟨es, ys, s1, d1, hD1, at1, ok1, o1, c1, n1, n2⟩
    have cm : cE es = m := by omega
    refine ⟨D, ys, rfl, .inl ⟨SqL.of hD1, fun q hq => ?_⟩⟩
    have s2 := same_new hq (.tup ys)
    refine kq es q ys _ (s1.trans (SB.same s2)) (d1.same s2) upd_same (at1.on_ (same_tups s2)) ok1 o1 (fun hb => ?_) (fun hb => ?_)
    · have := n1 hb; omega
    · have := n2 hb; omega
theorem c_gb {d k : Nat} (TS : TxS K mg) (T : TxL mg) (D : Dn K mg "_law_body" sGB) (G : C0 P w K mg base k "_law_statement" (spGS d)) : C0 P w K mg base (k + 1) "_law_body" (spGB d) := by
  obtain ⟨f, fd, F, m⟩ := D.ex
  refine ⟨f, fd, ["_law_deck_here", "_law_many", "_law_depth"], F.ok scGB (fun vs H Q E h => ?_) (fun cdv A outer s H vs Q E hr h => ?_), m, F.kp, F.binds (ps := ["_law_deck_here", "_law_many", "_law_depth"]) fun _ _ _ _ _ _ us hl => match us, hl with | [_, _, _], _ => rfl⟩
  · obtain ⟨p, l, a, b, xs, dd, mm, m, rfl, _⟩ := h
    rfl
  obtain ⟨p, l, a, b, xs, dd, mm, m, rfl, rfl, rfl, hm, hd, hp1, hp2, kq⟩ := h
  refine ⟨_, pss_one (ps_ret (pe_callTy call_tuple_of (by rfl) TS.tup (by decide +kernel) (pa_cons (pe_lc (own := [("_law_k", 3)]) (g := gName 3) (tt := tYes) rfl scGB.nd (pi_range1 rfl T.range (pa_cons (pv 1) pa_nil))
    (blkOk_by (own := [("_law_k", 3)]) (N := ["_law_deck_here", "_law_many", "_law_depth", "_law_k"]) (sc := defScope sGB) (by decide +kernel)) (fun _ _ _ _ _ => pg_name (i := 3) scGB.nd rfl (Or.inl rfl)) (fun _ _ _ _ _ => pts_nil)
    (fun _ _ _ _ _ => pe_cc G hr (Nat.le_refl _) pass0 (pa_cons (pv 0) (pa_cons (pv 2) pa_nil)))) pa_nil))), ?_⟩
  refine ⟨_, rfl, ((m : Nat) : Int), rfl, by omega, by omega, fun D hD => ?_⟩
  have hDn := hd.ne hD
  refine lc_range (lo := 0) (n := ((m : Nat) : Int).toNat) (fun i H1 => ∃ (es : Sts) (ys : List V), SB p H H1 ∧ DeckAt H1 p l (a + nSs es) (b - nSs es) xs ∧ H1 D = some (.lst ys) ∧ AtSs H1 es ys ∧ okSs es ∧ oSs es ≤ d ∧ cS es = i ∧ (0 < b → (nSs es : Int) ≤ b + 10 * d + 1 + 2 * i) ∧ (b ≤ 0 → nSs es = 2 * i))
    ⟨.nil, [], SB.same (same_new hD _), by show DeckAt _ p l (a + 0) (b - ((0 : Nat) : Int)) xs; rw [Nat.add_zero, show b - ((0 : Nat) : Int) = b by omega]; exact hd.new hD _, upd_same, rfl, trivial, Nat.zero_le _, rfl, fun h => by show ((0 : Nat) : Int) ≤ _; omega, fun _ => rfl⟩ ?_ ?_
  · rintro i H1 hi ⟨es, ys, s1, d1, hD1, at1, ok1, o1, c1, n1, n2⟩
    have hi' : i < m := by omega
    refine ⟨rfl, ?_⟩
    unfold tYes
    refine iteT ?_
    refine ⟨_, rfl, _, rfl, p, l, a + nSs es, b - nSs es, xs, _, rfl, rfl, d1, fun h => ?_, fun h => ?_, fun e v H2 s2 d2 at2 ok2 o2 g1 g2 => ?_⟩
    · by_cases hb : 0 < b
      · have := hp1 hb; have := n1 hb; omega
      · have := n2 (by omega); omega
    · by_cases hb : 0 < b
      · have := hp1 hb; have := n1 hb; omega
      · have := n2 (by omega); have := hp2 (by omega); omega
    obtain ⟨q1, q2, q3, q4, q5⟩ := Sts.snoc_n es e
    have hD2 : H2 D = some (.lst ys) := s2 _ _ hDn.1 hD1
    have tup : Tups H1 (upd H2 D (.lst (ys ++ [v]))) := (s2.tups d1.1).trans (tups_lst hD2)
    refine ⟨ys, hD2, by rw [at1.len, c1, sizeLine_eq]; omega, es.snoc e, ys ++ [v], ?_, ?_, upd_same, ?_, q3.mpr ⟨ok1, ok2⟩, by rw [q2]; exact Nat.max_le.mpr ⟨o1, o2⟩, by rw [q4, c1], fun hb => ?_, fun hb => ?_⟩
    · intro q u n h
      rw [upd_ne (ne_of_none h hD)]
      exact s2 q u n (s1 q u n h)
    · rw [q1]
      have e1 : a + nSs es + nS e = a + (nSs es + nS e) := by omega
      have e2 : b - (nSs es : Int) - (nS e : Int) = b - ((nSs es + nS e : Nat) : Int) := by omega
      rw [e1, e2] at d2
      exact ⟨by rw [upd_ne hDn.1.symm]; exact d2.1, by rw [upd_ne hDn.2.symm]; exact d2.2.1, d2.2.2⟩
    · exact Sts.at_snoc (at1.on_ tup) (at2.on_ (tups_lst hD2))
    · rw [q1]
      have := n1 hb
      by_cases h : 0 < b - (nSs es : Int)
      · have := g1 h; omega
      · have := g2 (by omega); omega
    · rw [q1]
      have := n2 hb
      have := g2 (by omega)
      omega
  · rintro H1 ⟨es, ys, s1, d1, hD1, at1, ok1, o1, c1, n1, n2⟩
    have cm : cS es = m := by omega
    refine ⟨D, ys, rfl, .inl ⟨SqL.of hD1, fun q hq => ?_⟩⟩
    have s2 := same_new hq (.tup ys)
    refine kq es q ys _ (s1.trans (SB.same s2)) (d1.same s2) upd_same (at1.on_ (same_tups s2)) ok1 o1 (fun hb => ?_) (fun hb => ?_)
    · have := n1 hb; omega
    · have := n2 hb; omega
end
end My
set_option Elab.async false
set_option linter.all false
set_option maxRecDepth 100000
set_option maxHeartbeats 4000000
namespace My
open PySem L2 SS
section
variable {P : Program} {w : World} {K : PySem.W.Frag} {mg : Str → Option Value} {base : Heap}
def spF : Sp := fun _ _ _ _ => False
def prevE : Nat → Sp
  | 0 => spF
  | d + 1 => spGE d
def prevEs : Nat → Sp
  | 0 => spF
  | d + 1 => spGEs d
def prevB : Nat → Sp
  | 0 => spF
  | d + 1 => spGB d
theorem DeckAt.cast {H : Hp} {p l : Addr} {a a' : Nat} {b b' : Int} {xs : List Int} (h : DeckAt H p l a b xs) (ea : a = a') (eb : b = b') : DeckAt H p l a' b' xs := by
  subst ea eb
  exact h
theorem scGE : FnScope ["_law_deck_here", "_law_depth", "_law_draw", "_law_way", "_law_rest", "_law_message", "_law_receiver", "_law_words", "_law_k"] ["_law_deck_here", "_law_depth"] (defScope sGE) := ⟨rfl, rfl, rfl, by decide +kernel, rfl, by decide +kernel, by decide +kernel⟩
theorem emod_nat (x : Int) {n : Nat} (h : 0 < n) : ∃ m : Nat, x % ((n : Nat) : Int) = ((m : Nat) : Int) ∧ m < n := by
  have e0 := Int.emod_nonneg x (show ((n : Nat) : Int) ≠ 0 by omega)
  have e1 := Int.emod_lt_of_pos x (show (0 : Int) < ((n : Nat) : Int) by omega)
  exact ⟨(x % ((n : Nat) : Int)).toNat, by omega, by omega⟩
theorem c_ge {d k : Nat} (hk : 3 ≤ k + 3) (TS : TxS K mg) (T : TxL mg) (D : Dn K mg "_law_e" sGE) (GN : C0 P w K mg base 1 "_law_next" spNext) (GW : C0 P w K mg base 1 "_law_word" (spLWord isFree)) (GL : C0 P w K mg base 2 "_law_leaf" spLLeaf)
    (GE : C0 P w K mg base k "_law_e" (prevE d)) (GEs : C0 P w K mg base (k + 1) "_law_es" (prevEs d)) (GB : C0 P w K mg base (k + 2) "_law_body" (prevB d)) : C0 P w K mg base (k + 3) "_law_e" (spGE d) := by
  obtain ⟨f, fd, F, m⟩ := D.ex
  refine ⟨f, fd, ["_law_deck_here", "_law_depth"], F.ok scGE (fun vs H Q E h => ?_) (fun cdv A outer s H vs Q E hr h => ?_), m, F.kp, F.binds (ps := ["_law_deck_here", "_law_depth"]) fun _ _ _ _ _ _ us hl => match us, hl with | [_, _], _ => rfl⟩
  · obtain ⟨p, l, a, b, xs, dd, rfl, _⟩ := h
    rfl
  obtain ⟨p, l, a, b, xs, dd, rfl, rfl, hd, hp1, hp2, kq⟩ := h
  refine ⟨_, pss_cons (ps_set (i := 2) scGE.nd rfl (Or.inl rfl) (pe_cc GN hr (by omega) pass0 (pa_cons (pv 0) pa_nil))) <|
    pss_cons (ps_asg (pe_op op_sub (pe_ix ix_list (pv 0) pe_int (fun _ _ => rfl)) pe_int) (pg_sub (pv 0) pe_int set_list)) <|
    pss_cons (ps_set (i := 3) scGE.nd rfl (Or.inl rfl) (pe_op op_mod (pv 2) pe_int)) <|
    pss_cons (ps_set (i := 4) scGE.nd rfl (Or.inr rfl) (pe_op op_fdiv (pv 2) pe_int)) <|
    pss_cons (ps_if (PW.pt (pw_or (pt_cmpR op_lt (pv 1) pe_int (nomark _)) (pw_or (pt_cmpR op_lt (pe_ix ix_list (pv 0) pe_int (fun _ _ => rfl)) pe_int (nomark _)) (pw_or1 (pt_cmpR op_lt (pv 3) pe_int (nomark _)))))) (pss_one (ps_ret (pe_cc GL hr (by omega) pass0 (pa_cons (pv 4) pa_nil)))) pss_nil) <|
    pss_cons (ps_if (pt_cmpR op_lt (pv 3) pe_int (nomark _))
      (pss_cons (ps_set (i := 5) scGE.nd rfl (Or.inl rfl) (pe_ix ix_list (pe_lst (pa_cons pe_str (pa_cons pe_str (pa_cons pe_str (pa_cons pe_str (pa_cons pe_str (pa_cons pe_str (pa_cons (pe_cc GW hr (by omega) pass0 (pa_cons (pe_op op_fdiv (pv 4) pe_int) pa_nil)) pa_nil)))))))) (pe_op op_mod (pv 4) pe_int) (fun _ _ => rfl))) <|
        pss_cons (ps_set (i := 6) scGE.nd rfl (Or.inl rfl) (pe_cc GE hr (by omega) pass0 (pa_cons (pv 0) (pa_cons (pe_op op_sub (pv 1) pe_int) pa_nil)))) <|
        pss_one (ps_ret (pe_tup (pa_cons pe_str (pa_cons (pv 6) (pa_cons (pv 5) (pa_cons (pe_cc GEs hr (by omega) pass0 (pa_cons (pv 0) (pa_cons (pe_op op_mod (pe_op op_fdiv (pv 4) pe_int) pe_int) (pa_cons (pe_op op_sub (pv 1) pe_int) pa_nil)))) pa_nil))))))) pss_nil) <|
    pss_cons (ps_if (pt_cmpR op_eq (pv 3) pe_int (nomark _)) (pss_one (ps_ret (pe_tup (pa_cons pe_str (pa_cons (pe_cc GW hr (by omega) pass0 (pa_cons (pv 4) pa_nil)) (pa_cons (pe_cc GEs hr (by omega) pass0 (pa_cons (pv 0) (pa_cons (pe_op op_mod (pe_op op_fdiv (pv 4) pe_int) pe_int) (pa_cons (pe_op op_sub (pv 1) pe_int) pa_nil)))) pa_nil)))))) pss_nil) <|
    pss_cons (ps_if (pt_cmpR op_eq (pv 3) pe_int (nomark _)) (pss_one (ps_ret (pe_tup (pa_cons pe_str (pa_cons (pe_cc GEs hr (by omega) pass0 (pa_cons (pv 0) (pa_cons (pe_op op_mod (pv 4) pe_int) (pa_cons (pe_op op_sub (pv 1) pe_int) pa_nil)))) pa_nil))))) pss_nil) <|
    pss_cons (ps_set (i := 7) scGE.nd rfl (Or.inl rfl) (pe_callTy call_tuple_of (by rfl) TS.tup (by decide +kernel) (pa_cons (pe_lc (own := [("_law_k", 8)]) (g := gName 8) (tt := tYes) rfl scGE.nd (pi_range1 rfl T.range (pa_cons (pe_op op_mod (pe_op op_fdiv (pv 4) pe_int) pe_int) pa_nil))
      (blkOk_by (own := [("_law_k", 8)]) (N := ["_law_deck_here", "_law_depth", "_law_draw", "_law_way", "_law_rest", "_law_message", "_law_receiver", "_law_words", "_law_k"]) (sc := defScope sGE) (by decide +kernel)) (fun _ _ _ _ _ => pg_name (i := 8) scGE.nd rfl (Or.inl rfl)) (fun _ _ _ _ _ => pts_nil)
      (fun _ _ _ _ _ => pe_cc GW hr (by omega) pass0 (pa_cons (pe_op op_add (pv 4) (pe_op op_mul (pv 8) (pe_op op_add pe_int (pe_op op_mod (pe_op op_fdiv (pv 4) pe_int) pe_int)))) pa_nil))) pa_nil))) <|
    pss_one (ps_ret (pe_tup (pa_cons pe_str (pa_cons (pv 7) (pa_cons (pe_cc GB hr (by omega) pass0 (pa_cons (pv 0) (pa_cons (pe_op op_mod (pe_op op_fdiv (pv 4) pe_int) pe_int) (pa_cons (pe_op op_sub (pv 1) pe_int) pa_nil)))) pa_nil))))), ?_⟩
  have ha : a ≤ 10000 := by
    by_cases hb : 0 < b
    · have := hp1 hb; omega
    · have := hp2 (by omega); omega
  refine ⟨_, rfl, p, l, a, b, xs, rfl, hd, ha, fun n hn d1 => ?_⟩
  have s1 : SB p H (upd H p (.lst [.int ((a + 1 : Nat) : Int), .ref l, .int b])) := SB.upd _
  generalize upd H p (.lst [.int ((a + 1 : Nat) : Int), .ref l, .int b]) = H1 at d1 s1 ⊢
  refine ⟨_, rfl, p, _, _, _, rfl, rfl, SqL.of d1.1, atI_nat (j := 2) rfl, _, _, rfl, rfl, _, rfl, p, _, 2, 2, rfl, rfl, d1.1, rfl, ?_⟩
  have d2 : DeckAt (upd H1 p (.lst (([V.int ((a + 1 : Nat) : Int), .ref l, .int b] : List V).set 2 (.int (b - 1))))) p l (a + 1) (b - 1) xs := ⟨upd_same, by rw [upd_ne d1.2.2.1.symm]; exact d1.2.1, d1.2.2⟩
  have s2 : SB p H (upd H1 p (.lst (([V.int ((a + 1 : Nat) : Int), .ref l, .int b] : List V).set 2 (.int (b - 1))))) := s1.trans (SB.upd _)
  show tSeq _ _ _ _ (upd H1 p (.lst (([V.int ((a + 1 : Nat) : Int), .ref l, .int b] : List V).set 2 (.int (b - 1)))))
  generalize upd H1 p (.lst (([V.int ((a + 1 : Nat) : Int), .ref l, .int b] : List V).set 2 (.int (b - 1)))) = H2 at d2 s2 ⊢
  refine ⟨_, rfl, _, _, rfl, rfl, (by show (0 : Int) < 13; decide), ?_⟩
  refine ⟨_, rfl, _, _, rfl, rfl, ⟨by decide, by decide⟩, ?_⟩
  have leafK : ∀ e v H3, Same H2 H3 → AtE H3 e v → okE e → oE e = 0 → nE e = 1 → Q v H3 := fun e v H3 s3 at3 ok3 o3 n3 =>
    kq e v H3 (s2.trans (SB.same s3)) ((d2.same s3).cast (by rw [n3]) (by rw [n3]; rfl)) at3 ok3 (by omega) (fun _ => by rw [n3]; omega) (fun _ => n3)
  refine ⟨_, rfl, _, _, rfl, rfl, _, rfl, ?_⟩
  refine ite2 (fun c => iteT ⟨_, rfl, _, rfl, leafK⟩) (fun c => ?_)
  refine ⟨_, rfl, p, _, _, _, rfl, rfl, SqL.of d2.1, atI_nat (j := 2) rfl, _, _, rfl, rfl, _, rfl, ?_⟩
  refine ite2 (fun c2 => iteT ⟨_, rfl, _, rfl, leafK⟩) (fun c2 => ?_)
  refine ⟨_, rfl, _, _, rfl, rfl, _, rfl, ?_⟩
  refine ite2 (fun c3 => ⟨_, rfl, _, rfl, leafK⟩) (fun c3 => ?_)
  have hb1 : ¬ (b - 1 < 0) := of_decide_eq_false (Bool.eq_false_iff.mpr c2)
  have hb : 0 < b := by omega
  have hp := hp1 hb
  cases d with
  | zero => exact absurd (decide_eq_true (show (((0 : Nat) : Int)) < 1 by decide)) c
  | succ d =>
    have ed : ((d + 1 : Nat) : Int) - 1 = ((d : Nat) : Int) := by omega
    refine ⟨_, rfl, _, _, rfl, rfl, _, rfl, ?_⟩
    refine ite2 (fun c4 => ?_) (fun c4 => ?_)
    · -- a send
      refine ⟨_, rfl, _, _, rfl, rfl, ⟨by decide, by decide⟩, _, rfl, fun z H3 s3 gz => ?_⟩
      refine ⟨by show 7 ≤ sizeLine; decide, fun L hL => ?_⟩
      obtain ⟨mz, hmz, gmz⟩ := pick (n := 7) (xs := [V.str (Str.ofString "+"), V.str (Str.ofString "-"), V.str (Str.ofString "*"), V.str (Str.ofString "/"), V.str (Str.ofString "<"), V.str (Str.ofString "="), V.str (mk z)]) (f := fun z => V.str (mk z)) (Pz := fun z => isMsg z = true) rfl (by decide) (fun v hv => by
        simp only [List.mem_cons, List.not_mem_nil, or_false] at hv
        rcases hv with rfl | rfl | rfl | rfl | rfl | rfl | rfl
        · exact ⟨tl (Str.ofString "+"), by rw [mk_tl], by decide +kernel⟩
        · exact ⟨tl (Str.ofString "-"), by rw [mk_tl], by decide +kernel⟩
        · exact ⟨tl (Str.ofString "*"), by rw [mk_tl], by decide +kernel⟩
        · exact ⟨tl (Str.ofString "/"), by rw [mk_tl], by decide +kernel⟩
        · exact ⟨tl (Str.ofString "<"), by rw [mk_tl], by decide +kernel⟩
        · exact ⟨tl (Str.ofString "="), by rw [mk_tl], by decide +kernel⟩
        · exact ⟨z, rfl, by unfold isMsg; rw [gz]; rfl⟩) (n / 13)
      refine ⟨_, rfl, _, _, rfl, rfl, (by show (0 : Int) < 7; decide), L, _, _, _, rfl, rfl, SqL.of upd_same, hmz, ?_⟩
      have s4 := s3.trans (same_new hL (.lst [V.str (Str.ofString "+"), V.str (Str.ofString "-"), V.str (Str.ofString "*"), V.str (Str.ofString "/"), V.str (Str.ofString "<"), V.str (Str.ofString "="), V.str (mk z)]))
      have d4 := d2.same s4
      refine ⟨_, rfl, _, rfl, _, _, rfl, rfl, p, l, a + 1, b - 1, xs, _, rfl, ed, d4, fun h => by omega, fun h => by omega, fun e1 v1 H5 s5 d5 at5 ok5 o5 g1 g2 => ?_⟩
      obtain ⟨mm, emm, hmm⟩ := emod_nat (n / 13 / 70) (n := 3) (by decide)
      refine ⟨_, rfl, _, rfl, _, rfl, _, rfl, _, _, rfl, rfl, ⟨by decide, by decide⟩, _, _, rfl, rfl, (by show (0 : Int) < 3; decide), _, rfl, _, _, rfl, rfl, p, l, _, _, xs, _, _, mm, rfl, ed, emm, by omega, d5, fun h => ?_, fun h => ?_, fun es q ys H6 s6 d6 hq at6 ok6 o6 g3 g4 => ?_⟩
      · omega
      · by_cases h1 : 0 < b - 1
        · have := g1 h1; omega
        · have := g2 (by omega); omega
      refine ⟨by show 4 ≤ sizeLine; decide, fun r hr2 => ?_⟩
      have sr := same_new hr2 (.tup [S_ "send", v1, .str (mk mz), .ref q])
      have t6 := s6.tups d5.1
      refine kq (.send e1 mz es) (.ref r) _ (((s2.trans (SB.same s4)).trans s5).trans (s6.trans (SB.same sr))) ((d6.same sr).cast (by simp only [nE]; omega) (by simp only [nE]; omega)) ⟨r, v1, q, ys, rfl, upd_same, sr _ _ hq, (at5.on_ t6).on_ (same_tups sr), at6.on_ (same_tups sr)⟩ ⟨gmz, ok5, ok6⟩ (by simp only [oE]; omega) (fun _ => ?_) (fun h => by omega)
      simp only [nE]
      by_cases h1 : 0 < b - 1
      · have := g1 h1
        by_cases h2 : 0 < b - 1 - (nE e1 : Int)
        · have := g3 h2; omega
        · have := g4 (by omega); omega
      · have := g2 (by omega)
        have := g4 (by omega)
        omega
    refine ⟨_, rfl, rfl, _, rfl, ?_⟩
    refine ite2 (fun c5 => ?_) (fun c5 => ?_)
    · -- an up
      obtain ⟨mm, emm, hmm⟩ := emod_nat (n / 13 / 10) (n := 3) (by decide)
      refine ⟨_, rfl, _, rfl, fun z H3 s3 gz => ?_⟩
      have d3 := d2.same s3
      refine ⟨_, rfl, _, rfl, _, _, rfl, rfl, ⟨by decide, by decide⟩, _, _, rfl, rfl, (by show (0 : Int) < 3; decide), _, rfl, _, _, rfl, rfl, p, l, _, _, xs, _, _, mm, rfl, ed, emm, by omega, d3, fun h => by omega, fun h => by omega, fun es q ys H6 s6 d6 hq at6 ok6 o6 g3 g4 => ?_⟩
      refine ⟨by show 3 ≤ sizeLine; decide, fun r hr2 => ?_⟩
      have sr := same_new hr2 (.tup [S_ "up", .str (mk z), .ref q])
      refine kq (.up z es) (.ref r) _ ((s2.trans (SB.same s3)).trans (s6.trans (SB.same sr))) ((d6.same sr).cast (by simp only [nE]; omega) (by simp only [nE]; omega)) ⟨r, q, ys, rfl, upd_same, sr _ _ hq, at6.on_ (same_tups sr)⟩ ⟨gz, ok6⟩ (by simp only [oE]; omega) (fun _ => ?_) (fun h => by omega)
      simp only [nE]
      by_cases h2 : 0 < b - 1
      · have := g3 h2; omega
      · have := g4 (by omega); omega
    refine ⟨_, rfl, rfl, _, rfl, ?_⟩
    refine ite2 (fun c6 => ?_) (fun c6 => ?_)
    · -- a list
      obtain ⟨mm, emm, hmm⟩ := emod_nat (n / 13) (n := 4) (by decide)
      refine ⟨_, rfl, _, rfl, _, _, rfl, rfl, (by show (0 : Int) < 4; decide), _, rfl, _, _, rfl, rfl, p, l, _, _, xs, _, _, mm, rfl, ed, emm, by omega, d2, fun h => by omega, fun h => by omega, fun es q ys H6 s6 d6 hq at6 ok6 o6 g3 g4 => ?_⟩
      refine ⟨by show 2 ≤ sizeLine; decide, fun r hr2 => ?_⟩
      have sr := same_new hr2 (.tup [S_ "list", .ref q])
      refine kq (.lst es) (.ref r) _ (s2.trans (s6.trans (SB.same sr))) ((d6.same sr).cast (by simp only [nE]; omega) (by simp only [nE]; omega)) ⟨r, q, ys, rfl, upd_same, sr _ _ hq, at6.on_ (same_tups sr)⟩ ok6 (by simp only [oE]; omega) (fun _ => ?_) (fun h => by omega)
      simp only [nE]
      by_cases h2 : 0 < b - 1
      · have := g3 h2; omega
      · have := g4 (by omega); omega
    -- a block
    obtain ⟨m3, em3, hm3⟩ := emod_nat (n / 13 / 30) (n := 3) (by decide)
    refine ⟨_, rfl, _, _, rfl, rfl, ⟨by decide, by decide⟩, _, _, rfl, rfl, (by show (0 : Int) < 3; decide), ((m3 : Nat) : Int), by rw [← em3]; rfl, by omega, by omega, fun D0 hD0 => ?_⟩
    have hDn := d2.ne hD0
    refine lc_range (lo := 0) (n := ((m3 : Nat) : Int).toNat) (fun i H3 => ∃ (ws : List (List Nat)), Same H2 H3 ∧ H3 D0 = some (.lst (wsV ws)) ∧ ws.length = i ∧ ∀ z ∈ ws, isFree z = true) ⟨[], same_new hD0 _, upd_same, rfl, fun z hz => by simp at hz⟩ ?_ ?_
    · rintro i H3 hi ⟨ws, s3, h3, hl3, hf3⟩
      have hi' : i < m3 := by omega
      refine ⟨rfl, ?_⟩
      unfold tYes
      refine iteT ?_
      refine ⟨_, rfl, _, rfl, _, rfl, _, _, rfl, rfl, ⟨by decide, by decide⟩, _, _, rfl, rfl, (by show (0 : Int) < 3; decide), _, _, rfl, rfl, _, _, rfl, rfl, .inl ⟨by omega, by omega⟩, _, _, rfl, rfl, _, rfl, fun z H4 s4 gz => ?_⟩
      refine ⟨wsV ws, s4 _ _ h3, by unfold wsV; rw [List.length_map, sizeLine_eq]; omega, ws ++ [z], ?_, ?_, by rw [List.length_append, hl3]; rfl, fun x hx => ?_⟩
      · intro q u h
        rw [upd_ne (ne_of_none h hD0)]
        exact s4 _ _ (s3 _ _ h)
      · rw [upd_same]
        unfold wsV
        rw [List.map_append]
        rfl
      · rcases List.mem_append.mp hx with hx | hx
        · exact hf3 x hx
        · have : x = z := by simpa using hx
          rw [this]
          exact gz
    rintro H3 ⟨ws, s3, h3, hl3, hf3⟩
    refine ⟨D0, _, rfl, .inl ⟨SqL.of h3, fun tq htq => ?_⟩⟩
    have s4 := s3.trans (same_new htq (.tup (wsV ws)))
    have d4 := d2.same s4
    have aw : AtW (upd H3 tq (.tup (wsV ws))) ws (.ref tq) := ⟨tq, rfl, upd_same⟩
    obtain ⟨mm, emm, hmm⟩ := emod_nat (n / 13 / 90) (n := 3) (by decide)
    refine ⟨_, rfl, _, rfl, _, rfl, _, _, rfl, rfl, ⟨by decide, by decide⟩, _, _, rfl, rfl, (by show (0 : Int) < 3; decide), _, rfl, _, _, rfl, rfl, p, l, _, _, xs, _, _, mm, rfl, ed, emm, by omega, d4, fun h => by omega, fun h => by omega, fun es q ys H6 s6 d6 hq at6 ok6 o6 g3 g4 => ?_⟩
    refine ⟨by show 3 ≤ sizeLine; decide, fun r hr2 => ?_⟩
    have sr := same_new hr2 (.tup [S_ "block", .ref tq, .ref q])
    have t6 := (s6.tups d4.1).trans (same_tups sr)
    refine kq (.blk ws es) (.ref r) _ ((s2.trans (SB.same s4)).trans (s6.trans (SB.same sr))) ((d6.same sr).cast (by simp only [nE]; omega) (by simp only [nE]; omega)) ⟨r, _, q, ys, rfl, upd_same, sr _ _ hq, aw.on t6, at6.on_ (same_tups sr)⟩ ⟨by omega, hf3, ok6⟩ (by simp only [oE]; omega) (fun _ => ?_) (fun h => by omega)
    simp only [nE]
    by_cases h2 : 0 < b - 1
    · have := g3 h2; omega
    · have := g4 (by omega); omega
end
end My
set_option Elab.async false
set_option linter.all false
set_option maxRecDepth 100000
set_option maxHeartbeats 4000000
namespace My
open PySem L2 SS
section
variable {P : Program} {w : World} {K : PySem.W.Frag} {mg : Str → Option Value} {base : Heap}
theorem scGS : FnScope ["_law_deck_here", "_law_depth", "_law_draw", "_law_way", "_law_rest", "_law_test", "_law_first"] ["_law_deck_here", "_law_depth"] (defScope sGS) := ⟨rfl, rfl, rfl, by decide +kernel, rfl, by decide +kernel, by decide +kernel⟩
theorem c_gs {d k : Nat} (TS : TxS K mg) (T : TxL mg) (D : Dn K mg "_law_statement" sGS) (GN : C0 P w K mg base 1 "_law_next" spNext) (GW : C0 P w K mg base 1 "_law_word" (spLWord isFree))
    (G : C0 P w K mg base (k + 3) "_law_e" (spGE d)) (GE : C0 P w K mg base k "_law_e" (prevE d)) (GB : C0 P w K mg base (k + 2) "_law_body" (prevB d)) : C0 P w K mg base (k + 4) "_law_statement" (spGS d) := by
  obtain ⟨f, fd, F, m⟩ := D.ex
  refine ⟨f, fd, ["_law_deck_here", "_law_depth"], F.ok scGS (fun vs H Q E h => ?_) (fun cdv A outer s H vs Q E hr h => ?_), m, F.kp, F.binds (ps := ["_law_deck_here", "_law_depth"]) fun _ _ _ _ _ _ us hl => match us, hl with | [_, _], _ => rfl⟩
  · obtain ⟨p, l, a, b, xs, dd, rfl, _⟩ := h
    rfl
  obtain ⟨p, l, a, b, xs, dd, rfl, rfl, hd, hp1, hp2, kq⟩ := h
  refine ⟨_, pss_cons (ps_set (i := 2) scGS.nd rfl (Or.inl rfl) (pe_cc GN hr (by omega) pass0 (pa_cons (pv 0) pa_nil))) <|
    pss_cons (ps_asg (pe_op op_sub (pe_ix ix_list (pv 0) pe_int (fun _ _ => rfl)) pe_int) (pg_sub (pv 0) pe_int set_list)) <|
    pss_cons (ps_set (i := 3) scGS.nd rfl (Or.inl rfl) (pe_op op_mod (pv 2) pe_int)) <|
    pss_cons (ps_set (i := 4) scGS.nd rfl (Or.inl rfl) (pe_op op_fdiv (pv 2) pe_int)) <|
    pss_cons (ps_if (pt_cmpR op_lt (pv 3) pe_int (nomark _)) (pss_one (ps_ret (pe_tup (pa_cons pe_str (pa_cons (pe_cc GW hr (by omega) pass0 (pa_cons (pv 4) pa_nil)) (pa_cons (pe_cc G hr (by omega) pass0 (pa_cons (pv 0) (pa_cons (pv 1) pa_nil))) pa_nil)))))) pss_nil) <|
    pss_cons (ps_if (pt_cmpR op_eq (pv 3) pe_int (nomark _)) (pss_one (ps_ret (pe_tup (pa_cons pe_str (pa_cons (pe_cc GW hr (by omega) pass0 (pa_cons (pv 4) pa_nil)) (pa_cons (pe_cc G hr (by omega) pass0 (pa_cons (pv 0) (pa_cons (pv 1) pa_nil))) pa_nil)))))) pss_nil) <|
    pss_cons (ps_if (PW.pt (pw_or (pt_cmpR op_lt (pv 3) pe_int (nomark _)) (pw_or (pt_cmpR op_lt (pv 1) pe_int (nomark _)) (pw_or1 (pt_cmpR op_lt (pe_ix ix_list (pv 0) pe_int (fun _ _ => rfl)) pe_int (nomark _))))))
      (pss_one (ps_ret (pe_tup (pa_cons (pe_ix ix_list (pe_lst (pa_cons pe_str (pa_cons pe_str (pa_cons pe_str (pa_cons pe_str pa_nil))))) (pe_op op_mod (pv 4) pe_int) (fun _ _ => rfl)) (pa_cons (pe_cc G hr (by omega) pass0 (pa_cons (pv 0) (pa_cons (pv 1) pa_nil))) pa_nil))))) pss_nil) <|
    pss_cons (ps_if (pt_cmpR op_eq (pv 3) pe_int (nomark _))
      (pss_cons (ps_set (i := 5) scGS.nd rfl (Or.inl rfl) (pe_cc GE hr (by omega) pass0 (pa_cons (pv 0) (pa_cons (pe_op op_sub (pv 1) pe_int) pa_nil)))) <|
        pss_cons (ps_set (i := 6) scGS.nd rfl (Or.inl rfl) (pe_cc GB hr (by omega) pass0 (pa_cons (pv 0) (pa_cons (pe_op op_mod (pv 4) pe_int) (pa_cons (pe_op op_sub (pv 1) pe_int) pa_nil))))) <|
        pss_one (ps_ret (pe_tup (pa_cons pe_str (pa_cons (pv 5) (pa_cons (pv 6) (pa_cons (pe_cc GB hr (by omega) pass0 (pa_cons (pv 0) (pa_cons (pe_op op_mod (pe_op op_fdiv (pv 4) pe_int) pe_int) (pa_cons (pe_op op_sub (pv 1) pe_int) pa_nil)))) pa_nil))))))) pss_nil) <|
    pss_cons (ps_if (pt_cmpR op_eq (pv 3) pe_int (nomark _)) (pss_one (ps_ret (pe_tup (pa_cons pe_str (pa_cons (pe_cc GE hr (by omega) pass0 (pa_cons (pv 0) (pa_cons (pe_op op_sub (pv 1) pe_int) pa_nil))) (pa_cons (pe_cc GB hr (by omega) pass0 (pa_cons (pv 0) (pa_cons (pe_op op_mod (pv 4) pe_int) (pa_cons (pe_op op_sub (pv 1) pe_int) pa_nil)))) pa_nil)))))) pss_nil) <|
    pss_cons (ps_set (i := 6) scGS.nd rfl (Or.inl rfl) (pe_cc GB hr (by omega) pass0 (pa_cons (pv 0) (pa_cons (pe_op op_mod (pv 4) pe_int) (pa_cons (pe_op op_sub (pv 1) pe_int) pa_nil))))) <|
    pss_one (ps_ret (pe_tup (pa_cons pe_str (pa_cons (pv 6) (pa_cons (pe_cc GW hr (by omega) pass0 (pa_cons (pe_op op_fdiv (pv 4) pe_int) pa_nil)) (pa_cons (pe_cc GB hr (by omega) pass0 (pa_cons (pv 0) (pa_cons (pe_op op_mod (pe_op op_fdiv (pv 4) pe_int) pe_int) (pa_cons (pe_op op_sub (pv 1) pe_int) pa_nil)))) pa_nil)))))), ?_⟩
  have ha : a ≤ 10000 := by
    by_cases hb : 0 < b
    · have := hp1 hb; omega
    · have := hp2 (by omega); omega
  refine ⟨_, rfl, p, l, a, b, xs, rfl, hd, ha, fun n hn d1 => ?_⟩
  have s1 : SB p H (upd H p (.lst [.int ((a + 1 : Nat) : Int), .ref l, .int b])) := SB.upd _
  generalize upd H p (.lst [.int ((a + 1 : Nat) : Int), .ref l, .int b]) = H1 at d1 s1 ⊢
  refine ⟨_, rfl, p, _, _, _, rfl, rfl, SqL.of d1.1, atI_nat (j := 2) rfl, _, _, rfl, rfl, _, rfl, p, _, 2, 2, rfl, rfl, d1.1, rfl, ?_⟩
  have d2 : DeckAt (upd H1 p (.lst (([V.int ((a + 1 : Nat) : Int), .ref l, .int b] : List V).set 2 (.int (b - 1))))) p l (a + 1) (b - 1) xs := ⟨upd_same, by rw [upd_ne d1.2.2.1.symm]; exact d1.2.1, d1.2.2⟩
  have s2 : SB p H (upd H1 p (.lst (([V.int ((a + 1 : Nat) : Int), .ref l, .int b] : List V).set 2 (.int (b - 1))))) := s1.trans (SB.upd _)
  show tSeq _ _ _ _ (upd H1 p (.lst (([V.int ((a + 1 : Nat) : Int), .ref l, .int b] : List V).set 2 (.int (b - 1)))))
  generalize upd H1 p (.lst (([V.int ((a + 1 : Nat) : Int), .ref l, .int b] : List V).set 2 (.int (b - 1)))) = H2 at d2 s2 ⊢
  refine ⟨_, rfl, _, _, rfl, rfl, (by show (0 : Int) < 10; decide), ?_⟩
  refine ⟨_, rfl, _, _, rfl, rfl, ⟨by decide, by decide⟩, ?_⟩
  have pr1 : 0 < b - 1 → ((a + 1 : Nat) : Int) + (b - 1) + 10 * (d : Nat) + 1 ≤ 9000 := fun h => by
    have := hp1 (by omega)
    omega
  have pr2 : b - 1 ≤ 0 → a + 1 + 2 ≤ 9000 := fun h => by
    by_cases hb : 0 < b
    · have := hp1 hb; omega
    · have := hp2 (by omega); omega
  -- a statement of one e
  have one : ∀ (mkS : Ex → St_) (H3 : Hp), Same H2 H3 → (∀ e, nS (mkS e) = 1 + nE e ∧ oS (mkS e) = oE e) → (∀ e, okE e → okS (mkS e)) → ∀ (tupl : V → List V), (∀ e v H' q, H' q = some (.tup (tupl v)) → AtE H' e v → AtS H' (mkS e) (.ref q)) →
      ∀ e v H', SB p H3 H' → DeckAt H' p l (a + 1 + nE e) (b - 1 - nE e) xs → AtE H' e v → okE e → oE e ≤ d → (0 < b - 1 → (nE e : Int) ≤ b - 1 + 10 * d) → (b - 1 ≤ 0 → nE e = 1) → ∀ q, H' q = none → Q (.ref q) (upd H' q (.tup (tupl v))) := fun mkS H3 s3 hn1 hok tupl hat e v H' s4 d4 at4 ok4 o4 g1 g2 q hq => by
    have sr := same_new hq (.tup (tupl v))
    obtain ⟨n1, o1⟩ := hn1 e
    refine kq (mkS e) (.ref q) _ ((s2.trans (SB.same s3)).trans (s4.trans (SB.same sr))) ((d4.same sr).cast (by rw [n1]; omega) (by rw [n1]; omega)) (hat e v _ q upd_same (at4.on_ (same_tups sr))) (hok e ok4) (by rw [o1]; exact o4) (fun hb => ?_) (fun hb => ?_)
    · rw [n1]
      by_cases h1 : 0 < b - 1
      · have := g1 h1; omega
      · have := g2 (by omega); omega
    · rw [n1]
      have := g2 (by omega); omega
  refine ⟨_, rfl, _, _, rfl, rfl, _, rfl, ?_⟩
  refine ite2 (fun c => ?_) (fun c => ?_)
  · refine ⟨_, rfl, _, rfl, fun z H3 s3 gz => ?_⟩
    refine ⟨_, rfl, _, rfl, p, l, a + 1, b - 1, xs, _, rfl, rfl, d2.same s3, pr1, pr2, fun e v H' s4 d4 at4 ok4 o4 g1 g2 => ⟨by show 3 ≤ sizeLine; decide, ?_⟩⟩
    exact one (.set z) H3 s3 (fun e => ⟨rfl, rfl⟩) (fun e h => ⟨gz, h⟩) (fun v => [S_ "set", .str (mk z), v]) (fun e v H' q h1 h2 => ⟨q, v, rfl, h1, h2⟩) e v H' s4 d4 at4 ok4 o4 g1 g2
  refine ⟨_, rfl, rfl, _, rfl, ?_⟩
  refine ite2 (fun c1 => ?_) (fun c1 => ?_)
  · refine ⟨_, rfl, _, rfl, fun z H3 s3 gz => ?_⟩
    refine ⟨_, rfl, _, rfl, p, l, a + 1, b - 1, xs, _, rfl, rfl, d2.same s3, pr1, pr2, fun e v H' s4 d4 at4 ok4 o4 g1 g2 => ⟨by show 3 ≤ sizeLine; decide, ?_⟩⟩
    exact one (.sfl z) H3 s3 (fun e => ⟨rfl, rfl⟩) (fun e h => ⟨gz, h⟩) (fun v => [S_ "setfield", .str (mk z), v]) (fun e v H' q h1 h2 => ⟨q, v, rfl, h1, h2⟩) e v H' s4 d4 at4 ok4 o4 g1 g2
  refine ⟨_, rfl, _, _, rfl, rfl, _, rfl, ?_⟩
  refine (fun (key : _) => ite2 (fun c => iteT key) (fun c => ⟨_, rfl, _, _, rfl, rfl, _, rfl, ite2 (fun c2 => iteT key) (fun c2 => ⟨_, rfl, p, _, _, _, rfl, rfl, SqL.of d2.1, atI_nat (j := 2) rfl, _, _, rfl, rfl, _, rfl, ite2 (fun c3 => key) (fun c3 => ?rest)⟩)⟩)) ?key
  case key =>
    refine ⟨by show 4 ≤ sizeLine; decide, fun L hL => ?_⟩
    have s3 := same_new hL (.lst [V.str (Str.ofString "do"), V.str (Str.ofString "say"), V.str (Str.ofString "return"), V.str (Str.ofString "raise")])
    obtain ⟨z, hz, gz⟩ := pick (n := 4) (f := fun z => V.str (mk z)) (Pz := fun z => isPl z = true) rfl (by decide) (all_ok (g := isPl) (ws := ["do", "say", "return", "raise"]) (by decide +kernel)) (n / 10)
    refine ⟨_, rfl, _, _, rfl, rfl, (by show (0 : Int) < 4; decide), L, _, _, _, rfl, rfl, SqL.of upd_same, hz, ?_⟩
    refine ⟨_, rfl, _, rfl, p, l, a + 1, b - 1, xs, _, rfl, rfl, d2.same s3, pr1, pr2, fun e v H' s4 d4 at4 ok4 o4 g1 g2 => ⟨by show 2 ≤ sizeLine; decide, ?_⟩⟩
    exact one (.pl z) _ s3 (fun e => ⟨rfl, rfl⟩) (fun e h => ⟨gz, h⟩) (fun v => [.str (mk z), v]) (fun e v H' q h1 h2 => ⟨q, v, rfl, h1, h2⟩) e v H' s4 d4 at4 ok4 o4 g1 g2
  have hb1 : ¬ (b - 1 < 0) := of_decide_eq_false (Bool.eq_false_iff.mpr c3)
  have hb : 0 < b := by omega
  have hp := hp1 hb
  cases d with
  | zero => exact absurd (decide_eq_true (show (((0 : Nat) : Int)) < 1 by decide)) c2
  | succ d =>
    have ed : ((d + 1 : Nat) : Int) - 1 = ((d : Nat) : Int) := by omega
    obtain ⟨m1, em1, hm1⟩ := emod_nat (n / 10) (n := 3) (by decide)
    obtain ⟨m2, em2, hm2⟩ := emod_nat (n / 10 / 3) (n := 3) (by decide)
    obtain ⟨m3, em3, hm3⟩ := emod_nat (n / 10 / 30) (n := 3) (by decide)
    refine ⟨_, rfl, rfl, _, rfl, ?_⟩
    refine ite2 (fun c5 => ?_) (fun c5 => ?_)
    · -- an if
      refine ⟨_, rfl, _, rfl, _, _, rfl, rfl, p, l, a + 1, b - 1, xs, _, rfl, ed, d2, fun h => by omega, fun h => by omega, fun e1 v1 H5 s5 d5 at5 ok5 o5 g1 g2 => ?_⟩
      refine ⟨_, rfl, _, rfl, _, _, rfl, rfl, (by show (0 : Int) < 3; decide), _, rfl, _, _, rfl, rfl, p, l, _, _, xs, _, _, m1, rfl, ed, em1, by omega, d5, fun h => by omega, fun h => ?_, fun s1_ q1 y1 H6 s6 d6 hq1 at6 ok6 o6 g3 g4 => ?_⟩
      · by_cases h1 : 0 < b - 1
        · have := g1 h1; omega
        · have := g2 (by omega); omega
      refine ⟨_, rfl, _, rfl, _, rfl, _, rfl, _, _, rfl, rfl, ⟨by decide, by decide⟩, _, _, rfl, rfl, (by show (0 : Int) < 3; decide), _, rfl, _, _, rfl, rfl, p, l, _, _, xs, _, _, m2, rfl, ed, em2, by omega, d6, fun h => by omega, fun h => ?_, fun s2_ q2 y2 H7 s7 d7 hq2 at7 ok7 o7 g5 g6 => ?_⟩
      · by_cases h1 : 0 < b - 1
        · have := g1 h1
          by_cases h2 : 0 < b - 1 - (nE e1 : Int)
          · have := g3 h2; omega
          · have := g4 (by omega); omega
        · have := g2 (by omega)
          have := g4 (by omega)
          omega
      refine ⟨by show 4 ≤ sizeLine; decide, fun r hr2 => ?_⟩
      have sr := same_new hr2 (.tup [S_ "if", v1, .ref q1, .ref q2])
      have t6 := s6.tups d5.1
      have t7 := s7.tups d6.1
      have tr := same_tups sr
      refine kq (.iff e1 s1_ s2_) (.ref r) _ ((s2.trans s5).trans ((s6.trans s7).trans (SB.same sr))) ((d7.same sr).cast (by simp only [nS]; omega) (by simp only [nS]; omega)) ⟨r, v1, q1, y1, q2, y2, rfl, upd_same, tr _ _ (t7 _ _ hq1), tr _ _ hq2, ((at5.on_ t6).on_ t7).on_ tr, (at6.on_ t7).on_ tr, at7.on_ tr⟩ ⟨ok5, ok6, ok7⟩ (by simp only [oS]; omega) (fun _ => ?_) (fun h => by omega)
      simp only [nS]
      by_cases h1 : 0 < b - 1
      · have := g1 h1
        by_cases h2 : 0 < b - 1 - (nE e1 : Int)
        · have := g3 h2
          by_cases h3 : 0 < b - 1 - (nE e1 : Int) - (nSs s1_ : Int)
          · have := g5 h3; omega
          · have := g6 (by omega); omega
        · have := g4 (by omega)
          have := g6 (by omega)
          omega
      · have := g2 (by omega)
        have := g4 (by omega)
        have := g6 (by omega)
        omega
    refine ⟨_, rfl, rfl, _, rfl, ?_⟩
    refine ite2 (fun c6 => ?_) (fun c6 => ?_)
    · -- a while
      refine ⟨_, rfl, _, rfl, _, _, rfl, rfl, p, l, a + 1, b - 1, xs, _, rfl, ed, d2, fun h => by omega, fun h => by omega, fun e1 v1 H5 s5 d5 at5 ok5 o5 g1 g2 => ?_⟩
      refine ⟨_, rfl, _, rfl, _, _, rfl, rfl, (by show (0 : Int) < 3; decide), _, rfl, _, _, rfl, rfl, p, l, _, _, xs, _, _, m1, rfl, ed, em1, by omega, d5, fun h => by omega, fun h => ?_, fun s1_ q1 y1 H6 s6 d6 hq1 at6 ok6 o6 g3 g4 => ?_⟩
      · by_cases h1 : 0 < b - 1
        · have := g1 h1; omega
        · have := g2 (by omega); omega
      refine ⟨by show 3 ≤ sizeLine; decide, fun r hr2 => ?_⟩
      have sr := same_new hr2 (.tup [S_ "while", v1, .ref q1])
      have t6 := s6.tups d5.1
      have tr := same_tups sr
      refine kq (.whl e1 s1_) (.ref r) _ ((s2.trans s5).trans (s6.trans (SB.same sr))) ((d6.same sr).cast (by simp only [nS]; omega) (by simp only [nS]; omega)) ⟨r, v1, q1, y1, rfl, upd_same, tr _ _ hq1, (at5.on_ t6).on_ tr, at6.on_ tr⟩ ⟨ok5, ok6⟩ (by simp only [oS]; omega) (fun _ => ?_) (fun h => by omega)
      simp only [nS]
      by_cases h1 : 0 < b - 1
      · have := g1 h1
        by_cases h2 : 0 < b - 1 - (nE e1 : Int)
        · have := g3 h2; omega
        · have := g4 (by omega); omega
      · have := g2 (by omega)
        have := g4 (by omega)
        omega
    -- a try
    refine ⟨_, rfl, _, rfl, _, _, rfl, rfl, (by show (0 : Int) < 3; decide), _, rfl, _, _, rfl, rfl, p, l, _, _, xs, _, _, m1, rfl, ed, em1, by omega, d2, fun h => by omega, fun h => by omega, fun s1_ q1 y1 H6 s6 d6 hq1 at6 ok6 o6 g3 g4 => ?_⟩
    refine ⟨_, rfl, _, rfl, _, _, rfl, rfl, ⟨by decide, by decide⟩, _, rfl, fun z H3 s3 gz => ?_⟩
    refine ⟨_, rfl, _, rfl, _, _, rfl, rfl, ⟨by decide, by decide⟩, _, _, rfl, rfl, (by show (0 : Int) < 3; decide), _, rfl, _, _, rfl, rfl, p, l, _, _, xs, _, _, m3, rfl, ed, em3, by omega, d6.same s3, fun h => by omega, fun h => ?_, fun s2_ q2 y2 H7 s7 d7 hq2 at7 ok7 o7 g5 g6 => ?_⟩
    · by_cases h2 : 0 < b - 1
      · have := g3 h2; omega
      · have := g4 (by omega); omega
    refine ⟨by show 4 ≤ sizeLine; decide, fun r hr2 => ?_⟩
    have sr := same_new hr2 (.tup [S_ "try", .ref q1, .str (mk z), .ref q2])
    have t7 := (same_tups s3).trans (s7.tups (d6.same s3).1)
    have tr := same_tups sr
    refine kq (.tri s1_ z s2_) (.ref r) _ ((s2.trans s6).trans (((SB.same s3).trans s7).trans (SB.same sr))) ((d7.same sr).cast (by simp only [nS]; omega) (by simp only [nS]; omega)) ⟨r, q1, y1, q2, y2, rfl, upd_same, tr _ _ (t7 _ _ hq1), tr _ _ hq2, (at6.on_ t7).on_ tr, at7.on_ tr⟩ ⟨gz, ok6, ok7⟩ (by simp only [oS]; omega) (fun _ => ?_) (fun h => by omega)
    simp only [nS]
    by_cases h2 : 0 < b - 1
    · have := g3 h2
      by_cases h3 : 0 < b - 1 - (nSs s1_ : Int)
      · have := g5 h3; omega
      · have := g6 (by omega); omega
    · have := g4 (by omega)
      have := g6 (by omega)
      omega
end
end My
set_option Elab.async false
set_option linter.all false
set_option maxRecDepth 100000
set_option maxHeartbeats 4000000
namespace My
open PySem L2 SS
abbrev sGM : Stmt := top 51
/-! methods, kinds, mores -/
structure Me where
  m : List Nat
  ps : List (List Nat)
  ss : Sts
inductive Tr : Type
  | kind (n p : List Nat) (fs : List (List Nat)) (ms : List Me) : Tr
  | more (n : List Nat) (ms : List Me) : Tr
def AtM (H : Hp) (m : Me) (v : V) : Prop := ∃ p vw q xs, v = .ref p ∧ H p = some (.tup [S_ "method", .str (mk m.m), vw, .ref q]) ∧ AtW H m.ps vw ∧ H q = some (.tup xs) ∧ AtSs H m.ss xs
/-- a row of things in a row of values -/
def AtL {α : Type} (R : Hp → α → V → Prop) (H : Hp) : List α → List V → Prop
  | [], vs => vs = []
  | x :: r, vs => ∃ v us, vs = v :: us ∧ R H x v ∧ AtL R H r us
theorem AtL.snoc {α : Type} {R : Hp → α → V → Prop} {H : Hp} : ∀ {xs : List α} {vs : List V} {x : α} {v : V}, AtL R H xs vs → R H x v → AtL R H (xs ++ [x]) (vs ++ [v])
  | [], vs, x, v, h, hx => by
    have h' : vs = [] := h
    subst h'
    exact ⟨v, [], rfl, hx, rfl⟩
  | y :: r, vs, x, v, ⟨u, us, h1, h2, h3⟩, hx => by
    subst h1
    exact ⟨u, us ++ [v], rfl, h2, AtL.snoc h3 hx⟩
theorem AtL.on {α : Type} {R : Hp → α → V → Prop} {H H' : Hp} (t : Tups H H') (hR : ∀ x v, R H x v → R H' x v) : ∀ {xs : List α} {vs : List V}, AtL R H xs vs → AtL R H' xs vs
  | [], vs, h => h
  | y :: r, vs, ⟨u, us, h1, h2, h3⟩ => ⟨u, us, h1, hR y u h2, AtL.on t hR h3⟩
theorem AtL.len {α : Type} {R : Hp → α → V → Prop} {H : Hp} : ∀ {xs : List α} {vs : List V}, AtL R H xs vs → vs.length = xs.length
  | [], vs, h => by
    have h' : vs = [] := h
    subst h'
    rfl
  | y :: r, vs, ⟨u, us, h1, h2, h3⟩ => by
    subst h1
    rw [List.length_cons, List.length_cons, AtL.len h3]
theorem AtM.on {H H' : Hp} (t : Tups H H') {m : Me} {v : V} (h : AtM H m v) : AtM H' m v := by
  obtain ⟨p, vw, q, xs, e, h1, h2, h3, h4⟩ := h
  exact ⟨p, vw, q, xs, e, t _ _ h1, h2.on t, t _ _ h3, h4.on_ t⟩
abbrev AtMs (H : Hp) (ms : List Me) (vs : List V) : Prop := AtL AtM H ms vs
theorem AtMs.on_ {H H' : Hp} (t : Tups H H') {ms : List Me} {vs : List V} (h : AtMs H ms vs) : AtMs H' ms vs := AtL.on t (fun _ _ h => h.on t) h
def AtTr (H : Hp) : Tr → V → Prop
  | .kind n q fs ms, v => ∃ p vw r xs, v = .ref p ∧ H p = some (.tup [S_ "kind", .str (mk n), .str (mk q), vw, .ref r]) ∧ AtW H fs vw ∧ H r = some (.tup xs) ∧ AtMs H ms xs
  | .more n ms, v => ∃ p r xs, v = .ref p ∧ H p = some (.tup [S_ "more", .str (mk n), .ref r]) ∧ H r = some (.tup xs) ∧ AtMs H ms xs
theorem AtTr.on {H H' : Hp} (t : Tups H H') {x : Tr} {v : V} (h : AtTr H x v) : AtTr H' x v := by
  cases x with
  | kind n q fs ms =>
    obtain ⟨p, vw, r, xs, e, h1, h2, h3, h4⟩ := h
    exact ⟨p, vw, r, xs, e, t _ _ h1, h2.on t, t _ _ h3, h4.on_ t⟩
  | more n ms =>
    obtain ⟨p, r, xs, e, h1, h3, h4⟩ := h
    exact ⟨p, r, xs, e, t _ _ h1, t _ _ h3, h4.on_ t⟩
structure okM (m : Me) : Prop where
  fr : isFree m.m = true
  pl : m.ps.length ≤ 3
  ps : ∀ w ∈ m.ps, isFree w = true
  ss : okSs m.ss
  o : oSs m.ss ≤ 12
def Tr.ms : Tr → List Me
  | .kind _ _ _ ms => ms
  | .more _ ms => ms
structure okTr (x : Tr) : Prop where
  ml : x.ms.length ≤ 2
  ms : ∀ m ∈ x.ms, okM m
  hd : match x with
    | .kind n q fs _ => isKindName n = true ∧ isKindName q = true ∧ fs.length ≤ 3 ∧ ∀ w ∈ fs, isFree w = true
    | .more n _ => isKindName n = true
def nMs (ms : List Me) : Nat := (ms.map fun m => nSs m.ss).sum
def nTs (ts : List Tr) : Nat := (ts.map fun t => nMs t.ms).sum
def mTs (ts : List Tr) : Nat := (ts.map fun t => t.ms.length).sum
theorem nMs_snoc (ms : List Me) (m : Me) : nMs (ms ++ [m]) = nMs ms + nSs m.ss := by unfold nMs; rw [List.map_append, List.sum_append]; simp
theorem nTs_snoc (ts : List Tr) (t : Tr) : nTs (ts ++ [t]) = nTs ts + nMs t.ms := by unfold nTs; rw [List.map_append, List.sum_append]; simp
theorem mTs_snoc (ts : List Tr) (t : Tr) : mTs (ts ++ [t]) = mTs ts + t.ms.length := by unfold mTs; rw [List.map_append, List.sum_append]; simp
section
variable {P : Program} {w : World} {K : PySem.W.Frag} {mg : Str → Option Value} {base : Heap}
theorem c_noneE (k : Nat) (D : Dn K mg "_law_e" sGE) : C0 P w K mg base (k + 1) "_law_e" spF := by
  obtain ⟨f, fd, F, m⟩ := D.ex
  exact ⟨f, fd, ["_law_deck_here", "_law_depth"], F.ok scGE (fun vs H Q E h => h.elim) (fun cdv A outer s H vs Q E hr h => h.elim), m, F.kp, F.binds (ps := ["_law_deck_here", "_law_depth"]) fun _ _ _ _ _ _ us hl => match us, hl with | [_, _], _ => rfl⟩
theorem c_noneEs (k : Nat) (D : Dn K mg "_law_es" sGEs) : C0 P w K mg base (k + 1) "_law_es" spF := by
  obtain ⟨f, fd, F, m⟩ := D.ex
  exact ⟨f, fd, ["_law_deck_here", "_law_many", "_law_depth"], F.ok scGEs (fun vs H Q E h => h.elim) (fun cdv A outer s H vs Q E hr h => h.elim), m, F.kp, F.binds (ps := ["_law_deck_here", "_law_many", "_law_depth"]) fun _ _ _ _ _ _ us hl => match us, hl with | [_, _, _], _ => rfl⟩
theorem c_noneB (k : Nat) (D : Dn K mg "_law_body" sGB) : C0 P w K mg base (k + 1) "_law_body" spF := by
  obtain ⟨f, fd, F, m⟩ := D.ex
  exact ⟨f, fd, ["_law_deck_here", "_law_many", "_law_depth"], F.ok scGB (fun vs H Q E h => h.elim) (fun cdv A outer s H vs Q E hr h => h.elim), m, F.kp, F.binds (ps := ["_law_deck_here", "_law_many", "_law_depth"]) fun _ _ _ _ _ _ us hl => match us, hl with | [_, _, _], _ => rfl⟩
/-- at every depth -/
theorem gen_all (TS : TxS K mg) (T : TxL mg) (D1 : Dn K mg "_law_e" sGE) (D2 : Dn K mg "_law_es" sGEs) (D3 : Dn K mg "_law_body" sGB) (D4 : Dn K mg "_law_statement" sGS) (GN : C0 P w K mg base 1 "_law_next" spNext) (GW : C0 P w K mg base 1 "_law_word" (spLWord isFree)) (GL : C0 P w K mg base 2 "_law_leaf" spLLeaf) :
    ∀ d : Nat, C0 P w K mg base (3 * d + 4) "_law_e" (spGE d) ∧ C0 P w K mg base (3 * d + 5) "_law_es" (spGEs d) ∧ C0 P w K mg base (3 * d + 6) "_law_body" (spGB d)
  | 0 => by
    have g1 : C0 P w K mg base 4 "_law_e" (spGE 0) := c_ge (d := 0) (k := 1) (by decide) TS T D1 GN GW GL (c_noneE 0 D1) (c_noneEs 1 D2) (c_noneB 2 D3)
    have g2 : C0 P w K mg base 5 "_law_statement" (spGS 0) := c_gs (d := 0) (k := 1) TS T D4 GN GW g1 (c_noneE 0 D1) (c_noneB 2 D3)
    exact ⟨g1, c_ges TS T D2 g1, c_gb TS T D3 g2⟩
  | d + 1 => by
    obtain ⟨h1, h2, h3⟩ := gen_all TS T D1 D2 D3 D4 GN GW GL d
    have g1 : C0 P w K mg base (3 * d + 4 + 3) "_law_e" (spGE (d + 1)) := c_ge (d := d + 1) (k := 3 * d + 4) (by omega) TS T D1 GN GW GL h1 h2 h3
    have g2 : C0 P w K mg base (3 * d + 4 + 4) "_law_statement" (spGS (d + 1)) := c_gs (d := d + 1) (k := 3 * d + 4) TS T D4 GN GW g1 h1 h3
    exact ⟨g1, c_ges TS T D2 g1, c_gb TS T D3 g2⟩
def spGM (d : Nat) : Sp := fun vs H Q _ => ∃ (p l : Addr) (a : Nat) (b : Int) (xs : List Int) (dd : Int), vs = [.ref p, .int dd] ∧ dd = (d : Nat) ∧ d ≤ 12 ∧ DeckAt H p l a b xs ∧ (0 < b → (a : Int) + b + 10 * d + 12 ≤ 9000) ∧ (b ≤ 0 → a + 12 ≤ 9000) ∧
  ∀ m v H', SB p H H' → DeckAt H' p l (a + 1 + nSs m.ss) (b - nSs m.ss) xs → AtM H' m v → okM m → (0 < b → (nSs m.ss : Int) ≤ b + 10 * d + 9) → (b ≤ 0 → nSs m.ss ≤ 8) → Q v H'
theorem scGM : FnScope ["_law_deck_here", "_law_depth", "_law_draw", "_law_words", "_law_k"] ["_law_deck_here", "_law_depth"] (defScope sGM) := ⟨rfl, rfl, rfl, by decide +kernel, rfl, by decide +kernel, by decide +kernel⟩
theorem c_gm {d k : Nat} (hk : 1 ≤ k) (TS : TxS K mg) (T : TxL mg) (D : Dn K mg "_law_method" sGM) (GN : C0 P w K mg base 1 "_law_next" spNext) (GW : C0 P w K mg base 1 "_law_word" (spLWord isFree)) (GB : C0 P w K mg base k "_law_body" (spGB d)) : C0 P w K mg base (k + 1) "_law_method" (spGM d) := by
  obtain ⟨f, fd, F, m⟩ := D.ex
  refine ⟨f, fd, ["_law_deck_here", "_law_depth"], F.ok scGM (fun vs H Q E h => ?_) (fun cdv A outer s H vs Q E hr h => ?_), m, F.kp, F.binds (ps := ["_law_deck_here", "_law_depth"]) fun _ _ _ _ _ _ us hl => match us, hl with | [_, _], _ => rfl⟩
  · obtain ⟨p, l, a, b, xs, dd, rfl, _⟩ := h
    rfl
  obtain ⟨p, l, a, b, xs, dd, rfl, rfl, hd12, hd, hp1, hp2, kq⟩ := h
  refine ⟨_, pss_cons (ps_set (i := 2) scGM.nd rfl (Or.inr rfl) (pe_cc GN hr (by omega) pass0 (pa_cons (pv 0) pa_nil))) <|
    pss_cons (ps_set (i := 3) scGM.nd rfl (Or.inl rfl) (pe_callTy call_tuple_of (by rfl) TS.tup (by decide +kernel) (pa_cons (pe_lc (own := [("_law_k", 4)]) (g := gName 4) (tt := tYes) rfl scGM.nd (pi_range1 rfl T.range (pa_cons (pe_op op_mod (pe_op op_fdiv (pv 2) pe_int) pe_int) pa_nil))
      (blkOk_by (own := [("_law_k", 4)]) (N := ["_law_deck_here", "_law_depth", "_law_draw", "_law_words", "_law_k"]) (sc := defScope sGM) (by decide +kernel)) (fun _ _ _ _ _ => pg_name (i := 4) scGM.nd rfl (Or.inl rfl)) (fun _ _ _ _ _ => pts_nil)
      (fun _ _ _ _ _ => pe_cc GW hr (by omega) pass0 (pa_cons (pe_op op_add (pe_op op_fdiv (pv 2) pe_int) (pe_op op_mul pe_int (pv 4))) pa_nil))) pa_nil))) <|
    pss_one (ps_ret (pe_tup (pa_cons pe_str (pa_cons (pe_cc GW hr (by omega) pass0 (pa_cons (pv 2) pa_nil)) (pa_cons (pv 3) (pa_cons (pe_cc GB hr (by omega) pass0 (pa_cons (pv 0) (pa_cons (pe_op op_mod (pe_op op_fdiv (pv 2) pe_int) pe_int) (pa_cons (pv 1) pa_nil)))) pa_nil)))))), ?_⟩
  have ha : a ≤ 10000 := by
    by_cases hb : 0 < b
    · have := hp1 hb; omega
    · have := hp2 (by omega); omega
  refine ⟨_, rfl, p, l, a, b, xs, rfl, hd, ha, fun n hn d2 => ?_⟩
  have s2 : SB p H (upd H p (.lst [.int ((a + 1 : Nat) : Int), .ref l, .int b])) := SB.upd _
  generalize upd H p (.lst [.int ((a + 1 : Nat) : Int), .ref l, .int b]) = H2 at d2 s2 ⊢
  obtain ⟨m3, em3, hm3⟩ := emod_nat (n / 100) (n := 4) (by decide)
  refine ⟨_, rfl, _, _, rfl, rfl, ⟨by decide, by decide⟩, _, _, rfl, rfl, (by show (0 : Int) < 4; decide), ((m3 : Nat) : Int), by rw [← em3]; rfl, by omega, by omega, fun D0 hD0 => ?_⟩
  refine lc_range (lo := 0) (n := ((m3 : Nat) : Int).toNat) (fun i H3 => ∃ (ws : List (List Nat)), Same H2 H3 ∧ H3 D0 = some (.lst (wsV ws)) ∧ ws.length = i ∧ ∀ z ∈ ws, isFree z = true) ⟨[], same_new hD0 _, upd_same, rfl, fun z hz => by simp at hz⟩ ?_ ?_
  · rintro i H3 hi ⟨ws, s3, h3, hl3, hf3⟩
    have hi' : i < m3 := by omega
    refine ⟨rfl, ?_⟩
    unfold tYes
    refine iteT ?_
    refine ⟨_, rfl, _, _, rfl, rfl, ⟨by decide, by decide⟩, _, rfl, _, _, rfl, rfl, .inl ⟨by omega, by omega⟩, _, _, rfl, rfl, _, rfl, fun z H4 s4 gz => ?_⟩
    refine ⟨wsV ws, s4 _ _ h3, by unfold wsV; rw [List.length_map, sizeLine_eq]; omega, ws ++ [z], ?_, ?_, by rw [List.length_append, hl3]; rfl, fun x hx => ?_⟩
    · intro q u h
      rw [upd_ne (ne_of_none h hD0)]
      exact s4 _ _ (s3 _ _ h)
    · rw [upd_same]
      unfold wsV
      rw [List.map_append]
      rfl
    · rcases List.mem_append.mp hx with hx | hx
      · exact hf3 x hx
      · have : x = z := by simpa using hx
        rw [this]
        exact gz
  rintro H3 ⟨ws, s3, h3, hl3, hf3⟩
  refine ⟨D0, _, rfl, .inl ⟨SqL.of h3, fun tq htq => ?_⟩⟩
  have s4 := s3.trans (same_new htq (.tup (wsV ws)))
  have aw : AtW (upd H3 tq (.tup (wsV ws))) ws (.ref tq) := ⟨tq, rfl, upd_same⟩
  generalize upd H3 tq (.tup (wsV ws)) = H4 at s4 aw ⊢
  refine ⟨_, rfl, _, rfl, fun z H5 s5 gz => ?_⟩
  have s6 := s4.trans s5
  have d6 := d2.same s6
  obtain ⟨mm, emm, hmm⟩ := emod_nat (n / 400) (n := 5) (by decide)
  refine ⟨_, rfl, _, rfl, _, rfl, _, _, rfl, rfl, ⟨by decide, by decide⟩, _, _, rfl, rfl, (by show (0 : Int) < 5; decide), _, rfl, p, l, _, _, xs, _, _, mm, rfl, rfl, emm, by omega, d6, fun h => ?_, fun h => ?_, fun es q ys H7 s7 d7 hq at7 ok7 o7 g3 g4 => ?_⟩
  · have := hp1 h; omega
  · have := hp2 h; omega
  refine ⟨by show 4 ≤ sizeLine; decide, fun r hr2 => ?_⟩
  have sr := same_new hr2 (.tup [S_ "method", .str (mk z), .ref tq, .ref q])
  have t7 := ((same_tups s5).trans (s7.tups d6.1)).trans (same_tups sr)
  refine kq ⟨z, ws, es⟩ (.ref r) _ ((s2.trans (SB.same s6)).trans (s7.trans (SB.same sr))) (d7.same sr) ⟨r, _, q, ys, rfl, upd_same, aw.on t7, sr _ _ hq, at7.on_ (same_tups sr)⟩ ⟨gz, by show ws.length ≤ 3; omega, hf3, ok7, Nat.le_trans o7 hd12⟩ (fun h => ?_) (fun h => ?_)
  · have := g3 h
    show ((nSs es : Nat) : Int) ≤ _
    omega
  · have := g4 h
    show nSs es ≤ 8
    omega
end
end My
set_option Elab.async false
set_option linter.all false
set_option maxRecDepth 100000
set_option maxHeartbeats 4000000
namespace My
open PySem L2 SS
abbrev sGT : Stmt := top 52
section
variable {P : Program} {w : World} {K : PySem.W.Frag} {mg : Str → Option Value} {base : Heap}
abbrev AtTs (H : Hp) (ts : List Tr) (vs : List V) : Prop := AtL AtTr H ts vs
theorem AtTs.on_ {H H' : Hp} (t : Tups H H') {ts : List Tr} {vs : List V} (h : AtTs H ts vs) : AtTs H' ts vs := AtL.on t (fun _ _ h => h.on t) h
def spGT : Sp := fun vs H Q _ => ∃ (p l : Addr) (a : Nat) (xs : List Int) (dd : Int) (d : Nat), vs = [.ref p, .int dd] ∧ dd = (d : Nat) ∧ d ≤ 12 ∧ DeckAt H p l a 70 xs ∧ a ≤ 10 ∧
  ∀ ts q ys a' b' H', SB p H H' → DeckAt H' p l a' b' xs → a' ≤ 400 → H' q = some (.tup ys) → AtTs H' ts ys → (∀ t ∈ ts, okTr t) → ts.length ≤ 3 → nTs ts ≤ 247 → Q (.ref q) H'
theorem scGT : FnScope ["_law_deck_here", "_law_depth", "_law_found", "_law_k", "_law_draw", "_law_methods", "_law_fields", "_law_n"] ["_law_deck_here", "_law_depth"] (defScope sGT) := ⟨rfl, rfl, rfl, by decide +kernel, rfl, by decide +kernel, by decide +kernel⟩
theorem c_gt {k : Nat} (hk : 1 ≤ k) (TS : TxS K mg) (T : TxL mg) (D : Dn K mg "_law_trees" sGT) (GN : C0 P w K mg base 1 "_law_next" spNext) (GW : C0 P w K mg base 1 "_law_word" (spLWord isFree)) (GK : C0 P w K mg base 1 "_law_name" (spLWord isKindName)) (GM : ∀ d, d ≤ 12 → C0 P w K mg base k "_law_method" (spGM d)) : C0 P w K mg base (k + 1) "_law_trees" spGT := by
  obtain ⟨f, fd, F, m⟩ := D.ex
  refine ⟨f, fd, ["_law_deck_here", "_law_depth"], F.ok scGT (fun vs H Q E h => ?_) (fun cdv A outer s H vs Q E hr h => ?_), m, F.kp, F.binds (ps := ["_law_deck_here", "_law_depth"]) fun _ _ _ _ _ _ us hl => match us, hl with | [_, _], _ => rfl⟩
  · obtain ⟨p, l, a, xs, dd, d, rfl, _⟩ := h
    rfl
  obtain ⟨p, l, a, xs, dd, d, rfl, rfl, hd12, hd, ha, kq⟩ := h
  refine ⟨_, pss_cons (ps_set (i := 2) scGT.nd rfl (Or.inl rfl) (pe_lst pa_nil)) <|
    pss_cons (ps_for PassesOwn.never rfl (pi_range1 rfl T.range (pa_cons (pe_op op_add (pe_op op_mod (pe_cc GN hr (by omega) pass0 (pa_cons (pv 0) pa_nil)) pe_int) (pe_op op_mod (pe_cc GN hr (by omega) pass0 (pa_cons (pv 0) pa_nil)) pe_int)) pa_nil)) (pg_name (i := 3) scGT.nd rfl (Or.inl rfl)) <|
      pss_cons (ps_set (i := 4) scGT.nd rfl (Or.inr rfl) (pe_cc GN hr (by omega) pass0 (pa_cons (pv 0) pa_nil))) <|
      pss_cons (ps_set (i := 5) scGT.nd rfl (Or.inl rfl) (pe_callTy call_tuple_of (by rfl) TS.tup (by decide +kernel) (pa_cons (pe_lc (own := [("_law_n", 7)]) (g := gName 7) (tt := tYes) rfl scGT.nd (pi_range1 rfl T.range (pa_cons (pe_op op_mod (pe_op op_fdiv (pv 4) pe_int) pe_int) pa_nil))
        (blkOk_by (own := [("_law_n", 7)]) (N := ["_law_deck_here", "_law_depth", "_law_found", "_law_k", "_law_draw", "_law_methods", "_law_fields", "_law_n"]) (sc := defScope sGT) (by decide +kernel)) (fun _ _ _ _ _ => pg_name (i := 7) scGT.nd rfl (Or.inl rfl)) (fun _ _ _ _ _ => pts_nil)
        (fun _ _ _ _ _ => pe_cc (GM d hd12) hr (by omega) pass0 (pa_cons (pv 0) (pa_cons (pv 1) pa_nil)))) pa_nil))) <|
      pss_cons (ps_set (i := 6) scGT.nd rfl (Or.inl rfl) (pe_callTy call_tuple_of (by rfl) TS.tup (by decide +kernel) (pa_cons (pe_lc (own := [("_law_n", 7)]) (g := gName 7) (tt := tYes) rfl scGT.nd (pi_range1 rfl T.range (pa_cons (pe_op op_mod (pe_op op_fdiv (pv 4) pe_int) pe_int) pa_nil))
        (blkOk_by (own := [("_law_n", 7)]) (N := ["_law_deck_here", "_law_depth", "_law_found", "_law_k", "_law_draw", "_law_methods", "_law_fields", "_law_n"]) (sc := defScope sGT) (by decide +kernel)) (fun _ _ _ _ _ => pg_name (i := 7) scGT.nd rfl (Or.inl rfl)) (fun _ _ _ _ _ => pts_nil)
        (fun _ _ _ _ _ => pe_cc GW hr (by omega) pass0 (pa_cons (pe_op op_add (pe_op op_fdiv (pv 4) pe_int) (pv 7)) pa_nil))) pa_nil))) <|
      pss_one (ps_if (pt_cmpR op_eq (pe_op op_mod (pv 4) pe_int) pe_int (nomark _))
        (pss_one (ps_expr (pe_bm PySem.F.plainAttrs_list PySem.F.slot_list_append PySem.F.type_list_append mt_append (pv 2) (pa_cons (pe_tup (pa_cons pe_str (pa_cons (pe_cc GK hr (by omega) pass0 (pa_cons (pe_op op_fdiv (pv 4) pe_int) pa_nil)) (pa_cons (pv 5) pa_nil)))) pa_nil))))
        (pss_one (ps_expr (pe_bm PySem.F.plainAttrs_list PySem.F.slot_list_append PySem.F.type_list_append mt_append (pv 2) (pa_cons (pe_tup (pa_cons pe_str (pa_cons (pe_cc GK hr (by omega) pass0 (pa_cons (pe_op op_fdiv (pv 4) pe_int) pa_nil)) (pa_cons (pe_cc GK hr (by omega) pass0 (pa_cons (pe_op op_fdiv (pv 4) pe_int) pa_nil)) (pa_cons (pv 6) (pa_cons (pv 5) pa_nil)))))) pa_nil)))))) <|
    pss_one (ps_ret (pe_callTy call_tuple_of (by rfl) TS.tup (by decide +kernel) (pa_cons (pv 2) pa_nil))), ?_⟩
  refine ⟨Nat.zero_le _, fun Lf hLf => ?_⟩
  have hfn := hd.ne hLf
  have d1 := hd.new hLf (.lst [])
  have s1 : SB p H (upd H Lf (.lst [])) := SB.same (same_new hLf _)
  have f1 : upd H Lf (.lst []) Lf = some (.lst []) := upd_same
  generalize upd H Lf (.lst []) = H1 at d1 s1 f1 ⊢
  refine ⟨_, rfl, p, l, a, 70, xs, rfl, d1, by omega, fun n1 hn1 d2 => ?_⟩
  have s2 : SB p H (upd H1 p (.lst [.int ((a + 1 : Nat) : Int), .ref l, .int 70])) := s1.trans (SB.upd _)
  have f2 : upd H1 p (.lst [.int ((a + 1 : Nat) : Int), .ref l, .int 70]) Lf = some (.lst []) := by rw [upd_ne hfn.1]; exact f1
  generalize upd H1 p (.lst [.int ((a + 1 : Nat) : Int), .ref l, .int 70]) = H2 at d2 s2 f2 ⊢
  refine ⟨_, _, rfl, rfl, (by show (0 : Int) < 3; decide), _, rfl, p, l, a + 1, 70, xs, rfl, d2, by omega, fun n2 hn2 d3 => ?_⟩
  have s3 : SB p H (upd H2 p (.lst [.int ((a + 1 + 1 : Nat) : Int), .ref l, .int 70])) := s2.trans (SB.upd _)
  have f3 : upd H2 p (.lst [.int ((a + 1 + 1 : Nat) : Int), .ref l, .int 70]) Lf = some (.lst []) := by rw [upd_ne hfn.1]; exact f2
  generalize upd H2 p (.lst [.int ((a + 1 + 1 : Nat) : Int), .ref l, .int 70]) = H3 at d3 s3 f3 ⊢
  obtain ⟨c1, ec1, hc1⟩ := emod_nat n1 (n := 3) (by decide)
  obtain ⟨c2, ec2, hc2⟩ := emod_nat n2 (n := 2) (by decide)
  have ec : n1 % 3 + n2 % 2 = ((c1 + c2 : Nat) : Int) := by
    have e1 : n1 % 3 = ((c1 : Nat) : Int) := ec1
    have e2 : n2 % 2 = ((c2 : Nat) : Int) := ec2
    omega
  refine ⟨_, _, rfl, rfl, (by show (0 : Int) < 2; decide), _, _, rfl, rfl, ((c1 + c2 : Nat) : Int), by rw [← ec], by omega, by omega, ?_⟩
  refine for_range (lo := 0) (n := ((c1 + c2 : Nat) : Int).toNat) (fun i σ H4 => ∃ (ts : List Tr) (vs : List V) (v3 v4 v5 v6 : Option V), σ = [some (.ref p), some (.int (d : Nat)), some (.ref Lf), v3, v4, v5, v6, none] ∧ SB p H H4 ∧ DeckAt H4 p l (a + 2 + ts.length + mTs ts + nTs ts) (70 - nTs ts) xs ∧ H4 Lf = some (.lst vs) ∧ AtTs H4 ts vs ∧ (∀ t ∈ ts, okTr t) ∧ ts.length = i ∧ mTs ts ≤ 2 * i ∧ nTs ts ≤ 199 + 8 * mTs ts)
    ⟨[], [], none, none, none, none, rfl, s3, d3.cast (by rfl) (by rfl), f3, rfl, fun t ht => by simp at ht, rfl, Nat.zero_le _, Nat.zero_le _⟩ ?_ ?_
  · rintro i σ H4 hi ⟨ts, vs, v3, v4, v5, v6, rfl, s4, d4, f4, at4, ok4, l4, m4, n4⟩
    have hi' : i < 3 := by omega
    show gName 3 _ _ _ _
    refine ⟨_, rfl, p, l, _, _, xs, rfl, d4, by omega, fun dr hdr d5 => ?_⟩
    have s5 : SB p H4 (upd H4 p (.lst [.int ((a + 2 + ts.length + mTs ts + nTs ts + 1 : Nat) : Int), .ref l, .int (70 - nTs ts)])) := SB.upd _
    generalize upd H4 p (.lst [.int ((a + 2 + ts.length + mTs ts + nTs ts + 1 : Nat) : Int), .ref l, .int (70 - nTs ts)]) = H5 at d5 s5 ⊢
    obtain ⟨c3, ec3, hc3⟩ := emod_nat (dr / 36) (n := 3) (by decide)
    refine ⟨_, rfl, _, _, rfl, rfl, ⟨by decide, by decide⟩, _, _, rfl, rfl, (by show (0 : Int) < 3; decide), ((c3 : Nat) : Int), by rw [← ec3]; rfl, by omega, by omega, fun D0 hD0 => ?_⟩
    have hDn := d5.ne hD0
    refine lc_range (lo := 0) (n := ((c3 : Nat) : Int).toNat) (fun j H6 => ∃ (ms : List Me) (ys : List V), SB p H5 H6 ∧ DeckAt H6 p l (a + 2 + ts.length + mTs ts + nTs ts + 1 + ms.length + nMs ms) (70 - nTs ts - nMs ms) xs ∧ H6 D0 = some (.lst ys) ∧ AtMs H6 ms ys ∧ (∀ m ∈ ms, okM m) ∧ ms.length = j ∧ nTs ts + nMs ms ≤ 199 + 8 * (mTs ts + j))
      ⟨[], [], SB.same (same_new hD0 _), (d5.new hD0 _).cast (by rfl) (by show _ = 70 - (nTs ts : Int) - ((0 : Nat) : Int); omega), upd_same, rfl, fun t ht => by simp at ht, rfl, by show nTs ts + 0 ≤ _; omega⟩ ?_ ?_
    · rintro j H6 hj ⟨ms, ys, s6, d6, f6, at6, ok6, l6, n6⟩
      have hj' : j < c3 := by omega
      refine ⟨rfl, ?_⟩
      unfold tYes
      refine iteT ?_
      refine ⟨_, rfl, _, rfl, p, l, _, _, xs, _, rfl, rfl, hd12, d6, fun h => by omega, fun h => by omega, fun m v H7 s7 d7 at7 ok7 g1 g2 => ?_⟩
      have hf7 : H7 D0 = some (.lst ys) := s7 _ _ hDn.1 f6
      have t7 : Tups H6 (upd H7 D0 (.lst (ys ++ [v]))) := (s7.tups d6.1).trans (tups_lst hf7)
      refine ⟨ys, hf7, by rw [at6.len, l6, sizeLine_eq]; omega, ms ++ [m], ys ++ [v], ?_, ?_, upd_same, (at6.on_ t7).snoc (at7.on (tups_lst hf7)), fun x hx => ?_, by rw [List.length_append, l6]; rfl, ?_⟩
      · intro q u n h
        rw [upd_ne (ne_of_none h hD0)]
        exact s7 q u n (s6 q u n h)
      · have d8 := d7.cast (a' := a + 2 + ts.length + mTs ts + nTs ts + 1 + (ms ++ [m]).length + nMs (ms ++ [m])) (b' := 70 - (nTs ts : Int) - (nMs (ms ++ [m]) : Nat)) (by rw [nMs_snoc, List.length_append]; simp only [List.length_cons, List.length_nil]; omega) (by rw [nMs_snoc]; omega)
        exact ⟨by rw [upd_ne hDn.1.symm]; exact d8.1, by rw [upd_ne hDn.2.symm]; exact d8.2.1, d8.2.2⟩
      · rcases List.mem_append.mp hx with hx | hx
        · exact ok6 x hx
        · have : x = m := by simpa using hx
          rw [this]
          exact ok7
      · rw [nMs_snoc]
        by_cases h : 0 < 70 - (nTs ts : Int) - (nMs ms : Nat)
        · have := g1 h; omega
        · have := g2 (by omega); omega
    rintro H6 ⟨ms, ys, s6, d6, f6, at6, ok6, l6, n6⟩
    have l6' : ms.length = c3 := by omega
    refine ⟨D0, ys, rfl, .inl ⟨SqL.of f6, fun tm htm => ?_⟩⟩
    have sm := same_new htm (.tup ys)
    have d7 := d6.same sm
    have s7 : SB p H4 (upd H6 tm (.tup ys)) := (s5.trans s6).trans (SB.same sm)
    have am7 : upd H6 tm (.tup ys) tm = some (.tup ys) := upd_same
    have at7 := at6.on_ (same_tups sm)
    generalize upd H6 tm (.tup ys) = H7 at d7 s7 am7 at7 ⊢
    obtain ⟨c4, ec4, hc4⟩ := emod_nat (dr / 7) (n := 4) (by decide)
    refine ⟨_, rfl, _, _, rfl, rfl, ⟨by decide, by decide⟩, _, _, rfl, rfl, (by show (0 : Int) < 4; decide), ((c4 : Nat) : Int), by rw [← ec4]; rfl, by omega, by omega, fun D1 hD1 => ?_⟩
    refine lc_range (lo := 0) (n := ((c4 : Nat) : Int).toNat) (fun j H8 => ∃ (ws : List (List Nat)), Same H7 H8 ∧ H8 D1 = some (.lst (wsV ws)) ∧ ws.length = j ∧ ∀ z ∈ ws, isFree z = true) ⟨[], same_new hD1 _, upd_same, rfl, fun z hz => by simp at hz⟩ ?_ ?_
    · rintro j H8 hj ⟨ws, s8, h8, l8, f8⟩
      have hj' : j < c4 := by omega
      refine ⟨rfl, ?_⟩
      unfold tYes
      refine iteT ?_
      refine ⟨_, rfl, _, _, rfl, rfl, ⟨by decide, by decide⟩, _, rfl, _, _, rfl, rfl, _, rfl, fun z H9 s9 gz => ?_⟩
      refine ⟨wsV ws, s9 _ _ h8, by unfold wsV; rw [List.length_map, sizeLine_eq]; omega, ws ++ [z], ?_, ?_, by rw [List.length_append, l8]; rfl, fun x hx => ?_⟩
      · intro q u h
        rw [upd_ne (ne_of_none h hD1)]
        exact s9 _ _ (s8 _ _ h)
      · rw [upd_same]
        unfold wsV
        rw [List.map_append]
        rfl
      · rcases List.mem_append.mp hx with hx | hx
        · exact f8 x hx
        · have : x = z := by simpa using hx
          rw [this]
          exact gz
    rintro H8 ⟨ws, s8, h8, l8, f8⟩
    refine ⟨D1, _, rfl, .inl ⟨SqL.of h8, fun tq htq => ?_⟩⟩
    have s9 : Same H7 (upd H8 tq (.tup (wsV ws))) := s8.trans (same_new htq _)
    have aw : AtW (upd H8 tq (.tup (wsV ws))) ws (.ref tq) := ⟨tq, rfl, upd_same⟩
    generalize upd H8 tq (.tup (wsV ws)) = H9 at s9 aw ⊢
    have d9 := d7.same s9
    have f9 : H9 Lf = some (.lst vs) := s9 _ _ (s7 _ _ hfn.1 f4)
    -- what one tree more makes
    have fin : ∀ (t : Tr) (H10 : Hp) (r : Addr) (xs' : List V), Same H9 H10 → H10 r = none → okTr t → t.ms = ms → AtTr (upd H10 r (.tup xs')) t (.ref r) → ∀ v3 v4 v5 v6 : Option V, ∃ (ts : List Tr) (vs' : List V) (w3 w4 w5 w6 : Option V), [some (.ref p), some (.int (d : Nat)), some (.ref Lf), v3, v4, v5, v6, none] = [some (.ref p), some (.int (d : Nat)), some (.ref Lf), w3, w4, w5, w6, none] ∧ SB p H (upd (upd H10 r (.tup xs')) Lf (.lst (vs ++ [.ref r]))) ∧
        DeckAt (upd (upd H10 r (.tup xs')) Lf (.lst (vs ++ [.ref r]))) p l (a + 2 + ts.length + mTs ts + nTs ts) (70 - nTs ts) xs ∧ upd (upd H10 r (.tup xs')) Lf (.lst (vs ++ [.ref r])) Lf = some (.lst vs') ∧ AtTs (upd (upd H10 r (.tup xs')) Lf (.lst (vs ++ [.ref r]))) ts vs' ∧ (∀ t ∈ ts, okTr t) ∧ ts.length = i + 1 ∧ mTs ts ≤ 2 * (i + 1) ∧ nTs ts ≤ 199 + 8 * mTs ts := fun t H10 r xs' s10 hr10 okt etm att v3 v4 v5 v6 => by
      have s11 : Same H9 (upd H10 r (.tup xs')) := s10.trans (same_new hr10 _)
      have f11 := s11 _ _ f9
      have t11 : Tups H4 (upd (upd H10 r (.tup xs')) Lf (.lst (vs ++ [.ref r]))) := ((s7.tups d4.1).trans (same_tups (s9.trans s11))).trans (tups_lst f11)
      have d11 := (d9.same s11).cast (a' := a + 2 + (ts ++ [t]).length + mTs (ts ++ [t]) + nTs (ts ++ [t])) (b' := 70 - (nTs (ts ++ [t]) : Nat)) (by rw [mTs_snoc, nTs_snoc, etm, List.length_append]; simp only [List.length_cons, List.length_nil]; omega) (by rw [nTs_snoc, etm]; omega)
      refine ⟨ts ++ [t], vs ++ [.ref r], v3, v4, v5, v6, rfl, ?_, ⟨by rw [upd_ne hfn.1.symm]; exact d11.1, by rw [upd_ne hfn.2.symm]; exact d11.2.1, d11.2.2⟩, upd_same, (at4.on_ t11).snoc (att.on (tups_lst f11)), fun x hx => ?_, by rw [List.length_append, l4]; rfl, by rw [mTs_snoc, etm]; omega, by rw [mTs_snoc, nTs_snoc, etm]; omega⟩
      · intro q u n h
        rw [upd_ne (ne_of_none h hLf)]
        exact s11 _ _ (s9 _ _ (s7 q u n (s4 q u n h)))
      · rcases List.mem_append.mp hx with hx | hx
        · exact ok4 x hx
        · have : x = t := by simpa using hx
          rw [this]
          exact okt
    refine ⟨_, rfl, _, _, rfl, rfl, (by show (0 : Int) < 3; decide), rfl, _, rfl, ?_⟩
    refine ite2 (fun c => ?_) (fun c => ?_)
    · refine ⟨_, rfl, .inl ⟨rfl, _, SqL.of f9⟩, _, rfl, _, _, rfl, rfl, ⟨by decide, by decide⟩, _, rfl, fun z H10 s10 gz => ?_⟩
      refine ⟨_, rfl, by show 3 ≤ sizeLine; decide, fun r hr10 => ?_⟩
      have sr := same_new hr10 (.tup [S_ "more", .str (mk z), .ref tm])
      refine ⟨Lf, vs, .ref r, rfl, rfl, sr _ _ (s10 _ _ f9), by rw [at4.len, l4, sizeLine_eq]; omega, ?_⟩
      exact fin (.more z ms) H10 r _ s10 hr10 ⟨by show ms.length ≤ 2; omega, ok6, gz⟩ rfl ⟨r, tm, ys, rfl, upd_same, sr _ _ (s10 _ _ (s9 _ _ am7)), at7.on_ (same_tups (s9.trans (s10.trans sr)))⟩ _ _ _ _
    · refine ⟨_, rfl, .inl ⟨rfl, _, SqL.of f9⟩, _, rfl, _, _, rfl, rfl, ⟨by decide, by decide⟩, _, rfl, fun z H10 s10 gz => ?_⟩
      refine ⟨_, rfl, _, _, rfl, rfl, ⟨by decide, by decide⟩, _, rfl, fun z2 H11 s11 gz2 => ?_⟩
      refine ⟨_, rfl, _, rfl, by show 5 ≤ sizeLine; decide, fun r hr10 => ?_⟩
      have sr := same_new hr10 (.tup [S_ "kind", .str (mk z), .str (mk z2), .ref tq, .ref tm])
      refine ⟨Lf, vs, .ref r, rfl, rfl, sr _ _ (s11 _ _ (s10 _ _ f9)), by rw [at4.len, l4, sizeLine_eq]; omega, ?_⟩
      exact fin (.kind z z2 ws ms) H11 r _ (s10.trans s11) hr10 ⟨by show ms.length ≤ 2; omega, ok6, gz, gz2, by omega, f8⟩ rfl ⟨r, _, tm, ys, rfl, upd_same, aw.on (same_tups (s10.trans (s11.trans sr))), sr _ _ (s11 _ _ (s10 _ _ (s9 _ _ am7))), at7.on_ (same_tups (s9.trans (s10.trans (s11.trans sr))))⟩ _ _ _ _
  · rintro σ H4 ⟨ts, vs, v3, v4, v5, v6, rfl, s4, d4, f4, at4, ok4, l4, m4, n4⟩
    have l4' : ts.length = c1 + c2 := by omega
    refine ⟨_, rfl, Lf, vs, rfl, .inl ⟨SqL.of f4, fun q hq => ?_⟩⟩
    have sq := same_new hq (.tup vs)
    exact kq ts q vs _ _ _ (s4.trans (SB.same sq)) (d4.same sq) (by omega) upd_same (at4.on_ (same_tups sq)) ok4 (by omega) (by omega)
end
end My
set_option Elab.async false
set_option linter.all false
set_option maxRecDepth 100000
set_option maxHeartbeats 4000000
namespace My
open PySem L2 SS
/-! ### methods, kinds, mores: words, the reader's way -/
def wM (m : Me) : List WB := (tk "method", false) :: (m.m, false) :: (plainW m.ps ++ (tk ":", false) :: (wSs m.ss ++ [(tk "end", false)]))
def wMs (ms : List Me) : List WB := ms.flatMap wM
def wFd (fs : List T) : List WB := fs.flatMap fun f => [(tk "field", false), (f, false)]
def wT : Tr → List WB
  | .kind n p fs ms => (tk "kind", false) :: (n, false) :: (tk "under", false) :: (p, false) :: (wFd fs ++ (wMs ms ++ [(tk "end", false)]))
  | .more n ms => (tk "more", false) :: (n, false) :: (wMs ms ++ [(tk "end", false)])
abbrev lM (m : Me) : Nat := (wM m).length
abbrev lT (t : Tr) : Nat := (wT t).length
def lMs (ms : List Me) : Nat := (wMs ms).length
theorem lM_eq (m : Me) : lM m = 2 + (m.ps.length + 1) + (lSs m.ss + 1) := by
  show (wM m).length = 2 + (m.ps.length + 1) + ((wSs m.ss).length + 1)
  simp [wM, plainW_len]
  omega
theorem wMs_snoc (ms : List Me) (m : Me) : wMs (ms ++ [m]) = wMs ms ++ wM m := by unfold wMs; rw [List.flatMap_append]; simp
theorem lMs_snoc (ms : List Me) (m : Me) : lMs (ms ++ [m]) = lMs ms + lM m := by unfold lMs; rw [wMs_snoc, List.length_append]
theorem wFd_len : ∀ fs : List T, (wFd fs).length = 2 * fs.length
  | [] => rfl
  | f :: r => by
    show ([(tk "field", false), (f, false)] ++ wFd r).length = _
    rw [List.length_append, wFd_len r]
    simp only [List.length_cons, List.length_nil]
    omega
theorem ms_le : ∀ ms : List Me, ms.length ≤ lMs ms
  | [] => Nat.le_refl _
  | m :: r => by
    have h := ms_le r
    have e : lMs (m :: r) = lM m + lMs r := by unfold lMs; show (wM m ++ wMs r).length = _; rw [List.length_append]
    have := lM_eq m
    rw [e, List.length_cons]
    omega
inductive RM (g : Nat → Option T) : Nat → Out Me → Prop
  | nB {a : Nat} : (∀ z, g (a + 1) = some z → isFree z = false) → RM g a (.bad (a + 1) false)
  | pB {a i : Nat} {d : Bool} {m : T} : g (a + 1) = some m → isFree m = true → RFw g (tk ":") (a + 2) [] (.bad i d) → RM g a (.bad i d)
  | mk {a : Nat} {m : T} {ps : List T} {o : Out Sts} : g (a + 1) = some m → isFree m = true → RFw g (tk ":") (a + 2) [] (.ok ps) → RSs g (tk "end") 0 (a + 2 + (ps.length + 1)) .nil o → RM g a (o.map fun ss => ⟨m, ps, ss⟩)
inductive RMs (g : Nat → Option T) : Nat → List Me → Out (List Me) → Prop
  | stop {a : Nat} {ms : List Me} : g a = none → RMs g a ms (.bad a false)
  | done {a : Nat} {ms : List Me} : g a = some (tk "end") → RMs g a ms (.ok ms)
  | word {a : Nat} {ms : List Me} {z : T} : g a = some z → z ≠ tk "method" → z ≠ tk "end" → RMs g a ms (.bad a false)
  | bad {a i : Nat} {d : Bool} {ms : List Me} : g a = some (tk "method") → RM g a (.bad i d) → RMs g a ms (.bad i d)
  | cons {a : Nat} {ms : List Me} {m : Me} {o : Out (List Me)} : g a = some (tk "method") → RM g a (.ok m) → RMs g (a + lM m) (ms ++ [m]) o → RMs g a ms o
inductive RFd (g : Nat → Option T) : Nat → List T → Out (List T) → Prop
  | stop {a : Nat} {ws : List T} : g a = none → RFd g a ws (.bad a false)
  | done {a : Nat} {ws : List T} {z : T} : g a = some z → z ≠ tk "field" → RFd g a ws (.ok ws)
  | bad {a : Nat} {ws : List T} : g a = some (tk "field") → (∀ z, g (a + 1) = some z → isFree z = false) → RFd g a ws (.bad (a + 1) false)
  | cons {a : Nat} {ws : List T} {y : T} {o : Out (List T)} : g a = some (tk "field") → g (a + 1) = some y → isFree y = true → RFd g (a + 2) (ws ++ [y]) o → RFd g a ws o
inductive RT (g : Nat → Option T) : Nat → Out Tr → Prop
  | kN {a : Nat} : g a = some (tk "kind") → (∀ z, g (a + 1) = some z → isKindName z = false) → RT g a (.bad (a + 1) false)
  | kU {a : Nat} {n : T} : g a = some (tk "kind") → g (a + 1) = some n → isKindName n = true → g (a + 2) ≠ some (tk "under") → RT g a (.bad (a + 2) false)
  | kP {a : Nat} {n : T} : g a = some (tk "kind") → g (a + 1) = some n → isKindName n = true → g (a + 2) = some (tk "under") → (∀ z, g (a + 3) = some z → isKindName z = false) → RT g a (.bad (a + 3) false)
  | kF {a i : Nat} {d : Bool} {n p : T} : g a = some (tk "kind") → g (a + 1) = some n → isKindName n = true → g (a + 2) = some (tk "under") → g (a + 3) = some p → isKindName p = true → RFd g (a + 4) [] (.bad i d) → RT g a (.bad i d)
  | kind {a : Nat} {n p : T} {fs : List T} {o : Out (List Me)} : g a = some (tk "kind") → g (a + 1) = some n → isKindName n = true → g (a + 2) = some (tk "under") → g (a + 3) = some p → isKindName p = true → RFd g (a + 4) [] (.ok fs) → RMs g (a + 4 + 2 * fs.length) [] o → RT g a (o.map (.kind n p fs))
  | mW {a : Nat} {z : T} : g a = some z → z ≠ tk "kind" → z ≠ tk "more" → RT g a (.bad a false)
  | mN {a : Nat} : g a = some (tk "more") → (∀ z, g (a + 1) = some z → isKindName z = false) → RT g a (.bad (a + 1) false)
  | more {a : Nat} {n : T} {o : Out (List Me)} : g a = some (tk "more") → g (a + 1) = some n → isKindName n = true → RMs g (a + 2) [] o → RT g a (o.map (.more n))
inductive RP (g : Nat → Option T) (n : Nat) : Nat → List Tr → Out (List Tr) → Prop
  | done {a : Nat} {ts : List Tr} : a = n → RP g n a ts (.ok ts)
  | bad {a i : Nat} {d : Bool} {ts : List Tr} : a < n → RT g a (.bad i d) → RP g n a ts (.bad i d)
  | cons {a : Nat} {ts : List Tr} {t : Tr} {o : Out (List Tr)} : a < n → RT g a (.ok t) → RP g n (a + lT t) (ts ++ [t]) o → RP g n a ts o
/-- where methods begin, each with its nodes' beginnings -/
def stMs : Nat → List Me → List (Nat × List V)
  | _, [] => []
  | a, m :: r => (a, stW a (wM m)) :: stMs (a + lM m) r
theorem stMs_snoc : ∀ (ms : List Me) (m : Me) (a : Nat), stMs a (ms ++ [m]) = stMs a ms ++ [(a + lMs ms, stW (a + lMs ms) (wM m))]
  | [], m, a => rfl
  | x :: r, m, a => by
    have e : lMs (x :: r) = lM x + lMs r := by unfold lMs; show (wM x ++ wMs r).length = _; rw [List.length_append]
    show (a, stW a (wM x)) :: stMs (a + lM x) (r ++ [m]) = _
    rw [stMs_snoc r m (a + lM x), e, ← Nat.add_assoc]
    rfl
theorem stMs_len : ∀ (ms : List Me) (a : Nat), (stMs a ms).length = ms.length
  | [], a => rfl
  | x :: r, a => by
    show (stMs (a + lM x) r).length + 1 = _
    rw [stMs_len r]
    rfl
def AtMS (H : Hp) (q : Nat × List V) (v : V) : Prop := ∃ p r, v = .ref p ∧ H p = some (.tup [.int (q.1 : Nat), .ref r]) ∧ H r = some (.tup q.2)
theorem AtMS.on {H H' : Hp} (t : Tups H H') {q : Nat × List V} {v : V} (h : AtMS H q v) : AtMS H' q v := by
  obtain ⟨p, r, e, h1, h2⟩ := h
  exact ⟨p, r, e, t _ _ h1, t _ _ h2⟩
theorem stM (m : Me) (a : Nat) : stW a (wM m) = stW (a + 2 + (m.ps.length + 1)) (wSs m.ss) := by
  show stW a ((tk "method", false) :: (m.m, false) :: (plainW m.ps ++ (tk ":", false) :: (wSs m.ss ++ [(tk "end", false)]))) = _
  rw [stW, stW, stW_app, plainW_st, stW, stW_app, plainW_len, show a + 1 + 1 + m.ps.length + 1 = a + 2 + (m.ps.length + 1) by omega]
  simp [stW]
section
variable {P : Program} {w : World} {K : PySem.W.Frag} {mg : Str → Option Value} {base : Heap} {S CF fI fS C fF fK fM fX : Addr}
theorem Rn.fs_eq {x : RX} {H : Hp} {a op : Nat} {X1 X2 X3 : List V} (h : Rn C x H a op X1 X2 X3) : ∃ dx fs l1 l2 l3, H x.p = some (.ins C dx fs) ∧ fs.lookup ("at" : Str) = some (.int (a : Nat)) ∧ fs.lookup ("starts" : Str) = some (.ref l1) ∧ fs.lookup ("method_starts" : Str) = some (.ref l2) ∧ fs.lookup ("node_starts" : Str) = some (.ref l3) ∧ H l1 = some (.lst X1) ∧ H l2 = some (.lst X2) ∧ H l3 = some (.lst X3) ∧
    (∀ H', Same H H' → ∀ v, H' l2 = some (.lst X2) ∧ Rn C x (upd H' l2 (.lst (X2 ++ [v]))) a op X1 (X2 ++ [v]) X3) ∧ (∀ H', Same H H' → ∀ v, H' l1 = some (.lst X1) ∧ Rn C x (upd H' l1 (.lst (X1 ++ [v]))) a op (X1 ++ [v]) X2 X3) := by
  obtain ⟨s, dx, l1, l2, l3, h1, n1, n2, n3, h2, h3, h4, d1, d2, d3⟩ := h
  refine ⟨dx, _, l1, l2, l3, h1, rf_at, rf_st, rf_ms, rf_ns, h2, h3, h4, fun H' s' v => ⟨s' _ _ h3, fun b u z => ?_, dx, l1, l2, l3, ?_, n1, n2, n3, ?_, upd_same, ?_, d1, d2, d3⟩, fun H' s' v => ⟨s' _ _ h2, fun b u z => ?_, dx, l1, l2, l3, ?_, n1, n2, n3, upd_same, ?_, ?_, d1, d2, d3⟩⟩
  · rw [upd_ne (ne_of_none z n2)]
    exact s' _ _ (s b u z)
  · rw [upd_ne (ne_of h1 h3 (by intro q; cases q))]
    exact s' _ _ h1
  · rw [upd_ne d1]; exact s' _ _ h2
  · rw [upd_ne d3.symm]; exact s' _ _ h4
  · rw [upd_ne (ne_of_none z n1)]
    exact s' _ _ (s b u z)
  · rw [upd_ne (ne_of h1 h2 (by intro q; cases q))]
    exact s' _ _ h1
  · rw [upd_ne d1.symm]; exact s' _ _ h3
  · rw [upd_ne d2.symm]; exact s' _ _ h4
/-! method -/
def nMe (C CF : Addr) : Sp := fun vs H Q E => ∃ (x : RX) (a : Nat) (X1 X2 X3 : List V) (o : Out Me), vs = [.ref x.p] ∧ x.Ok ∧ Rn C x H a 0 X1 X2 X3 ∧ x.wd a = some (tk "method") ∧ X2.length ≤ a ∧ RM x.wd a o ∧
  (∀ m, o = .ok m → ∀ v mv H' X3', AtM H' m v → AtMS H' (a, stW a (wM m)) mv → a + lM m ≤ x.ws.length → Rn C x H' (a + lM m) 0 X1 (X2 ++ [mv]) X3' → Q v H') ∧ (∀ i d, o = .bad i d → BadAt CF x E i d)
theorem scMe : FnScope ["self", "start", "message", "parameters", "statements"] ["self"] (defScope (rd 13)) := ⟨rfl, rfl, rfl, by decide +kernel, rfl, by decide +kernel, by decide +kernel⟩
theorem n_me {k : Nat} (hk : 7 ≤ k) (T : TxR K mg C) (TS : TxS K mg) (TF : TxF mg fF fK fM fX) (Df : Dm K C "method" "Reader.method" (rd 13)) (B : RdS P w K mg base C CF fF fK fM fX) (M4 : M0 P w K mg base C k "statements" (qSs C CF 12)) : M0 P w K mg base C (k + 1) "method" (nMe C CF) := by
  obtain ⟨f, fd, F, hm⟩ := Df.ex
  refine ⟨f, fd, ["self"], F.okX scMe (fun vs H Q E h => ?_) (fun cdv A0 outer s H vs Q E hr h => ?_), hm, F.binds (ps := ["self"]) fun _ _ _ _ _ _ us hl => match us, hl with | [_], _ => rfl⟩
  · obtain ⟨x, a, X1, X2, X3, o, rfl, _⟩ := h
    rfl
  obtain ⟨x, a, X1, X2, X3, o, rfl, ok, R, hw, hX2, hrel, q1, q2⟩ := h
  refine ⟨_, pss_cons (ps_set (i := 1) scMe.nd rfl (Or.inl rfl) (pe_fld (pv 0) rfl)) <|
    pss_cons (ps_fld (pv 0) (pe_lst pa_nil) rfl) <|
    pss_cons (ps_expr (pe_mm T.cl B.sk hr (by omega) (passes_call (takes_of rfl rfl rfl rfl) fun _ _ _ _ h => h) (pv 0) (pa_cons pe_str pa_nil))) <|
    pss_cons (ps_set (i := 2) scMe.nd rfl (Or.inl rfl) (pe_mm T.cl B.tk hr (by omega) (passes_call (takes_of rfl rfl rfl rfl) fun _ _ _ _ h => h) (pv 0) (pa_cons (pe_glob (v := .ref fF) (by rfl) TF.gF rfl) pa_nil))) <|
    pss_cons (ps_set (i := 3) scMe.nd rfl (Or.inl rfl) (pe_mm T.cl B.fw hr (by omega) (passes_call (takes_of rfl rfl rfl rfl) fun _ _ _ _ h => h) (pv 0) (pa_cons pe_str pa_nil))) <|
    pss_cons (ps_set (i := 4) scMe.nd rfl (Or.inl rfl) (pe_mm T.cl M4 hr (Nat.le_refl _) (passes_call (takes_of rfl rfl rfl rfl) fun _ _ _ _ h => h) (pv 0) (pa_cons pe_str pa_nil))) <|
    pss_cons (ps_expr (pe_bm PySem.F.plainAttrs_list PySem.F.slot_list_append PySem.F.type_list_append mt_append (pe_fld (pv 0) rfl) (pa_cons (pe_tup (pa_cons (pv 1) (pa_cons (pe_callTy call_tuple_of (by rfl) TS.tup (by decide +kernel) (pa_cons (pe_fld (pv 0) rfl) pa_nil)) pa_nil))) pa_nil))) <|
    pss_one (ps_ret (pe_tup (pa_cons pe_str (pa_cons (pv 2) (pa_cons (pv 3) (pa_cons (pv 4) pa_nil)))))), ?_⟩
  have hlt := x.wd_lt hw
  have oln := ok.ln
  obtain ⟨dx, fs, l1, l2, l3, h1, b1, _⟩ := R.fs_eq
  refine ⟨_, rfl, x.p, C, dx, fs, _, rfl, h1, T.cl, T.f5, b1, Nat.zero_le _, fun m0 hm0 => ?_⟩
  obtain ⟨dx1, fs1, c1, c2, c3⟩ := R.ns ok hm0
  refine ⟨_, rfl, x.p, C, dx1, fs1, rfl, c1, T.cl, T.f9, c2, ?_⟩
  generalize upd (upd H m0 (.lst [])) x.p (.ins C dx1 (putF "node_starts" (.ref m0) fs1)) = H1 at c3 ⊢
  obtain ⟨dx2, i1, i2, i3, i4⟩ := c3.obj
  refine ⟨_, rfl, x.p, dx2, _, rfl, i4, by kernel_rfl, x, a, 0, X1, X2, [], _, rfl, ok, c3, by omega, fun _ H2 R2 => ?_, fun hn => absurd hw hn⟩
  obtain ⟨dx3, u1, u2, u3, u4⟩ := R2.obj
  cases hrel with
  | nB hno =>
    exact ⟨_, rfl, x.p, dx3, _, rfl, u4, by kernel_rfl, x, a + 1, 0, X1, X2, [], fF, isFree, rfl, Sq_F, ok, R2, hlt, fun y hy hg => (by rw [hno y hy] at hg; cases hg), fun _ => q2 _ _ rfl⟩
  | @pB i d m hm1 hm2 hfw =>
    refine ⟨_, rfl, x.p, dx3, _, rfl, u4, by kernel_rfl, x, a + 1, 0, X1, X2, [], fF, isFree, rfl, Sq_F, ok, R2, hlt, fun y hy hg H3 R3 => ?_, fun hno => ?_⟩
    · rw [hm1] at hy
      obtain rfl := Option.some.inj hy
      have hlt2 := x.wd_lt hm1
      obtain ⟨dx4, w1, w2, w3, w4⟩ := R3.obj
      refine ⟨_, rfl, x.p, dx4, _, rfl, w4, by kernel_rfl, x, a + 2, 0, X1, X2, [], _, _, rfl, ok, R3, hlt2, hfw, ⟨fun e he => (nomatch he), fun i' d' he => ?_⟩⟩
      cases he
      exact q2 _ _ rfl
    · have := hno m hm1
      rw [hm2] at this
      cases this
  | @mk m ps o' hm1 hm2 hfw hss =>
    refine ⟨_, rfl, x.p, dx3, _, rfl, u4, by kernel_rfl, x, a + 1, 0, X1, X2, [], fF, isFree, rfl, Sq_F, ok, R2, hlt, fun y hy hg H3 R3 => ?_, fun hno => ?_⟩
    rotate_left
    · have := hno m hm1
      rw [hm2] at this
      cases this
    rw [hm1] at hy
    obtain rfl := Option.some.inj hy
    have hlt2 := x.wd_lt hm1
    obtain ⟨dx4, w1, w2, w3, w4⟩ := R3.obj
    refine ⟨_, rfl, x.p, dx4, _, rfl, w4, by kernel_rfl, x, a + 2, 0, X1, X2, [], _, _, rfl, ok, R3, hlt2, hfw, ⟨fun e he vw H4 hvw hle R4 => ?_, fun i' d' he => (nomatch he)⟩⟩
    cases he
    rw [List.append_nil] at R4
    obtain ⟨G4, s4, t4, ok4, R4'⟩ := R4.gr ok
    have hvw4 := hvw.on t4
    obtain ⟨dx5, y1, y2, y3, y4⟩ := R4'.obj
    refine ⟨_, rfl, x.p, dx5, _, rfl, y4, by kernel_rfl, x.on G4, a + 2 + (ps.length + 1), 0, X1, X2, [], _, o', rfl, ok4, R4', by omega, hle, Nat.zero_le _, hss, ⟨fun ss he vs H5 hvs hle5 R5 => ?_, fun i d he => ?_⟩⟩
    rotate_left
    · subst he
      exact (q2 _ _ rfl).on s4
    subst he
    obtain ⟨q, vss, rfl, hq, hat⟩ := hvs
    have hvw5 := hvw4.on (same_tups R5.1)
    obtain ⟨G6, s6, t6, ok6, R6⟩ := R5.gr ok4
    have hvw6 := hvw5.on t6
    have hq6 := t6 _ _ hq
    have hat6 := hat.on_ t6
    obtain ⟨dx6, fs6, q1_, q2_, q3_, z1, z2, zs, z3, z4, z6, z5, z7, zm, _⟩ := R6.fs_eq
    refine ⟨_, rfl, x.p, C, dx6, fs6, _, rfl, z1, T.cl, T.f8, z3, .inl ⟨rfl, _, SqL.of z5⟩, ?_⟩
    refine ⟨_, rfl, _, rfl, x.p, C, dx6, fs6, _, rfl, z1, T.cl, T.f9, z4, q3_, _, rfl, .inl ⟨SqL.of z7, fun t1 ht1 => ?_⟩⟩
    refine ⟨by show 2 ≤ sizeLine; decide, fun t2 ht2 => ?_⟩
    have sA := same_new ht1 (.tup ([] ++ stW (a + 2 + (ps.length + 1)) (wSs ss)))
    have sB := same_new ht2 (.tup [.int (a : Nat), .ref t1])
    obtain ⟨e3, e4⟩ := zm _ (sA.trans sB) (.ref t2)
    refine ⟨q2_, X2, .ref t2, rfl, rfl, e3, by rw [sizeLine_eq]; omega, ?_⟩
    refine ⟨_, rfl, _, rfl, _, rfl, by show 4 ≤ sizeLine; decide, fun p hp => ?_⟩
    have R8 := e4.new hp (.tup [S_ "method", .str (mk m), vw, .ref q])
    have tG := same_tups R8.1
    have tl2 := tups_lst (ys := X2 ++ [.ref t2]) e3
    have sC := tups_new hp (.tup [S_ "method", .str (mk m), vw, .ref q])
    have ht1' : upd (upd H5 t1 (.tup ([] ++ stW (a + 2 + (ps.length + 1)) (wSs ss)))) t2 (.tup [.int (a : Nat), .ref t1]) t1 = some (.tup ([] ++ stW (a + 2 + (ps.length + 1)) (wSs ss))) := sB _ _ upd_same
    have ht2' : upd (upd H5 t1 (.tup ([] ++ stW (a + 2 + (ps.length + 1)) (wSs ss)))) t2 (.tup [.int (a : Nat), .ref t1]) t2 = some (.tup [.int (a : Nat), .ref t1]) := upd_same
    have hln : lM ⟨m, ps, ss⟩ = 2 + (ps.length + 1) + (lSs ss + 1) := lM_eq _
    have hle6 : a + 2 + (ps.length + 1) + (lSs ss + 1) ≤ x.ws.length := hle5
    refine q1 ⟨m, ps, ss⟩ rfl _ (.ref t2) _ ([] ++ stW (a + 2 + (ps.length + 1)) (wSs ss)) ⟨p, vw, q, vss, rfl, upd_same, hvw6.on tG, tG _ _ hq6, hat6.on_ tG⟩ ⟨t2, t1, rfl, sC _ _ (tl2 _ _ ht2'), ?_⟩ (by rw [hln]; omega) ?_
    · rw [stM]
      have := sC _ _ (tl2 _ _ ht1')
      rw [List.nil_append] at this
      exact this
    · rw [show a + lM ⟨m, ps, ss⟩ = a + 2 + (ps.length + 1) + (lSs ss + 1) by rw [hln]; omega]
      exact (R8.back (x := x.on G4) s6).back s4
/-! methods -/
def AtTM (H : Hp) (ms : List Me) (v : V) : Prop := ∃ p vs, v = .ref p ∧ H p = some (.tup vs) ∧ AtMs H ms vs
abbrev AtMSs (H : Hp) (qs : List (Nat × List V)) (vs : List V) : Prop := AtL AtMS H qs vs
def nMs_ (C CF : Addr) : Sp := fun vs H Q E => ∃ (x : RX) (a : Nat) (X1 X3 : List V) (o : Out (List Me)), vs = [.ref x.p] ∧ x.Ok ∧ Rn C x H a 0 X1 [] X3 ∧ a ≤ x.ws.length ∧ RMs x.wd a [] o ∧
  (∀ ms, o = .ok ms → ∀ v H' X2 X3', AtTM H' ms v → AtMSs H' (stMs a ms) X2 → a + (lMs ms + 1) ≤ x.ws.length → Rn C x H' (a + (lMs ms + 1)) 0 X1 X2 X3' → Q v H') ∧ (∀ i d, o = .bad i d → BadAt CF x E i d)
theorem scMs : FnScope ["self", "methods"] ["self"] (defScope (rd 12)) := ⟨rfl, rfl, rfl, by decide +kernel, rfl, by decide +kernel, by decide +kernel⟩
def MsI (C : Addr) (x : RX) (a : Nat) (X1 : List V) (o : Out (List Me)) (l : Addr) (m : Nat) (σ : L2.St) (H1 : Hp) : Prop :=
  ∃ (H0' : Hp) (a' : Nat) (ms : List Me) (Y X2 X3 : List V), σ = [some (V.ref x.p), some (V.ref l)] ∧ m = x.ws.length - a' ∧ Same x.H0 H0' ∧ H0' l = some (HO.lst Y) ∧ AtMs H0' ms Y ∧ AtMSs H0' (stMs a ms) X2 ∧ (x.on H0').Ok ∧ a' = a + lMs ms ∧ a' ≤ x.ws.length ∧ RMs x.wd a' ms o ∧ Rn C (x.on H0') H1 a' 0 X1 X2 X3
theorem n_ms {k : Nat} (hk : 6 ≤ k) (T : TxR K mg C) (TS : TxS K mg) (Df : Dm K C "methods" "Reader.methods" (rd 12)) (B : RdS P w K mg base C CF fF fK fM fX) (M3 : M0 P w K mg base C k "method" (nMe C CF)) : M0 P w K mg base C (k + 1) "methods" (nMs_ C CF) := by
  obtain ⟨f, fd, F, hm⟩ := Df.ex
  refine ⟨f, fd, ["self"], F.okX scMs (fun vs H Q E h => ?_) (fun cdv A0 outer s H vs Q E hr h => ?_), hm, F.binds (ps := ["self"]) fun _ _ _ _ _ _ us hl => match us, hl with | [_], _ => rfl⟩
  · obtain ⟨x, a, X1, X3, o, rfl, _⟩ := h
    rfl
  obtain ⟨x, a, X1, X3, o, rfl, ok, R, ha, hrel, q1, q2⟩ := h
  refine ⟨_, pss_cons (ps_set (i := 1) scMs.nd rfl (Or.inl rfl) (pe_lst pa_nil)) <|
    pss_cons (ps_while (passes_of rfl) (pt_cmpR op_eq (pe_mm0 T.cl B.wd hr (by omega) (passes_call (takes_of rfl rfl rfl rfl) fun _ _ _ _ h => h) (pv 0)) pe_str (nomark _))
      (pss_one (ps_expr (pe_bm PySem.F.plainAttrs_list PySem.F.slot_list_append PySem.F.type_list_append mt_append (pv 1) (pa_cons (pe_mm0 T.cl M3 hr (Nat.le_refl _) (passes_call (takes_of rfl rfl rfl rfl) fun _ _ _ _ h => h) (pv 0)) pa_nil))))) <|
    pss_cons (ps_expr (pe_mm T.cl B.sk hr (by omega) (passes_call (takes_of rfl rfl rfl rfl) fun _ _ _ _ h => h) (pv 0) (pa_cons pe_str pa_nil))) <|
    pss_one (ps_ret (pe_callTy call_tuple_of (by rfl) TS.tup (by decide +kernel) (pa_cons (pv 1) pa_nil))), ?_⟩
  have oln := ok.ln
  refine ⟨Nat.zero_le _, fun l hl => ?_⟩
  have hl0 : x.H0 l = none := R.1.free hl
  obtain ⟨G0, sG, tG, gl, ok0, R0⟩ := R.begin ok hl
  refine ⟨MsI C x a X1 o l, ⟨_, G0, a, [], [], [], X3, rfl, rfl, sG, gl, rfl, rfl, ok0, rfl, ha, hrel, R0⟩, ?_⟩
  rintro m σ H1 ⟨H0', a', ms, Y, X2, X3', rfl, rfl, sH, hY, hat, hst, o1, ea, ha', hrel', R1⟩
  obtain ⟨dx, l1, l2, l3, h1⟩ := R1.obj
  have fb : ∀ {i : Nat} {d : Bool}, BadAt CF x E i d → BadAt CF (x.on H0') E i d := fun h => h.on sH
  have hYl : Y.length ≤ lMs ms := by rw [hat.len]; exact ms_le ms
  have hX2l : X2.length ≤ a' := by
    have := ms_le ms
    rw [hst.len, stMs_len]
    omega
  refine ⟨_, rfl, x.p, dx, _, rfl, h1, by kernel_rfl, x.on H0', a', 0, X1, X2, _, rfl, o1, R1, ha', fun kw hkw => ?_, fun hn => ?_⟩
  · have hw : x.wd a' = some kw.1 := x.wd_of hkw
    have hlt := x.wd_lt hw
    refine ⟨rfl, _, rfl, ?_⟩
    rw [dec_str]
    cases hrel' with
    | stop h => rw [hw] at h; cases h
    | done h =>
      rw [hw] at h
      have hz := Option.some.inj h
      rw [decide_eq_false (by rw [hz, mk_tl]; decide +kernel)]
      refine iteF ?_
      refine ⟨_, rfl, x.p, dx, _, rfl, h1, by kernel_rfl, x.on H0', a', 0, X1, X2, X3', _, rfl, o1, R1, ha', fun _ H2 R2 => ?_, fun hn => absurd (show x.wd a' = some (tk "end") by rw [hw, hz]) hn⟩
      refine ⟨_, rfl, l, Y, rfl, .inl ⟨SqL.of (R2.1 _ _ hY), fun tp htp => ?_⟩⟩
      have R3 := R2.new htp (.tup Y)
      have tq := same_tups R3.1
      refine q1 ms rfl _ _ X2 X3' ⟨tp, Y, rfl, upd_same, hat.on_ tq⟩ (AtL.on tq (fun _ _ h => h.on tq) hst) (by omega) ?_
      rw [show a + (lMs ms + 1) = a' + 1 by omega]
      exact R3.back sH
    | word h hne hne2 =>
      rw [hw] at h
      obtain rfl := Option.some.inj h
      rw [decide_eq_false (mk_ne hne)]
      refine iteF ?_
      refine ⟨_, rfl, x.p, dx, _, rfl, h1, by kernel_rfl, x.on H0', a', 0, X1, X2, X3', _, rfl, o1, R1, ha', fun hy => ?_, fun _ => fb (q2 _ _ rfl)⟩
      have hy' : x.wd a' = some (tk "end") := hy
      rw [hw] at hy'
      exact absurd (Option.some.inj hy') hne2
    | @bad _ i d _ h hr1 =>
      rw [hw] at h
      have hz := Option.some.inj h
      rw [decide_eq_true (mk_eq hz)]
      refine iteT ⟨_, fun σ' H' z => z, ?_⟩
      refine ⟨_, rfl, .inl ⟨rfl, _, SqL.of (R1.1 _ _ hY)⟩, _, rfl, x.p, dx, _, rfl, h1, by kernel_rfl, x.on H0', a', X1, X2, X3', _, rfl, o1, R1, by rw [← hz]; exact hw, hX2l, hr1, fun e he => (nomatch he), fun i' d' he => ?_⟩
      cases he
      exact fb (q2 _ _ rfl)
    | @cons _ _ mm _ h hr1 hrest =>
      rw [hw] at h
      have hz := Option.some.inj h
      rw [decide_eq_true (mk_eq hz)]
      refine iteT ⟨_, fun σ' H' z => z, ?_⟩
      refine ⟨_, rfl, .inl ⟨rfl, _, SqL.of (R1.1 _ _ hY)⟩, _, rfl, x.p, dx, _, rfl, h1, by kernel_rfl, x.on H0', a', X1, X2, X3', _, rfl, o1, R1, by rw [← hz]; exact hw, hX2l, hr1, fun e' he v mv H2 X3'' hv hmv hle R2 => ?_, fun i' d' he => (nomatch he)⟩
      cases he
      obtain ⟨G1, s1, t1, ok1, R3⟩ := R2.gr o1
      have hlG : G1 l = some (.lst Y) := s1 _ _ hY
      obtain ⟨o3, R4⟩ := R3.put ok1 hlG (Y ++ [v])
      have tt : Tups G1 (upd G1 l (.lst (Y ++ [v]))) := tups_lst hlG
      have hpos := lM_eq mm
      refine ⟨l, Y, v, rfl, rfl, R2.1 _ _ hY, by rw [sizeLine_eq]; omega, x.ws.length - (a' + lM mm), by omega, upd G1 l (.lst (Y ++ [v])), a' + lM mm, ms ++ [mm], Y ++ [v], X2 ++ [mv], X3'', rfl, rfl, ?_, upd_same, ?_, ?_, o3, ?_, hle, hrest, R4⟩
      · exact fun b u z => by
          rw [upd_ne (ne_of_none z hl0)]
          exact s1 b u (sH b u z)
      · exact ((hat.on_ (same_tups s1)).on_ tt).snoc ((hv.on t1).on tt)
      · rw [stMs_snoc, ← ea]
        have hst1 := AtL.on (same_tups s1) (fun _ _ h => h.on (same_tups s1)) hst
        exact (AtL.on tt (fun _ _ h => h.on tt) hst1).snoc ((hmv.on t1).on tt)
      · rw [lMs_snoc]
        omega
  · have hn' : a' = x.ws.length := hn
    cases hrel' with
    | stop h => exact (fb (q2 _ _ rfl)).2 hn'
    | done h => have := x.wd_lt h; omega
    | word h _ _ => have := x.wd_lt h; omega
    | bad h _ => have := x.wd_lt h; omega
    | cons h _ _ => have := x.wd_lt h; omega
end
end My
set_option Elab.async false
set_option linter.all false
set_option maxRecDepth 100000
set_option maxHeartbeats 4000000
namespace My
open PySem L2 SS
/-- how many words stand ahead of a tree's methods -/
def mAt : Tr → Nat
  | .kind _ _ fs _ => 4 + 2 * fs.length
  | .more _ _ => 2
theorem lT_eq (t : Tr) : lT t = mAt t + (lMs t.ms + 1) := by
  cases t with
  | kind n p fs ms =>
    show (wT (.kind n p fs ms)).length = 4 + 2 * fs.length + ((wMs ms).length + 1)
    simp [wT, wFd_len]
    omega
  | more n ms =>
    show (wT (.more n ms)).length = 2 + ((wMs ms).length + 1)
    simp [wT]
    omega
def wTs (ts : List Tr) : List WB := ts.flatMap wT
def lTs (ts : List Tr) : Nat := (wTs ts).length
theorem wTs_snoc (ts : List Tr) (t : Tr) : wTs (ts ++ [t]) = wTs ts ++ wT t := by unfold wTs; rw [List.flatMap_append]; simp
theorem lTs_snoc (ts : List Tr) (t : Tr) : lTs (ts ++ [t]) = lTs ts + lT t := by unfold lTs; rw [wTs_snoc, List.length_append]
theorem ts_le : ∀ ts : List Tr, ts.length ≤ lTs ts
  | [] => Nat.le_refl _
  | t :: r => by
    have h := ts_le r
    have e : lTs (t :: r) = lT t + lTs r := by unfold lTs; show (wT t ++ wTs r).length = _; rw [List.length_append]
    have := lT_eq t
    rw [e, List.length_cons]
    omega
def stTs : Nat → List Tr → List (Nat × List (Nat × List V))
  | _, [] => []
  | a, t :: r => (a, stMs (a + mAt t) t.ms) :: stTs (a + lT t) r
theorem stTs_snoc : ∀ (ts : List Tr) (t : Tr) (a : Nat), stTs a (ts ++ [t]) = stTs a ts ++ [(a + lTs ts, stMs (a + lTs ts + mAt t) t.ms)]
  | [], t, a => rfl
  | x :: r, t, a => by
    have e : lTs (x :: r) = lT x + lTs r := by unfold lTs; show (wT x ++ wTs r).length = _; rw [List.length_append]
    show (a, stMs (a + mAt x) x.ms) :: stTs (a + lT x) (r ++ [t]) = _
    rw [stTs_snoc r t (a + lT x), e, ← Nat.add_assoc]
    rfl
theorem stTs_len : ∀ (ts : List Tr) (a : Nat), (stTs a ts).length = ts.length
  | [], a => rfl
  | x :: r, a => by
    show (stTs (a + lT x) r).length + 1 = _
    rw [stTs_len r]
    rfl
def AtSt (H : Hp) (q : Nat × List (Nat × List V)) (v : V) : Prop := ∃ p r xs, v = .ref p ∧ H p = some (.tup [.int (q.1 : Nat), .ref r]) ∧ H r = some (.tup xs) ∧ AtMSs H q.2 xs
theorem AtSt.on {H H' : Hp} (t : Tups H H') {q : Nat × List (Nat × List V)} {v : V} (h : AtSt H q v) : AtSt H' q v := by
  obtain ⟨p, r, xs, e, h1, h2, h3⟩ := h
  exact ⟨p, r, xs, e, t _ _ h1, t _ _ h2, AtL.on t (fun _ _ h => h.on t) h3⟩
theorem AtMSs.on_ {H H' : Hp} (t : Tups H H') {q : List (Nat × List V)} {v : List V} (h : AtMSs H q v) : AtMSs H' q v := AtL.on t (fun _ _ h => h.on t) h
section
variable {P : Program} {w : World} {K : PySem.W.Frag} {mg : Str → Option Value} {base : Heap} {S CF fI fS C fF fK fM fX : Addr}
/-! kind, more -/
def nKd (C CF : Addr) (z : T) : Sp := fun vs H Q E => ∃ (x : RX) (a : Nat) (X1 X3 : List V) (o : Out Tr), vs = [.ref x.p] ∧ x.Ok ∧ Rn C x H a 0 X1 [] X3 ∧ a < x.ws.length ∧ (z = tk "kind" ↔ x.wd a = some (tk "kind")) ∧ RT x.wd a o ∧
  (∀ t, o = .ok t → ∀ v H' X2 X3', AtTr H' t v → AtMSs H' (stMs (a + mAt t) t.ms) X2 → a + lT t ≤ x.ws.length → Rn C x H' (a + lT t) 0 X1 X2 X3' → Q v H') ∧ (∀ i d, o = .bad i d → BadAt CF x E i d)
theorem scKd : FnScope ["self", "name", "parent", "fields"] ["self"] (defScope (rd 10)) := ⟨rfl, rfl, rfl, by decide +kernel, rfl, by decide +kernel, by decide +kernel⟩
def FdI (C : Addr) (x : RX) (a : Nat) (X1 X3 : List V) (n p : T) (o : Out (List T)) (l : Addr) (m : Nat) (σ : L2.St) (H1 : Hp) : Prop :=
  ∃ (H0' : Hp) (a' : Nat) (ws : List T), σ = [some (V.ref x.p), some (V.str (mk n)), some (V.str (mk p)), some (V.ref l)] ∧ m = x.ws.length - a' ∧ Same x.H0 H0' ∧ H0' l = some (HO.lst (wsV ws)) ∧ (x.on H0').Ok ∧ a' = a + 2 * ws.length ∧ a' ≤ x.ws.length ∧ RFd x.wd a' ws o ∧ Rn C (x.on H0') H1 a' 0 X1 [] X3
theorem n_kd {k : Nat} (hk : 7 ≤ k) (T : TxR K mg C) (TS : TxS K mg) (TF : TxF mg fF fK fM fX) (Df : Dm K C "kind" "Reader.kind" (rd 10)) (B : RdS P w K mg base C CF fF fK fM fX) (M4 : M0 P w K mg base C k "methods" (nMs_ C CF)) : M0 P w K mg base C (k + 1) "kind" (nKd C CF (tk "kind")) := by
  obtain ⟨f, fd, F, hm⟩ := Df.ex
  refine ⟨f, fd, ["self"], F.okX scKd (fun vs H Q E h => ?_) (fun cdv A0 outer s H vs Q E hr h => ?_), hm, F.binds (ps := ["self"]) fun _ _ _ _ _ _ us hl => match us, hl with | [_], _ => rfl⟩
  · obtain ⟨x, a, X1, X3, o, rfl, _⟩ := h
    rfl
  obtain ⟨x, a, X1, X3, o, rfl, ok, R, ha, hz, hrel, q1, q2⟩ := h
  have hw : x.wd a = some (tk "kind") := hz.mp rfl
  refine ⟨_, pss_cons (ps_expr (pe_mm T.cl B.sk hr (by omega) (passes_call (takes_of rfl rfl rfl rfl) fun _ _ _ _ h => h) (pv 0) (pa_cons pe_str pa_nil))) <|
    pss_cons (ps_set (i := 1) scKd.nd rfl (Or.inl rfl) (pe_mm T.cl B.tk hr (by omega) (passes_call (takes_of rfl rfl rfl rfl) fun _ _ _ _ h => h) (pv 0) (pa_cons (pe_glob (v := .ref fK) (by rfl) TF.gK rfl) pa_nil))) <|
    pss_cons (ps_expr (pe_mm T.cl B.sk hr (by omega) (passes_call (takes_of rfl rfl rfl rfl) fun _ _ _ _ h => h) (pv 0) (pa_cons pe_str pa_nil))) <|
    pss_cons (ps_set (i := 2) scKd.nd rfl (Or.inl rfl) (pe_mm T.cl B.tk hr (by omega) (passes_call (takes_of rfl rfl rfl rfl) fun _ _ _ _ h => h) (pv 0) (pa_cons (pe_glob (v := .ref fK) (by rfl) TF.gK rfl) pa_nil))) <|
    pss_cons (ps_set (i := 3) scKd.nd rfl (Or.inl rfl) (pe_lst pa_nil)) <|
    pss_cons (ps_while (passes_of rfl) (pt_cmpR op_eq (pe_mm0 T.cl B.wd hr (by omega) (passes_call (takes_of rfl rfl rfl rfl) fun _ _ _ _ h => h) (pv 0)) pe_str (nomark _))
      (pss_cons (ps_fldaug (pv 0) pe_int in_add) <| pss_one (ps_expr (pe_bm PySem.F.plainAttrs_list PySem.F.slot_list_append PySem.F.type_list_append mt_append (pv 3) (pa_cons (pe_mm T.cl B.tk hr (by omega) (passes_call (takes_of rfl rfl rfl rfl) fun _ _ _ _ h => h) (pv 0) (pa_cons (pe_glob (v := .ref fF) (by rfl) TF.gF rfl) pa_nil)) pa_nil))))) <|
    pss_one (ps_ret (pe_tup (pa_cons pe_str (pa_cons (pv 1) (pa_cons (pv 2) (pa_cons (pe_callTy call_tuple_of (by rfl) TS.tup (by decide +kernel) (pa_cons (pv 3) pa_nil)) (pa_cons (pe_mm0 T.cl M4 hr (Nat.le_refl _) (passes_call (takes_of rfl rfl rfl rfl) fun _ _ _ _ h => h) (pv 0)) pa_nil))))))), ?_⟩
  have oln := ok.ln
  obtain ⟨dx, l1, l2, l3, h1⟩ := R.obj
  refine ⟨_, rfl, x.p, dx, _, rfl, h1, by kernel_rfl, x, a, 0, X1, [], X3, _, rfl, ok, R, by omega, fun _ H1 R1 => ?_, fun hn => absurd hw hn⟩
  obtain ⟨dx1, i1, i2, i3, i4⟩ := R1.obj
  -- the name
  have kN : (∀ z, x.wd (a + 1) = some z → isKindName z = false) → BadAt CF x E (a + 1) false := fun hno => by
    cases hrel with
    | kN _ _ => exact q2 _ _ rfl
    | kU _ h1 h2 _ => rw [hno _ h1] at h2; cases h2
    | kP _ h1 h2 _ _ => rw [hno _ h1] at h2; cases h2
    | kF _ h1 h2 _ _ _ _ => rw [hno _ h1] at h2; cases h2
    | kind _ h1 h2 _ _ _ _ _ => rw [hno _ h1] at h2; cases h2
    | mW h1 h2 _ => rw [hw] at h1; exact absurd (Option.some.inj h1).symm h2
    | mN h1 _ => rw [hw] at h1; exact absurd (Option.some.inj h1) (by decide +kernel)
    | more h1 _ _ _ => rw [hw] at h1; exact absurd (Option.some.inj h1) (by decide +kernel)
  refine ⟨_, rfl, x.p, dx1, _, rfl, i4, by kernel_rfl, x, a + 1, 0, X1, [], X3, fK, isKindName, rfl, TF.sK, ok, R1, ha, fun n hn1 hn2 H2 R2 => ?_, kN⟩
  have lt1 := x.wd_lt hn1
  obtain ⟨dx2, u1, u2, u3, u4⟩ := R2.obj
  have kU : x.wd (a + 2) ≠ some (tk "under") → BadAt CF x E (a + 2) false := fun hno => by
    cases hrel with
    | kN _ h2 => rw [h2 _ hn1] at hn2; cases hn2
    | kU _ h1 h2 _ => exact q2 _ _ rfl
    | kP _ h1 h2 h3 _ => exact absurd h3 hno
    | kF _ h1 h2 h3 _ _ _ => exact absurd h3 hno
    | kind _ h1 h2 h3 _ _ _ _ => exact absurd h3 hno
    | mW h1 h2 _ => rw [hw] at h1; exact absurd (Option.some.inj h1).symm h2
    | mN h1 _ => rw [hw] at h1; exact absurd (Option.some.inj h1) (by decide +kernel)
    | more h1 _ _ _ => rw [hw] at h1; exact absurd (Option.some.inj h1) (by decide +kernel)
  refine ⟨_, rfl, x.p, dx2, _, rfl, u4, by kernel_rfl, x, a + 2, 0, X1, [], X3, _, rfl, ok, R2, lt1, fun hu H3 R3 => ?_, kU⟩
  have lt2 := x.wd_lt hu
  obtain ⟨dx3, w1, w2, w3, w4⟩ := R3.obj
  have kP : (∀ z, x.wd (a + 3) = some z → isKindName z = false) → BadAt CF x E (a + 3) false := fun hno => by
    cases hrel with
    | kN _ h2 => rw [h2 _ hn1] at hn2; cases hn2
    | kU _ h1 h2 h3 => exact absurd hu h3
    | kP _ h1 h2 h3 _ => exact q2 _ _ rfl
    | kF _ h1 h2 h3 h4 h5 _ => rw [hno _ h4] at h5; cases h5
    | kind _ h1 h2 h3 h4 h5 _ _ => rw [hno _ h4] at h5; cases h5
    | mW h1 h2 _ => rw [hw] at h1; exact absurd (Option.some.inj h1).symm h2
    | mN h1 _ => rw [hw] at h1; exact absurd (Option.some.inj h1) (by decide +kernel)
    | more h1 _ _ _ => rw [hw] at h1; exact absurd (Option.some.inj h1) (by decide +kernel)
  refine ⟨_, rfl, x.p, dx3, _, rfl, w4, by kernel_rfl, x, a + 3, 0, X1, [], X3, fK, isKindName, rfl, TF.sK, ok, R3, lt2, fun p hp1 hp2 H4 R4 => ?_, kP⟩
  have lt3 := x.wd_lt hp1
  -- the fields
  obtain ⟨of, hof, hok, hbad⟩ : ∃ of : Out (List (List Nat)), RFd x.wd (a + 4) [] of ∧ (∀ fs, of = .ok fs → ∃ om : Out (List Me), RMs x.wd (a + 4 + 2 * fs.length) [] om ∧ o = om.map (.kind n p fs)) ∧ (∀ i d, of = .bad i d → o = .bad i d) := by
    cases hrel with
    | kN _ h2 => rw [h2 _ hn1] at hn2; cases hn2
    | kU _ h1 h2 h3 => exact absurd hu h3
    | kP _ h1 h2 h3 h4 => rw [h4 _ hp1] at hp2; cases hp2
    | @kF i d _ _ _ h1 h2 h3 h4 h5 h6 => exact ⟨.bad i d, h6, fun fs he => (nomatch he), fun i' d' he => by cases he; rfl⟩
    | @kind n' p' fs om _ h1 h2 h3 h4 h5 h6 h7 =>
      rw [hn1] at h1
      rw [hp1] at h4
      obtain rfl := Option.some.inj h1
      obtain rfl := Option.some.inj h4
      exact ⟨.ok fs, h6, fun fs' he => by cases he; exact ⟨om, h7, rfl⟩, fun i' d' he => (nomatch he)⟩
    | mW h1 h2 _ => rw [hw] at h1; exact absurd (Option.some.inj h1).symm h2
    | mN h1 _ => rw [hw] at h1; exact absurd (Option.some.inj h1) (by decide +kernel)
    | more h1 _ _ _ => rw [hw] at h1; exact absurd (Option.some.inj h1) (by decide +kernel)
  clear hrel
  refine ⟨Nat.zero_le _, fun l hl => ?_⟩
  have hl0 : x.H0 l = none := R4.1.free hl
  obtain ⟨G0, sG, tG, gl, ok0, R0⟩ := R4.begin ok hl
  refine ⟨FdI C x (a + 4) X1 X3 n p of l, ⟨_, G0, a + 4, [], rfl, rfl, sG, gl, ok0, rfl, lt3, hof, R0⟩, ?_⟩
  rintro m σ HH ⟨H0', a', ws, rfl, rfl, sH, hY, o1, ea, ha', hrel', R5⟩
  obtain ⟨dx5, y1, y2, y3, y4⟩ := R5.obj
  have fb : ∀ {i : Nat} {d : Bool}, BadAt CF x E i d → BadAt CF (x.on H0') E i d := fun h => h.on sH
  refine ⟨_, rfl, x.p, dx5, _, rfl, y4, by kernel_rfl, x.on H0', a', 0, X1, [], X3, rfl, o1, R5, ha', fun kw hkw => ?_, fun hn => ?_⟩
  rotate_left
  · have hn' : a' = x.ws.length := hn
    cases hrel' with
    | stop h => exact (fb (q2 _ _ (hbad _ _ rfl))).2 hn'
    | done h _ => have := x.wd_lt h; omega
    | bad h _ => have := x.wd_lt h; omega
    | cons h _ _ _ => have := x.wd_lt h; omega
  have hwk : x.wd a' = some kw.1 := x.wd_of hkw
  have hlt := x.wd_lt hwk
  refine ⟨rfl, _, rfl, ?_⟩
  rw [dec_str]
  have ec : ((a' : Nat) : Int) + 1 = ((a' + 1 : Nat) : Int) := by omega
  cases hrel' with
  | stop h => rw [hwk] at h; cases h
  | done h hne =>
    rw [hwk] at h
    obtain rfl := Option.some.inj h
    rw [decide_eq_false (mk_ne hne)]
    refine iteF ?_
    obtain ⟨om, hom, rfl⟩ := hok ws rfl
    have hlY := R5.1 _ _ hY
    refine ⟨_, rfl, _, rfl, _, rfl, l, wsV ws, rfl, .inl ⟨SqL.of hlY, fun t1 ht1 => ?_⟩⟩
    have R6 := R5.new ht1 (.tup (wsV ws))
    have aw : AtW (upd HH t1 (.tup (wsV ws))) ws (.ref t1) := ⟨t1, rfl, upd_same⟩
    generalize upd HH t1 (.tup (wsV ws)) = H6 at R6 aw ⊢
    obtain ⟨G6, s6, t6, ok6, R6'⟩ := R6.gr o1
    have aw6 := aw.on t6
    obtain ⟨dx6, z1, z2, z3, z4⟩ := R6'.obj
    refine ⟨_, rfl, x.p, dx6, _, rfl, z4, by kernel_rfl, (x.on H0').on G6, a', X1, X3, om, rfl, ok6, R6', ha', by rw [ea]; exact hom, fun ms he v H7 X2 X3' hv hst hle R7 => ?_, fun i d he => ?_⟩
    · subst he
      obtain ⟨q, vs, rfl, hq, hat⟩ := hv
      have aw7 := aw6.on (same_tups R7.1)
      refine ⟨by show 5 ≤ sizeLine; decide, fun r hr2 => ?_⟩
      have t8 := tups_new hr2 (.tup [S_ "kind", .str (mk n), .str (mk p), .ref t1, .ref q])
      have R8 := R7.new hr2 (.tup [S_ "kind", .str (mk n), .str (mk p), .ref t1, .ref q])
      have e1 : lT (.kind n p ws ms) = 4 + 2 * ws.length + (lMs ms + 1) := lT_eq _
      have hle' : a' + (lMs ms + 1) ≤ x.ws.length := hle
      refine q1 _ rfl _ _ X2 X3' ⟨r, _, q, vs, rfl, upd_same, aw7.on t8, t8 _ _ hq, hat.on_ t8⟩ ?_ (by rw [e1]; omega) ?_
      · show AtMSs _ (stMs (a + (4 + 2 * ws.length)) ms) X2
        rw [show a + (4 + 2 * ws.length) = a' by omega]
        exact hst.on_ t8
      · rw [show a + lT (.kind n p ws ms) = a' + (lMs ms + 1) by rw [e1]; omega]
        exact (R8.back (x := x.on H0') s6).back sH
    · subst he
      exact (fb (q2 _ _ rfl)).on s6
  | bad h hno =>
    rw [hwk] at h
    have hzz := Option.some.inj h
    rw [decide_eq_true (mk_eq hzz)]
    refine iteT ⟨_, fun σ' H' z => z, ?_⟩
    obtain ⟨dx3, fs3, j1, j2, j3, j4⟩ := R5.at_ o1 (a' + 1)
    refine ⟨_, rfl, x.p, C, dx3, fs3, _, rfl, j1, T.cl, T.f5, j2, _, _, rfl, rfl, dx3, fs3, j1, j3, ?_⟩
    rw [ec]
    obtain ⟨dx6, z1, z2, z3, z4⟩ := j4.obj
    exact ⟨_, rfl, .inl ⟨rfl, _, SqL.of (j4.1 _ _ hY)⟩, _, rfl, x.p, dx6, _, rfl, z4, by kernel_rfl, x.on H0', a' + 1, 0, X1, [], X3, fF, isFree, rfl, Sq_F, o1, j4, hlt, fun y hy hg => (by have hy' : x.wd (a' + 1) = some y := hy; rw [hno y hy'] at hg; cases hg), fun _ => fb (q2 _ _ (hbad _ _ rfl))⟩
  | @cons _ _ y _ h hy1 hy2 hrest =>
    rw [hwk] at h
    have hzz := Option.some.inj h
    rw [decide_eq_true (mk_eq hzz)]
    refine iteT ⟨_, fun σ' H' z => z, ?_⟩
    obtain ⟨dx3, fs3, j1, j2, j3, j4⟩ := R5.at_ o1 (a' + 1)
    refine ⟨_, rfl, x.p, C, dx3, fs3, _, rfl, j1, T.cl, T.f5, j2, _, _, rfl, rfl, dx3, fs3, j1, j3, ?_⟩
    rw [ec]
    obtain ⟨dx6, z1, z2, z3, z4⟩ := j4.obj
    refine ⟨_, rfl, .inl ⟨rfl, _, SqL.of (j4.1 _ _ hY)⟩, _, rfl, x.p, dx6, _, rfl, z4, by kernel_rfl, x.on H0', a' + 1, 0, X1, [], X3, fF, isFree, rfl, Sq_F, o1, j4, hlt, fun y' hy hg H2 R2 => ?_, fun hn => ?_⟩
    · have hy' : x.wd (a' + 1) = some y' := hy
      rw [hy1] at hy'
      obtain rfl := Option.some.inj hy'
      have hlt2 := x.wd_lt hy1
      obtain ⟨o3, R3⟩ := R2.put o1 hY (wsV (ws ++ [y]))
      have e1 : wsV (ws ++ [y]) = wsV ws ++ [.str (mk y)] := by unfold wsV; rw [List.map_append]; rfl
      have hlen : (wsV ws).length = ws.length := List.length_map _
      refine ⟨l, wsV ws, _, rfl, rfl, R2.1 _ _ hY, by rw [sizeLine_eq, hlen]; omega, x.ws.length - (a' + 2), by omega, upd H0' l (.lst (wsV (ws ++ [y]))), a' + 2, ws ++ [y], rfl, rfl, ?_, upd_same, o3, by rw [List.length_append]; simp only [List.length_cons, List.length_nil]; omega, by omega, hrest, by rw [← e1]; exact R3⟩
      exact fun b u z => by
        rw [upd_ne (ne_of_none z hl0)]
        exact sH b u z
    · have := hn y hy1
      rw [hy2] at this
      cases this
theorem scMo : FnScope ["self", "name"] ["self"] (defScope (rd 11)) := ⟨rfl, rfl, rfl, by decide +kernel, rfl, by decide +kernel, by decide +kernel⟩
theorem n_mo {k : Nat} (hk : 7 ≤ k) (T : TxR K mg C) (TF : TxF mg fF fK fM fX) (Df : Dm K C "more" "Reader.more" (rd 11)) (B : RdS P w K mg base C CF fF fK fM fX) (M4 : M0 P w K mg base C k "methods" (nMs_ C CF)) : M0 P w K mg base C (k + 1) "more" (nKd C CF []) := by
  obtain ⟨f, fd, F, hm⟩ := Df.ex
  refine ⟨f, fd, ["self"], F.okX scMo (fun vs H Q E h => ?_) (fun cdv A0 outer s H vs Q E hr h => ?_), hm, F.binds (ps := ["self"]) fun _ _ _ _ _ _ us hl => match us, hl with | [_], _ => rfl⟩
  · obtain ⟨x, a, X1, X3, o, rfl, _⟩ := h
    rfl
  obtain ⟨x, a, X1, X3, o, rfl, ok, R, ha, hz, hrel, q1, q2⟩ := h
  have hnk : x.wd a ≠ some (tk "kind") := fun h => absurd (hz.mpr h) (by decide +kernel)
  refine ⟨_, pss_cons (ps_expr (pe_mm T.cl B.sk hr (by omega) (passes_call (takes_of rfl rfl rfl rfl) fun _ _ _ _ h => h) (pv 0) (pa_cons pe_str pa_nil))) <|
    pss_cons (ps_set (i := 1) scMo.nd rfl (Or.inl rfl) (pe_mm T.cl B.tk hr (by omega) (passes_call (takes_of rfl rfl rfl rfl) fun _ _ _ _ h => h) (pv 0) (pa_cons (pe_glob (v := .ref fK) (by rfl) TF.gK rfl) pa_nil))) <|
    pss_one (ps_ret (pe_tup (pa_cons pe_str (pa_cons (pv 1) (pa_cons (pe_mm0 T.cl M4 hr (Nat.le_refl _) (passes_call (takes_of rfl rfl rfl rfl) fun _ _ _ _ h => h) (pv 0)) pa_nil))))), ?_⟩
  obtain ⟨dx, l1, l2, l3, h1⟩ := R.obj
  have mW : x.wd a ≠ some (tk "more") → BadAt CF x E a false := fun hno => by
    cases hrel with
    | kN h _ => exact absurd h hnk
    | kU h _ _ _ => exact absurd h hnk
    | kP h _ _ _ _ => exact absurd h hnk
    | kF h _ _ _ _ _ _ => exact absurd h hnk
    | kind h _ _ _ _ _ _ _ => exact absurd h hnk
    | mW _ _ _ => exact q2 _ _ rfl
    | mN h _ => exact absurd h hno
    | more h _ _ _ => exact absurd h hno
  refine ⟨_, rfl, x.p, dx, _, rfl, h1, by kernel_rfl, x, a, 0, X1, [], X3, _, rfl, ok, R, by omega, fun hmo H1 R1 => ?_, mW⟩
  have hmo' : x.wd a = some (tk "more") := hmo
  have lt1 := x.wd_lt hmo'
  obtain ⟨dx1, i1, i2, i3, i4⟩ := R1.obj
  have mN : (∀ z, x.wd (a + 1) = some z → isKindName z = false) → BadAt CF x E (a + 1) false := fun hno => by
    cases hrel with
    | kN h _ => exact absurd h hnk
    | kU h _ _ _ => exact absurd h hnk
    | kP h _ _ _ _ => exact absurd h hnk
    | kF h _ _ _ _ _ _ => exact absurd h hnk
    | kind h _ _ _ _ _ _ _ => exact absurd h hnk
    | mW h1 _ h2 => rw [hmo'] at h1; exact absurd (Option.some.inj h1).symm h2
    | mN h _ => exact q2 _ _ rfl
    | more h h1 h2 _ => rw [hno _ h1] at h2; cases h2
  refine ⟨_, rfl, x.p, dx1, _, rfl, i4, by kernel_rfl, x, a + 1, 0, X1, [], X3, fK, isKindName, rfl, TF.sK, ok, R1, lt1, fun n hn1 hn2 H2 R2 => ?_, mN⟩
  have lt2 := x.wd_lt hn1
  obtain ⟨om, hom, ho⟩ : ∃ om : Out (List Me), RMs x.wd (a + 2) [] om ∧ o = om.map (.more n) := by
    cases hrel with
    | kN h _ => exact absurd h hnk
    | kU h _ _ _ => exact absurd h hnk
    | kP h _ _ _ _ => exact absurd h hnk
    | kF h _ _ _ _ _ _ => exact absurd h hnk
    | kind h _ _ _ _ _ _ _ => exact absurd h hnk
    | mW h1 _ h2 => rw [hmo'] at h1; exact absurd (Option.some.inj h1).symm h2
    | mN h h2 => rw [h2 _ hn1] at hn2; cases hn2
    | @more n' om h h1 h2 h3 =>
      rw [hn1] at h1
      obtain rfl := Option.some.inj h1
      exact ⟨om, h3, rfl⟩
  subst ho
  obtain ⟨dx2, u1, u2, u3, u4⟩ := R2.obj
  refine ⟨_, rfl, _, rfl, x.p, dx2, _, rfl, u4, by kernel_rfl, x, a + 2, X1, X3, om, rfl, ok, R2, lt2, hom, fun ms he v H7 X2 X3' hv hst hle R7 => ?_, fun i d he => ?_⟩
  · subst he
    obtain ⟨q, vs, rfl, hq, hat⟩ := hv
    refine ⟨by show 3 ≤ sizeLine; decide, fun r hr2 => ?_⟩
    have t8 := tups_new hr2 (.tup [S_ "more", .str (mk n), .ref q])
    have R8 := R7.new hr2 (.tup [S_ "more", .str (mk n), .ref q])
    have e1 : lT (.more n ms) = 2 + (lMs ms + 1) := lT_eq _
    refine q1 _ rfl _ _ X2 X3' ⟨r, q, vs, rfl, upd_same, t8 _ _ hq, hat.on_ t8⟩ (hst.on_ t8) (by rw [e1]; omega) ?_
    rw [show a + lT (.more n ms) = a + 2 + (lMs ms + 1) by rw [e1]; omega]
    exact R8
  · subst he
    exact q2 _ _ rfl
/-! tree -/
def nTr (C CF : Addr) : Sp := fun vs H Q E => ∃ (x : RX) (a : Nat) (X1 X2 X3 : List V) (o : Out Tr), vs = [.ref x.p] ∧ x.Ok ∧ Rn C x H a 0 X1 X2 X3 ∧ a < x.ws.length ∧ X1.length ≤ a ∧ RT x.wd a o ∧
  (∀ t, o = .ok t → ∀ v tv H' X2' X3', AtTr H' t v → AtSt H' (a, stMs (a + mAt t) t.ms) tv → a + lT t ≤ x.ws.length → Rn C x H' (a + lT t) 0 (X1 ++ [tv]) X2' X3' → Q v H') ∧ (∀ i d, o = .bad i d → BadAt CF x E i d)
theorem scTr : FnScope ["self", "start", "tree"] ["self"] (defScope (rd 9)) := ⟨rfl, rfl, rfl, by decide +kernel, rfl, by decide +kernel, by decide +kernel⟩
theorem n_tr {k : Nat} (hk : 7 ≤ k) (T : TxR K mg C) (TS : TxS K mg) (Df : Dm K C "tree" "Reader.tree" (rd 9)) (B : RdS P w K mg base C CF fF fK fM fX) (M2 : M0 P w K mg base C k "kind" (nKd C CF (tk "kind"))) (M3 : M0 P w K mg base C k "more" (nKd C CF [])) : M0 P w K mg base C (k + 1) "tree" (nTr C CF) := by
  obtain ⟨f, fd, F, hm⟩ := Df.ex
  refine ⟨f, fd, ["self"], F.okX scTr (fun vs H Q E h => ?_) (fun cdv A0 outer s H vs Q E hr h => ?_), hm, F.binds (ps := ["self"]) fun _ _ _ _ _ _ us hl => match us, hl with | [_], _ => rfl⟩
  · obtain ⟨x, a, X1, X2, X3, o, rfl, _⟩ := h
    rfl
  obtain ⟨x, a, X1, X2, X3, o, rfl, ok, R, ha, hX1, hrel, q1, q2⟩ := h
  refine ⟨_, pss_cons (ps_set (i := 1) scTr.nd rfl (Or.inl rfl) (pe_fld (pv 0) rfl)) <|
    pss_cons (ps_fld (pv 0) (pe_lst pa_nil) rfl) <|
    pss_cons (ps_set (i := 2) scTr.nd rfl (Or.inl rfl) (pe_ifExp (pt_cmpR op_eq (pe_mm0 T.cl B.wd hr (by omega) (passes_call (takes_of rfl rfl rfl rfl) fun _ _ _ _ h => h) (pv 0)) pe_str (nomark _)) (pe_mm0 T.cl M2 hr (Nat.le_refl _) (passes_call (takes_of rfl rfl rfl rfl) fun _ _ _ _ h => h) (pv 0)) (pe_mm0 T.cl M3 hr (Nat.le_refl _) (passes_call (takes_of rfl rfl rfl rfl) fun _ _ _ _ h => h) (pv 0)))) <|
    pss_cons (ps_expr (pe_bm PySem.F.plainAttrs_list PySem.F.slot_list_append PySem.F.type_list_append mt_append (pe_fld (pv 0) rfl) (pa_cons (pe_tup (pa_cons (pv 1) (pa_cons (pe_callTy call_tuple_of (by rfl) TS.tup (by decide +kernel) (pa_cons (pe_fld (pv 0) rfl) pa_nil)) pa_nil))) pa_nil))) <|
    pss_one (ps_ret (pv 2)), ?_⟩
  have oln := ok.ln
  obtain ⟨dx, fs, l1, l2, l3, h1, b1, _⟩ := R.fs_eq
  refine ⟨_, rfl, x.p, C, dx, fs, _, rfl, h1, T.cl, T.f5, b1, Nat.zero_le _, fun m hm0 => ?_⟩
  obtain ⟨dx1, fs1, c1, c2, c3⟩ := R.ms ok hm0
  refine ⟨_, rfl, x.p, C, dx1, fs1, rfl, c1, T.cl, T.f8, c2, ?_⟩
  generalize upd (upd H m (.lst [])) x.p (.ins C dx1 (putF "method_starts" (.ref m) fs1)) = H1 at c3 ⊢
  obtain ⟨dx2, i1, i2, i3, i4⟩ := c3.obj
  refine ⟨_, rfl, x.p, dx2, _, rfl, i4, by kernel_rfl, x, a, 0, X1, [], _, rfl, ok, c3, by omega, fun kw hkw => ?_, fun h => by omega⟩
  have hw : x.wd a = some kw.1 := x.wd_of hkw
  refine ⟨rfl, _, rfl, ?_⟩
  rw [dec_str]
  -- behind the tree
  have fin : ∀ t, o = .ok t → ∀ v H' X2' X3', AtTr H' t v → AtMSs H' (stMs (a + mAt t) t.ms) X2' → a + lT t ≤ x.ws.length → Rn C x H' (a + lT t) 0 X1 X2' X3' → ∃ (dx : Addr) (fs : List (Str × V)) (q1 : Addr), H' x.p = some (.ins C dx fs) ∧ fs.lookup ("starts" : Str) = some (.ref q1) ∧ H' q1 = some (.lst X1) ∧ ∃ q2, fs.lookup ("method_starts" : Str) = some (.ref q2) ∧ H' q2 = some (.lst X2') ∧
      ∀ t1, H' t1 = none → ∀ t2, upd H' t1 (.tup X2') t2 = none → upd (upd H' t1 (.tup X2')) t2 (.tup [.int (a : Nat), .ref t1]) q1 = some (.lst X1) ∧ Q v (upd (upd (upd H' t1 (.tup X2')) t2 (.tup [.int (a : Nat), .ref t1])) q1 (.lst (X1 ++ [.ref t2]))) := fun t ht v H' X2' X3' hv hst hle RR => by
    obtain ⟨dx6, fs6, q1_, q2_, q3_, z1, z2, zs, z3, z4, z6, z5, z7, _, zm⟩ := RR.fs_eq
    refine ⟨dx6, fs6, q1_, z1, zs, z6, q2_, z3, z5, fun t1 ht1 t2 ht2 => ?_⟩
    have sA := same_new ht1 (.tup X2')
    have sB := same_new ht2 (.tup [.int (a : Nat), .ref t1])
    obtain ⟨e3, e4⟩ := zm _ (sA.trans sB) (.ref t2)
    have tl2 := tups_lst (ys := X1 ++ [.ref t2]) e3
    have tq := (same_tups (sA.trans sB)).trans tl2
    exact ⟨e3, q1 t ht v (.ref t2) _ X2' X3' (hv.on tq) ⟨t2, t1, X2', rfl, tl2 _ _ upd_same, tl2 _ _ (sB _ _ upd_same), hst.on_ tq⟩ hle e4⟩
  by_cases hk2 : kw.1 = tk "kind"
  · rw [decide_eq_true (mk_eq hk2)]
    refine iteT ?_
    refine ⟨_, rfl, x.p, dx2, _, rfl, i4, by kernel_rfl, x, a, X1, _, o, rfl, ok, c3, ha, ⟨fun _ => by rw [hw, hk2], fun _ => rfl⟩, hrel, fun t ht v H' X2' X3' hv hst hle RR => ?_, q2⟩
    obtain ⟨dx3, fs3, q3, z1, z2, z3, q4, z4, z5, fin2⟩ := fin t ht v H' X2' X3' hv hst hle RR
    refine ⟨_, rfl, x.p, C, dx3, fs3, _, rfl, z1, T.cl, T.f7, z2, .inl ⟨rfl, _, SqL.of z3⟩, ?_⟩
    refine ⟨_, rfl, _, rfl, x.p, C, dx3, fs3, _, rfl, z1, T.cl, T.f8, z4, q4, _, rfl, .inl ⟨SqL.of z5, fun t1 ht1 => ?_⟩⟩
    refine ⟨by show 2 ≤ sizeLine; decide, fun t2 ht2 => ?_⟩
    obtain ⟨e3, e4⟩ := fin2 t1 ht1 t2 ht2
    exact ⟨q3, X1, .ref t2, rfl, rfl, e3, by rw [sizeLine_eq]; omega, _, rfl, e4⟩
  · rw [decide_eq_false (mk_ne hk2)]
    refine iteF ?_
    refine ⟨_, rfl, x.p, dx2, _, rfl, i4, by kernel_rfl, x, a, X1, _, o, rfl, ok, c3, ha, ⟨fun h => absurd h (by decide +kernel), fun h => absurd (by rw [hw] at h; exact Option.some.inj h) hk2⟩, hrel, fun t ht v H' X2' X3' hv hst hle RR => ?_, q2⟩
    obtain ⟨dx3, fs3, q3, z1, z2, z3, q4, z4, z5, fin2⟩ := fin t ht v H' X2' X3' hv hst hle RR
    refine ⟨_, rfl, x.p, C, dx3, fs3, _, rfl, z1, T.cl, T.f7, z2, .inl ⟨rfl, _, SqL.of z3⟩, ?_⟩
    refine ⟨_, rfl, _, rfl, x.p, C, dx3, fs3, _, rfl, z1, T.cl, T.f8, z4, q4, _, rfl, .inl ⟨SqL.of z5, fun t1 ht1 => ?_⟩⟩
    refine ⟨by show 2 ≤ sizeLine; decide, fun t2 ht2 => ?_⟩
    obtain ⟨e3, e4⟩ := fin2 t1 ht1 t2 ht2
    exact ⟨q3, X1, .ref t2, rfl, rfl, e3, by rw [sizeLine_eq]; omega, _, rfl, e4⟩
/-! page_trees -/
def AtTT (H : Hp) (ts : List Tr) (v : V) : Prop := ∃ p vs, v = .ref p ∧ H p = some (.tup vs) ∧ AtTs H ts vs
abbrev AtSts (H : Hp) (qs : List (Nat × List (Nat × List V))) (vs : List V) : Prop := AtL AtSt H qs vs
theorem AtSts.on_ {H H' : Hp} (t : Tups H H') {q : List (Nat × List (Nat × List V))} {v : List V} (h : AtSts H q v) : AtSts H' q v := AtL.on t (fun _ _ h => h.on t) h
def nPT (C CF : Addr) : Sp := fun vs H Q E => ∃ (x : RX) (o : Out (List Tr)), vs = [.ref x.p] ∧ x.Ok ∧ Rn C x H 0 0 [] [] [] ∧ RP x.wd x.ws.length 0 [] o ∧
  (∀ ts, o = .ok ts → (x.why = "sign" → SE_ CF x E) ∧ (x.why ≠ "sign" → ∀ v H' X1 X2 X3, AtTT H' ts v → AtSts H' (stTs 0 ts) X1 → Rn C x H' x.ws.length 0 X1 X2 X3 → Q v H')) ∧ (∀ i d, o = .bad i d → BadAt CF x E i d)
theorem scPT : FnScope ["self", "trees"] ["self"] (defScope (rd 8)) := ⟨rfl, rfl, rfl, by decide +kernel, rfl, by decide +kernel, by decide +kernel⟩
def PtI (C : Addr) (x : RX) (o : Out (List Tr)) (l : Addr) (m : Nat) (σ : L2.St) (H1 : Hp) : Prop :=
  ∃ (H0' : Hp) (a' : Nat) (ts : List Tr) (Y X1 X2 X3 : List V), σ = [some (V.ref x.p), some (V.ref l)] ∧ m = x.ws.length - a' ∧ Same x.H0 H0' ∧ H0' l = some (HO.lst Y) ∧ AtTs H0' ts Y ∧ AtSts H0' (stTs 0 ts) X1 ∧ (x.on H0').Ok ∧ a' = lTs ts ∧ a' ≤ x.ws.length ∧ RP x.wd x.ws.length a' ts o ∧ Rn C (x.on H0') H1 a' 0 X1 X2 X3
theorem n_pt {k : Nat} (hk : 7 ≤ k) (T : TxR K mg C) (TS : TxS K mg) (Df : Dm K C "page_trees" "Reader.page_trees" (rd 8)) (M1 : M0 P w K mg base C k "tree" (nTr C CF)) (M2 : M0 P w K mg base C 4 "refuse_stop" (nRS C CF)) : M0 P w K mg base C (k + 1) "page_trees" (nPT C CF) := by
  obtain ⟨f, fd, F, hm⟩ := Df.ex
  refine ⟨f, fd, ["self"], F.okX scPT (fun vs H Q E h => ?_) (fun cdv A0 outer s H vs Q E hr h => ?_), hm, F.binds (ps := ["self"]) fun _ _ _ _ _ _ us hl => match us, hl with | [_], _ => rfl⟩
  · obtain ⟨x, o, rfl, _⟩ := h
    rfl
  obtain ⟨x, o, rfl, ok, R, hrel, q1, q2⟩ := h
  refine ⟨_, pss_cons (ps_set (i := 1) scPT.nd rfl (Or.inl rfl) (pe_lst pa_nil)) <|
    pss_cons (ps_while (passes_of rfl) (pt_cmpR op_lt (pe_fld (pv 0) rfl) (pe_callB call_len_seq (by rfl) TS.len PySem.boot_len (pa_cons (pe_fld (pv 0) rfl) pa_nil)) (nomark _))
      (pss_one (ps_expr (pe_bm PySem.F.plainAttrs_list PySem.F.slot_list_append PySem.F.type_list_append mt_append (pv 1) (pa_cons (pe_mm0 T.cl M1 hr (Nat.le_refl _) (passes_call (takes_of rfl rfl rfl rfl) fun _ _ _ _ h => h) (pv 0)) pa_nil))))) <|
    pss_cons (ps_if (pt_cmpR op_eq (pe_fld (pv 0) rfl) pe_str (nomark _)) (pss_one (ps_expr (pe_mm0 T.cl M2 hr (by omega) (passes_call (takes_of rfl rfl rfl rfl) fun _ _ _ _ h => h) (pv 0)))) pss_nil) <|
    pss_one (ps_ret (pe_callTy call_tuple_of (by rfl) TS.tup (by decide +kernel) (pa_cons (pv 1) pa_nil))), ?_⟩
  have oln := ok.ln
  refine ⟨Nat.zero_le _, fun l hl => ?_⟩
  have hl0 : x.H0 l = none := R.1.free hl
  obtain ⟨G0, sG, tG, gl, ok0, R0⟩ := R.begin ok hl
  refine ⟨PtI C x o l, ⟨_, G0, 0, [], [], [], [], [], rfl, rfl, sG, gl, rfl, rfl, ok0, rfl, Nat.zero_le _, hrel, R0⟩, ?_⟩
  rintro m σ H1 ⟨H0', a', ts, Y, X1, X2, X3, rfl, rfl, sH, hY, hat, hst, o1, ea, ha', hrel', R1⟩
  have fb : ∀ {i : Nat} {d : Bool}, BadAt CF x E i d → BadAt CF (x.on H0') E i d := fun h => h.on sH
  have hYl : Y.length ≤ a' := by rw [hat.len, ea]; exact ts_le ts
  have hX1l : X1.length ≤ a' := by rw [hst.len, stTs_len, ea]; exact ts_le ts
  have s0 := R1.1
  obtain ⟨dx, l1, l2, l3, h1⟩ := R1.obj
  have hul : x.us.length = x.ws.length := ok.al.length
  refine ⟨_, rfl, x.p, C, dx, _, _, rfl, h1, T.cl, T.f5, rf_at, _, rfl, x.p, C, dx, _, _, rfl, h1, T.cl, T.f2, rf_words, x.wl, _, rfl, .inr (SqT.of (s0 _ _ o1.hw)), _, _, rfl, rfl, _, rfl, ?_⟩
  have hul' : (x.on H0').us.length = x.ws.length := hul
  rw [hul']
  cases hrel' with
  | done hd =>
    rw [decide_eq_false (by omega)]
    refine iteF ?_
    refine ⟨_, rfl, x.p, C, dx, _, _, rfl, h1, T.cl, T.f4, rf_why, rfl, _, rfl, ?_⟩
    rw [dec_str]
    have hw : (x.on H0').why = x.why := rfl
    rw [hw]
    obtain ⟨q3, q4⟩ := q1 ts rfl
    refine ite2 (fun c => ?_) (fun c => ?_)
    · have c1 : x.why = "sign" := of_decide_eq_true c
      exact ⟨_, rfl, x.p, dx, _, rfl, h1, by kernel_rfl, x.on H0', a', 0, X1, X2, X3, rfl, o1, R1, (q3 c1).on sH⟩
    · have c1 : x.why ≠ "sign" := by simpa using c
      refine ⟨_, rfl, l, Y, rfl, .inl ⟨SqL.of (R1.1 _ _ hY), fun tp htp => ?_⟩⟩
      have R2 := R1.new htp (.tup Y)
      have tq := same_tups R2.1
      rw [hd] at R2
      exact q4 c1 _ _ X1 X2 X3 ⟨tp, Y, rfl, upd_same, hat.on_ tq⟩ (hst.on_ tq) (R2.back sH)
  | @bad _ i d _ hlt hr1 =>
    rw [decide_eq_true (by omega)]
    refine iteT ⟨_, fun σ' H' z => z, ?_⟩
    refine ⟨_, rfl, .inl ⟨rfl, _, SqL.of (R1.1 _ _ hY)⟩, _, rfl, x.p, dx, _, rfl, h1, by kernel_rfl, x.on H0', a', X1, X2, X3, _, rfl, o1, R1, hlt, hX1l, hr1, fun e he => (nomatch he), fun i' d' he => ?_⟩
    cases he
    exact fb (q2 _ _ rfl)
  | @cons _ _ t _ hlt hr1 hrest =>
    rw [decide_eq_true (by omega)]
    refine iteT ⟨_, fun σ' H' z => z, ?_⟩
    refine ⟨_, rfl, .inl ⟨rfl, _, SqL.of (R1.1 _ _ hY)⟩, _, rfl, x.p, dx, _, rfl, h1, by kernel_rfl, x.on H0', a', X1, X2, X3, _, rfl, o1, R1, hlt, hX1l, hr1, fun t' he v tv H2 X2' X3' hv htv hle R2 => ?_, fun i' d' he => (nomatch he)⟩
    cases he
    obtain ⟨G1, s1, t1, ok1, R3⟩ := R2.gr o1
    have hlG : G1 l = some (.lst Y) := s1 _ _ hY
    obtain ⟨o3, R4⟩ := R3.put ok1 hlG (Y ++ [v])
    have tt : Tups G1 (upd G1 l (.lst (Y ++ [v]))) := tups_lst hlG
    have hpos := lT_eq t
    have hle' : a' + lT t ≤ x.ws.length := hle
    refine ⟨l, Y, v, rfl, rfl, R2.1 _ _ hY, by rw [sizeLine_eq]; omega, x.ws.length - (a' + lT t), by omega, upd G1 l (.lst (Y ++ [v])), a' + lT t, ts ++ [t], Y ++ [v], X1 ++ [tv], X2', X3', rfl, rfl, ?_, upd_same, ?_, ?_, o3, ?_, hle, hrest, R4⟩
    · exact fun b u z => by
        rw [upd_ne (ne_of_none z hl0)]
        exact s1 b u (sH b u z)
    · exact ((hat.on_ (same_tups s1)).on_ tt).snoc ((hv.on t1).on tt)
    · rw [stTs_snoc, Nat.zero_add, ← ea]
      exact ((hst.on_ (same_tups s1)).on_ tt).snoc ((htv.on t1).on tt)
    · rw [lTs_snoc]
      omega
end
end My
set_option Elab.async false
set_option linter.all false
set_option maxRecDepth 100000
set_option maxHeartbeats 2000000
namespace L2
open PySem PySem.Spec PyProof.Rows
/-! ### == and str of an instance whose class has an __eq__, a __str__ of its own -/
/-- what may stand behind == : an instance of the same class, or a text -/
def EqTo (K : PySem.W.Frag) (C : Addr) (H : Hp) (y : V) : Prop := (∃ b dy gs, y = .ref b ∧ H b = some (.ins C dy gs)) ∨ (∃ z, y = .str z ∧ PySem.W.notFirst K C (.type "str") = true)
def rEqOwn (K : PySem.W.Frag) (C : Addr) (sp : Sp) (E : XK) : R2 := fun x y H Q => ∃ a dx fs, x = .ref a ∧ H a = some (.ins C dx fs) ∧ EqTo K C H y ∧ sp [x, y] H (fun v H' => ∃ b, v = .bl b ∧ Q (.bl b) H') E
theorem op_eqOwn {X : Cx} {CX : CXT} {n : Nat} {C f : Addr} {fd : FuncData} {ps : List Str} {sp : Sp} {E : XK} (F : FnOk X.prog X.w X.K X.mg X.base CX n f fd ps sp) (hs : PySem.W.findIn X.K (.ref C) "__eq__" = some (some (.ref f))) (hf : PySem.W.isFn X.K (.ref f) = true) (hb : Binds X.K fd ps []) (hx : Passes CX X E) (hr : Room n X.A) :
    OpR X (compareOp .Eq) (rEqOwn X.K C sp E) := by
  intro pins s σ H x y v u Q I rx ry hq
  obtain ⟨a, dx, fs, rfl, ha, hy, hsp⟩ := hq
  show wpAny (model X.prog X.w) X.A (richCompare .Eq v u) (EP X pins σ Q) X.xe s
  cases rx
  obtain ⟨mA, J, _⟩ := ins_get I.hok ha
  obtain ⟨od, J, _⟩ := J.look
  obtain ⟨m, hF⟩ := I.fr
  have hty : ∃ tb, PySem.W.Looks (model X.prog X.w) s.heap (typeOf u) tb ∧ PySem.W.notFirst X.K C tb = true := by
    rcases hy with ⟨b, dy, gs, rfl, hb'⟩ | ⟨z, rfl, hn⟩
    · cases ry
      obtain ⟨mB, J', _⟩ := ins_get I.hok hb'
      obtain ⟨od', J', _⟩ := J'.look
      exact ⟨.ref C, J'.type, by simp [PySem.W.notFirst]⟩
    · obtain ⟨t, rfl⟩ := ry
      exact ⟨.type "str", .of_pure rfl, hn⟩
  obtain ⟨tb, hl, hn⟩ := hty
  refine PySem.W.cmp_K (op := .Eq) (tb := tb) hr.units0 hF I.ok.mod.kin J hl hn hs hf ?_
  refine wpAny_mono (run_fn (vs := [V.ref a, y]) (dvs := []) F hr hb .nil hx I (.cons rfl (.cons ry .nil)) (by rw [List.append_nil]; exact hsp)) (fun w s' hw => ?_) fun _ _ e => e
  obtain ⟨z, H', I', rz, b, rfl, q⟩ := hw
  cases rz
  exact ⟨.bl b, H', I', rfl, q⟩
def rStrOwn (C : Addr) (sp : Sp) (E : XK) : List V → Hp → VK → Prop := fun xs H Q => ∃ a dx fs, xs = [.ref a] ∧ H a = some (.ins C dx fs) ∧ sp [.ref a] H (fun v H' => ∃ z, v = .str z ∧ Q (.str z) H') E
theorem call_strOwn {X : Cx} {CX : CXT} {n : Nat} {C f : Addr} {fd : FuncData} {ps : List Str} {sp : Sp} {E : XK} (F : FnOk X.prog X.w X.K X.mg X.base CX n f fd ps sp) (hs : PySem.W.findIn X.K (.ref C) "__str__" = some (some (.ref f))) (hf : PySem.W.isFn X.K (.ref f) = true) (hb : Binds X.K fd ps []) (hx : Passes CX X E) (hr : Room (n + 2) X.A) :
    CallR X (.type "str") (rStrOwn C sp E) := by
  intro pins s σ H xs us Q I r h
  obtain ⟨a, dx, fs, rfl, ha, hsp⟩ := h
  obtain rfl := Vals.ref1' r
  obtain ⟨mA, J, _⟩ := ins_get I.hok ha
  obtain ⟨od, J, _⟩ := J.look
  have r2 : Room n X.A.in1.in1 := (Room.in1 (Room.in1 hr))
  refine PySem.W.kso_call r2.units0 I.kIn J hs hf ?_
  have hl := F.len _ _ _ _ hsp
  refine wpAny_call (codeAny_mono (F.run X.A.in1.in1 X.stack s H ⟨[.ref a], []⟩ [.ref a] [.ref a] _ E r2 I.env0.in1.in1 (by
    have := hb s [.ref a] I.kIn (by simpa using hl)
    simpa using this) (.cons rfl .nil) hsp) fun r s' hq => ?_)
  cases r with
  | error e => exact hx pins σ H s e s' I hq
  | ok fl =>
    cases fl with
    | ret w =>
      obtain ⟨z, H', I', rz, y, rfl, q⟩ := I.after hq
      obtain ⟨t, rfl⟩ := rz
      exact ⟨.str y, H', I', ⟨_, rfl⟩, q⟩
    | next => exact False.elim hq
    | brk => exact False.elim hq
    | cont => exact False.elim hq
end L2
set_option Elab.async false
set_option linter.all false
set_option maxRecDepth 100000
set_option maxHeartbeats 4000000
namespace My
open PySem L2 SS
section
variable {P : Program} {w : World} {K : PySem.W.Frag} {mg : Str → Option Value} {base : Heap} {S CF fI fS C CP fF fK fM fX : Addr}
/-! Reader.__init__ -/
def spRI (C : Addr) : Sp := fun vs H Q _ => ∃ (x : RX) (dx : Addr), vs = [.ref x.p, .str x.pg, .ref x.wl, .ref x.q, .str x.why] ∧ x.Ok ∧ Same x.H0 H ∧ H x.p = some (.ins C dx []) ∧ ∀ H', Rn C x H' 0 0 [] [] [] → Q .non H'
theorem scRI : FnScope ["self", "page", "words", "stop", "stop_why"] ["self", "page", "words", "stop", "stop_why"] (defScope (rd 0)) := ⟨rfl, rfl, rfl, by decide +kernel, rfl, by decide +kernel, by decide +kernel⟩
theorem m_ri (T : TxR K mg C) {f : Addr} {fd : FuncData} (F : Fun K "__init__" "Reader.__init__" (rd 0) f fd) : FnOk P w K mg base CX0 1 f fd ["self", "page", "words", "stop", "stop_why"] (spRI C) := by
  refine F.ok scRI (fun vs H Q E h => ?_) (fun cdv A0 outer s H vs Q E hr h => ?_)
  · obtain ⟨x, dx, rfl, _⟩ := h
    rfl
  obtain ⟨x, dx, rfl, o, s0, h0, k⟩ := h
  refine ⟨_, pss_cons (ps_fld (pv 0) (pv 1) rfl) <| pss_cons (ps_fld (pv 0) (pv 2) rfl) <| pss_cons (ps_fld (pv 0) (pv 3) rfl) <| pss_cons (ps_fld (pv 0) (pv 4) rfl) <|
    pss_cons (ps_fld (pv 0) pe_int rfl) <| pss_cons (ps_fld (pv 0) pe_int rfl) <| pss_cons (ps_fld (pv 0) (pe_lst pa_nil) rfl) <| pss_cons (ps_fld (pv 0) (pe_lst pa_nil) rfl) <| pss_one (ps_fld (pv 0) (pe_lst pa_nil) rfl), ?_⟩
  -- a store: the instance's fields, all else as it was
  have st : ∀ {H1 : Hp} {fs : List (Str × V)} (f : Str) (v : V), H1 x.p = some (.ins C dx fs) ∧ (∀ b, b ≠ x.p → H1 b = H b) → upd H1 x.p (.ins C dx (putF f v fs)) x.p = some (.ins C dx (putF f v fs)) ∧ ∀ b, b ≠ x.p → upd H1 x.p (.ins C dx (putF f v fs)) b = H b := fun f v h =>
    ⟨upd_same, fun b hb => by rw [upd_ne hb]; exact h.2 b hb⟩
  have j0 : H x.p = some (.ins C dx []) ∧ ∀ b, b ≠ x.p → H b = H b := ⟨h0, fun _ _ => rfl⟩
  refine ⟨_, rfl, _, rfl, x.p, C, dx, _, rfl, j0.1, T.cl, T.f1, by decide, ?_⟩
  have j1 := st "page" (.str x.pg) j0
  generalize upd H x.p (.ins C dx (putF "page" (.str x.pg) [])) = H1 at j1 ⊢
  refine ⟨_, rfl, _, rfl, x.p, C, dx, _, rfl, j1.1, T.cl, T.f2, by show 1 < 1000; decide, ?_⟩
  have j2 := st "words" (.ref x.wl) j1
  generalize upd H1 x.p (.ins C dx (putF "words" (.ref x.wl) (putF "page" (.str x.pg) []))) = H2 at j2 ⊢
  refine ⟨_, rfl, _, rfl, x.p, C, dx, _, rfl, j2.1, T.cl, T.f3, by show 2 < 1000; decide, ?_⟩
  have j3 := st "stop" (.ref x.q) j2
  generalize upd H2 x.p (.ins C dx (putF "stop" (.ref x.q) (putF "words" (.ref x.wl) (putF "page" (.str x.pg) [])))) = H3 at j3 ⊢
  refine ⟨_, rfl, _, rfl, x.p, C, dx, _, rfl, j3.1, T.cl, T.f4, by show 3 < 1000; decide, ?_⟩
  have j4 := st "stop_why" (.str x.why) j3
  generalize upd H3 x.p _ = H4 at j4 ⊢
  refine ⟨_, rfl, x.p, C, dx, _, rfl, j4.1, T.cl, T.f5, by show 4 < 1000; decide, ?_⟩
  have j5 := st "at" (.int 0) j4
  generalize upd H4 x.p _ = H5 at j5 ⊢
  refine ⟨_, rfl, x.p, C, dx, _, rfl, j5.1, T.cl, T.f6, by show 5 < 1000; decide, ?_⟩
  have j6 := st "many_open" (.int 0) j5
  generalize upd H5 x.p _ = H6 at j6 ⊢
  refine ⟨Nat.zero_le _, fun l1 n1 => ?_⟩
  have d1 : l1 ≠ x.p := fun z => by rw [z, j6.1] at n1; cases n1
  have m1 : H l1 = none := by rw [← j6.2 l1 d1]; exact n1
  refine ⟨_, rfl, x.p, C, dx, _, rfl, by rw [upd_ne d1.symm]; exact j6.1, T.cl, T.f7, by show 6 < 1000; decide, ?_⟩
  have j7 : ∀ b, b ≠ x.p → b ≠ l1 → upd (upd H6 l1 (.lst [])) x.p (.ins C dx (putF "starts" (.ref l1) (putF "many_open" (.int 0) (putF "at" (.int 0) (putF "stop_why" (.str x.why) (putF "stop" (.ref x.q) (putF "words" (.ref x.wl) (putF "page" (.str x.pg) [])))))))) b = H b := fun b h1 h2 => by
    rw [upd_ne h1, upd_ne h2]
    exact j6.2 b h1
  have i7 : upd (upd H6 l1 (.lst [])) x.p (.ins C dx (putF "starts" (.ref l1) (putF "many_open" (.int 0) (putF "at" (.int 0) (putF "stop_why" (.str x.why) (putF "stop" (.ref x.q) (putF "words" (.ref x.wl) (putF "page" (.str x.pg) [])))))))) x.p = _ := upd_same
  have k7 : upd (upd H6 l1 (.lst [])) x.p (.ins C dx (putF "starts" (.ref l1) (putF "many_open" (.int 0) (putF "at" (.int 0) (putF "stop_why" (.str x.why) (putF "stop" (.ref x.q) (putF "words" (.ref x.wl) (putF "page" (.str x.pg) [])))))))) l1 = some (.lst []) := by rw [upd_ne d1, upd_same]
  generalize upd (upd H6 l1 (.lst [])) x.p _ = H7 at j7 i7 k7 ⊢
  refine ⟨Nat.zero_le _, fun l2 n2 => ?_⟩
  have d2 : l2 ≠ x.p := fun z => by rw [z, i7] at n2; cases n2
  have d12 : l2 ≠ l1 := fun z => by rw [z, k7] at n2; cases n2
  have m2 : H l2 = none := by rw [← j7 l2 d2 d12]; exact n2
  refine ⟨_, rfl, x.p, C, dx, _, rfl, by rw [upd_ne d2.symm]; exact i7, T.cl, T.f8, by show 7 < 1000; decide, ?_⟩
  have j8 : ∀ (o : HO) b, b ≠ x.p → b ≠ l1 → b ≠ l2 → upd (upd H7 l2 (.lst [])) x.p o b = H b := fun o b h1 h2 h3 => by
    rw [upd_ne h1, upd_ne h3]
    exact j7 b h1 h2
  have k8 : ∀ (o : HO), upd (upd H7 l2 (.lst [])) x.p o l1 = some (.lst []) ∧ upd (upd H7 l2 (.lst [])) x.p o l2 = some (.lst []) := fun o => by
    rw [upd_ne d1, upd_ne d12.symm, upd_ne d2, upd_same]
    exact ⟨k7, rfl⟩
  refine ⟨Nat.zero_le _, fun l3 n3 => ?_⟩
  have d3 : l3 ≠ x.p := fun z => by rw [z, upd_same] at n3; cases n3
  have d13 : l3 ≠ l1 := fun z => by rw [z, (k8 _).1] at n3; cases n3
  have d23 : l3 ≠ l2 := fun z => by rw [z, (k8 _).2] at n3; cases n3
  have m3 : H l3 = none := by rw [← j8 _ l3 d3 d13 d23]; exact n3
  refine ⟨_, rfl, x.p, C, dx, _, rfl, by rw [upd_ne d3.symm, upd_same], T.cl, T.f9, by show 8 < 1000; decide, ?_⟩
  refine k _ ⟨fun b u z => ?_, dx, l1, l2, l3, ?_, s0.free m1, s0.free m2, s0.free m3, ?_, ?_, ?_, d12.symm, d13.symm, d23.symm⟩
  · have zb : b ≠ x.p := ne_of_none z o.p0
    have z1 : b ≠ l1 := ne_of_none (s0 _ _ z) m1
    have z2 : b ≠ l2 := ne_of_none (s0 _ _ z) m2
    have z3 : b ≠ l3 := ne_of_none (s0 _ _ z) m3
    rw [upd_ne zb, upd_ne z3, j8 _ b zb z1 z2]
    exact s0 b u z
  · rw [upd_same]
    have e : ∀ a b c : Addr, putF "node_starts" (V.ref c) (putF "method_starts" (.ref b) (putF "starts" (.ref a) (putF "many_open" (.int 0) (putF "at" (.int 0) (putF "stop_why" (.str x.why) (putF "stop" (.ref x.q) (putF "words" (.ref x.wl) (putF "page" (.str x.pg) [])))))))) = rf x.pg x.wl (.ref x.q) x.why 0 0 a b c := fun a b c => by kernel_rfl
    rw [e]
  · rw [upd_ne d1, upd_ne d13.symm]
    exact (k8 _).1
  · rw [upd_ne d2, upd_ne d23.symm]
    exact (k8 _).2
  · rw [upd_ne d3, upd_same]
/-! end_place -/
abbrev sEP : Stmt := sEnd
def endC (rs : List Str) : Nat := match rs.getLast? with
  | some y => y.length + 1
  | none => 1
theorem endC_le {rs : List Str} (h : ∀ r ∈ rs, r.length ≤ 1000) : endC rs ≤ 1001 := by
  unfold endC
  split
  · rename_i y e
    have := h y (List.mem_of_getLast? e)
    omega
  · decide
def spEP : Sp := fun vs H Q _ => ∃ (z : Str) (rs : List Str), vs = [.str z] ∧ Fits z rs ∧ rs ≠ [] ∧ ∀ (H' : Hp) (p : Addr), Same H H' → H p = none → H' p = some (.tup [.int (rs.length : Nat), .int (endC rs : Nat)]) → Q (.ref p) H'
theorem scEP : FnScope ["text", "rows"] ["text"] (defScope sEP) := ⟨rfl, rfl, rfl, by decide +kernel, rfl, by decide +kernel, by decide +kernel⟩
theorem c_ep (T : TxS K mg) (D : Dn K mg "end_place" sEP) : C0 P w K mg base 1 "end_place" spEP := by
  obtain ⟨f, fd, F, m⟩ := D.ex
  refine ⟨f, fd, ["text"], F.ok scEP (fun vs H Q E h => ?_) (fun cdv A outer s H vs Q E hr h => ?_), m, F.kp, F.binds (ps := ["text"]) fun _ _ _ _ _ _ us hl => match us, hl with | [_], _ => rfl⟩
  · obtain ⟨z, rs, rfl, _⟩ := h
    rfl
  obtain ⟨z, rs, rfl, ⟨hsp, hz, hrl, hrs⟩, hne, k⟩ := h
  refine ⟨_, pss_cons (ps_set (i := 1) scEP.nd rfl (Or.inl rfl) (pe_split (pv 0) pe_str)) <|
    pss_one (ps_ret (pe_tup (pa_cons (pe_callB call_len_seq (by rfl) T.len PySem.boot_len (pa_cons (pv 1) pa_nil)) (pa_cons (pe_op op_add (pe_callB call_len_str (by rfl) T.len PySem.boot_len (pa_cons (pe_ix ix_list (pv 1) (pe_un un_neg pe_int) (fun _ _ => rfl)) pa_nil)) pe_int) pa_nil)))), ?_⟩
  refine ⟨_, rfl, ⟨_, rfl⟩, z, nl, rfl, rfl, by decide +kernel, by rw [sizeLine_eq]; omega, fun R hR => ?_⟩
  rw [hsp]
  have hsplit := List.dropLast_concat_getLast hne
  have hlast : (rs.getLast hne).length ≤ 1000 := hrs _ (List.getLast_mem hne)
  have he : endC rs = (rs.getLast hne).length + 1 := by unfold endC; rw [List.getLast?_eq_getLast hne]
  generalize rs.getLast hne = y at hsplit hlast he
  have hat : atI (rs.map V.str) (-1) = some (.str y) := by
    rw [← hsplit, List.map_append]
    exact atI_last _ _
  refine ⟨_, rfl, R, _, rfl, .inl (SqL.of upd_same), _, rfl, 1, rfl, R, _, _, _, rfl, rfl, SqL.of upd_same, hat, y, rfl, by rw [sizeLine_eq]; omega, _, _, rfl, rfl, by show 2 ≤ sizeLine; decide, fun p hp => ?_⟩
  have hp0 : H p = none := (same_new hR _).free hp
  have ec : ((y.length : Nat) : Int) + 1 = ((y.length + 1 : Nat) : Int) := by omega
  refine k _ p ((same_new hR _).trans (same_new hp _)) hp0 ?_
  rw [upd_same, List.length_map, he]
  rfl
/-! reader_of -/
abbrev sRO : Stmt := top 34
structure ScOk (sc : List W × Option (Nat × Nat)) : Prop where
  ww : ∀ k ∈ sc.1, k.1.length ≤ 1000 ∧ k.2.1 ≤ 1000000 ∧ k.2.2 ≤ 1000000
  st : ∀ p, sc.2 = some p → p.1 ≤ 1000000 ∧ p.2 ≤ 1000000
def spRO (C : Addr) : Sp := fun vs H Q _ => ∃ (pg z : Str) (rs : List Str), vs = [.str pg, .str z] ∧ pg.length ≤ 1000 ∧ Fits z rs ∧ rs ≠ [] ∧ ScOk (scan isWord (rs.map tl)) ∧
  ∀ (x : RX) H', x.Ok → Same H x.H0 → x.pg = pg → x.ws = (scan isWord (rs.map tl)).1 → (∀ p, (scan isWord (rs.map tl)).2 = some p → x.why = "sign" ∧ x.r = p.1 ∧ x.c = p.2) → ((scan isWord (rs.map tl)).2 = none → x.why = "end" ∧ x.r = rs.length ∧ x.c = endC rs) → Rn C x H' 0 0 [] [] [] → Q (.ref x.p) H'
theorem scRO : FnScope ["page", "text", "words", "wrong"] ["page", "text"] (defScope sRO) := ⟨rfl, rfl, rfl, by decide +kernel, rfl, by decide +kernel, by decide +kernel⟩
theorem c_ro (T : TxR K mg C) (D : Dn K mg "reader_of" sRO) (MK : ∃ fi fdi, Mk K C fi ∧ Fun K "__init__" "Reader.__init__" (rd 0) fi fdi) (gR : mg "Reader" = some (.ref C)) (G1 : C0 P w K mg base 6 "scanned" spScan) (G2 : C0 P w K mg base 1 "end_place" spEP) : C0 P w K mg base 7 "reader_of" (spRO C) := by
  obtain ⟨f, fd, F, m⟩ := D.ex
  obtain ⟨fi, fdi, mk_, FI⟩ := MK
  have GI : FnOk P w K mg base CX0 1 fi fdi ["self", "page", "words", "stop", "stop_why"] (spRI C) := m_ri T FI
  have bI : Binds K fdi ["self", "page", "words", "stop", "stop_why"] [] := FI.binds (ps := ["self", "page", "words", "stop", "stop_why"]) fun _ _ _ _ _ _ us hl => match us, hl with | [_, _, _, _, _], _ => rfl
  refine ⟨f, fd, ["page", "text"], F.ok scRO (fun vs H Q E h => ?_) (fun cdv A outer s H vs Q E hr h => ?_), m, F.kp, F.binds (ps := ["page", "text"]) fun _ _ _ _ _ _ us hl => match us, hl with | [_, _], _ => rfl⟩
  · obtain ⟨pg, z, rs, rfl, _⟩ := h
    rfl
  obtain ⟨pg, z, rs, rfl, hpg, hF, hne, hsc, k⟩ := h
  refine ⟨_, pss_cons (ps_asg (pe_cc G1 hr (by decide) pass0 (pa_cons (pv 1) pa_nil)) (pg_tup (by rfl) (pgs_cons (pg_name (i := 2) scRO.nd rfl (Or.inl rfl)) (pgs_cons (pg_name (i := 3) scRO.nd rfl (Or.inl rfl)) pgs_nil)))) <|
    pss_cons (ps_if (pt_cmpR op_isN (pv 3) pe_non (nomark _)) (pss_one (ps_ret (pe_make mk_ GI (hr.mono (by decide)) rfl gR bI .nil pass0 (pa_cons (pv 0) (pa_cons (pv 2) (pa_cons (pe_cc G2 hr (by decide) pass0 (pa_cons (pv 1) pa_nil)) (pa_cons pe_str pa_nil))))))) pss_nil) <|
    pss_one (ps_ret (pe_make mk_ GI (hr.mono (by decide)) rfl gR bI .nil pass0 (pa_cons (pv 0) (pa_cons (pv 2) (pa_cons (pv 3) (pa_cons pe_str pa_nil)))))), ?_⟩
  refine ⟨_, rfl, z, rs, rfl, hF, fun H1 p wl st us s1 hp hwl hA hul hst => ?_⟩
  refine ⟨p, _, rfl, SqT.of hp, rfl, _, _, rfl, _, _, rfl, rfl, ?_⟩
  refine ⟨_, rfl, rfl, _, rfl, ?_⟩
  have hlen := hA.length
  -- the new reader at q0 in H2, its stop at q, in H2
  have mkx : ∀ (H2 : Hp) (q : Addr) (r c : Nat) (why : Str), Same H1 H2 → H2 q = some (.tup [.int (r : Nat), .int (c : Nat)]) → r ≤ 1000000 → c ≤ 1000000 → why.length ≤ 1000 → (∀ p, (scan isWord (rs.map tl)).2 = some p → why = "sign" ∧ r = p.1 ∧ c = p.2) → ((scan isWord (rs.map tl)).2 = none → why = "end" ∧ r = rs.length ∧ c = endC rs) →
      ∀ x dx, H2 x = none → H2 dx = none → dx ≠ x → spRI C (.ref x :: ([.str pg, .ref wl, .ref q, .str why] ++ [])) (upd (upd H2 dx (.own x)) x (.ins C dx [])) (fun v H2 => v = .non ∧ Q (.ref x) H2) E0 := fun H2 q r c why s2 hq hr_ hc hw w1 w2 x dx nx nd nxd => by
    have t2 := same_tups s2
    refine ⟨⟨H2, x, wl, q, us, (scan isWord (rs.map tl)).1, r, c, pg, why⟩, dx, rfl, ⟨s2 _ _ hwl, hA.on t2, by rw [← hlen]; exact hul, hq, hr_, hc, hpg, hw, hsc.ww, nx⟩, ?_, upd_same, fun H' RR => ⟨rfl, ?_⟩⟩
    · exact (same_new nd _).trans (same_new (by rw [upd_ne nxd.symm]; exact nx) _)
    · exact k _ H' ⟨s2 _ _ hwl, hA.on t2, by rw [← hlen]; exact hul, hq, hr_, hc, hpg, hw, hsc.ww, nx⟩ (s1.trans s2) rfl rfl w1 w2 RR
  cases e : (scan isWord (rs.map tl)).2 with
  | none =>
    rw [e] at hst
    obtain rfl : st = .non := hst
    refine iteT ⟨_, rfl, _, rfl, _, rfl, z, rs, rfl, hF, hne, fun H2 q s2 hq0 hq => ?_⟩
    have hr1 := hF.2.2.1
    have hc1 := endC_le hF.2.2.2
    exact mkx H2 q rs.length (endC rs) _ s2 hq (by omega) (by omega) (by decide +kernel) (fun p hp => by rw [e] at hp; cases hp) (fun _ => ⟨rfl, rfl, rfl⟩)
  | some rc =>
    obtain ⟨r, c⟩ := rc
    rw [e] at hst
    obtain ⟨q, rfl, hq⟩ := hst
    obtain ⟨b1, b2⟩ := hsc.st _ e
    refine iteF ⟨_, rfl, _, rfl, _, rfl, ?_⟩
    exact mkx H1 q r c _ (Same.refl _) hq b1 b2 (by decide +kernel) (fun p hp => by rw [e] at hp; obtain rfl := Option.some.inj hp; exact ⟨rfl, rfl, rfl⟩) (fun z => by rw [e] at z; cases z)
end
end My
set_option Elab.async false
set_option linter.all false
set_option maxRecDepth 100000
set_option maxHeartbeats 4000000
namespace My
open PySem L2 SS
theorem rw_le : ∀ (r cur : T) (k : Nat), ∀ q ∈ rw_ cur k r, q.2 ≤ k + r.length
  | [], cur, k, q, h => by
    rw [rw_] at h
    unfold flush at h
    split at h
    · simp at h
    · simp at h; subst h; show k - cur.length ≤ _; omega
  | c :: r, cur, k, q, h => by
    rw [rw_] at h
    rw [List.length_cons]
    split at h
    · rcases List.mem_append.mp h with h | h
      · rcases List.mem_append.mp h with h | h
        · unfold flush at h
          split at h
          · simp at h
          · simp at h; subst h; show k - cur.length ≤ _; omega
        · split at h
          · simp at h
          · simp at h; subst h; show k ≤ _; omega
      · have := rw_le r [] (k + 1) q h
        omega
    · have := rw_le r (cur ++ [c]) (k + 1) q h
      omega
theorem scanGo_ok : ∀ (ls : List T) (r : Nat), (∀ l ∈ ls, l.length ≤ 500) → (∀ k ∈ (scanGo isWord r ls).1, k.1.length ≤ 1000 ∧ k.2.1 ≤ r + ls.length ∧ k.2.2 ≤ 1000) ∧ ∀ p, (scanGo isWord r ls).2 = some p → p.1 ≤ r + ls.length ∧ p.2 ≤ 1000
  | [], r, _ => ⟨fun k hk => by simp [scanGo] at hk, fun p hp => by simp [scanGo] at hp⟩
  | l :: ls, r, h => by
    have hl := h l List.mem_cons_self
    obtain ⟨ih1, ih2⟩ := scanGo_ok ls (r + 1) (fun x hx => h x (List.mem_cons_of_mem _ hx))
    have hq : ∀ q ∈ rowWords l, q.1.length ≤ 1000 ∧ q.2 ≤ 1000 := fun q hq => by
      have a := rw_wlen l [] 1 q hq
      have b := rw_le l [] 1 q hq
      rw [List.length_nil] at a
      omega
    have hlay : ∀ ps : List (T × Nat), (∀ q ∈ ps, q ∈ rowWords l) → ∀ k ∈ lay r ps, k.1.length ≤ 1000 ∧ k.2.1 ≤ r + (l :: ls).length ∧ k.2.2 ≤ 1000 := fun ps hps k hk => by
      obtain ⟨q, hq1, rfl⟩ := List.mem_map.mp hk
      have := hq q (hps q hq1)
      exact ⟨this.1, Nat.le_add_right _ _, this.2⟩
    rw [scanGo]
    cases e : wrongCol isWord (rowWords l) l.length with
    | some c =>
      refine ⟨hlay _ fun q hq1 => (List.mem_filter.mp hq1).1, fun p hp => ?_⟩
      obtain rfl := Option.some.inj hp
      refine ⟨Nat.le_add_right _ _, ?_⟩
      show c ≤ 1000
      have m := (minOf_some.mp e).1
      unfold cols at m
      rcases List.mem_append.mp m with m | m
      · obtain ⟨q, hq1, rfl⟩ := List.mem_map.mp m
        exact (hq q (List.mem_filter.mp hq1).1).2
      · split at m
        · simp at m; omega
        · simp at m
    | none =>
      refine ⟨fun k hk => ?_, fun p hp => ?_⟩
      · rcases List.mem_append.mp hk with hk | hk
        · exact hlay _ (fun _ z => z) k hk
        · have := ih1 k hk
          rw [List.length_cons]
          omega
      · have := ih2 p hp
        rw [List.length_cons]
        omega
theorem sc_ok {rows : List T} (h : ∀ l ∈ rows, l.length ≤ 500) : ScOk (scan isWord rows) := by
  obtain ⟨g1, g2⟩ := scanGo_ok (rows.take 300) 1 (fun l hl => h l (List.mem_of_mem_take hl))
  have hl : (rows.take 300).length ≤ 300 := by rw [List.length_take]; omega
  have e1 : (scan isWord rows).1 = (scanGo isWord 1 (rows.take 300)).1 := by
    unfold scan
    cases (scanGo isWord 1 (rows.take 300)).2 <;> rfl
  refine ⟨fun k hk => ?_, fun p hp => ?_⟩
  · rw [e1] at hk
    have := g1 k hk
    omega
  · unfold scan at hp
    cases e : (scanGo isWord 1 (rows.take 300)).2 with
    | some q =>
      rw [e] at hp
      obtain rfl := Option.some.inj hp
      have := g2 q e
      omega
    | none =>
      rw [e] at hp
      have hp' : (if rows.length > 300 then some (301, 1) else none) = some p := hp
      split at hp'
      · obtain rfl := Option.some.inj hp'
        exact ⟨by decide, by decide⟩
      · cases hp'
/-! ### the texts -/
theorem joinL_len {y : T} (hy : y.length ≤ 1) {m : Nat} : ∀ rows : List T, (∀ l ∈ rows, l.length ≤ m) → (TL.joinL y rows).length ≤ rows.length * (m + 1)
  | [], _ => by simp [TL.joinL]
  | [x], h => by
    have := h x List.mem_cons_self
    show x.length ≤ 1 * (m + 1)
    omega
  | x :: z :: r, h => by
    have h1 := h x List.mem_cons_self
    have ih := joinL_len hy (z :: r) (fun l hl => h l (List.mem_cons_of_mem _ hl))
    show (x ++ (y ++ TL.joinL y (z :: r))).length ≤ _
    rw [List.length_append, List.length_append, List.length_cons, Nat.succ_mul]
    omega
theorem joinL_app (y : T) : ∀ (a : List T) (b : T), a ≠ [] → TL.joinL y (a ++ [b]) = TL.joinL y a ++ (y ++ b)
  | [], _, h => absurd rfl h
  | [x], b, _ => rfl
  | x :: z :: r, b, _ => by
    show x ++ (y ++ TL.joinL y (z :: r ++ [b])) = (x ++ (y ++ TL.joinL y (z :: r))) ++ (y ++ b)
    rw [joinL_app y (z :: r) b (by simp)]
    simp only [List.append_assoc]
theorem joinL_cons (y : T) (x : T) : ∀ (a : List T), a ≠ [] → TL.joinL y (x :: a) = x ++ (y ++ TL.joinL y a)
  | [], h => absurd rfl h
  | z :: r, _ => rfl
theorem str_eq {a b : Str} (h : TL.tl a = TL.tl b) : a = b := by
  rw [← mk_tl a, ← mk_tl b]
  show mk (TL.tl a) = mk (TL.tl b)
  rw [h]
theorem nl_tl : TL.tl nl = [10] := by decide +kernel
/-- rows without line feeds, joined and split -/
theorem fits_join {z : Str} {rs : List Str} (hz : tl z = TL.joinL [10] (rs.map tl)) (hne : rs ≠ []) (hlen : rs.length ≤ 400) (h : ∀ r ∈ rs, (tl r).length ≤ 200 ∧ 10 ∉ tl r) : Fits z rs := by
  have e : z = Txt.join nl rs := by
    rw [TL.join_eq]
    refine str_eq ?_
    rw [TL.tl_join, nl_tl]
    exact hz
  refine ⟨?_, ?_, by omega, fun r hr => ?_⟩
  · rw [e]
    exact TL.split_join (s := 10) (S := []) nl_tl (by decide +kernel) hne fun p hp => (h p hp).2
  · have := joinL_len (y := [10]) (by decide) (m := 200) (rs.map tl) (fun l hl => by
      obtain ⟨r, hr, rfl⟩ := List.mem_map.mp hl
      exact (h r hr).1)
    rw [← len_tl, hz]
    rw [List.length_map] at this
    have h2 : rs.length * (200 + 1) ≤ 400 * 201 := Nat.mul_le_mul hlen (Nat.le_refl _)
    omega
  · have := (h r hr).1
    rw [len_tl] at this
    omega
end My
set_option Elab.async false
set_option linter.all false
set_option maxRecDepth 100000
set_option maxHeartbeats 4000000
namespace My
open PySem L2 SS
/-! ### words laid in rows -/
/-- what is left unended behind these signs -/
def pend : T → T → T
  | cur, [] => cur
  | cur, c :: r => if isSep c = true then pend [] r else pend (cur ++ [c]) r
/-- what has ended by then -/
def emit : T → Nat → T → List (T × Nat)
  | _, _, [] => []
  | cur, k, c :: r => if isSep c = true then flush cur k ++ (if c = 32 then [] else [([c], k)]) ++ emit [] (k + 1) r else emit (cur ++ [c]) (k + 1) r
theorem rw_app : ∀ (a b cur : T) (k : Nat), rw_ cur k (a ++ b) = emit cur k a ++ rw_ (pend cur a) (k + a.length) b
  | [], b, cur, k => rfl
  | c :: r, b, cur, k => by
    rw [List.cons_append, rw_, emit, pend]
    by_cases h : isSep c = true
    · rw [if_pos h, if_pos h, if_pos h, rw_app r b [] (k + 1), List.length_cons, show k + 1 + r.length = k + (r.length + 1) by omega]
      simp only [List.append_assoc]
    · rw [if_neg h, if_neg h, if_neg h, rw_app r b _ (k + 1), List.length_cons, show k + 1 + r.length = k + (r.length + 1) by omega]
theorem rw_end (a cur : T) (k : Nat) : rw_ cur k a = emit cur k a ++ flush (pend cur a) (k + a.length) := by
  have := rw_app a [] cur k
  rw [List.append_nil] at this
  rw [this]
  rfl
theorem pend_app : ∀ (a b cur : T), pend cur (a ++ b) = pend (pend cur a) b
  | [], b, cur => rfl
  | c :: r, b, cur => by
    rw [List.cons_append, pend, pend]
    by_cases h : isSep c = true
    · rw [if_pos h, if_pos h, pend_app r b]
    · rw [if_neg h, if_neg h, pend_app r b]
theorem pend_blanks : ∀ (n : Nat), 0 < n → ∀ cur : T, pend cur (List.replicate n 32) = []
  | n + 1, _, cur => by
    rw [List.replicate_succ, pend, if_pos (by decide)]
    cases n with
    | zero => rfl
    | succ n => exact pend_blanks (n + 1) (by omega) []
/-- a word that is one bracket, or has no sign that ends one -/
def Solid (w : T) : Prop := w ≠ [] ∧ (w.all fun c => !isSep c) = true
def Br1 (w : T) : Prop := ∃ c, c ∈ BR ∧ w = [c]
theorem br_sep {c : Nat} (h : c ∈ BR) : isSep c = true ∧ c ≠ 32 := by
  constructor
  · unfold isSep
    rw [decide_eq_true h, Bool.or_true]
  · intro e
    rw [e] at h
    revert h
    decide
/-- one word more in a row -/
theorem rowWords_app {cur w : T} {n : Nat} (hw : Solid w ∨ Br1 w) (h : 0 < n ∨ pend [] cur = [] ∨ Br1 w) : rowWords (cur ++ (List.replicate n 32 ++ w)) = rowWords cur ++ [(w, cur.length + n + 1)] := by
  unfold rowWords
  rw [rw_app cur _ [] 1, rw_end cur [] 1, List.append_assoc]
  congr 1
  -- the word from an empty pending
  have one : ∀ k, rw_ [] k w = [(w, k)] := fun k => by
    rcases hw with ⟨h1, h2⟩ | ⟨c, hc, rfl⟩
    · have := rw_wordEnd (w := w) (k := k) (n := 0) h1 h2
      rw [List.replicate_zero, List.append_nil] at this
      exact this
    · obtain ⟨b1, b2⟩ := br_sep hc
      rw [rw_sep b1, if_neg b2]
      rfl
  have e0 : 1 + cur.length + n = cur.length + n + 1 := by omega
  cases n with
  | zero =>
    rw [List.replicate_zero, List.nil_append]
    rcases h with h | h | ⟨c, hc, rfl⟩
    · omega
    · rw [h, one, flush_nil, List.nil_append, show 1 + cur.length = cur.length + 0 + 1 by omega]
    · obtain ⟨b1, b2⟩ := br_sep hc
      rw [rw_sep b1, if_neg b2]
      show flush _ _ ++ [([c], 1 + cur.length)] ++ [] = _
      rw [List.append_nil, show cur.length + 0 + 1 = 1 + cur.length by omega]
  | succ n =>
    rw [List.replicate_succ, List.cons_append, rw_blank, rw_blanks, one]
    congr 3
    omega
theorem pend_word {cur w : T} {n : Nat} (h : Br1 w) : pend [] (cur ++ (List.replicate n 32 ++ w)) = [] := by
  obtain ⟨c, hc, rfl⟩ := h
  rw [pend_app, pend_app, pend, if_pos (br_sep hc).1]
  rfl
/-- all rows' words -/
def allW : Nat → List T → List W
  | _, [] => []
  | r, l :: ls => lay r (rowWords l) ++ allW (r + 1) ls
theorem allW_app : ∀ (a b : List T) (r : Nat), allW r (a ++ b) = allW r a ++ allW (r + a.length) b
  | [], b, r => rfl
  | l :: ls, b, r => by
    rw [List.cons_append, allW, allW, allW_app ls b (r + 1), List.append_assoc, List.length_cons, show r + 1 + ls.length = r + (ls.length + 1) by omega]
theorem allW_empty : ∀ (E : List T) (r : Nat), (∀ l ∈ E, rowWords l = []) → allW r E = []
  | [], r, _ => rfl
  | l :: ls, r, h => by
    rw [allW, h l List.mem_cons_self, allW_empty ls (r + 1) fun x hx => h x (List.mem_cons_of_mem _ hx)]
    rfl
theorem rowWords_blank (n : Nat) : rowWords (List.replicate n 32) = [] := by
  unfold rowWords
  rw [rw_tail]
  rfl
theorem lay_app (r : Nat) (a b : List (T × Nat)) : lay r (a ++ b) = lay r a ++ lay r b := by unfold lay; rw [List.map_append]
/-- a text in rows, its words at their places -/
structure LaidOk (z : Str) (rs : List Str) (ks : List W) (n : Nat) : Prop where
  hz : tl z = TL.joinL [10] (rs.map tl)
  ne : rs ≠ []
  ln : rs.length ≤ n
  row : ∀ r ∈ rs, (tl r).length ≤ 120 ∧ 10 ∉ tl r
  wd : allW 1 (rs.map tl) = ks
  ok : ∀ k ∈ ks, isWord k.1 = true
theorem scanGo_all : ∀ (ls : List T) (r : Nat), (∀ l ∈ ls, l.length ≤ 120) → (∀ k ∈ allW r ls, isWord k.1 = true) → scanGo isWord r ls = (allW r ls, none)
  | [], r, _, _ => rfl
  | l :: ls, r, h, hk => by
    rw [allW] at hk
    have ih := scanGo_all ls (r + 1) (fun x hx => h x (List.mem_cons_of_mem _ hx)) fun k hk' => hk k (List.mem_append_right _ hk')
    have hw : wrongCol isWord (rowWords l) l.length = none := by
      unfold wrongCol
      rw [minOf_none]
      unfold cols
      have hl := h l List.mem_cons_self
      rw [if_neg (by omega), List.append_nil]
      have : (rowWords l).filter (fun q => !isWord q.1) = [] := List.filter_eq_nil_iff.mpr fun q hq => by
        have := hk (q.1, r, q.2) (List.mem_append_left _ (List.mem_map.mpr ⟨q, hq, rfl⟩))
        simp [this]
      rw [this]
      rfl
    rw [scanGo, hw, ih]
    rfl
theorem LaidOk.scan {z : Str} {rs : List Str} {ks : List W} {n : Nat} (h : LaidOk z rs ks n) (hn : n ≤ 300) : scan isWord (rs.map tl) = (ks, none) := by
  have hl : (rs.map tl).length ≤ 300 := by rw [List.length_map]; have := h.ln; omega
  have e := scanGo_all (rs.map tl) 1 (fun l hl' => by
    obtain ⟨r, hr, rfl⟩ := List.mem_map.mp hl'
    exact (h.row r hr).1) (by rw [h.wd]; exact h.ok)
  unfold SS.scan
  rw [List.take_of_length_le hl, e, h.wd, if_neg (by omega)]
theorem LaidOk.fits {z : Str} {rs : List Str} {ks : List W} {n : Nat} (h : LaidOk z rs ks n) (hn : n ≤ 400) : Fits z rs := fits_join h.hz h.ne (Nat.le_trans h.ln hn) fun r hr => ⟨by have := (h.row r hr).1; omega, (h.row r hr).2⟩
theorem LaidOk.sc {z : Str} {rs : List Str} {ks : List W} {n : Nat} (h : LaidOk z rs ks n) : ScOk (SS.scan isWord (rs.map tl)) := sc_ok fun l hl => by
  obtain ⟨r, hr, rfl⟩ := List.mem_map.mp hl
  have := (h.row r hr).1
  omega
/-- one empty row more -/
theorem LaidOk.nl {z : Str} {rs : List Str} {ks : List W} {n : Nat} (h : LaidOk z rs ks n) : LaidOk (z ++ Str.ofString "\n") (rs ++ [Str.empty]) ks (n + 1) := by
  refine ⟨?_, by simp, by rw [List.length_append]; have := h.ln; simp; omega, fun r hr => ?_, ?_, h.ok⟩
  · have e : tl (z ++ Str.ofString "\n") = tl z ++ [10] := by
      show (z.cps ++ (Str.ofString "\n").cps).toList = _
      have : (Str.ofString "\n").cps = #[10] := by decide +kernel
      rw [this]
      simp
    rw [e, h.hz, List.map_append, List.map_cons, List.map_nil, joinL_app _ _ _ (by simpa using h.ne)]
    rfl
  · rcases List.mem_append.mp hr with hr | hr
    · exact h.row r hr
    · obtain rfl : r = Str.empty := by simpa using hr
      exact ⟨by decide, by decide⟩
  · rw [List.map_append, allW_app, h.wd, allW_empty _ _ fun l hl => ?_, List.append_nil]
    obtain rfl : l = tl Str.empty := by simpa using hl
    rfl
/-! ### a word within ( ) { } [ ] | -/
theorem occ_br {y : Str} (h : (!(Builtin.Str.occurrences (Str.ofString "(){}[]|") y 0 (Str.ofString "(){}[]|").length 1).isEmpty) = true) : ∀ c ∈ tl y, c ∈ BR := by
  obtain ⟨f, hf⟩ := StrLaws.occ_chain (Str.ofString "(){}[]|") y 1
  cases e : Builtin.Str.occurrences (Str.ofString "(){}[]|") y 0 (Str.ofString "(){}[]|").length 1 with
  | nil => rw [e] at h; cases h
  | cons i rest =>
    rw [e] at hf
    obtain ⟨_, ⟨_, h2⟩, _⟩ := hf
    rw [StrLaws.subAt_eq] at h2
    have h3 := eq_of_beq h2
    intro c hc
    have hc' : c ∈ y.cps.toList := hc
    rw [← h3] at hc'
    have h4 := List.mem_of_mem_drop (List.mem_of_mem_take hc')
    have e2 : (Str.ofString "(){}[]|").cps.toList = BR := by decide +kernel
    rw [e2] at h4
    exact h4
theorem solid_not {w : T} (h : Solid w) : ¬ ∀ c ∈ w, c ∈ BR := fun q => by
  obtain ⟨h1, h2⟩ := h
  cases w with
  | nil => exact h1 rfl
  | cons c r =>
    have a := (List.all_eq_true.mp h2) c List.mem_cons_self
    have b := (br_sep (q c List.mem_cons_self)).1
    rw [b] at a
    cases a
/-- what may be laid -/
structure LayW (w : T) : Prop where
  sh : Solid w ∨ Br1 w
  wd : isWord w = true
  ln : w.length ≤ 41
  nl : 10 ∉ w
theorem layW_br {w : T} (h : LayW w) (q : (!(Builtin.Str.occurrences (Str.ofString "(){}[]|") (mk w) 0 (Str.ofString "(){}[]|").length 1).isEmpty) = true) : Br1 w := by
  rcases h.sh with h | h
  · exact absurd (occ_br q) (solid_not h)
  · exact h
end My
set_option Elab.async false
set_option linter.all false
set_option maxRecDepth 100000
set_option maxHeartbeats 4000000
namespace My
open PySem L2 SS
/-! ### the words of trees may be laid -/
theorem mem_small {c : Nat} : c ∈ SMALL ↔ 97 ≤ c ∧ c ≤ 122 := by
  unfold SMALL
  simp only [List.mem_map, List.mem_range]
  constructor
  · rintro ⟨x, h1, h2⟩; omega
  · rintro ⟨h1, h2⟩; exact ⟨c - 97, by omega, by omega⟩
theorem mem_caps {c : Nat} : c ∈ CAPS ↔ 65 ≤ c ∧ c ≤ 90 := by
  unfold CAPS
  simp only [List.mem_map, List.mem_range]
  constructor
  · rintro ⟨x, h1, h2⟩; omega
  · rintro ⟨h1, h2⟩; exact ⟨c - 65, by omega, by omega⟩
theorem mem_figs {c : Nat} : c ∈ FIGS ↔ 48 ≤ c ∧ c ≤ 57 := by
  unfold FIGS
  simp only [List.mem_map, List.mem_range]
  constructor
  · rintro ⟨x, h1, h2⟩; omega
  · rintro ⟨h1, h2⟩; exact ⟨c - 48, by omega, by omega⟩
/-- signs of names, texts, numbers -/
def Sg (c : Nat) : Prop := (48 ≤ c ∧ c ≤ 57) ∨ (65 ≤ c ∧ c ≤ 90) ∨ (97 ≤ c ∧ c ≤ 122) ∨ c = 95 ∨ c = 64 ∨ c = 39 ∨ c = 45
theorem sg_sep {c : Nat} (h : Sg c) : isSep c = false ∧ c ≠ 10 := by
  unfold Sg at h
  refine ⟨?_, by omega⟩
  unfold isSep
  rw [decide_eq_false (by omega), Bool.false_or]
  refine decide_eq_false fun q => ?_
  unfold BR at q
  simp only [List.mem_cons, List.not_mem_nil, or_false] at q
  omega
theorem solid_sg {w : T} (h0 : w ≠ []) (h : ∀ c ∈ w, Sg c) : Solid w ∧ 10 ∉ w := by
  refine ⟨⟨h0, List.all_eq_true.mpr fun c hc => ?_⟩, fun q => ?_⟩
  · rw [(sg_sep (h c hc)).1]; rfl
  · exact (sg_sep (h 10 q)).2 rfl
theorem name_sg {w first others : T} (h : isName w first others = true) (ho : ∀ c ∈ others, Sg c) : w ≠ [] ∧ w.length ≤ 12 ∧ (∀ c ∈ w, Sg c) ∧ w.getD 0 0 ∈ first := by
  unfold isName at h
  simp only [Bool.and_eq_true, decide_eq_true_eq] at h
  obtain ⟨⟨h1, h2⟩, h3, h4⟩ := h
  refine ⟨fun e => by rw [e] at h1; simp at h1, h2, fun c hc => ?_, h3⟩
  unfold hasOnly at h4
  exact ho c (of_decide_eq_true (List.all_eq_true.mp h4 c hc))
theorem sg_small {c : Nat} (h : c ∈ SMALL ++ FIGS) : Sg c := by
  rcases List.mem_append.mp h with h | h
  · have := mem_small.mp h; unfold Sg; omega
  · have := mem_figs.mp h; unfold Sg; omega
theorem sg_kind {c : Nat} (h : c ∈ SMALL ++ CAPS ++ FIGS) : Sg c := by
  rcases List.mem_append.mp h with h | h
  · rcases List.mem_append.mp h with h | h
    · have := mem_small.mp h; unfold Sg; omega
    · have := mem_caps.mp h; unfold Sg; omega
  · have := mem_figs.mp h; unfold Sg; omega
theorem sg_text {c : Nat} (h : c ∈ TEXTS) : Sg c := by
  unfold TEXTS at h
  rcases List.mem_append.mp h with h | h
  · exact sg_kind h
  · obtain rfl : c = 95 := by simpa using h
    unfold Sg; omega
theorem small_facts {w : T} (h : isSmall w = true) : w ≠ [] ∧ w.length ≤ 12 ∧ (∀ c ∈ w, Sg c) ∧ ∃ c r, w = c :: r ∧ 97 ≤ c ∧ c ≤ 122 := by
  obtain ⟨h1, h2, h3, h4⟩ := name_sg h fun c hc => sg_small hc
  refine ⟨h1, h2, h3, ?_⟩
  cases w with
  | nil => exact absurd rfl h1
  | cons c r => exact ⟨c, r, rfl, mem_small.mp h4⟩
theorem free_small {w : T} (h : isFree w = true) : isSmall w = true := by
  unfold isFree at h
  rw [Bool.and_eq_true] at h
  exact h.1
theorem kind_facts {w : T} (h : isKindName w = true) : w ≠ [] ∧ w.length ≤ 12 ∧ (∀ c ∈ w, Sg c) ∧ ∃ c r, w = c :: r ∧ 65 ≤ c ∧ c ≤ 90 := by
  obtain ⟨h1, h2, h3, h4⟩ := name_sg h fun c hc => sg_kind hc
  refine ⟨h1, h2, h3, ?_⟩
  cases w with
  | nil => exact absurd rfl h1
  | cons c r => exact ⟨c, r, rfl, mem_caps.mp h4⟩
theorem text_facts {w : T} (h : isText w = true) : w.length ≤ 40 ∧ ∀ c ∈ w, Sg c := by
  unfold isText at h
  simp only [Bool.and_eq_true, decide_eq_true_eq] at h
  refine ⟨h.1, fun c hc => ?_⟩
  have h4 := h.2
  unfold hasOnly at h4
  exact sg_text (of_decide_eq_true (List.all_eq_true.mp h4 c hc))
/-- a word by its head -/
theorem word_of {w : T} (h : w.head? ≠ some 64) (h2 : w.head? ≠ some 39) (h3 : (isSmall w || (isKindName w || isNum w)) = true) : isWord w = true := by
  unfold isWord
  split
  · rfl
  · first
    | exact h3
    | (rw [if_neg h, if_neg h2]; exact h3)
theorem layw_small {w : T} (h : isSmall w = true) : LayW w := by
  obtain ⟨h1, h2, h3, c, r, rfl, h4, h5⟩ := small_facts h
  obtain ⟨s1, s2⟩ := solid_sg h1 h3
  refine ⟨.inl s1, word_of (by simp; omega) (by simp; omega) (by rw [h]; rfl), by omega, s2⟩
theorem layw_free {w : T} (h : isFree w = true) : LayW w := layw_small (free_small h)
theorem layw_kind {w : T} (h : isKindName w = true) : LayW w := by
  obtain ⟨h1, h2, h3, c, r, rfl, h4, h5⟩ := kind_facts h
  obtain ⟨s1, s2⟩ := solid_sg h1 h3
  refine ⟨.inl s1, word_of (by simp; omega) (by simp; omega) (by rw [h]; simp), by omega, s2⟩
theorem layw_text {w : T} (h : isText w = true) : LayW (39 :: w) := by
  obtain ⟨h1, h2⟩ := text_facts h
  obtain ⟨s1, s2⟩ := solid_sg (w := 39 :: w) (by simp) fun c hc => by
    rcases List.mem_cons.mp hc with rfl | hc
    · unfold Sg; omega
    · exact h2 c hc
  refine ⟨.inl s1, ?_, by rw [List.length_cons]; omega, s2⟩
  unfold isWord
  split
  · rfl
  · rw [if_neg (by simp), if_pos (by simp)]
    exact h
theorem layw_fld {w : T} (h : isFree w = true) : LayW (64 :: w) := by
  obtain ⟨h1, h2, h3, _⟩ := small_facts (free_small h)
  obtain ⟨s1, s2⟩ := solid_sg (w := 64 :: w) (by simp) fun c hc => by
    rcases List.mem_cons.mp hc with rfl | hc
    · unfold Sg; omega
    · exact h3 c hc
  refine ⟨.inl s1, ?_, by rw [List.length_cons]; omega, s2⟩
  unfold isWord
  split
  · rfl
  · rw [if_pos (by simp)]
    exact free_small h
/-! numbers -/
theorem num_facts2 {n : Int} (h1 : -1000000000000 < n) (h2 : n < 1000000000000) : isNum (numT n) = true ∧ numOf (numT n) = n ∧ (numT n).length ≤ 13 ∧ (∃ c r, numT n = c :: r ∧ (c = 45 ∨ (48 ≤ c ∧ c ≤ 57))) ∧ ∀ c ∈ numT n, Sg c := by
  obtain ⟨b1, b2, b3⟩ := numT_back n
  have hl := numT_len h1 h2
  have hcases : numT n = figsOf (numT n) ∨ numT n = 45 :: figsOf (numT n) := by
    cases e : numT n with
    | nil => exact .inl rfl
    | cons c r =>
      by_cases hc : c = 45
      · subst hc; exact .inr rfl
      · refine .inl ?_
        unfold figsOf
        split
        · rename_i q; exact absurd (List.cons.inj q).1 hc
        · rfl
  have hfl : (figsOf (numT n)).length ≤ 13 := by
    rcases hcases with h | h
    · rw [← h]; exact hl
    · have := congrArg List.length h
      rw [List.length_cons] at this
      omega
  have hf0 : 1 ≤ (figsOf (numT n)).length := by
    cases e : figsOf (numT n) with
    | nil => exact absurd e b3
    | cons c r => simp
  have hho : hasOnly (figsOf (numT n)) FIGS = true := List.all_eq_true.mpr fun c hc => decide_eq_true (mem_figs.mpr (b2 c hc))
  refine ⟨?_, b1, hl, ?_, ?_⟩
  · unfold isNum
    rw [decide_eq_true ⟨hf0, hfl⟩, hho, b1]
    have e : numStr n = mk (numT n) := (mk_tl _).symm
    rw [decide_eq_true e, decide_eq_true h1, decide_eq_true h2]
    rfl
  · cases e : figsOf (numT n) with
    | nil => exact absurd e b3
    | cons c r =>
      have hd := b2 c (by rw [e]; exact List.mem_cons_self)
      rcases hcases with h | h
      · exact ⟨c, r, by rw [h, e], .inr ⟨hd.1, hd.2⟩⟩
      · exact ⟨45, c :: r, by rw [h, e], .inl rfl⟩
  · have hs : ∀ c ∈ figsOf (numT n), Sg c := fun c hc => by
      have := b2 c hc
      unfold Sg; omega
    intro c hc
    rcases hcases with h | h
    · rw [h] at hc; exact hs c hc
    · rw [h] at hc
      rcases List.mem_cons.mp hc with rfl | hc
      · unfold Sg; omega
      · exact hs c hc
theorem layw_num {n : Int} (h1 : -1000000000000 < n) (h2 : n < 1000000000000) : LayW (numT n) := by
  obtain ⟨n1, n2, n3, ⟨c, r, n4, n5⟩, n6⟩ := num_facts2 h1 h2
  obtain ⟨s1, s2⟩ := solid_sg (by rw [n4]; simp) n6
  refine ⟨.inl s1, word_of (by rw [n4]; simp; omega) (by rw [n4]; simp; omega) (by rw [n1]; simp), by omega, s2⟩
theorem layw_fix : ∀ w ∈ ([tk "true", tk "false", tk "none", tk "self", tk "new", tk "up", tk ":=", tk "if", tk "then", tk "else", tk "end", tk "while", tk "try", tk "taken", tk "do", tk "say", tk "return", tk "raise", tk "kind", tk "under", tk "field", tk "more", tk "method", tk ":", [43], [45], [42], [47], [60], [61]] : List T), LayW w := by
  intro w hw
  have h : ((w ≠ [] ∧ (w.all fun c => !isSep c) = true) ∧ isWord w = true ∧ w.length ≤ 41 ∧ 10 ∉ w) := by
    revert w
    decide +kernel
  exact ⟨.inl h.1, h.2.1, h.2.2.1, h.2.2.2⟩
theorem layw_br : ∀ c ∈ BR, LayW [c] := fun c hc => by
  refine ⟨.inr ⟨c, hc, rfl⟩, ?_, by simp, ?_⟩
  · revert c; decide +kernel
  · revert c; decide +kernel
theorem layw_msg {w : T} (h : isMsg w = true) : LayW w := by
  unfold isMsg at h
  rcases Bool.or_eq_true_iff.mp h with h | h
  · exact layw_free h
  · unfold inS at h
    simp only [List.any_cons, List.any_nil, Bool.or_false, Bool.or_eq_true] at h
    have e : ∀ l : T, (mk l == mk w) = true → w = l := fun l hz => by
      have := congrArg tl (eq_of_beq hz)
      exact this.symm
    rcases h with h | h | h | h | h | h <;> (rw [e _ h]; exact layw_fix _ (by simp))
def LayAll (ws : List WB) : Prop := ∀ q ∈ ws, LayW q.1
theorem LayAll.app {a b : List WB} (h : LayAll a) (g : LayAll b) : LayAll (a ++ b) := fun q hq => by
  rcases List.mem_append.mp hq with hq | hq
  · exact h q hq
  · exact g q hq
theorem LayAll.cons {q : WB} {b : List WB} (h : LayW q.1) (g : LayAll b) : LayAll (q :: b) := fun x hx => by
  rcases List.mem_cons.mp hx with rfl | hx
  · exact h
  · exact g x hx
theorem LayAll.nil : LayAll [] := fun q hq => by simp at hq
theorem layw_tk (s : String) (h : tk s ∈ ([tk "true", tk "false", tk "none", tk "self", tk "new", tk "up", tk ":=", tk "if", tk "then", tk "else", tk "end", tk "while", tk "try", tk "taken", tk "do", tk "say", tk "return", tk "raise", tk "kind", tk "under", tk "field", tk "more", tk "method", tk ":", [43], [45], [42], [47], [60], [61]] : List T)) : LayW (tk s) := layw_fix _ h
theorem layw_b (s : String) (c : Nat) (hc : c ∈ BR) (h : tk s = [c]) : LayW (tk s) := by rw [h]; exact layw_br c hc
theorem lay_plain : ∀ {ps : List T}, (∀ w ∈ ps, isFree w = true) → LayAll (plainW ps) := fun {ps} h q hq => by
  obtain ⟨w, hw, rfl⟩ := List.mem_map.mp hq
  exact layw_free (h w hw)
theorem pl_lay {k : T} (h : isPl k = true) : LayW k := by
  unfold isPl inS at h
  have e : ∀ z : Str, (z == mk k) = true → k = tl z := fun z hz => by rw [eq_of_beq hz]
  simp only [List.any_cons, List.any_nil, Bool.or_false, Bool.or_eq_true] at h
  rcases h with h | h | h | h <;> (rw [e _ h]; exact layw_fix _ (by simp))
abbrev lp1 : LayW (tk "(") := layw_b "(" 40 (by decide) (by decide +kernel)
abbrev lp2 : LayW (tk ")") := layw_b ")" 41 (by decide) (by decide +kernel)
abbrev lp3 : LayW (tk "[") := layw_b "[" 91 (by decide) (by decide +kernel)
abbrev lp4 : LayW (tk "]") := layw_b "]" 93 (by decide) (by decide +kernel)
abbrev lp5 : LayW (tk "{") := layw_b "{" 123 (by decide) (by decide +kernel)
abbrev lp6 : LayW (tk "}") := layw_b "}" 125 (by decide) (by decide +kernel)
abbrev lp7 : LayW (tk "|") := layw_b "|" 124 (by decide) (by decide +kernel)
mutual
theorem layE : ∀ e : Ex, okE e → LayAll (wE e)
  | .num n, h => .cons (layw_num h.1 h.2) .nil
  | .txt s, h => .cons (layw_text h) .nil
  | .tru true, h => .cons (layw_tk "true" (by simp)) .nil
  | .tru false, h => .cons (layw_tk "false" (by simp)) .nil
  | .non, h => .cons (layw_tk "none" (by simp)) .nil
  | .slf, h => .cons (layw_tk "self" (by simp)) .nil
  | .nam w, h => .cons (layw_free h) .nil
  | .fld w, h => .cons (layw_fld h) .nil
  | .new w, h => .cons (layw_tk "new" (by simp)) (.cons (layw_kind h) .nil)
  | .send r m es, h => .cons lp1 ((layE r h.2.1).app (.cons (layw_msg h.1) ((layEs es h.2.2).app (.cons lp2 .nil))))
  | .up m es, h => .cons lp1 (.cons (layw_tk "up" (by simp)) (.cons (layw_free h.1) ((layEs es h.2).app (.cons lp2 .nil))))
  | .lst es, h => .cons lp3 ((layEs es h).app (.cons lp4 .nil))
  | .blk ps ss, h => .cons lp5 ((lay_plain h.2.1).app (.cons lp7 ((laySs ss h.2.2).app (.cons lp6 .nil))))
theorem layEs : ∀ e : Exs, okEs e → LayAll (wEs e)
  | .nil, _ => .nil
  | .cons e r, h => (layE e h.1).app (layEs r h.2)
theorem layS : ∀ s : St_, okS s → LayAll (wS s)
  | .set w e, h => .cons (layw_free h.1) (.cons (layw_tk ":=" (by simp)) (layE e h.2))
  | .sfl w e, h => .cons (layw_fld h.1) (.cons (layw_tk ":=" (by simp)) (layE e h.2))
  | .pl k e, h => .cons (pl_lay h.1) (layE e h.2)
  | .iff e a b, h => .cons (layw_tk "if" (by simp)) ((layE e h.1).app (.cons (layw_tk "then" (by simp)) ((laySs a h.2.1).app (.cons (layw_tk "else" (by simp)) ((laySs b h.2.2).app (.cons (layw_tk "end" (by simp)) .nil))))))
  | .whl e a, h => .cons (layw_tk "while" (by simp)) ((layE e h.1).app (.cons (layw_tk "then" (by simp)) ((laySs a h.2).app (.cons (layw_tk "end" (by simp)) .nil))))
  | .tri a w b, h => .cons (layw_tk "try" (by simp)) ((laySs a h.2.1).app (.cons (layw_tk "taken" (by simp)) (.cons (layw_free h.1) ((laySs b h.2.2).app (.cons (layw_tk "end" (by simp)) .nil)))))
theorem laySs : ∀ e : Sts, okSs e → LayAll (wSs e)
  | .nil, _ => .nil
  | .cons e r, h => (layS e h.1).app (laySs r h.2)
end
end My
set_option Elab.async false
set_option linter.all false
set_option maxRecDepth 100000
set_option maxHeartbeats 4000000
namespace My
open PySem L2 SS
/-! ### what trees write is read -/
/-- from a on stand these words -/
def Mat (g : Nat → Option T) (a : Nat) (ws : List WB) : Prop := ∀ j q, ws[j]? = some q → g (a + j) = some q.1
section
variable {g : Nat → Option T}
theorem Mat.hd {a : Nat} {q : WB} {r : List WB} (h : Mat g a (q :: r)) : g a = some q.1 := h 0 q rfl
theorem Mat.tl {a : Nat} {q : WB} {r : List WB} (h : Mat g a (q :: r)) : Mat g (a + 1) r := fun j x hx => by
  have := h (j + 1) x (by simpa using hx)
  rw [show a + 1 + j = a + (j + 1) by omega]
  exact this
theorem Mat.l {a : Nat} {x y : List WB} (h : Mat g a (x ++ y)) : Mat g a x := fun j q hq => h j q (by rw [List.getElem?_append_left (List.getElem?_eq_some_iff.mp hq).1]; exact hq)
theorem Mat.r {a : Nat} {x y : List WB} (h : Mat g a (x ++ y)) : Mat g (a + x.length) y := fun j q hq => by
  have := h (x.length + j) q (by rw [List.getElem?_append_right (by omega), show x.length + j - x.length = j by omega]; exact hq)
  rw [show a + x.length + j = a + (x.length + j) by omega]
  exact this
def Exs.app : Exs → Exs → Exs
  | acc, .nil => acc
  | acc, .cons e r => Exs.app (acc.snoc e) r
def Sts.app : Sts → Sts → Sts
  | acc, .nil => acc
  | acc, .cons e r => Sts.app (acc.snoc e) r
theorem Exs.app_cons : ∀ (es acc : Exs) (x : Ex), Exs.app (.cons x acc) es = .cons x (Exs.app acc es)
  | .nil, acc, x => rfl
  | .cons e r, acc, x => Exs.app_cons r (acc.snoc e) x
theorem Sts.app_cons : ∀ (es acc : Sts) (x : St_), Sts.app (.cons x acc) es = .cons x (Sts.app acc es)
  | .nil, acc, x => rfl
  | .cons e r, acc, x => Sts.app_cons r (acc.snoc e) x
theorem Exs.app_nil : ∀ es : Exs, Exs.app .nil es = es
  | .nil => rfl
  | .cons e r => by
    show Exs.app (.cons e .nil) r = _
    rw [Exs.app_cons r .nil e, Exs.app_nil r]
theorem Sts.app_nil : ∀ es : Sts, Sts.app .nil es = es
  | .nil => rfl
  | .cons e r => by
    show Sts.app (.cons e .nil) r = _
    rw [Sts.app_cons r .nil e, Sts.app_nil r]
/-! words that end something, up: no e and no statement begins so -/
def Endw (z : T) : Prop := z ∈ ([tk ")", tk "]", tk "}", tk "|", tk "end", tk "else", tk "taken", tk "then", tk "up", tk ":=", tk ":"] : List T)
theorem end_dec {z : T} (p : T → Bool) (h : (([tk ")", tk "]", tk "}", tk "|", tk "end", tk "else", tk "taken", tk "then", tk "up", tk ":=", tk ":"] : List T).all fun x => !p x) = true) (hz : p z = true) : ¬ Endw z := fun e => by
  have := List.all_eq_true.mp h z e
  rw [hz] at this
  cases this
theorem free_ne {w : T} (h : isFree w = true) : ¬ Endw w := end_dec isFree (by decide +kernel) h
theorem kept_not {w : T} (h : isFree w = true) : inS KEPTs w = false := by
  unfold isFree at h
  rw [Bool.and_eq_true] at h
  unfold inS
  have := h.2
  simpa using this
theorem free_kept {w : T} (h : isFree w = true) {s : String} (hs : Str.ofString s ∈ KEPTs) : w ≠ tk s := fun e => by
  have h2 := kept_not h
  unfold inS at h2
  have : (KEPTs.any fun k => k == mk w) = true := List.any_eq_true.mpr ⟨_, hs, by rw [e, mk_tl]; simp⟩
  rw [this] at h2
  cases h2
theorem num_head {n : Int} (h : okE (.num n)) : ∃ c r, numT n = c :: r ∧ (c = 45 ∨ (48 ≤ c ∧ c ≤ 57)) := (num_facts2 h.1 h.2).2.2.2.1
/-- a word that is a number is of figures -/
theorem notnum {c : Nat} {r : T} (h : c ≠ 45) (h2 : ¬ (48 ≤ c ∧ c ≤ 57)) : isNum (c :: r) = false := by
  unfold isNum
  have e : figsOf (c :: r) = c :: r := by
    unfold figsOf
    split
    · rename_i q; exact absurd (List.cons.inj q).1 h
    · rfl
  have : hasOnly (c :: r) FIGS = false := by
    unfold hasOnly
    rw [List.all_cons, decide_eq_false (fun q => h2 (mem_figs.mp q))]
    rfl
  rw [e, this]
  simp
theorem lf_num {n : Int} (h : okE (.num n)) : lfE (numT n) = some (.num n) := by
  obtain ⟨h1, h2, _⟩ := num_facts2 h.1 h.2
  unfold lfE
  rw [if_pos h1, h2]
theorem lf_txt {s : T} : lfE (39 :: s) = some (.txt s) := by
  unfold lfE
  rw [if_neg (by rw [notnum (by decide) (by decide)]; decide), if_pos (by simp)]
  rfl
theorem lf_free {w : T} (h : isFree w = true) : lfE w = some (.nam w) := by
  obtain ⟨_, _, _, c, r, rfl, h4, h5⟩ := small_facts (free_small h)
  unfold lfE
  have t1 := free_kept h (s := "true") (by simp [KEPTs])
  have t2 := free_kept h (s := "false") (by simp [KEPTs])
  have t3 := free_kept h (s := "none") (by simp [KEPTs])
  have t4 := free_kept h (s := "self") (by simp [KEPTs])
  rw [if_neg (by rw [notnum (by omega) (by omega)]; decide), if_neg (by simp; omega), if_neg, if_neg (fun e => t3 (congrArg My.tl e)), if_neg (fun e => t4 (congrArg My.tl e)), if_pos h]
  intro e
  unfold inS at e
  simp only [List.any_cons, List.any_nil, Bool.or_false, Bool.or_eq_true] at e
  rcases e with e | e
  · exact t1 (congrArg My.tl (eq_of_beq e)).symm
  · exact t2 (congrArg My.tl (eq_of_beq e)).symm
theorem lf_fld {w : T} (h : isFree w = true) : lfE (64 :: w) = some (.fld w) := by
  have nf : isFree (64 :: w) = false := by
    cases e : isFree (64 :: w) with
    | false => rfl
    | true =>
      obtain ⟨_, _, _, c, r, e2, h4, h5⟩ := small_facts (free_small e)
      injection e2 with e3 _
      omega
  have hff : isFF (64 :: w) = true := by
    unfold isFF
    simp [h]
  have ne : ∀ s : String, (Str.ofString s).cps.toList.head? ≠ some 64 → ¬ mk (64 :: w) = Str.ofString s := fun s hs e => by
    have := congrArg My.tl e
    apply hs
    have e2 : (Str.ofString s).cps.toList = 64 :: w := this.symm
    rw [e2]
    rfl
  unfold lfE
  rw [if_neg (by rw [notnum (by decide) (by decide)]; decide), if_neg (by simp), if_neg, if_neg (ne "none" (by decide +kernel)), if_neg (ne "self" (by decide +kernel)), if_neg (by rw [nf]; decide), if_pos hff]
  · rfl
  · intro e
    unfold inS at e
    simp only [List.any_cons, List.any_nil, Bool.or_false, Bool.or_eq_true] at e
    rcases e with e | e
    · exact ne "true" (by decide +kernel) (eq_of_beq e).symm
    · exact ne "false" (by decide +kernel) (eq_of_beq e).symm
/-- no bracket, no new, no end -/
def NbE (z : T) : Prop := NBw z ∧ ¬ Endw z
theorem nb_head {c : Nat} {r : T} (h : c = 45 ∨ (48 ≤ c ∧ c ≤ 57) ∨ c = 39 ∨ c = 64) : NbE (c :: r) := by
  have key : ∀ z ∈ ([tk "(", tk "[", tk "{", tk "new", tk ")", tk "]", tk "}", tk "|", tk "end", tk "else", tk "taken", tk "then", tk "up", tk ":=", tk ":"] : List T), c :: r ≠ z := fun z hz e => by
    have hb : (([tk "(", tk "[", tk "{", tk "new", tk ")", tk "]", tk "}", tk "|", tk "end", tk "else", tk "taken", tk "then", tk "up", tk ":=", tk ":"] : List T).all fun z => decide (z.head? ≠ some 45 ∧ z.head? ≠ some 39 ∧ z.head? ≠ some 64 ∧ ∀ d ∈ FIGS, z.head? ≠ some d)) = true := by decide +kernel
    have h3 := of_decide_eq_true (List.all_eq_true.mp hb z hz)
    rw [← e] at h3
    simp only [List.head?_cons] at h3
    obtain ⟨a1, a2, a3, a4⟩ := h3
    rcases h with rfl | h | rfl | rfl
    · exact a1 rfl
    · exact a4 c (mem_figs.mpr h) rfl
    · exact a2 rfl
    · exact a3 rfl
  refine ⟨⟨key _ (by simp), key _ (by simp), key _ (by simp), key _ (by simp)⟩, fun e => ?_⟩
  exact key (c :: r) (List.mem_append_right [tk "(", tk "[", tk "{", tk "new"] e) rfl
theorem free_nb {w : T} (h : isFree w = true) : NBw w := by
  have key : ∀ z ∈ ([tk "(", tk "[", tk "{", tk "new"] : List T), w ≠ z := fun z hz e => by
    have hb : (([tk "(", tk "[", tk "{", tk "new"] : List T).all fun z => !isFree z) = true := by decide +kernel
    have := List.all_eq_true.mp hb z hz
    rw [← e, h] at this
    cases this
  exact ⟨key _ (by simp), key _ (by simp), key _ (by simp), key _ (by simp)⟩
theorem free_st {w : T} (h : isFree w = true) : w.head? ≠ some 64 ∧ isPl w = false ∧ ¬ opnS w := by
  obtain ⟨_, _, _, c, r, rfl, h4, h5⟩ := small_facts (free_small h)
  refine ⟨by simp; omega, ?_, fun e => ?_⟩
  · cases q : isPl (c :: r) with
    | false => rfl
    | true =>
      have hb : (([tk "do", tk "say", tk "return", tk "raise"] : List T).all fun z => !isFree z) = true := by decide +kernel
      have := List.all_eq_true.mp hb (c :: r) (by
        rcases pl_cases_ q with q | q | q | q <;> (rw [q]; simp))
      rw [h] at this
      cases this
  · have hb : (([tk "if", tk "while", tk "try"] : List T).all fun z => !isFree z) = true := by decide +kernel
    have := List.all_eq_true.mp hb (c :: r) (by
      rcases e with q | q | q <;> (rw [q]; simp))
    rw [h] at this
    cases this
theorem pl_ne {w : T} (h : isPl w = true) : ¬ Endw w := end_dec isPl (by decide +kernel) h
theorem not_end (z : T) (h : (([tk ")", tk "]", tk "}", tk "|", tk "end", tk "else", tk "taken", tk "then", tk "up", tk ":=", tk ":"] : List T).all fun x => !decide (x = z)) = true) : ¬ Endw z := end_dec (fun x => decide (x = z)) h (decide_eq_true rfl)
theorem headE : ∀ e : Ex, okE e → ∃ z r, wE e = (z, true) :: r ∧ ¬ Endw z
  | .num n, h => ⟨_, _, rfl, by obtain ⟨c, r, e, hc⟩ := num_head h; rw [e]; exact (nb_head (by omega)).2⟩
  | .txt s, h => ⟨_, _, rfl, (nb_head (.inr (.inr (.inl rfl)))).2⟩
  | .tru true, h => ⟨_, _, rfl, not_end _ (by decide +kernel)⟩
  | .tru false, h => ⟨_, _, rfl, not_end _ (by decide +kernel)⟩
  | .non, h => ⟨_, _, rfl, not_end _ (by decide +kernel)⟩
  | .slf, h => ⟨_, _, rfl, not_end _ (by decide +kernel)⟩
  | .nam w, h => ⟨_, _, rfl, free_ne h⟩
  | .fld w, h => ⟨_, _, rfl, (nb_head (.inr (.inr (.inr rfl)))).2⟩
  | .new w, h => ⟨_, _, rfl, not_end _ (by decide +kernel)⟩
  | .send r m es, h => ⟨_, _, rfl, not_end _ (by decide +kernel)⟩
  | .up m es, h => ⟨_, _, rfl, not_end _ (by decide +kernel)⟩
  | .lst es, h => ⟨_, _, rfl, not_end _ (by decide +kernel)⟩
  | .blk ps ss, h => ⟨_, _, rfl, not_end _ (by decide +kernel)⟩
theorem headS : ∀ e : St_, okS e → ∃ z r, wS e = (z, true) :: r ∧ ¬ Endw z
  | .set w e, h => ⟨_, _, rfl, free_ne h.1⟩
  | .sfl w e, h => ⟨_, _, rfl, (nb_head (.inr (.inr (.inr rfl)))).2⟩
  | .pl k e, h => ⟨_, _, rfl, pl_ne h.1⟩
  | .iff e a b, h => ⟨_, _, rfl, not_end _ (by decide +kernel)⟩
  | .whl e a, h => ⟨_, _, rfl, not_end _ (by decide +kernel)⟩
  | .tri a w b, h => ⟨_, _, rfl, not_end _ (by decide +kernel)⟩
theorem not_nb (z : T) (h : (([tk "(", tk "[", tk "{", tk "new"] : List T).all fun x => !decide (z = x)) = true) : NBw z := by
  have key : ∀ x ∈ ([tk "(", tk "[", tk "{", tk "new"] : List T), z ≠ x := fun x hx e => by
    have := List.all_eq_true.mp h x hx
    rw [decide_eq_true e] at this
    cases this
  exact ⟨key _ (by simp), key _ (by simp), key _ (by simp), key _ (by simp)⟩
theorem RFw_of {z : T} (hz : Endw z) : ∀ (ps acc : List T) (a : Nat), Mat g a (plainW ps ++ [(z, false)]) → (∀ w ∈ ps, isFree w = true) → RFw g z a acc (.ok (acc ++ ps))
  | [], acc, a, h, _ => by
    rw [List.append_nil]
    exact .done h.hd
  | w :: r, acc, a, h, hf => by
    have h' : Mat g a ((w, false) :: (plainW r ++ [(z, false)])) := h
    have hw := hf w List.mem_cons_self
    have ih := RFw_of hz r (acc ++ [w]) (a + 1) h'.tl fun x hx => hf x (List.mem_cons_of_mem _ hx)
    rw [List.append_assoc] at ih
    exact .cons h'.hd (fun e => free_ne hw (by rw [show w = z from e]; exact hz)) hw ih
mutual
theorem RE_of : ∀ (e : Ex) (op a : Nat), Mat g a (wE e) → okE e → op + oE e ≤ 12 → RE g op a (.ok e)
  | .num n, op, a, h, k, _ => by
    obtain ⟨c, r, e, hc⟩ := num_head k
    exact .leaf h.hd (by show NBw (numT n); rw [e]; exact (nb_head (by omega)).1) (lf_num k)
  | .txt s, op, a, h, k, _ => .leaf h.hd (nb_head (.inr (.inr (.inl rfl)))).1 lf_txt
  | .tru true, op, a, h, k, _ => .leaf h.hd (not_nb _ (by decide +kernel)) (by show lfE (tk "true") = some (.tru true); unfold lfE; rw [if_neg (by decide +kernel), if_neg (by decide +kernel), if_pos (by decide +kernel)]; exact congrArg (fun b => some (Ex.tru b)) (decide_eq_true (mk_tl _)))
  | .tru false, op, a, h, k, _ => .leaf h.hd (not_nb _ (by decide +kernel)) (by show lfE (tk "false") = some (.tru false); unfold lfE; rw [if_neg (by decide +kernel), if_neg (by decide +kernel), if_pos (by decide +kernel)]; exact congrArg (fun b => some (Ex.tru b)) (decide_eq_false (by rw [mk_tl]; decide +kernel)))
  | .non, op, a, h, k, _ => .leaf h.hd (not_nb _ (by decide +kernel)) (by show lfE (tk "none") = some .non; unfold lfE; rw [if_neg (by decide +kernel), if_neg (by decide +kernel), if_neg (by decide +kernel), if_pos (mk_tl _)])
  | .slf, op, a, h, k, _ => .leaf h.hd (not_nb _ (by decide +kernel)) (by show lfE (tk "self") = some .slf; unfold lfE; rw [if_neg (by decide +kernel), if_neg (by decide +kernel), if_neg (by decide +kernel), if_neg (by rw [mk_tl]; decide +kernel), if_pos (mk_tl _)])
  | .nam w, op, a, h, k, _ => .leaf h.hd (free_nb k) (lf_free k)
  | .fld w, op, a, h, k, _ => .leaf h.hd (nb_head (.inr (.inr (.inr rfl)))).1 (lf_fld k)
  | .new w, op, a, h, k, _ => .new h.hd h.tl.hd k
  | .send r m es, op, a, h, k, o => by
    have ho : 1 + max (oE r) (oEs es) + op ≤ 12 := by have : oE (.send r m es) = 1 + max (oE r) (oEs es) := rfl; omega
    have h1 : Mat g (a + 1) (wE r ++ (m, false) :: (wEs es ++ [(tk ")", false)])) := h.tl
    have h2 := h1.r
    obtain ⟨z, rr, e1, e2⟩ := headE r k.2.1
    have hz : g (a + 1) = some z := by
      have := h1.l
      rw [e1] at this
      exact this.hd
    have he := REs_of (tk ")") (by simp [Endw]) es .nil (op + 1) (a + 1 + (wE r).length + 1) h2.tl k.2.2 (by omega)
    rw [Exs.app_nil] at he
    exact .send h.hd (by omega) (.send hz (fun e => e2 (by rw [e]; simp [Endw])) (RE_of r (op + 1) (a + 1) h1.l k.2.1 (by omega)) h2.hd k.1 he)
  | .up m es, op, a, h, k, o => by
    have ho : 1 + oEs es + op ≤ 12 := by have : oE (.up m es) = 1 + oEs es := rfl; omega
    have he := REs_of (tk ")") (by simp [Endw]) es .nil (op + 1) (a + 1 + 2) h.tl.tl.tl k.2 (by omega)
    rw [Exs.app_nil] at he
    exact .send h.hd (by omega) (.up h.tl.hd h.tl.tl.hd k.1 he)
  | .lst es, op, a, h, k, o => by
    have ho : 1 + oEs es + op ≤ 12 := by have : oE (.lst es) = 1 + oEs es := rfl; omega
    have he := REs_of (tk "]") (by simp [Endw]) es .nil (op + 1) (a + 1) h.tl k (by omega)
    rw [Exs.app_nil] at he
    exact .lst h.hd (by omega) he
  | .blk ps ss, op, a, h, k, o => by
    have ho : 1 + oSs ss + op ≤ 12 := by have : oE (.blk ps ss) = 1 + oSs ss := rfl; omega
    have h1 : Mat g (a + 1) (plainW ps ++ (tk "|", false) :: (wSs ss ++ [(tk "}", false)])) := h.tl
    have h2 := h1.r
    rw [plainW_len] at h2
    have hp : Mat g (a + 1) (plainW ps ++ [(tk "|", false)]) := by
      have e : plainW ps ++ (tk "|", false) :: (wSs ss ++ [(tk "}", false)]) = (plainW ps ++ [(tk "|", false)]) ++ (wSs ss ++ [(tk "}", false)]) := by simp
      rw [e] at h1
      exact h1.l
    have hf := RFw_of (by simp [Endw]) ps [] (a + 1) hp k.2.1
    have he := RSs_of (tk "}") (by simp [Endw]) ss .nil (op + 1) (a + 1 + ps.length + 1) h2.tl k.2.2 (by omega)
    rw [Sts.app_nil] at he
    exact .blk h.hd (by omega) hf he
theorem REs_of (z : T) (hz : Endw z) : ∀ (es acc : Exs) (op a : Nat), Mat g a (wEs es ++ [(z, false)]) → okEs es → op + oEs es ≤ 12 → REs g z op a acc (.ok (Exs.app acc es))
  | .nil, acc, op, a, h, _, _ => .done h.hd
  | .cons e r, acc, op, a, h, k, o => by
    have ho : max (oE e) (oEs r) + op ≤ 12 := by have : oEs (.cons e r) = max (oE e) (oEs r) := rfl; omega
    have h1 : Mat g a (wE e ++ (wEs r ++ [(z, false)])) := by
      have e1 : wEs (.cons e r) ++ [(z, false)] = wE e ++ (wEs r ++ [(z, false)]) := by show (wE e ++ wEs r) ++ _ = _; rw [List.append_assoc]
      rw [← e1]; exact h
    obtain ⟨y, rr, e1, e2⟩ := headE e k.1
    have hy : g a = some y := by
      have := h1.l
      rw [e1] at this
      exact this.hd
    exact .cons hy (fun q => e2 (q ▸ hz)) (RE_of e op a h1.l k.1 (by omega)) (REs_of z hz r (acc.snoc e) op (a + lE e) h1.r k.2 (by omega))
theorem RS_of : ∀ (e : St_) (op a : Nat), Mat g a (wS e) → okS e → op + oS e ≤ 12 → RS g op a (.ok e)
  | .set w e, op, a, h, k, o => by
    obtain ⟨f1, f2, f3⟩ := free_st k.1
    exact .set h.hd f1 f2 f3 k.1 h.tl.hd (RE_of e op (a + 2) h.tl.tl k.2 o)
  | .sfl w e, op, a, h, k, o => RS.sfl (z := 64 :: w) h.hd rfl (by unfold isFF; simp [k.1]) h.tl.hd (RE_of e op (a + 2) h.tl.tl k.2 o)
  | .pl w e, op, a, h, k, o => .pl h.hd k.1 (RE_of e op (a + 1) h.tl k.2 o)
  | .iff e x y, op, a, h, k, o => by
    have ho : 1 + max (oE e) (max (oSs x) (oSs y)) + op ≤ 12 := by have : oS (.iff e x y) = 1 + max (oE e) (max (oSs x) (oSs y)) := rfl; omega
    have h1 : Mat g (a + 1) (wE e ++ (tk "then", false) :: (wSs x ++ (tk "else", false) :: (wSs y ++ [(tk "end", false)]))) := h.tl
    have h2 := h1.r
    have h3 : Mat g (a + 1 + (wE e).length + 1) (wSs x ++ (tk "else", false) :: (wSs y ++ [(tk "end", false)])) := h2.tl
    have h4 := h3.r
    have hx : Mat g (a + 1 + (wE e).length + 1) (wSs x ++ [(tk "else", false)]) := by
      have e : wSs x ++ (tk "else", false) :: (wSs y ++ [(tk "end", false)]) = (wSs x ++ [(tk "else", false)]) ++ (wSs y ++ [(tk "end", false)]) := by simp
      rw [e] at h3
      exact h3.l
    have r1 := RSs_of (tk "else") (by simp [Endw]) x .nil (op + 1) (a + 1 + (wE e).length + 1) hx k.2.1 (by omega)
    have r2 := RSs_of (tk "end") (by simp [Endw]) y .nil (op + 1) (a + 1 + (wE e).length + 1 + (wSs x).length + 1) h4.tl k.2.2 (by omega)
    rw [Sts.app_nil] at r1 r2
    exact .iff h.hd (by omega) (.mk (RE_of e (op + 1) (a + 1) h1.l k.1 (by omega)) h2.hd r1 r2)
  | .whl e x, op, a, h, k, o => by
    have ho : 1 + max (oE e) (oSs x) + op ≤ 12 := by have : oS (.whl e x) = 1 + max (oE e) (oSs x) := rfl; omega
    have h1 : Mat g (a + 1) (wE e ++ (tk "then", false) :: (wSs x ++ [(tk "end", false)])) := h.tl
    have h2 := h1.r
    have r1 := RSs_of (tk "end") (by simp [Endw]) x .nil (op + 1) (a + 1 + (wE e).length + 1) h2.tl k.2 (by omega)
    rw [Sts.app_nil] at r1
    exact .whl h.hd (by omega) (.mk (RE_of e (op + 1) (a + 1) h1.l k.1 (by omega)) h2.hd r1)
  | .tri x w y, op, a, h, k, o => by
    have ho : 1 + max (oSs x) (oSs y) + op ≤ 12 := by have : oS (.tri x w y) = 1 + max (oSs x) (oSs y) := rfl; omega
    have h3 : Mat g (a + 1) (wSs x ++ (tk "taken", false) :: (w, false) :: (wSs y ++ [(tk "end", false)])) := h.tl
    have h4 := h3.r
    have hx : Mat g (a + 1) (wSs x ++ [(tk "taken", false)]) := by
      have e : wSs x ++ (tk "taken", false) :: (w, false) :: (wSs y ++ [(tk "end", false)]) = (wSs x ++ [(tk "taken", false)]) ++ ((w, false) :: (wSs y ++ [(tk "end", false)])) := by simp
      rw [e] at h3
      exact h3.l
    have r1 := RSs_of (tk "taken") (by simp [Endw]) x .nil (op + 1) (a + 1) hx k.2.1 (by omega)
    have r2 := RSs_of (tk "end") (by simp [Endw]) y .nil (op + 1) (a + 1 + (wSs x).length + 2) h4.tl.tl k.2.2 (by omega)
    rw [Sts.app_nil] at r1 r2
    exact .tri h.hd (by omega) (.mk r1 h4.tl.hd k.1 r2)
theorem RSs_of (z : T) (hz : Endw z) : ∀ (es acc : Sts) (op a : Nat), Mat g a (wSs es ++ [(z, false)]) → okSs es → op + oSs es ≤ 12 → RSs g z op a acc (.ok (Sts.app acc es))
  | .nil, acc, op, a, h, _, _ => .done h.hd
  | .cons e r, acc, op, a, h, k, o => by
    have ho : max (oS e) (oSs r) + op ≤ 12 := by have : oSs (.cons e r) = max (oS e) (oSs r) := rfl; omega
    have h1 : Mat g a (wS e ++ (wSs r ++ [(z, false)])) := by
      have e1 : wSs (.cons e r) ++ [(z, false)] = wS e ++ (wSs r ++ [(z, false)]) := by show (wS e ++ wSs r) ++ _ = _; rw [List.append_assoc]
      rw [← e1]; exact h
    obtain ⟨y, rr, e1, e2⟩ := headS e k.1
    have hy : g a = some y := by
      have := h1.l
      rw [e1] at this
      exact this.hd
    exact .cons hy (fun q => e2 (q ▸ hz)) (RS_of e op a h1.l k.1 (by omega)) (RSs_of z hz r (acc.snoc e) op (a + lS e) h1.r k.2 (by omega))
end
/-! methods, trees, pages -/
theorem RM_of {a : Nat} {m : Me} (h : Mat g a (wM m)) (k : okM m) : RM g a (.ok m) := by
  have h1 : Mat g (a + 2) (plainW m.ps ++ (tk ":", false) :: (wSs m.ss ++ [(tk "end", false)])) := h.tl.tl
  have h2 := h1.r
  rw [plainW_len] at h2
  have hp : Mat g (a + 2) (plainW m.ps ++ [(tk ":", false)]) := by
    have e : plainW m.ps ++ (tk ":", false) :: (wSs m.ss ++ [(tk "end", false)]) = (plainW m.ps ++ [(tk ":", false)]) ++ (wSs m.ss ++ [(tk "end", false)]) := by simp
    rw [e] at h1
    exact h1.l
  have hf := RFw_of (by simp [Endw]) m.ps [] (a + 2) hp k.ps
  have he := RSs_of (tk "end") (by simp [Endw]) m.ss .nil 0 (a + 2 + m.ps.length + 1) h2.tl k.ss (by have := k.o; omega)
  rw [Sts.app_nil] at he
  exact RM.mk h.tl.hd k.fr hf he
theorem RMs_of : ∀ (ms acc : List Me) (a : Nat), Mat g a (wMs ms ++ [(tk "end", false)]) → (∀ m ∈ ms, okM m) → RMs g a acc (.ok (acc ++ ms))
  | [], acc, a, h, _ => by
    rw [List.append_nil]
    exact .done h.hd
  | m :: r, acc, a, h, k => by
    have h1 : Mat g a (wM m ++ (wMs r ++ [(tk "end", false)])) := by
      have e1 : wMs (m :: r) ++ [(tk "end", false)] = wM m ++ (wMs r ++ [(tk "end", false)]) := by show (wM m ++ wMs r) ++ _ = _; rw [List.append_assoc]
      rw [← e1]; exact h
    have ih := RMs_of r (acc ++ [m]) (a + lM m) h1.r fun x hx => k x (List.mem_cons_of_mem _ hx)
    rw [List.append_assoc] at ih
    exact .cons h1.l.hd (RM_of h1.l (k m List.mem_cons_self)) ih
theorem RFd_of {y : T} (hy : y ≠ tk "field") {b : Bool} {rest : List WB} : ∀ (fs acc : List T) (a : Nat), Mat g a (wFd fs ++ (y, b) :: rest) → (∀ w ∈ fs, isFree w = true) → RFd g a acc (.ok (acc ++ fs))
  | [], acc, a, h, _ => by
    rw [List.append_nil]
    exact .done h.hd hy
  | f :: r, acc, a, h, k => by
    have h' : Mat g a ((tk "field", false) :: (f, false) :: (wFd r ++ (y, b) :: rest)) := h
    have ih := RFd_of hy r (acc ++ [f]) (a + 2) h'.tl.tl fun x hx => k x (List.mem_cons_of_mem _ hx)
    rw [List.append_assoc] at ih
    exact .cons h'.hd h'.tl.hd (k f List.mem_cons_self) ih
theorem RT_of {a : Nat} {t : Tr} (h : Mat g a (wT t)) (k : okTr t) : RT g a (.ok t) := by
  cases t with
  | kind n p fs ms =>
    have h1 : Mat g (a + 4) (wFd fs ++ (wMs ms ++ [(tk "end", false)])) := h.tl.tl.tl.tl
    have h2 := h1.r
    rw [wFd_len] at h2
    have hne : ∃ y b rest, wMs ms ++ [(tk "end", false)] = (y, b) :: rest ∧ y ≠ tk "field" := by
      cases ms with
      | nil => exact ⟨_, _, _, rfl, by decide +kernel⟩
      | cons m r => exact ⟨tk "method", false, _, rfl, by decide +kernel⟩
    obtain ⟨y, b, rest, e, hy⟩ := hne
    have hf := RFd_of hy fs [] (a + 4) (by rw [← e]; exact h1) k.hd.2.2.2
    exact .kind h.hd h.tl.hd k.hd.1 h.tl.tl.hd h.tl.tl.tl.hd k.hd.2.1 hf (RMs_of ms [] (a + 4 + 2 * fs.length) h2 k.ms)
  | more n ms => exact .more h.hd h.tl.hd k.hd (RMs_of ms [] (a + 2) h.tl.tl k.ms)
theorem RP_of {n : Nat} : ∀ (ts acc : List Tr) (a : Nat), Mat g a (wTs ts) → (∀ t ∈ ts, okTr t) → a + lTs ts = n → RP g n a acc (.ok (acc ++ ts))
  | [], acc, a, h, _, e => by
    rw [List.append_nil]
    exact .done (by have : lTs [] = 0 := rfl; omega)
  | t :: r, acc, a, h, k, e => by
    have h1 : Mat g a (wT t ++ wTs r) := h
    have e1 : lTs (t :: r) = lT t + lTs r := by unfold lTs; show (wT t ++ wTs r).length = _; rw [List.length_append]
    have hl := lT_eq t
    have ih := RP_of (n := n) r (acc ++ [t]) (a + lT t) h1.r (fun x hx => k x (List.mem_cons_of_mem _ hx)) (by omega)
    rw [List.append_assoc] at ih
    exact .cons (by omega) (RT_of h1.l (k t List.mem_cons_self)) ih
end
end My
set_option Elab.async false
set_option linter.all false
set_option maxRecDepth 100000
set_option maxHeartbeats 4000000
namespace My
open PySem L2 SS
/-! ### pages -/
abbrev pgm (j : Nat) : Stmt := inClass (top 40) j
def pgF (pg z : Str) (vt : V) (wl s : Addr) : List (Str × V) := [("name", .str pg), ("text", .str z), ("trees", vt), ("words", .ref wl), ("_starts", .ref s)]
section
variable {pg z : Str} {vt : V} {wl s : Addr}
theorem pf_name : (pgF pg z vt wl s).lookup ("name" : Str) = some (.str pg) := by kernel_rfl
theorem pf_text : (pgF pg z vt wl s).lookup ("text" : Str) = some (.str z) := by kernel_rfl
theorem pf_trees : (pgF pg z vt wl s).lookup ("trees" : Str) = some vt := by kernel_rfl
theorem pf_words : (pgF pg z vt wl s).lookup ("words" : Str) = some (.ref wl) := by kernel_rfl
theorem pf_starts : (pgF pg z vt wl s).lookup ("_starts" : Str) = some (.ref s) := by kernel_rfl
theorem pf_all : putF "_starts" (V.ref s) (putF "words" (.ref wl) (putF "trees" vt (putF "text" (.str z) (putF "name" (.str pg) [])))) = pgF pg z vt wl s := by kernel_rfl
end
theorem AtTT.on {H H' : Hp} (t : Tups H H') {ts : List Tr} {v : V} (h : AtTT H ts v) : AtTT H' ts v := by
  obtain ⟨p, vs, e, h1, h2⟩ := h
  exact ⟨p, vs, e, t _ _ h1, h2.on_ t⟩
structure PageIn (CP : Addr) (H : Hp) (pp : Addr) (pg z : Str) (ts : List Tr) (ws : List W) (dx : Addr) (vt : V) (wl s : Addr) (us xs : List V) : Prop where
  ob : H pp = some (.ins CP dx (pgF pg z vt wl s))
  tr : AtTT H ts vt
  wl : H wl = some (.tup us)
  al : AllT fW H us ws
  st : H s = some (.tup xs)
  at_ : AtSts H (stTs 0 ts) xs
def PageAt (CP : Addr) (H : Hp) (pp : Addr) (pg z : Str) (ts : List Tr) (ws : List W) : Prop := ∃ dx vt wl s us xs, PageIn CP H pp pg z ts ws dx vt wl s us xs
theorem PageAt.same {CP : Addr} {H H' : Hp} {pp : Addr} {pg z : Str} {ts : List Tr} {ws : List W} (h : PageAt CP H pp pg z ts ws) (s : Same H H') : PageAt CP H' pp pg z ts ws := by
  obtain ⟨dx, vt, wl, st, us, xs, h1, h2, h3, h4, h5, h6⟩ := h
  have t := same_tups s
  exact ⟨dx, vt, wl, st, us, xs, s _ _ h1, h2.on t, t _ _ h3, h4.on t, t _ _ h5, h6.on_ t⟩
def wdl (ws : List W) (i : Nat) : Option T := (ws[i]?).map (·.1)
/-- what the class Page has -/
structure TxP (K : PySem.W.Frag) (mg : Str → Option Value) (C : Addr) : Prop where
  cl : Cls K C
  f1 : NoAttr K C "name"
  f2 : NoAttr K C "text"
  f3 : NoAttr K C "trees"
  f4 : NoAttr K C "words"
  f5 : NoAttr K C "_starts"
section
variable {P : Program} {w : World} {K : PySem.W.Frag} {mg : Str → Option Value} {base : Heap} {S CF fI fS C CP fF fK fM fX : Addr}
theorem Rn.putO {x : RX} (o : x.Ok) {H : Hp} {a op : Nat} {X1 X2 X3 : List V} (h : Rn C x H a op X1 X2 X3) {l D : Addr} {dx : Addr} {fs : List (Str × V)} (n : x.H0 l = some (.ins D dx fs)) (u' : HO) : (x.on (upd x.H0 l u')).Ok ∧ Rn C (x.on (upd x.H0 l u')) (upd H l u') a op X1 X2 X3 := by
  obtain ⟨s, dx, l1, l2, l3, h1, n1, n2, n3, h2, h3, h4, r⟩ := h
  have ne : ∀ {b : Addr}, x.H0 b = none → b ≠ l := fun {b} y => fun q => by rw [q, n] at y; cases y
  have up : ∀ {b : Addr} {u : HO}, x.H0 b = none → H b = some u → upd H l u' b = some u := fun {b u} y z => by rw [upd_ne (ne y)]; exact z
  have un : ∀ {b : Addr}, x.H0 b = none → upd x.H0 l u' b = none := fun {b} y => by rw [upd_ne (ne y)]; exact y
  refine ⟨o.on (fun p xs z => ?_) (un o.p0), fun b u z => ?_, dx, l1, l2, l3, up o.p0 h1, un n1, un n2, un n3, up n1 h2, up n2 h3, up n3 h4, r⟩
  · rw [upd_ne (ne_of z n (by intro q; cases q))]
    exact z
  · by_cases c : b = l
    · subst c
      have z' : upd x.H0 b u' b = some u := z
      rw [upd_same] at z'
      rw [upd_same]
      exact z'
    · have z' : upd x.H0 l u' b = some u := z
      rw [upd_ne c] at z'
      rw [upd_ne c]
      exact s b u z'
def ErP (CF : Addr) (H0 : Hp) (pg : Str) (E : XK) (r c : Nat) (why : Str) : Prop := ∀ d H', Same H0 H' → H' d = some (.xd (fsF pg why (r : Nat) (c : Nat))) → E (.ref CF) (some d) H'
def nPg (CF CP : Addr) : Sp := fun vs H Q E => ∃ (H0 : Hp) (pp dx : Addr) (pg z : Str) (rs : List Str) (o : Out (List Tr)), vs = [.ref pp, .str pg, .str z] ∧ Same H0 H ∧ H0 pp = none ∧ H pp = some (.ins CP dx []) ∧ pg.length ≤ 1000 ∧ Fits z rs ∧ rs ≠ [] ∧ ScOk (scan isWord (rs.map tl)) ∧
  RP (wdl (scan isWord (rs.map tl)).1) (scan isWord (rs.map tl)).1.length 0 [] o ∧
  (∀ ts, o = .ok ts → (∀ p, (scan isWord (rs.map tl)).2 = some p → ErP CF H0 pg E p.1 p.2 "sign") ∧ ((scan isWord (rs.map tl)).2 = none → ∀ H', Same H0 H' → PageAt CP H' pp pg z ts (scan isWord (rs.map tl)).1 → Q .non H')) ∧
  (∀ i d, o = .bad i d → (∀ k, (scan isWord (rs.map tl)).1[i]? = some k → ErP CF H0 pg E k.2.1 k.2.2 (if d = true then Str.ofString "deep" else Str.ofString "word")) ∧ (i = (scan isWord (rs.map tl)).1.length → (∀ p, (scan isWord (rs.map tl)).2 = some p → ErP CF H0 pg E p.1 p.2 "sign") ∧ ((scan isWord (rs.map tl)).2 = none → ErP CF H0 pg E rs.length (endC rs) "end")))
theorem scPg : FnScope ["self", "name", "text", "reader"] ["self", "name", "text"] (defScope (pgm 0)) := ⟨rfl, rfl, rfl, by decide +kernel, rfl, by decide +kernel, by decide +kernel⟩
theorem n_pg {k : Nat} (hk : 7 ≤ k) (T : TxP K mg CP) (TR : TxR K mg C) (TS : TxS K mg) {f : Addr} {fd : FuncData} (F : Fun K "__init__" "Page.__init__" (pgm 0) f fd) (G : C0 P w K mg base 7 "reader_of" (spRO C)) (M1 : M0 P w K mg base C k "page_trees" (nPT C CF)) : FnOk P w K mg base (L2.CX P w) (k + 1) f fd ["self", "name", "text"] (nPg CF CP) := by
  refine F.okX scPg (fun vs H Q E h => ?_) (fun cdv A0 outer s H vs Q E hr h => ?_)
  · obtain ⟨H0, pp, dx, pg, z, rs, o, rfl, _⟩ := h
    rfl
  obtain ⟨H0, pp, dx, pg, z, rs, o, rfl, s0, hp0, hpp, hpg, hF, hne, hsc, hrel, q1, q2⟩ := h
  refine ⟨_, pss_cons (ps_set (i := 3) scPg.nd rfl (Or.inl rfl) (pe_cc G hr hk pass0 (pa_cons (pv 1) (pa_cons (pv 2) pa_nil)))) <|
    pss_cons (ps_fld (pv 0) (pv 1) rfl) <| pss_cons (ps_fld (pv 0) (pv 2) rfl) <|
    pss_cons (ps_fld (pv 0) (pe_mm0 TR.cl M1 hr (Nat.le_refl _) (passes_call (takes_of rfl rfl rfl rfl) fun _ _ _ _ h => h) (pv 3)) rfl) <|
    pss_cons (ps_fld (pv 0) (pe_fld (pv 3) rfl) rfl) <|
    pss_one (ps_fld (pv 0) (pe_callTy call_tuple_of (by rfl) TS.tup (by decide +kernel) (pa_cons (pe_fld (pv 3) rfl) pa_nil)) rfl), ?_⟩
  refine ⟨_, rfl, _, rfl, pg, z, rs, rfl, hpg, hF, hne, hsc, fun x H1 ok sx xpg xws xw1 xw2 R => ?_⟩
  have hx1 : x.H0 pp = some (.ins CP dx []) := sx _ _ hpp
  have hH1 : H1 pp = some (.ins CP dx []) := R.1 _ _ hx1
  obtain ⟨o1, R1⟩ := R.putO ok hx1 (.ins CP dx (putF "name" (.str pg) []))
  refine ⟨_, rfl, _, rfl, pp, CP, dx, _, rfl, hH1, T.cl, T.f1, by decide, ?_⟩
  have hx2 : (x.on (upd x.H0 pp (.ins CP dx (putF "name" (.str pg) [])))).H0 pp = some (.ins CP dx (putF "name" (.str pg) [])) := upd_same
  obtain ⟨o2, R2⟩ := R1.putO o1 hx2 (.ins CP dx (putF "text" (.str z) (putF "name" (.str pg) [])))
  refine ⟨_, rfl, _, rfl, pp, CP, dx, _, rfl, upd_same, T.cl, T.f2, by show 1 < 1000; decide, ?_⟩
  have hy : ∃ y : RX, y = (x.on (upd x.H0 pp (.ins CP dx (putF "name" (.str pg) [])))).on (upd (upd x.H0 pp (.ins CP dx (putF "name" (.str pg) []))) pp (.ins CP dx (putF "text" (.str z) (putF "name" (.str pg) [])))) := ⟨_, rfl⟩
  obtain ⟨y, ey⟩ := hy
  have o2' : y.Ok := by rw [ey]; exact o2
  have hyp : y.H0 pp = some (.ins CP dx (putF "text" (.str z) (putF "name" (.str pg) []))) := by rw [ey]; exact upd_same
  have s2 : Same H0 y.H0 := fun b u e => by
    rw [ey]
    show upd (upd x.H0 pp _) pp _ b = some u
    rw [upd_ne (ne_of_none e hp0), upd_ne (ne_of_none e hp0)]
    exact sx _ _ (s0 b u e)
  have yp : y.p = x.p := by rw [ey]; rfl
  have ypg : y.pg = pg := by rw [ey]; exact xpg
  have yws : y.ws = (scan isWord (rs.map tl)).1 := by rw [ey]; exact xws
  have yw : y.why = x.why ∧ y.r = x.r ∧ y.c = x.c := by rw [ey]; exact ⟨rfl, rfl, rfl⟩
  generalize hH3 : upd (upd H1 pp (.ins CP dx (putF "name" (.str pg) []))) pp (.ins CP dx (putF "text" (.str z) (putF "name" (.str pg) []))) = H3 at R2 ⊢
  have R2' : Rn C y H3 0 0 [] [] [] := by rw [ey]; exact R2
  clear R2 o2 hx2 R1 o1
  rw [← yp]
  obtain ⟨dx3, i1, i2, i3, i4⟩ := R2'.obj
  have hFE : ∀ r c (why : Str), ErP CF H0 pg E r c why → FE CF y E r c why := fun r c why h d H' s' hx => h d H' (s2.trans s') (by rw [ypg] at hx; exact hx)
  have hSE1 : ∀ p : Nat × Nat, (scan isWord (rs.map tl)).2 = some p → ErP CF H0 pg E p.1 p.2 "sign" → SE_ CF y E := fun p hp h => by
    obtain ⟨w1, w2, w3⟩ := xw1 p hp
    unfold SE_
    rw [yw.1, yw.2.1, yw.2.2, w1, w2, w3]
    exact hFE _ _ _ h
  have hrel' : RP y.wd y.ws.length 0 [] o := by
    have e : y.wd = wdl y.ws := rfl
    rw [e, yws]
    exact hrel
  refine ⟨_, rfl, y.p, dx3, _, rfl, i4, by kernel_rfl, y, o, rfl, o2', R2', hrel', fun ts ht => ⟨fun hw => ?_, fun hw v H4 X1 X2 X3 hv hst R4 => ?_⟩, fun i d hd => ⟨fun k hk => ?_, fun hl => ?_⟩⟩
  · cases e : (scan isWord (rs.map tl)).2 with
    | none =>
      rw [yw.1, (xw2 e).1] at hw
      exact absurd hw (by decide +kernel)
    | some p => exact hSE1 p e ((q1 ts ht).1 p e)
  · have hn : (scan isWord (rs.map tl)).2 = none := by
      cases e : (scan isWord (rs.map tl)).2 with
      | none => rfl
      | some p =>
        rw [yw.1, (xw1 p e).1] at hw
        exact absurd rfl hw
    have hpp4 := R4.1 _ _ hyp
    refine ⟨_, rfl, pp, CP, dx, _, rfl, hpp4, T.cl, T.f3, by show 2 < 1000; decide, ?_⟩
    obtain ⟨o5, R5⟩ := R4.putO o2' hyp (.ins CP dx (putF "trees" v (putF "text" (.str z) (putF "name" (.str pg) []))))
    obtain ⟨dx5, j1, j2, j3, j4⟩ := R5.obj
    refine ⟨_, rfl, y.p, C, dx5, _, _, rfl, j4, TR.cl, TR.f2, rf_words, _, rfl, pp, CP, dx, _, rfl, upd_same, T.cl, T.f4, by show 3 < 1000; decide, ?_⟩
    have hz5 : (y.on (upd y.H0 pp (.ins CP dx (putF "trees" v (putF "text" (.str z) (putF "name" (.str pg) [])))))).H0 pp = some (.ins CP dx (putF "trees" v (putF "text" (.str z) (putF "name" (.str pg) [])))) := upd_same
    obtain ⟨o6, R6⟩ := R5.putO o5 hz5 (.ins CP dx (putF "words" (.ref y.wl) (putF "trees" v (putF "text" (.str z) (putF "name" (.str pg) [])))))
    obtain ⟨dx6, fs6, l1, l2, l3, u1, _, u2, _, _, u3, _⟩ := R6.lists
    refine ⟨_, rfl, y.p, C, dx6, fs6, _, rfl, u1, TR.cl, TR.f7, u2, l1, X1, rfl, .inl ⟨SqL.of u3, fun tp htp => ?_⟩⟩
    have htpp : pp ≠ tp := fun q => by rw [← q, upd_same] at htp; cases htp
    have tt : ∀ b u, b ≠ pp → H4 b = some u → upd (upd (upd (upd H4 pp (.ins CP dx (putF "trees" v (putF "text" (.str z) (putF "name" (.str pg) []))))) pp (.ins CP dx (putF "words" (.ref y.wl) (putF "trees" v (putF "text" (.str z) (putF "name" (.str pg) [])))))) tp (.tup X1)) pp (.ins CP dx (putF "_starts" (.ref tp) (putF "words" (.ref y.wl) (putF "trees" v (putF "text" (.str z) (putF "name" (.str pg) [])))))) b = some u := fun b u eb e4 => by
      have et : b ≠ tp := fun q => by
        rw [← q, upd_ne eb, upd_ne eb, e4] at htp
        cases htp
      rw [upd_ne eb, upd_ne et, upd_ne eb, upd_ne eb]
      exact e4
    have tq : Tups H4 _ := fun b ys e => tt b _ (ne_of e hpp4 (by intro q; cases q)) e
    refine ⟨_, rfl, pp, CP, dx, _, rfl, by rw [upd_ne htpp, upd_same] <;> rfl, T.cl, T.f5, by show 4 < 1000; decide, (q1 ts ht).2 hn _ (fun b u e => tt b u (ne_of_none e hp0) (R4.1 _ _ (s2 b u e))) ⟨dx, v, y.wl, tp, y.us, X1, ?_, hv.on tq, tq _ _ (R4.1 _ _ o2'.hw), ?_, ?_, hst.on_ tq⟩⟩
    · rw [upd_same, ← pf_all]
    · have := (o2'.al.on (same_tups R4.1)).on tq
      rw [yws] at this
      exact this
    · rw [upd_ne htpp.symm, upd_same]
  · exact hFE _ _ _ ((q2 i d hd).1 k (by rw [← yws]; exact hk))
  · obtain ⟨q3, q4⟩ := (q2 i d hd).2 (by rw [← yws]; exact hl)
    cases e : (scan isWord (rs.map tl)).2 with
    | none =>
      obtain ⟨w1, w2, w3⟩ := xw2 e
      unfold SE_
      rw [yw.1, yw.2.1, yw.2.2, w1, w2, w3]
      exact hFE _ _ _ (q4 e)
    | some p => exact hSE1 p e (q3 p e)
/-! places -/
abbrev MP (P : Program) (w : World) (K : PySem.W.Frag) (mg : Str → Option Value) (base : Heap) (CP : Addr) (k : Nat) (m : Str) (sp : Sp) : Prop := Mm P w K mg base CX0 k CP m sp
/-- a place: row, column -/
def AtRC (H : Hp) (k : W) (v : V) : Prop := ∃ p, v = .ref p ∧ H p = some (.tup [.int (k.2.1 : Nat), .int (k.2.2 : Nat)])
def nPO (CP : Addr) : Sp := fun vs H Q _ => ∃ (pp : Addr) (pg z : Str) (ts : List Tr) (ws : List W) (a : Nat) (k : W), vs = [.ref pp, .int (a : Nat)] ∧ PageAt CP H pp pg z ts ws ∧ ws[a]? = some k ∧ ∀ v H', Same H H' → AtRC H' k v → Q v H'
theorem scPO : FnScope ["self", "at", "_", "row", "column"] ["self", "at"] (defScope (pgm 1)) := ⟨rfl, rfl, rfl, by decide +kernel, rfl, by decide +kernel, by decide +kernel⟩
theorem p_po (T : TxP K mg CP) (D : Dm K CP "_place_of" "Page._place_of" (pgm 1)) : MP P w K mg base CP 1 "_place_of" (nPO CP) := by
  obtain ⟨f, fd, F, hm⟩ := D.ex
  refine ⟨f, fd, ["self", "at"], F.ok scPO (fun vs H Q E h => ?_) (fun cdv A0 outer s H vs Q E hr h => ?_), hm, F.binds (ps := ["self", "at"]) fun _ _ _ _ _ _ us hl => match us, hl with | [_, _], _ => rfl⟩
  · obtain ⟨pp, pg, z, ts, ws, a, k, rfl, _⟩ := h
    rfl
  obtain ⟨pp, pg, z, ts, ws, a, k, rfl, ⟨dx, vt, wl, st, us, xs, pi⟩, hk, q⟩ := h
  refine ⟨_, pss_cons (ps_asg (pe_ix ix_tup (pe_fld (pv 0) rfl) (pv 1) (fun _ _ => rfl)) (pg_tup (by rfl) (pgs_cons (pg_name (i := 2) scPO.nd rfl (Or.inl rfl)) (pgs_cons (pg_name (i := 3) scPO.nd rfl (Or.inl rfl)) (pgs_cons (pg_name (i := 4) scPO.nd rfl (Or.inl rfl)) pgs_nil))))) <|
    pss_one (ps_ret (pe_tup (pa_cons (pv 3) (pa_cons (pv 4) pa_nil)))), ?_⟩
  have hl : a < us.length := by
    have := (List.getElem?_eq_some_iff.mp hk).1
    have := pi.al.length
    omega
  have e : us[a]? = some us[a] := by simp [hl]
  obtain ⟨k', h1, p, h2, h3⟩ := pi.al.get e
  rw [hk] at h1
  obtain rfl := Option.some.inj h1
  refine ⟨_, rfl, pp, CP, dx, _, _, rfl, pi.ob, T.cl, T.f4, pf_words, _, rfl, wl, _, _, _, rfl, rfl, SqT.of pi.wl, atI_nat (by rw [e, h2]), p, _, rfl, SqT.of h3, rfl, _, _, rfl, _, _, rfl, _, _, rfl, rfl, ?_⟩
  exact ⟨_, rfl, _, rfl, by show 2 ≤ sizeLine; decide, fun r hr2 => q _ _ (same_new hr2 _) ⟨r, rfl, upd_same⟩⟩
end
end My
set_option Elab.async false
set_option linter.all false
set_option maxRecDepth 100000
set_option maxHeartbeats 4000000
namespace My
open PySem L2 SS
abbrev sLaid : Stmt := top 60
def wtl (ws : List T) : Nat := (ws.map fun w => w.length + 3).sum
theorem wtl_take {ws : List T} {k : Nat} {w : T} (h : ws[k]? = some w) : wtl (ws.take (k + 1)) = wtl (ws.take k) + (w.length + 3) := by
  rw [List.take_add_one, h]
  unfold wtl
  rw [List.map_append, List.sum_append]
  simp
theorem wtl_take_le (ws : List T) (k : Nat) : wtl (ws.take k) ≤ wtl ws := by
  have e : ws = ws.take k ++ ws.drop k := (List.take_append_drop k ws).symm
  have : wtl ws = wtl (ws.take k) + wtl (ws.drop k) := by
    unfold wtl
    rw [← List.sum_append, ← List.map_append, ← e]
  omega
/-- between two words: the rows so far -/
structure Rows_ (ws : List T) (k : Nat) (done : List T) (cur : T) (ks : List W) (u : Nat) : Prop where
  wd : allW 1 (done ++ [cur]) = ks
  ks : ks.map (·.1) = ws.take k
  br : ∀ w, 0 < k → ws[k - 1]? = some w → Br1 w → pend [] cur = []
  k0 : k = 0 → cur = [] ∧ done = []
  row : ∀ l ∈ done ++ [cur], l.length ≤ 120 ∧ 10 ∉ l
  us : u + cur.length ≤ wtl (ws.take k)
  rw : 77 * (done.length + 1 - 101) ≤ u
theorem nl_blanks {n : Nat} {w : T} (h : 10 ∉ w) : 10 ∉ (List.replicate n 32 ++ w : T) := fun q => by
  rcases List.mem_append.mp q with q | q
  · have := (List.mem_replicate.mp q).2
    exact absurd this (by decide)
  · exact h q
/-- the next word in the same row -/
theorem Rows_.on {ws : List T} {k : Nat} {done : List T} {cur : T} {ks : List W} {u : Nat} (h : Rows_ ws k done cur ks u) {w : T} (hw : ws[k]? = some w) (lw : LayW w) {n : Nat} (hn : n ≤ 3) (hg : 0 < n ∨ k = 0 ∨ Br1 w ∨ ∃ y, ws[k - 1]? = some y ∧ Br1 y) (hlen : cur.length + n + w.length ≤ 120) :
    Rows_ ws (k + 1) done (cur ++ (List.replicate n 32 ++ w)) (ks ++ [(w, done.length + 1, cur.length + n + 1)]) u := by
  have hg2 : 0 < n ∨ pend [] cur = [] ∨ Br1 w := by
    rcases hg with g | g | g | ⟨y, g1, g2⟩
    · exact .inl g
    · rw [(h.k0 g).1]; exact .inr (.inl rfl)
    · exact .inr (.inr g)
    · by_cases hk : k = 0
      · rw [(h.k0 hk).1]; exact .inr (.inl rfl)
      · exact .inr (.inl (h.br y (by omega) g1 g2))
  have hcur := h.row cur (by simp)
  have hl : (cur ++ (List.replicate n 32 ++ w)).length = cur.length + n + w.length := by simp; omega
  refine ⟨?_, ?_, fun y _ hy hb => ?_, fun q => by omega, fun l hm => ?_, ?_, h.rw⟩
  · have e1 := h.wd
    rw [allW_app] at e1 ⊢
    rw [← e1]
    simp only [allW, List.append_nil, List.append_assoc]
    rw [rowWords_app lw.sh hg2, lay_app]
    simp only [List.append_assoc, Nat.add_comm 1]
    rfl
  · rw [List.map_append, h.ks, List.take_add_one, hw]
    rfl
  · rw [show k + 1 - 1 = k by omega, hw] at hy
    obtain rfl := Option.some.inj hy
    exact pend_word hb
  · rcases List.mem_append.mp hm with hm | hm
    · exact h.row l (List.mem_append_left _ hm)
    · obtain rfl : l = _ := by simpa using hm
      refine ⟨by rw [hl]; exact hlen, fun q => ?_⟩
      rcases List.mem_append.mp q with q | q
      · exact hcur.2 q
      · exact nl_blanks lw.nl q
  · rw [hl, wtl_take hw]
    have := h.us
    omega
/-- the next word in a new row, behind m rows more -/
theorem Rows_.nl {ws : List T} {k : Nat} {done : List T} {cur : T} {ks : List W} {u : Nat} (h : Rows_ ws k done cur ks u) {w : T} (hw : ws[k]? = some w) (lw : LayW w) {n m : Nat} (hn : n ≤ 3) (hm : m = 1 ∨ m = 2) (hr : (done.length + 1 < 100) ∨ (m = 1 ∧ 77 ≤ cur.length)) :
    Rows_ ws (k + 1) (done ++ cur :: List.replicate (m - 1) []) (List.replicate n 32 ++ w) (ks ++ [(w, done.length + 1 + m, n + 1)]) (u + cur.length) := by
  have hl : (List.replicate n 32 ++ w : T).length = n + w.length := by simp
  have hdl : (done ++ cur :: List.replicate (m - 1) []).length = done.length + m := by simp; omega
  refine ⟨?_, ?_, fun y _ hy hb => ?_, fun q => by omega, fun l hm' => ?_, ?_, ?_⟩
  · have e1 := h.wd
    have e2 : done ++ cur :: List.replicate (m - 1) [] = (done ++ [cur]) ++ List.replicate (m - 1) [] := by simp
    rw [allW_app, hdl, e2, allW_app, e1, allW_empty _ _ fun l hl2 => by rw [(List.mem_replicate.mp hl2).2]; rfl, List.append_nil]
    have e3 := rowWords_app (cur := []) (n := n) lw.sh (.inr (.inl rfl))
    rw [List.nil_append] at e3
    show ks ++ (lay _ (rowWords (List.replicate n 32 ++ w)) ++ []) = _
    rw [e3, List.append_nil]
    show ks ++ [(w, 1 + (done.length + m), 0 + n + 1)] = _
    rw [show 1 + (done.length + m) = done.length + 1 + m by omega, Nat.zero_add]
  · rw [List.map_append, h.ks, List.take_add_one, hw]
    rfl
  · rw [show k + 1 - 1 = k by omega, hw] at hy
    obtain rfl := Option.some.inj hy
    have := pend_word (cur := []) (n := n) hb
    rw [List.nil_append] at this
    exact this
  · rcases List.mem_append.mp hm' with hm' | hm'
    · rcases List.mem_append.mp hm' with hm' | hm'
      · exact h.row l (List.mem_append_left _ hm')
      · rcases List.mem_cons.mp hm' with rfl | hm'
        · exact h.row l (by simp)
        · rw [(List.mem_replicate.mp hm').2]
          exact ⟨by decide, by decide⟩
    · obtain rfl : l = _ := by simpa using hm'
      refine ⟨by rw [hl]; have := lw.ln; omega, nl_blanks lw.nl⟩
  · rw [hl, wtl_take hw]
    have := h.us
    omega
  · rw [hdl]
    have := h.rw
    rcases hr with hr | ⟨rfl, hr⟩
    · omega
    · omega
theorem joinL_nl (R : List T) (hR : R ≠ []) : ∀ m : Nat, TL.joinL [10] R ++ List.replicate (m + 1) 10 = TL.joinL [10] (R ++ List.replicate m [] ++ [[]])
  | 0 => by
    rw [List.replicate_zero, List.append_nil, joinL_app _ _ _ hR]
    rfl
  | m + 1 => by
    rw [joinL_app _ _ _ (by simp [hR])]
    have ih := joinL_nl R hR m
    have e : R ++ List.replicate (m + 1) [] = R ++ List.replicate m [] ++ [[]] := by rw [List.append_assoc, ← List.replicate_succ']
    rw [e, ← ih, List.append_assoc, List.append_nil, ← List.replicate_succ']
theorem joinL_last (R : List T) (c x : T) : TL.joinL [10] (R ++ [c]) ++ x = TL.joinL [10] (R ++ [c ++ x]) := by
  cases R with
  | nil => rfl
  | cons r R => rw [joinL_app _ _ _ (by simp), joinL_app _ _ _ (by simp)]; simp only [List.append_assoc]
end My
set_option Elab.async false
set_option linter.all false
set_option maxRecDepth 100000
set_option maxHeartbeats 4000000
namespace My
open PySem L2 SS
theorem AtL.get' {α : Type} {R : Hp → α → V → Prop} {H : Hp} : ∀ {xs : List α} {vs : List V} {i : Nat} {x : α}, AtL R H xs vs → xs[i]? = some x → ∃ v, vs[i]? = some v ∧ R H x v
  | [], vs, i, x, h, hx => by simp at hx
  | y :: r, vs, 0, x, ⟨u, us, h1, h2, h3⟩, hx => by
    subst h1
    simp at hx
    subst hx
    exact ⟨u, rfl, h2⟩
  | y :: r, vs, i + 1, x, ⟨u, us, h1, h2, h3⟩, hx => by
    subst h1
    obtain ⟨v, g1, g2⟩ := AtL.get' (i := i) h3 (by simpa using hx)
    exact ⟨v, by simpa using g1, g2⟩
/-- nodes' beginnings, as numbers -/
def stN : Nat → List WB → List Nat
  | _, [] => []
  | a, q :: r => (if q.2 = true then [a] else []) ++ stN (a + 1) r
theorem stW_N : ∀ (ws : List WB) (a : Nat), stW a ws = (stN a ws).map fun (n : Nat) => V.int (n : Nat)
  | [], a => rfl
  | q :: r, a => by
    rw [stW, stN, stW_N r (a + 1), List.map_append]
    split <;> rfl
section
variable {P : Program} {w : World} {K : PySem.W.Frag} {mg : Str → Option Value} {base : Heap} {S CF fI fS C CP fF fK fM fX : Addr}
/-! place -/
def nPl (CP : Addr) : Sp := fun vs H Q _ => ∃ (pp : Addr) (pg z : Str) (ts : List Tr) (ws : List W) (i : Nat) (q : Nat × List (Nat × List V)) (k : W), vs = [.ref pp, .int (i : Nat)] ∧ PageAt CP H pp pg z ts ws ∧ (stTs 0 ts)[i]? = some q ∧ ws[q.1]? = some k ∧ ∀ v H', Same H H' → AtRC H' k v → Q v H'
theorem scPl : FnScope ["self", "k", "start", "_"] ["self", "k"] (defScope (pgm 2)) := ⟨rfl, rfl, rfl, by decide +kernel, rfl, by decide +kernel, by decide +kernel⟩
theorem p_pl (T : TxP K mg CP) (D : Dm K CP "place" "Page.place" (pgm 2)) (M : MP P w K mg base CP 1 "_place_of" (nPO CP)) : MP P w K mg base CP 2 "place" (nPl CP) := by
  obtain ⟨f, fd, F, hm⟩ := D.ex
  refine ⟨f, fd, ["self", "k"], F.ok scPl (fun vs H Q E h => ?_) (fun cdv A0 outer s H vs Q E hr h => ?_), hm, F.binds (ps := ["self", "k"]) fun _ _ _ _ _ _ us hl => match us, hl with | [_, _], _ => rfl⟩
  · obtain ⟨pp, pg, z, ts, ws, i, q, k, rfl, _⟩ := h
    rfl
  obtain ⟨pp, pg, z, ts, ws, i, q, k, rfl, hp, hq, hk, kq⟩ := h
  have hp' := hp
  obtain ⟨dx, vt, wl, st, us, xs, pi⟩ := hp
  refine ⟨_, pss_cons (ps_asg (pe_ix ix_tup (pe_fld (pv 0) rfl) (pv 1) (fun _ _ => rfl)) (pg_tup (by rfl) (pgs_cons (pg_name (i := 2) scPl.nd rfl (Or.inl rfl)) (pgs_cons (pg_name (i := 3) scPl.nd rfl (Or.inl rfl)) pgs_nil)))) <|
    pss_one (ps_ret (pe_mm T.cl M hr (by decide) pass0 (pv 0) (pa_cons (pv 2) pa_nil))), ?_⟩
  obtain ⟨v, hv, p, r, xs2, rfl, g1, g2, g3⟩ := pi.at_.get' hq
  refine ⟨_, rfl, pp, CP, dx, _, _, rfl, pi.ob, T.cl, T.f5, pf_starts, _, rfl, st, _, _, _, rfl, rfl, SqT.of pi.st, atI_nat hv, p, _, rfl, SqT.of g1, rfl, _, _, rfl, _, _, rfl, rfl, ?_⟩
  exact ⟨_, rfl, pp, dx, _, rfl, pi.ob, by kernel_rfl, _, rfl, pp, pg, z, ts, ws, q.1, k, rfl, hp', hk, kq⟩
/-! method_place -/
def nMp (CP : Addr) : Sp := fun vs H Q _ => ∃ (pp : Addr) (pg z : Str) (ts : List Tr) (ws : List W) (i j : Nat) (q : Nat × List (Nat × List V)) (q2 : Nat × List V) (k : W), vs = [.ref pp, .int (i : Nat), .int (j : Nat)] ∧ PageAt CP H pp pg z ts ws ∧ (stTs 0 ts)[i]? = some q ∧ q.2[j]? = some q2 ∧ ws[q2.1]? = some k ∧ ∀ v H', Same H H' → AtRC H' k v → Q v H'
theorem scMp : FnScope ["self", "k", "m", "_", "methods", "start"] ["self", "k", "m"] (defScope (pgm 3)) := ⟨rfl, rfl, rfl, by decide +kernel, rfl, by decide +kernel, by decide +kernel⟩
theorem p_mp (T : TxP K mg CP) (D : Dm K CP "method_place" "Page.method_place" (pgm 3)) (M : MP P w K mg base CP 1 "_place_of" (nPO CP)) : MP P w K mg base CP 2 "method_place" (nMp CP) := by
  obtain ⟨f, fd, F, hm⟩ := D.ex
  refine ⟨f, fd, ["self", "k", "m"], F.ok scMp (fun vs H Q E h => ?_) (fun cdv A0 outer s H vs Q E hr h => ?_), hm, F.binds (ps := ["self", "k", "m"]) fun _ _ _ _ _ _ us hl => match us, hl with | [_, _, _], _ => rfl⟩
  · obtain ⟨pp, pg, z, ts, ws, i, j, q, q2, k, rfl, _⟩ := h
    rfl
  obtain ⟨pp, pg, z, ts, ws, i, j, q, q2, k, rfl, hp, hq, hq2, hk, kq⟩ := h
  have hp' := hp
  obtain ⟨dx, vt, wl, st, us, xs, pi⟩ := hp
  refine ⟨_, pss_cons (ps_asg (pe_ix ix_tup (pe_fld (pv 0) rfl) (pv 1) (fun _ _ => rfl)) (pg_tup (by rfl) (pgs_cons (pg_name (i := 3) scMp.nd rfl (Or.inl rfl)) (pgs_cons (pg_name (i := 4) scMp.nd rfl (Or.inl rfl)) pgs_nil)))) <|
    pss_cons (ps_asg (pe_ix ix_tup (pv 4) (pv 2) (fun _ _ => rfl)) (pg_tup (by rfl) (pgs_cons (pg_name (i := 5) scMp.nd rfl (Or.inl rfl)) (pgs_cons (pg_name (i := 3) scMp.nd rfl (Or.inl rfl)) pgs_nil)))) <|
    pss_one (ps_ret (pe_mm T.cl M hr (by decide) pass0 (pv 0) (pa_cons (pv 5) pa_nil))), ?_⟩
  obtain ⟨v, hv, p, r, xs2, rfl, g1, g2, g3⟩ := pi.at_.get' hq
  obtain ⟨v2, hv2, p2, r2, rfl, g4, g5⟩ := g3.get' hq2
  refine ⟨_, rfl, pp, CP, dx, _, _, rfl, pi.ob, T.cl, T.f5, pf_starts, _, rfl, st, _, _, _, rfl, rfl, SqT.of pi.st, atI_nat hv, p, _, rfl, SqT.of g1, rfl, _, _, rfl, _, _, rfl, rfl, ?_⟩
  refine ⟨_, rfl, _, rfl, r, _, _, _, rfl, rfl, SqT.of g2, atI_nat hv2, p2, _, rfl, SqT.of g4, rfl, _, _, rfl, _, _, rfl, rfl, ?_⟩
  exact ⟨_, rfl, pp, dx, _, rfl, pi.ob, by kernel_rfl, _, rfl, pp, pg, z, ts, ws, q2.1, k, rfl, hp', hk, kq⟩
/-! node_places -/
/-- places in a tuple -/
def AtRCs (H : Hp) (ks : List W) (v : V) : Prop := ∃ p vs, v = .ref p ∧ H p = some (.tup vs) ∧ AtL AtRC H ks vs
theorem AtRC.on {H H' : Hp} (t : Tups H H') {k : W} {v : V} (h : AtRC H k v) : AtRC H' k v := by
  obtain ⟨p, e, h⟩ := h
  exact ⟨p, e, t _ _ h⟩
def nNp (CP : Addr) : Sp := fun vs H Q _ => ∃ (pp : Addr) (pg z : Str) (ts : List Tr) (ws : List W) (i j : Nat) (q : Nat × List (Nat × List V)) (a : Nat) (ns : List Nat) (ks : List W), vs = [.ref pp, .int (i : Nat), .int (j : Nat)] ∧ PageAt CP H pp pg z ts ws ∧ (stTs 0 ts)[i]? = some q ∧ q.2[j]? = some (a, ns.map fun (n : Nat) => V.int (n : Nat)) ∧ ns.length ≤ 100000 ∧
  ns.map (fun n => ws[n]?) = ks.map some ∧ ∀ v H', Same H H' → AtRCs H' ks v → Q v H'
theorem scNp : FnScope ["self", "k", "m", "_", "methods", "nodes", "start"] ["self", "k", "m"] (defScope (pgm 4)) := ⟨rfl, rfl, rfl, by decide +kernel, rfl, by decide +kernel, by decide +kernel⟩
theorem p_np (T : TxP K mg CP) (TS : TxS K mg) (D : Dm K CP "node_places" "Page.node_places" (pgm 4)) (M : MP P w K mg base CP 1 "_place_of" (nPO CP)) : MP P w K mg base CP 2 "node_places" (nNp CP) := by
  obtain ⟨f, fd, F, hm⟩ := D.ex
  refine ⟨f, fd, ["self", "k", "m"], F.ok scNp (fun vs H Q E h => ?_) (fun cdv A0 outer s H vs Q E hr h => ?_), hm, F.binds (ps := ["self", "k", "m"]) fun _ _ _ _ _ _ us hl => match us, hl with | [_, _, _], _ => rfl⟩
  · obtain ⟨pp, pg, z, ts, ws, i, j, q, a, ns, ks, rfl, _⟩ := h
    rfl
  obtain ⟨pp, pg, z, ts, ws, i, j, q, a, ns, ks, rfl, hp, hq, hq2, hnl, hks, kq⟩ := h
  have hp' := hp
  obtain ⟨dx, vt, wl, st, us, xs, pi⟩ := hp
  refine ⟨_, pss_cons (ps_asg (pe_ix ix_tup (pe_fld (pv 0) rfl) (pv 1) (fun _ _ => rfl)) (pg_tup (by rfl) (pgs_cons (pg_name (i := 3) scNp.nd rfl (Or.inl rfl)) (pgs_cons (pg_name (i := 4) scNp.nd rfl (Or.inl rfl)) pgs_nil)))) <|
    pss_cons (ps_asg (pe_ix ix_tup (pv 4) (pv 2) (fun _ _ => rfl)) (pg_tup (by rfl) (pgs_cons (pg_name (i := 3) scNp.nd rfl (Or.inl rfl)) (pgs_cons (pg_name (i := 5) scNp.nd rfl (Or.inl rfl)) pgs_nil)))) <|
    pss_one (ps_ret (pe_callTy call_tuple_of (by rfl) TS.tup (by decide +kernel) (pa_cons (pe_lc (own := [("start", 6)]) (g := gName 6) (tt := tYes) rfl scNp.nd (pi_tup (pv 5))
      (blkOk_by (own := [("start", 6)]) (N := ["self", "k", "m", "_", "methods", "nodes", "start"]) (sc := defScope (pgm 4)) (by decide +kernel)) (fun _ _ _ _ _ => pg_name (i := 6) scNp.nd rfl (Or.inl rfl)) (fun _ _ _ _ _ => pts_nil)
      (fun _ _ _ _ _ => pe_mm T.cl M hr (by decide) pass0 (pv 0) (pa_cons (pv 6) pa_nil))) pa_nil))), ?_⟩
  obtain ⟨v, hv, p, r, xs2, rfl, g1, g2, g3⟩ := pi.at_.get' hq
  obtain ⟨v2, hv2, p2, r2, rfl, g4, g5⟩ := g3.get' hq2
  refine ⟨_, rfl, pp, CP, dx, _, _, rfl, pi.ob, T.cl, T.f5, pf_starts, _, rfl, st, _, _, _, rfl, rfl, SqT.of pi.st, atI_nat hv, p, _, rfl, SqT.of g1, rfl, _, _, rfl, _, _, rfl, rfl, ?_⟩
  refine ⟨_, rfl, _, rfl, r, _, _, _, rfl, rfl, SqT.of g2, atI_nat hv2, p2, _, rfl, SqT.of g4, rfl, _, _, rfl, _, _, rfl, rfl, ?_⟩
  have hlk : ks.length = ns.length := by
    have := congrArg List.length hks
    rw [List.length_map, List.length_map] at this
    exact this.symm
  refine ⟨_, rfl, r2, rfl, ⟨_, SqT.of g5⟩, fun D0 hD0 => ?_⟩
  refine lc_tup (K := K) (a := r2) (xs := ns.map fun (n : Nat) => V.int (n : Nat)) (fun i H1 => Same H H1 ∧ ∃ vs, H1 D0 = some (.lst vs) ∧ AtL AtRC H1 (ks.take i) vs) ⟨same_new hD0 _, [], upd_same, rfl⟩ (fun i H1 _ h1 => SqT.of (h1.1 _ _ g5)) ?_ ?_
  · rintro i v H1 hv ⟨s1, vs, h1, h2⟩
    rw [List.getElem?_map] at hv
    cases e : ns[i]? with
    | none => rw [e] at hv; cases hv
    | some n =>
      rw [e] at hv
      obtain rfl := Option.some.inj hv
      have hi : i < ns.length := (List.getElem?_eq_some_iff.mp e).1
      have e2 := congrArg (fun l => l[i]?) hks
      simp only [List.getElem?_map, e, Option.map_some] at e2
      have hik : i < ks.length := by omega
      have e3 : ks[i]? = some ks[i] := List.getElem?_eq_getElem hik
      rw [e3] at e2
      have e4 : ws[n]? = some ks[i] := by
        have := Option.some.inj e2
        exact this
      have et : ks.take (i + 1) = ks.take i ++ [ks[i]] := by rw [List.take_add_one, e3]; rfl
      refine ⟨rfl, ?_⟩
      unfold tYes
      refine iteT ?_
      refine ⟨_, rfl, pp, dx, _, rfl, s1 _ _ pi.ob, by kernel_rfl, _, rfl, pp, pg, z, ts, ws, n, ks[i], rfl, hp'.same s1, e4, fun v2 H2 s2 hv2 => ?_⟩
      have hl2 : vs.length ≤ ns.length := by
        rw [h2.len, List.length_take]
        omega
      have t2 := tups_lst (ys := vs ++ [v2]) (s2 _ _ h1)
      refine ⟨vs, s2 _ _ h1, by rw [sizeLine_eq]; omega, ?_, vs ++ [v2], upd_same, ?_⟩
      · intro b u h
        rw [upd_ne (ne_of_none h hD0)]
        exact s2 _ _ (s1 _ _ h)
      · rw [et]
        exact (AtL.on t2 (fun _ _ h => h.on t2) (AtL.on (same_tups s2) (fun _ _ h => h.on (same_tups s2)) h2)).snoc (hv2.on t2)
  · rintro H1 ⟨s1, vs, h1, h2⟩
    have e : (ns.map fun (n : Nat) => V.int (n : Nat)).length = ks.length := by rw [List.length_map, hlk]
    rw [e, List.take_length] at h2
    refine ⟨D0, vs, rfl, .inl ⟨SqL.of h1, fun tp htp => ?_⟩⟩
    have t3 := tups_new htp (.tup vs)
    exact kq _ _ (s1.trans (same_new htp _)) ⟨tp, vs, rfl, upd_same, AtL.on t3 (fun _ _ h => h.on t3) h2⟩
/-! __str__ -/
def nStr (CP : Addr) : Sp := fun vs H Q _ => ∃ (pp : Addr) (pg z : Str) (ts : List Tr) (ws : List W), vs = [.ref pp] ∧ PageAt CP H pp pg z ts ws ∧ Q (.str z) H
theorem scStr : FnScope ["self"] ["self"] (defScope (pgm 5)) := ⟨rfl, rfl, rfl, by decide +kernel, rfl, by decide +kernel, by decide +kernel⟩
theorem p_str (T : TxP K mg CP) (TS : TxS K mg) {f : Addr} {fd : FuncData} (F : Fun K "__str__" "Page.__str__" (pgm 5) f fd) : FnOk P w K mg base CX0 1 f fd ["self"] (nStr CP) := by
  refine F.ok scStr (fun vs H Q E h => ?_) (fun cdv A0 outer s H vs Q E hr h => ?_)
  · obtain ⟨pp, pg, z, ts, ws, rfl, _⟩ := h
    rfl
  obtain ⟨pp, pg, z, ts, ws, rfl, hp, kq⟩ := h
  obtain ⟨dx, vt, wl, st, us, xs, pi⟩ := hp
  refine ⟨_, pss_one (ps_ret (pe_callTy SkE.call_str_str (by rfl) TS.str (by decide +kernel) (pa_cons (pe_fld (pv 0) rfl) pa_nil))), ?_⟩
  exact ⟨_, rfl, pp, CP, dx, _, _, rfl, pi.ob, T.cl, T.f2, pf_text, z, rfl, kq⟩
/-! __eq__ -/
def nEq (CP : Addr) : Sp := fun vs H Q _ => (∃ (pp qq : Addr) (pg z pg' z' : Str) (ts ts' : List Tr) (ws ws' : List W), vs = [.ref pp, .ref qq] ∧ PageAt CP H pp pg z ts ws ∧ PageAt CP H qq pg' z' ts' ws' ∧ Q (.bl (decide (pg = pg') && decide (z = z'))) H) ∨ (∃ (pp : Addr) (pg z u : Str) (ts : List Tr) (ws : List W), vs = [.ref pp, .str u] ∧ PageAt CP H pp pg z ts ws ∧ Q (.bl false) H)
theorem scEq : FnScope ["self", "other"] ["self", "other"] (defScope (pgm 6)) := ⟨rfl, rfl, rfl, by decide +kernel, rfl, by decide +kernel, by decide +kernel⟩
theorem p_eq (T : TxP K mg CP) (IC : C8.InsC K CP) (hk0 : PySem.W.kitOne K (.type "str") (.ref CP) = some false) (gI : mg "isinstance" = none) (gP : mg "Page" = some (.ref CP)) {f : Addr} {fd : FuncData} (F : Fun K "__eq__" "Page.__eq__" (pgm 6) f fd) : FnOk P w K mg base CX0 1 f fd ["self", "other"] (nEq CP) := by
  refine F.ok scEq (fun vs H Q E h => ?_) (fun cdv A0 outer s H vs Q E hr h => ?_)
  · rcases h with ⟨pp, qq, pg, z, pg', z', ts, ts', ws, ws', rfl, _⟩ | ⟨pp, pg, z, u, ts, ws, rfl, _⟩ <;> rfl
  refine ⟨_, pss_one (ps_ret (pe_and (pe_callB call_isi (by rfl) gI (by decide +kernel) (pa_cons (pv 1) (pa_cons (pe_glob (v := .ref CP) (by rfl) gP rfl) pa_nil))) (pe_and (pe_cmpR op_eq (pe_fld (pv 0) rfl) (pe_fld (pv 1) rfl) (nomark _)) (pe_one (pe_cmpR op_eq (pe_fld (pv 0) rfl) (pe_fld (pv 1) rfl) (nomark _)))))), ?_⟩
  rcases h with ⟨pp, qq, pg, z, pg', z', ts, ts', ws, ws', rfl, hp, hq, kq⟩ | ⟨pp, pg, z, u, ts, ws, rfl, hp, kq⟩
  · obtain ⟨dx, vt, wl, st, us, xs, pi⟩ := hp
    obtain ⟨dy, vt', wl', st', us', xs', qi⟩ := hq
    refine ⟨_, rfl, .ref qq, .ref CP, _, _, true, rfl, .own CP, .base (TyOf.ins qi.ob IC.cl IC.ha IC.hn IC.htk IC.hm), IC.me, _, rfl, ?_⟩
    refine iteT ?_
    refine ⟨_, rfl, pp, CP, dx, _, _, rfl, pi.ob, T.cl, T.f1, pf_name, _, rfl, qq, CP, dy, _, _, rfl, qi.ob, T.cl, T.f1, pf_name, rfl, _, rfl, ?_⟩
    rw [dec_str]
    refine ite2 (fun c => ?_) (fun c => ?_)
    · refine ⟨_, rfl, pp, CP, dx, _, _, rfl, pi.ob, T.cl, T.f2, pf_text, _, rfl, qq, CP, dy, _, _, rfl, qi.ob, T.cl, T.f2, pf_text, rfl, ?_⟩
      rw [c, Bool.true_and] at kq
      rw [dec_str]
      exact kq
    · have c1 : decide (pg = pg') = false := by simpa using c
      rw [c1, Bool.false_and] at kq
      exact kq
  · refine ⟨_, rfl, .str u, .ref CP, _, _, false, rfl, .own CP, .base (.str u), hk0, _, rfl, ?_⟩
    exact iteF kq
end
end My
set_option Elab.async false
set_option linter.all false
set_option maxRecDepth 100000
set_option maxHeartbeats 4000000
namespace My
open PySem L2 SS
theorem rep1 (s : String) (c : Nat) (h : (Str.ofString s).cps.toList = [c]) (n : Int) : repS (Str.ofString s) n = mk (List.replicate n.toNat c) := by
  unfold repS
  rw [h]
  congr 2
  induction n.toNat with
  | zero => rfl
  | succ k ih => rw [List.replicate_succ, List.flatten_cons, ih, List.replicate_succ]; rfl
theorem rep_blank (n : Int) : repS (Str.ofString " ") n = mk (List.replicate n.toNat 32) := rep1 " " 32 (by decide +kernel) n
theorem rep_nl (n : Int) : repS (Str.ofString "\n") n = mk (List.replicate n.toNat 10) := rep1 "\n" 10 (by decide +kernel) n
theorem rows_len {ws : List T} {k : Nat} {done : List T} {cur : T} {ks : List W} {u : Nat} (h : Rows_ ws k done cur ks u) (hw : wtl ws ≤ 12000) : done.length ≤ 256 ∧ cur.length ≤ 120 ∧ (TL.joinL [10] (done ++ [cur])).length ≤ 40000 := by
  have h1 := h.us
  have h2 := h.rw
  have h3 := wtl_take_le ws k
  have h4 := (h.row cur (by simp)).1
  have h5 := joinL_len (y := [10]) (by decide) (m := 120) (done ++ [cur]) (fun l hl => (h.row l hl).1)
  rw [List.length_append] at h5
  simp only [List.length_cons, List.length_nil] at h5
  have h6 : done.length ≤ 256 := by omega
  have h7 : (done.length + 1) * (120 + 1) ≤ 257 * 121 := Nat.mul_le_mul (by omega) (Nat.le_refl _)
  exact ⟨h6, h4, by omega⟩
theorem tl_add_ (a b : Str) : tl (a ++ b) = tl a ++ tl b := by
  show (a.cps ++ b.cps).toList = _
  simp
section
variable {P : Program} {w : World} {K : PySem.W.Frag} {mg : Str → Option Value} {base : Heap}
def spLaid : Sp := fun vs H Q _ => ∃ (wl p l : Addr) (a : Nat) (b : Int) (xs : List Int) (ws : List T), vs = [.ref wl, .ref p] ∧ H wl = some (.lst (wsV ws)) ∧ (∀ w ∈ ws, LayW w) ∧ wtl ws ≤ 12000 ∧ DeckAt H p l a b xs ∧ a + ws.length ≤ 9990 ∧
  ∀ (z : Str) (rs : List Str) (ks : List W) (q sl : Addr) (us : List V) (H' : Hp), SB p H H' → DeckAt H' p l (a + ws.length + 1) b xs → H' q = some (.tup [.str z, .ref sl]) → H' sl = some (.lst us) → AtL AtRC H' ks us → LaidOk z rs ks 290 → ks.map (·.1) = ws → Q (.ref q) H'
theorem scLaid : FnScope ["_law_words", "_law_deck_here", "_law_text", "_law_row", "_law_column", "_law_spots", "_law_k", "_law_draw", "_law_word_here", "_law_glued", "_law_gap", "_law_many"] ["_law_words", "_law_deck_here"] (defScope sLaid) := ⟨rfl, rfl, rfl, by decide +kernel, rfl, by decide +kernel, by decide +kernel⟩
/-- a turn ahead of a word -/
def LdInv (H0 : Hp) (wl p l sl : Addr) (a : Nat) (b : Int) (xs : List Int) (ws : List T) (k : Nat) (σ : L2.St) (H : Hp) : Prop :=
  ∃ (done : List T) (cur : T) (ks : List W) (u : Nat) (us : List V) (z : Str) (v6 v7 v8 v9 v10 v11 : Option V), σ = [some (.ref wl), some (.ref p), some (.str z), some (.int ((done.length + 1 : Nat) : Nat)), some (.int ((cur.length + 1 : Nat) : Nat)), some (.ref sl), v6, v7, v8, v9, v10, v11] ∧
    tl z = TL.joinL [10] (done ++ [cur]) ∧ Rows_ ws k done cur ks u ∧ SB p H0 H ∧ DeckAt H p l (a + k) b xs ∧ H sl = some (.lst us) ∧ AtL AtRC H ks us ∧ H wl = some (.lst (wsV ws))
set_option maxHeartbeats 8000000 in
theorem c_laid (TS : TxS K mg) (T0 : TxL mg) (D : Dn K mg "_law_laid" sLaid) (GN : C0 P w K mg base 1 "_law_next" spNext) : C0 P w K mg base 2 "_law_laid" spLaid := by
  obtain ⟨f, fd, F, m⟩ := D.ex
  refine ⟨f, fd, ["_law_words", "_law_deck_here"], F.ok scLaid (fun vs H Q E h => ?_) (fun cdv A outer s H vs Q E hr h => ?_), m, F.kp, F.binds (ps := ["_law_words", "_law_deck_here"]) fun _ _ _ _ _ _ us hl => match us, hl with | [_, _], _ => rfl⟩
  · obtain ⟨wl, p, l, a, b, xs, ws, rfl, _⟩ := h
    rfl
  obtain ⟨wl, p, l, a, b, xs, ws, rfl, hwl, hlw, hwt, hd, ha, kq⟩ := h
  refine ⟨_, pss_cons (ps_set (i := 2) scLaid.nd rfl (Or.inl rfl) pe_str) <| pss_cons (ps_set (i := 3) scLaid.nd rfl (Or.inl rfl) pe_int) <| pss_cons (ps_set (i := 4) scLaid.nd rfl (Or.inl rfl) pe_int) <| pss_cons (ps_set (i := 5) scLaid.nd rfl (Or.inl rfl) (pe_lst pa_nil)) <|
    pss_cons (ps_for PassesOwn.never rfl (pi_range1 rfl T0.range (pa_cons (pe_callB call_len_seq (by rfl) TS.len PySem.boot_len (pa_cons (pv 0) pa_nil)) pa_nil)) (pg_name (i := 6) scLaid.nd rfl (Or.inl rfl)) <|
      pss_cons (ps_set (i := 7) scLaid.nd rfl (Or.inl rfl) (pe_cc GN hr (by decide) pass0 (pa_cons (pv 1) pa_nil))) <|
      pss_cons (ps_set (i := 8) scLaid.nd rfl (Or.inl rfl) (pe_ix ix_list (pv 0) (pv 6) (fun _ _ => rfl))) <|
      C8.pss_cut (ps_set (i := 9) scLaid.nd rfl (Or.inl rfl) (pe_and (pe_cmpR op_gt (pv 6) pe_int (nomark _)) (pe_one (pe_or (pe_cmpR op_in_str (pv 8) pe_str (by rfl)) (pe_one (pe_cmpR op_in_str (pe_ix ix_list (pv 0) (pe_op op_sub (pv 6) pe_int) (fun _ _ => rfl)) pe_str (by rfl))))))) <|
      pss_cons (ps_set (i := 10) scLaid.nd rfl (Or.inl rfl) (pe_op op_mul_str pe_str (pe_op op_add pe_int (pe_op op_mod (pv 7) pe_int)))) <|
      C8.pss_cut (ps_if (PW.pt (pw_or (PW.pt (pw_and (pt_val (pv 9)) (pw_and1 (pt_cmpR op_eq (pe_op op_mod (pv 7) pe_int) pe_int (nomark _))))) (pw_or1 (PW.pt (pw_and (pt_cmpR op_eq (pv 6) pe_int (nomark _)) (pw_and1 (pt_cmpR op_gt (pe_op op_mod (pv 7) pe_int) pe_int (nomark _)))))))) (pss_one (ps_set (i := 10) scLaid.nd rfl (Or.inl rfl) pe_str)) pss_nil) <|
      pss_cons (ps_set (i := 11) scLaid.nd rfl (Or.inl rfl) (pe_op op_add pe_int (pe_op op_mul (pe_callTy call_int1 (by rfl) TS.int (by decide +kernel) (pa_cons (pe_cmpR op_lt (pv 3) pe_int (nomark _)) pa_nil)) (pe_op op_mod (pe_op op_fdiv (pv 7) pe_int) pe_int)))) <|
      C8.pss_cut (ps_if (PW.pt (pw_or (PW.pt (pw_and (pt_cmpR op_eq (pe_op op_mod (pe_op op_fdiv (pv 7) pe_int) pe_int) pe_int (nomark _)) (pw_and1 (pt_cmpR op_lt (pv 3) pe_int (nomark _))))) (pw_or1 (pt_cmpR op_gt (pe_op op_add (pe_op op_add (pv 4) (pe_callB call_len_str (by rfl) TS.len PySem.boot_len (pa_cons (pv 10) pa_nil))) (pe_callB call_len_str (by rfl) TS.len PySem.boot_len (pa_cons (pv 8) pa_nil))) pe_int (nomark _)))))
        (pss_cons (ps_set (i := 2) scLaid.nd rfl (Or.inl rfl) (pe_op op_add_str (pv 2) (pe_op op_mul_str pe_str (pv 11)))) <| pss_cons (ps_set (i := 3) scLaid.nd rfl (Or.inl rfl) (pe_op op_add (pv 3) (pv 11))) <| pss_cons (ps_set (i := 4) scLaid.nd rfl (Or.inl rfl) pe_int) <| pss_one (ps_set (i := 10) scLaid.nd rfl (Or.inl rfl) (pe_op op_mul_str pe_str (pe_op op_mod (pe_op op_fdiv (pv 7) pe_int) pe_int)))) pss_nil) <|
      pss_cons (ps_set (i := 2) scLaid.nd rfl (Or.inl rfl) (pe_op op_add_str (pe_op op_add_str (pv 2) (pv 10)) (pv 8))) <|
      pss_cons (ps_expr (pe_bm PySem.F.plainAttrs_list PySem.F.slot_list_append PySem.F.type_list_append mt_append (pv 5) (pa_cons (pe_tup (pa_cons (pv 3) (pa_cons (pe_op op_add (pv 4) (pe_callB call_len_str (by rfl) TS.len PySem.boot_len (pa_cons (pv 10) pa_nil))) pa_nil))) pa_nil))) <|
      pss_one (ps_set (i := 4) scLaid.nd rfl (Or.inl rfl) (pe_op op_add (pe_op op_add (pv 4) (pe_callB call_len_str (by rfl) TS.len PySem.boot_len (pa_cons (pv 10) pa_nil))) (pe_callB call_len_str (by rfl) TS.len PySem.boot_len (pa_cons (pv 8) pa_nil))))) <|
    pss_one (ps_ret (pe_tup (pa_cons (pe_op op_add_str (pv 2) (pe_ix ix_list (pe_lst (pa_cons pe_str (pa_cons pe_str (pa_cons pe_str (pa_cons pe_str pa_nil))))) (pe_op op_mod (pe_cc GN hr (by decide) pass0 (pa_cons (pv 1) pa_nil)) pe_int) (fun _ _ => rfl))) (pa_cons (pv 5) pa_nil)))), ?_⟩
  refine ⟨Nat.zero_le _, fun sl hsl => ?_⟩
  have hsn := hd.ne hsl
  have hswl : sl ≠ wl := fun e => by rw [e, hwl] at hsl; cases hsl
  have hpwl : wl ≠ p := fun e => by
    have := hd.1
    rw [← e, hwl] at this
    have h2 := Option.some.inj this
    injection h2 with h3
    unfold wsV at h3
    cases ws with
    | nil => cases h3
    | cons y r => injection h3 with h4 _; cases h4
  have hwll : (wsV ws).length = ws.length := List.length_map _
  have hwsl : ws.length ≤ 4000 := by
    have : 3 * ws.length ≤ wtl ws := by
      unfold wtl
      clear hwl hlw hwt ha kq hpwl hwll
      induction ws with
      | nil => exact Nat.le_refl _
      | cons y r ih => rw [List.map_cons, List.sum_cons, List.length_cons]; omega
    omega
  have s1 := same_new hsl (.lst [])
  have w1 := s1 _ _ hwl
  have d1 := hd.new hsl (.lst [])
  have e1 : upd H sl (.lst []) sl = some (.lst []) := upd_same
  generalize upd H sl (.lst []) = H1 at s1 w1 d1 e1 ⊢
  refine ⟨_, rfl, wl, _, rfl, .inl (SqL.of w1), ((ws.length : Nat) : Int), by rw [hwll], by omega, by omega, ?_⟩
  refine for_range (lo := 0) (n := ((ws.length : Nat) : Int).toNat) (fun k σ H2 => LdInv H wl p l sl a b xs ws k σ H2)
    ⟨[], [], [], 0, [], _, none, none, none, none, none, none, rfl, by decide +kernel, ⟨rfl, rfl, fun w h => by omega, fun _ => ⟨rfl, rfl⟩, fun l hl => by
      have : l = [] := by simpa using hl
      rw [this]; exact ⟨by decide, by decide⟩, Nat.zero_le _, by decide⟩, SB.same s1, d1, e1, rfl, w1⟩ ?_ ?_
  · rintro k σ H2 hk ⟨done, cur, ks, u, us, z, v6, v7, v8, v9, v10, v11, rfl, hz, hR, s2, d2, e2, at2, w2⟩
    have hk' : k < ws.length := by omega
    have hkw : ws[k]? = some ws[k] := List.getElem?_eq_getElem hk'
    generalize hwd : ws[k] = wd at hkw
    have lw := hlw wd (List.mem_of_getElem? hkw)
    have ek : (0 : Int) + ((k : Nat) : Int) = ((k : Nat) : Int) := by omega
    rw [ek]
    obtain ⟨hdl, hcl, hzl⟩ := rows_len hR hwt
    refine ⟨_, rfl, p, l, a + k, b, xs, rfl, d2, by omega, fun dr hdr d3 => ?_⟩
    have s3 : SB p H2 (upd H2 p (.lst [.int ((a + k + 1 : Nat) : Int), .ref l, .int b])) := SB.upd _
    have w3 : upd H2 p (.lst [.int ((a + k + 1 : Nat) : Int), .ref l, .int b]) wl = some (.lst (wsV ws)) := by rw [upd_ne hpwl]; exact w2
    have e3 : upd H2 p (.lst [.int ((a + k + 1 : Nat) : Int), .ref l, .int b]) sl = some (.lst us) := by rw [upd_ne hsn.1]; exact e2
    have t3 : Tups H2 (upd H2 p (.lst [.int ((a + k + 1 : Nat) : Int), .ref l, .int b])) := tups_lst d2.1
    generalize upd H2 p (.lst [.int ((a + k + 1 : Nat) : Int), .ref l, .int b]) = H3 at d3 s3 w3 e3 t3 ⊢
    have at3 := AtL.on t3 (fun _ _ h => h.on t3) at2
    have hat : atI (wsV ws) ((k : Nat) : Int) = some (.str (mk wd)) := atI_nat (by unfold wsV; rw [List.getElem?_map, hkw]; rfl)
    refine ⟨_, rfl, _, rfl, wl, _, _, _, rfl, rfl, SqL.of w3, hat, ?_⟩
    have hkl : ∀ y, ws[k - 1]? = some y → atI (wsV ws) (((k : Nat) : Int) - 1) = some (.str (mk y)) ∨ k = 0 := fun y hy => by
      by_cases h0 : k = 0
      · exact .inr h0
      · refine .inl ?_
        rw [show ((k : Nat) : Int) - 1 = ((k - 1 : Nat) : Int) by omega]
        exact atI_nat (by unfold wsV; rw [List.getElem?_map, hy]; rfl)
    -- glued
    refine ⟨fun σ' H' => H' = H3 ∧ ∃ g : Bool, (g = true → Br1 wd ∨ ∃ y, ws[k - 1]? = some y ∧ Br1 y) ∧ σ' = [some (.ref wl), some (.ref p), some (.str z), some (.int ((done.length + 1 : Nat) : Nat)), some (.int ((cur.length + 1 : Nat) : Nat)), some (.ref sl), some (.int (k : Nat)), some (.int dr), some (.str (mk wd)), some (.bl g), v10, v11], ?_, ?_⟩
    · refine ⟨_, rfl, _, _, rfl, rfl, _, rfl, ?_⟩
      refine ite2 (fun c => ?_) (fun c => ?_)
      · have hk0 : 0 < k := by have := of_decide_eq_true c; omega
        refine ⟨_, rfl, _, _, rfl, rfl, _, rfl, ?_⟩
        refine ite2 (fun c1 => ?_) (fun c1 => ?_)
        · exact ⟨rfl, true, fun _ => .inl (layW_br lw c1), rfl⟩
        · have hk1 : k - 1 < ws.length := by omega
          have hy : ws[k - 1]? = some ws[k - 1] := List.getElem?_eq_getElem hk1
          generalize ws[k - 1] = y at hy
          rcases hkl y hy with hy2 | hy2
          · refine ⟨_, rfl, _, rfl, _, _, rfl, rfl, wl, _, _, _, rfl, rfl, SqL.of w3, hy2, _, _, rfl, rfl, ?_⟩
            exact ⟨rfl, _, fun q => .inr ⟨y, hy, layW_br (hlw y (List.mem_of_getElem? hy)) q⟩, rfl⟩
          · omega
      · exact ⟨rfl, false, fun q => (nomatch q), rfl⟩
    rintro σ' H' ⟨rfl, g, hg, rfl⟩
    have m3 : 0 ≤ dr % 3 ∧ dr % 3 < 3 := ⟨Int.emod_nonneg _ (by decide), Int.emod_lt_of_pos _ (by decide)⟩
    refine ⟨_, rfl, _, _, rfl, rfl, (by show (0 : Int) < 3; decide), _, _, rfl, rfl, _, _, rfl, rfl, by omega, by omega, by decide +kernel, by decide +kernel, ?_⟩
    rw [rep_blank]
    -- the gap
    refine ⟨fun σ' H'' => H'' = H' ∧ ∃ n : Nat, n ≤ 3 ∧ (0 < n ∨ k = 0 ∨ Br1 wd ∨ ∃ y, ws[k - 1]? = some y ∧ Br1 y) ∧ σ' = [some (.ref wl), some (.ref p), some (.str z), some (.int ((done.length + 1 : Nat) : Nat)), some (.int ((cur.length + 1 : Nat) : Nat)), some (.ref sl), some (.int (k : Nat)), some (.int dr), some (.str (mk wd)), some (.bl g), some (.str (mk (List.replicate n 32))), v11], ?_, ?_⟩
    · have e0 : mk (List.replicate 0 32) = Str.ofString "" := by decide +kernel
      have no : ∃ n : Nat, n ≤ 3 ∧ (0 < n ∨ k = 0 ∨ Br1 wd ∨ ∃ y, ws[k - 1]? = some y ∧ Br1 y) ∧ [some (V.ref wl), some (.ref p), some (.str z), some (.int ((done.length + 1 : Nat) : Nat)), some (.int ((cur.length + 1 : Nat) : Nat)), some (.ref sl), some (.int (k : Nat)), some (.int dr), some (.str (mk wd)), some (.bl g), some (.str (mk (List.replicate (1 + dr % 3).toNat 32))), v11] = [some (.ref wl), some (.ref p), some (.str z), some (.int ((done.length + 1 : Nat) : Nat)), some (.int ((cur.length + 1 : Nat) : Nat)), some (.ref sl), some (.int (k : Nat)), some (.int dr), some (.str (mk wd)), some (.bl g), some (.str (mk (List.replicate n 32))), v11] := ⟨(1 + dr % 3).toNat, by omega, .inl (by omega), rfl⟩
      have second : (k = 0 ∨ g = true → True) → True := fun _ => trivial
      refine ⟨_, rfl, _, rfl, ?_⟩
      have tst : ∀ (Z : Prop), Z → Z := fun _ z => z
      cases g with
      | true =>
        refine iteT ?_
        refine ⟨_, rfl, _, _, rfl, rfl, (by show (0 : Int) < 2; decide), rfl, _, rfl, ?_⟩
        refine ite2 (fun c => ?_) (fun c => ?_)
        · refine iteT ?_
          exact ⟨rfl, 0, by decide, .inr (.inr (hg rfl)), by rw [e0]; rfl⟩
        · refine ⟨_, rfl, rfl, _, rfl, ?_⟩
          refine ite2 (fun c2 => ?_) (fun c2 => ?_)
          · have hk0 : k = 0 := by have := of_decide_eq_true c2; injection this with this; omega
            refine ⟨_, rfl, _, _, rfl, rfl, (by show (0 : Int) < 4; decide), _, _, rfl, rfl, _, rfl, ?_⟩
            refine ite2 (fun c3 => ?_) (fun c3 => ?_)
            · exact ⟨rfl, 0, by decide, .inr (.inl hk0), by rw [e0]; rfl⟩
            · exact ⟨rfl, no⟩
          · exact iteF ⟨rfl, no⟩
      | false =>
        refine iteF ?_
        refine iteF ?_
        refine ⟨_, rfl, rfl, _, rfl, ?_⟩
        refine ite2 (fun c2 => ?_) (fun c2 => ?_)
        · have hk0 : k = 0 := by have := of_decide_eq_true c2; injection this with this; omega
          refine ⟨_, rfl, _, _, rfl, rfl, (by show (0 : Int) < 4; decide), _, _, rfl, rfl, _, rfl, ?_⟩
          refine ite2 (fun c3 => ?_) (fun c3 => ?_)
          · exact ⟨rfl, 0, by decide, .inr (.inl hk0), by rw [e0]; rfl⟩
          · exact ⟨rfl, no⟩
        · exact iteF ⟨rfl, no⟩
    rintro σ' H'' ⟨rfl, n, hn, hgap, rfl⟩
    have m30 := Int.emod_nonneg (dr / 30) (show (2 : Int) ≠ 0 by decide)
    have m31 := Int.emod_lt_of_pos (dr / 30) (show (0 : Int) < 2 by decide)
    refine ⟨_, rfl, _, _, rfl, rfl, .inr ⟨_, rfl, _, rfl, _, _, rfl, rfl, ⟨by decide, by decide⟩, _, _, rfl, rfl, (by show (0 : Int) < 2; decide), _, _, rfl, rfl, .inl ⟨by split <;> decide, by split <;> decide⟩, _, _, rfl, rfl, ?_⟩⟩
    obtain ⟨mm, hmm, hm12, hm2⟩ : ∃ mm : Nat, (1 : Int) + (if decide ((((done.length + 1 : Nat) : Nat) : Int) < 100) = true then 1 else 0) * (dr / 30 % 2) = ((mm : Nat) : Int) ∧ (mm = 1 ∨ mm = 2) ∧ (mm = 2 → done.length + 1 < 100) := by
      by_cases c : (((done.length + 1 : Nat) : Nat) : Int) < 100
      · rw [decide_eq_true c, if_pos rfl, Int.one_mul]
        rcases (show dr / 30 % 2 = 0 ∨ dr / 30 % 2 = 1 by omega) with h | h
        · exact ⟨1, by rw [h]; rfl, .inl rfl, fun q => by omega⟩
        · exact ⟨2, by rw [h]; rfl, .inr rfl, fun _ => by omega⟩
      · rw [decide_eq_false c, if_neg (by decide), Int.zero_mul]
        exact ⟨1, rfl, .inl rfl, fun q => by omega⟩
    show gName 11 (V.int (1 + (if decide ((((done.length + 1 : Nat) : Nat) : Int) < 100) = true then 1 else 0) * (dr / 30 % 2))) _ _ _
    rw [hmm]
    have hcurl := (hR.row cur (by simp)).1
    have hnl : (mk (List.replicate n 32)).length = n := by rw [mk_len, List.length_replicate]
    have hwl2 : (mk wd).length = wd.length := mk_len wd
    have hln41 := lw.ln
    have hzl2 : z.length ≤ 40000 := by rw [← len_tl, hz]; exact hzl
    -- the row
    refine ⟨fun σ' H3 => H3 = H'' ∧ ∃ (R : List T) (c : T) (n' : Nat) (z' : Str), n' ≤ 3 ∧ tl z' = TL.joinL [10] (R ++ [c]) ∧ σ' = [some (.ref wl), some (.ref p), some (.str z'), some (.int ((R.length + 1 : Nat) : Nat)), some (.int ((c.length + 1 : Nat) : Nat)), some (.ref sl), some (.int (k : Nat)), some (.int dr), some (.str (mk wd)), some (.bl g), some (.str (mk (List.replicate n' 32))), some (.int (mm : Nat))] ∧
      ∃ u', Rows_ ws (k + 1) R (c ++ (List.replicate n' 32 ++ wd)) (ks ++ [(wd, R.length + 1, c.length + n' + 1)]) u', ?_, ?_⟩
    · have m60 := Int.emod_nonneg (dr / 60) (show (4 : Int) ≠ 0 by decide)
      have m61 := Int.emod_lt_of_pos (dr / 60) (show (0 : Int) < 4 by decide)
      have m62 : dr / 60 % 4 ≤ 1000 := by omega
      have hmk : ((mm : Nat) : Int) ≤ 1000 := by omega
      have hrl : z.length + (repS (Str.ofString "\n") ((mm : Nat) : Int)).length ≤ sizeLine := by
        rw [rep_nl, mk_len (List.replicate _ 10), List.length_replicate, sizeLine_eq]
        omega
      have fin : (done.length + 1 < 100 ∨ (mm = 1 ∧ 77 ≤ cur.length)) → ∃ (R : List T) (c : T) (n' : Nat) (z' : Str), n' ≤ 3 ∧ tl z' = TL.joinL [10] (R ++ [c]) ∧ [some (V.ref wl), some (.ref p), some (.str (z ++ mk (List.replicate mm 10))), some (.int (((done.length + 1 : Nat) : Int) + ((mm : Nat) : Int))), some (.int 1), some (.ref sl), some (.int (k : Nat)), some (.int dr), some (.str (mk wd)), some (.bl g), some (.str (mk (List.replicate (dr / 60 % 4).toNat 32))), some (.int (mm : Nat))] = [some (.ref wl), some (.ref p), some (.str z'), some (.int ((R.length + 1 : Nat) : Nat)), some (.int ((c.length + 1 : Nat) : Nat)), some (.ref sl), some (.int (k : Nat)), some (.int dr), some (.str (mk wd)), some (.bl g), some (.str (mk (List.replicate n' 32))), some (.int (mm : Nat))] ∧
          ∃ u', Rows_ ws (k + 1) R (c ++ (List.replicate n' 32 ++ wd)) (ks ++ [(wd, R.length + 1, c.length + n' + 1)]) u' := fun hc => by
        have hdl2 : (done ++ cur :: List.replicate (mm - 1) []).length = done.length + mm := by
          rcases hm12 with h | h <;> (rw [h]; simp)
        have hN := hR.nl hkw lw (n := (dr / 60 % 4).toNat) (m := mm) (by omega) hm12 hc
        refine ⟨done ++ cur :: List.replicate (mm - 1) [], [], (dr / 60 % 4).toNat, z ++ mk (List.replicate mm 10), by omega, ?_, ?_, u + cur.length, ?_⟩
        · have e1 : tl (z ++ mk (List.replicate mm 10)) = tl z ++ List.replicate mm 10 := tl_add_ z _
          rw [e1, hz]
          have e2 := joinL_nl (done ++ [cur]) (by simp) (mm - 1)
          rw [show mm - 1 + 1 = mm by omega] at e2
          rw [e2]
          simp
        · rw [hdl2, show ((done.length + 1 : Nat) : Int) + ((mm : Nat) : Int) = ((done.length + mm + 1 : Nat) : Int) by omega]
          rfl
        · rw [hdl2, List.nil_append, show done.length + mm + 1 = done.length + 1 + mm by omega]
          rw [show ([] : T).length + (dr / 60 % 4).toNat + 1 = (dr / 60 % 4).toNat + 1 by simp]
          exact hN
      have stay : ¬ ((121 : Int) < ((cur.length + 1 : Nat) : Int) + ((mk (List.replicate n 32)).length : Nat) + ((mk wd).length : Nat)) → ∃ (R : List T) (c : T) (n' : Nat) (z' : Str), n' ≤ 3 ∧ tl z' = TL.joinL [10] (R ++ [c]) ∧ [some (V.ref wl), some (.ref p), some (.str z), some (.int ((done.length + 1 : Nat) : Nat)), some (.int ((cur.length + 1 : Nat) : Nat)), some (.ref sl), some (.int (k : Nat)), some (.int dr), some (.str (mk wd)), some (.bl g), some (.str (mk (List.replicate n 32))), some (.int (mm : Nat))] = [some (.ref wl), some (.ref p), some (.str z'), some (.int ((R.length + 1 : Nat) : Nat)), some (.int ((c.length + 1 : Nat) : Nat)), some (.ref sl), some (.int (k : Nat)), some (.int dr), some (.str (mk wd)), some (.bl g), some (.str (mk (List.replicate n' 32))), some (.int (mm : Nat))] ∧
          ∃ u', Rows_ ws (k + 1) R (c ++ (List.replicate n' 32 ++ wd)) (ks ++ [(wd, R.length + 1, c.length + n' + 1)]) u' := fun hc => by
        rw [hnl, hwl2] at hc
        exact ⟨done, cur, n, z, hn, hz, rfl, u, hR.on hkw lw hn hgap (by omega)⟩
      refine ⟨_, rfl, _, _, rfl, rfl, ⟨by decide, by decide⟩, _, _, rfl, rfl, (by show (0 : Int) < 5; decide), rfl, _, rfl, ?_⟩
      refine ite2 (fun c => ?_) (fun c => ?_)
      · refine ⟨_, rfl, _, _, rfl, rfl, _, rfl, ?_⟩
        refine ite2 (fun c2 => ?_) (fun c2 => ?_)
        · refine iteT ?_
          have c3 := of_decide_eq_true c2
          refine ⟨_, rfl, _, rfl, _, ((mm : Nat) : Int), rfl, rfl, Int.natCast_nonneg mm, hmk, by decide +kernel, by decide +kernel, _, _, rfl, rfl, hrl, ?_⟩
          rw [rep_nl]
          refine ⟨_, rfl, _, rfl, _, _, rfl, rfl, ?_⟩
          refine ⟨_, rfl, _, _, rfl, rfl, ⟨by decide, by decide⟩, _, _, rfl, rfl, (by show (0 : Int) < 4; decide), _, dr / 60 % 4, rfl, rfl, m60, m62, by decide +kernel, by decide +kernel, ?_⟩
          rw [rep_blank, Int.toNat_natCast]
          exact ⟨rfl, fin (.inl (by omega))⟩
        ·
          refine ⟨_, rfl, _, rfl, _, rfl, by rw [hnl, sizeLine_eq]; omega, _, _, rfl, rfl, _, rfl, _, rfl, by rw [hwl2, sizeLine_eq]; omega, _, _, rfl, rfl, _, _, rfl, rfl, _, rfl, ?_⟩
          refine ite2 (fun c4 => ?_) (fun c4 => ?_)
          · have c5 := of_decide_eq_true c4
            rw [hnl, hwl2] at c5
            have hc : done.length + 1 < 100 ∨ (mm = 1 ∧ 77 ≤ cur.length) := by
              rcases hm12 with h | h
              · exact .inr ⟨h, by omega⟩
              · exact .inl (hm2 h)
            refine ⟨_, rfl, _, rfl, _, ((mm : Nat) : Int), rfl, rfl, Int.natCast_nonneg mm, hmk, by decide +kernel, by decide +kernel, _, _, rfl, rfl, hrl, ?_⟩
            rw [rep_nl]
            refine ⟨_, rfl, _, rfl, _, _, rfl, rfl, ?_⟩
            refine ⟨_, rfl, _, _, rfl, rfl, ⟨by decide, by decide⟩, _, _, rfl, rfl, (by show (0 : Int) < 4; decide), _, dr / 60 % 4, rfl, rfl, m60, m62, by decide +kernel, by decide +kernel, ?_⟩
            rw [rep_blank, Int.toNat_natCast]
            exact ⟨rfl, fin (hc)⟩
          · exact ⟨rfl, stay (of_decide_eq_false (Bool.eq_false_iff.mpr c4))⟩
      · refine iteF ?_
        refine ⟨_, rfl, _, rfl, _, rfl, by rw [hnl, sizeLine_eq]; omega, _, _, rfl, rfl, _, rfl, _, rfl, by rw [hwl2, sizeLine_eq]; omega, _, _, rfl, rfl, _, _, rfl, rfl, _, rfl, ?_⟩
        refine ite2 (fun c4 => ?_) (fun c4 => ?_)
        · have c5 := of_decide_eq_true c4
          rw [hnl, hwl2] at c5
          have hc : done.length + 1 < 100 ∨ (mm = 1 ∧ 77 ≤ cur.length) := by
            rcases hm12 with h | h
            · exact .inr ⟨h, by omega⟩
            · exact .inl (hm2 h)
          refine ⟨_, rfl, _, rfl, _, ((mm : Nat) : Int), rfl, rfl, Int.natCast_nonneg mm, hmk, by decide +kernel, by decide +kernel, _, _, rfl, rfl, hrl, ?_⟩
          rw [rep_nl]
          refine ⟨_, rfl, _, rfl, _, _, rfl, rfl, ?_⟩
          refine ⟨_, rfl, _, _, rfl, rfl, ⟨by decide, by decide⟩, _, _, rfl, rfl, (by show (0 : Int) < 4; decide), _, dr / 60 % 4, rfl, rfl, m60, m62, by decide +kernel, by decide +kernel, ?_⟩
          rw [rep_blank, Int.toNat_natCast]
          exact ⟨rfl, fin (hc)⟩
        · exact ⟨rfl, stay (of_decide_eq_false (Bool.eq_false_iff.mpr c4))⟩
    rintro σ' H3 ⟨rfl, R, c, n', z', hn', hz', rfl, u', hR'⟩
    obtain ⟨hdl', hcl', hzl'⟩ := rows_len hR' hwt
    rw [← joinL_last, ← hz'] at hzl'
    rw [List.length_append, List.length_append, List.length_replicate, len_tl] at hzl'
    rw [List.length_append, List.length_append, List.length_replicate] at hcl'
    have hnl' : (mk (List.replicate n' 32)).length = n' := by rw [mk_len, List.length_replicate]
    refine ⟨_, rfl, _, rfl, _, _, rfl, rfl, by rw [hnl', sizeLine_eq]; omega, _, rfl, _, _, rfl, rfl, ?_, ?_⟩
    · show (z' ++ mk (List.replicate n' 32)).length + (mk wd).length ≤ _
      rw [← len_tl, tl_add_, List.length_append, len_tl, hwl2, sizeLine_eq]
      show z'.length + (List.replicate n' 32).length + wd.length ≤ _
      rw [List.length_replicate]
      omega
    have hul : us.length ≤ 4000 := by
      have h1 := at3.len
      have h2 := congrArg List.length hR.ks
      rw [List.length_map, List.length_take] at h2
      omega
    refine ⟨_, rfl, .inl ⟨rfl, _, SqL.of e3⟩, _, rfl, _, rfl, _, rfl, _, rfl, by rw [hnl', sizeLine_eq]; omega, _, _, rfl, rfl, by show 2 ≤ sizeLine; decide, fun t1 ht1 => ?_⟩
    have st := same_new ht1 (.tup [.int ((R.length + 1 : Nat) : Int), .int (((c.length + 1 : Nat) : Int) + ((mk (List.replicate n' 32)).length : Nat))])
    have e4 := st _ _ e3
    refine ⟨sl, us, .ref t1, rfl, rfl, e4, by rw [sizeLine_eq]; omega, ?_⟩
    refine ⟨_, rfl, _, rfl, _, rfl, by rw [hnl', sizeLine_eq]; omega, _, _, rfl, rfl, _, rfl, _, rfl, by rw [hwl2, sizeLine_eq]; omega, _, _, rfl, rfl, ?_⟩
    have hsn1 : t1 ≠ sl := fun e => by rw [e, e3] at ht1; cases ht1
    have t5 := tups_lst (ys := us ++ [.ref t1]) e4
    refine ⟨R, c ++ (List.replicate n' 32 ++ wd), ks ++ [(wd, R.length + 1, c.length + n' + 1)], u', us ++ [.ref t1], z' ++ mk (List.replicate n' 32) ++ mk wd, some (.int (k : Nat)), some (.int dr), some (.str (mk wd)), some (.bl g), some (.str (mk (List.replicate n' 32))), some (.int (mm : Nat)), ?_, ?_, hR', ?_, ?_, upd_same, ?_, ?_⟩
    · have el : ((c ++ (List.replicate n' 32 ++ wd)).length + 1 : Nat) = c.length + 1 + n' + wd.length := by simp; omega
      rw [el]
      have e5 : ((c.length + 1 : Nat) : Int) + ((mk (List.replicate n' 32)).length : Nat) + ((mk wd).length : Nat) = ((c.length + 1 + n' + wd.length : Nat) : Int) := by rw [hnl', hwl2]; omega
      show [some (V.ref wl), some (.ref p), some (.str (z' ++ mk (List.replicate n' 32) ++ mk wd)), some (.int ((R.length + 1 : Nat) : Nat)), some (.int (((c.length + 1 : Nat) : Int) + ((mk (List.replicate n' 32)).length : Nat) + ((mk wd).length : Nat))), some (.ref sl), some (.int (k : Nat)), some (.int dr), some (.str (mk wd)), some (.bl g), some (.str (mk (List.replicate n' 32))), some (.int (mm : Nat))] = _
      rw [e5]
    · rw [tl_add_, tl_add_, hz', List.append_assoc, ← joinL_last]
    · intro q uu nq hq
      rw [upd_ne (ne_of_none hq hsl)]
      exact st _ _ (s3 _ _ nq (s2 q uu nq hq))
    · have d4 := d3.same st
      exact ⟨by rw [upd_ne hsn.1.symm]; exact d4.1, by rw [upd_ne hsn.2.symm]; exact d4.2.1, d4.2.2⟩
    · refine (AtL.on t5 (fun _ _ h => h.on t5) (AtL.on (same_tups st) (fun _ _ h => h.on (same_tups st)) at3)).snoc ⟨t1, rfl, ?_⟩
      rw [upd_ne hsn1, upd_same, hnl']
      show some (HO.tup [.int ((R.length + 1 : Nat) : Int), .int (((c.length + 1 : Nat) : Int) + ((n' : Nat) : Int))]) = some (HO.tup [.int ((R.length + 1 : Nat) : Int), .int ((c.length + n' + 1 : Nat) : Int)])
      rw [show ((c.length + 1 : Nat) : Int) + ((n' : Nat) : Int) = ((c.length + n' + 1 : Nat) : Int) by omega]
    · rw [upd_ne hswl.symm]
      exact st _ _ w3
  · rintro σ H2 ⟨done, cur, ks, u, us, z, v6, v7, v8, v9, v10, v11, rfl, hz, hR, s2, d2, e2, at2, w2⟩
    have en : ((ws.length : Nat) : Int).toNat = ws.length := by omega
    rw [en] at hR d2
    obtain ⟨hdl, hcl, hzl⟩ := rows_len hR hwt
    have hzl2 : z.length ≤ 40000 := by rw [← len_tl, hz]; exact hzl
    refine ⟨_, rfl, by show 4 ≤ sizeLine; decide, fun L hL => ?_⟩
    have sL := same_new hL (.lst [V.str (Str.ofString ""), V.str (Str.ofString "\n"), V.str (Str.ofString "\n "), V.str (Str.ofString "\n  \n ")])
    have fL : upd H2 L (.lst [V.str (Str.ofString ""), V.str (Str.ofString "\n"), V.str (Str.ofString "\n "), V.str (Str.ofString "\n  \n ")]) L = some (.lst [V.str (Str.ofString ""), V.str (Str.ofString "\n"), V.str (Str.ofString "\n "), V.str (Str.ofString "\n  \n ")]) := upd_same
    have hLn := d2.ne hL
    have d3 := d2.same sL
    generalize upd H2 L _ = H3 at sL fL d3 ⊢
    refine ⟨_, rfl, p, l, a + ws.length, b, xs, rfl, d3, by omega, fun dr hdr d4 => ?_⟩
    have s4 : SB p H3 (upd H3 p (.lst [.int ((a + ws.length + 1 : Nat) : Int), .ref l, .int b])) := SB.upd _
    have t4 : Tups H3 (upd H3 p (.lst [.int ((a + ws.length + 1 : Nat) : Int), .ref l, .int b])) := tups_lst d3.1
    generalize upd H3 p (.lst [.int ((a + ws.length + 1 : Nat) : Int), .ref l, .int b]) = H4 at d4 s4 t4 ⊢
    obtain ⟨e, he, E, hE1, hE2, hE3, hE4⟩ := pick (n := 4) (xs := [V.str (Str.ofString ""), V.str (Str.ofString "\n"), V.str (Str.ofString "\n "), V.str (Str.ofString "\n  \n ")]) (f := fun z => V.str (mk z)) (Pz := fun (z : List Nat) => ∃ E : List T, E.length ≤ 2 ∧ (∀ l ∈ E, l.length ≤ 120 ∧ 10 ∉ l ∧ rowWords l = []) ∧ (∀ R : List T, R ≠ [] → TL.joinL [10] R ++ z = TL.joinL [10] (R ++ E)) ∧ z.length ≤ 10) rfl (by decide) (fun v hv => by
      simp only [List.mem_cons, List.not_mem_nil, or_false] at hv
      rcases hv with rfl | rfl | rfl | rfl
      · exact ⟨[], by decide +kernel, [], by decide, fun l hl => by simp at hl, fun R _ => by rw [List.append_nil, List.append_nil], by decide⟩
      · exact ⟨[10], by decide +kernel, [[]], by decide, fun l hl => by
          obtain rfl : l = [] := by simpa using hl
          exact ⟨by decide, by decide, rfl⟩, fun R hR => by rw [joinL_app _ _ _ hR]; rfl, by decide⟩
      · exact ⟨[10, 32], by decide +kernel, [[32]], by decide, fun l hl => by
          obtain rfl : l = [32] := by simpa using hl
          exact ⟨by decide, by decide, rowWords_blank 1⟩, fun R hR => by rw [joinL_app _ _ _ hR]; rfl, by decide⟩
      · refine ⟨[10, 32, 32, 10, 32], by decide +kernel, [[32, 32], [32]], by decide, fun l hl => ?_, fun R hR => ?_, by decide⟩
        · rcases List.mem_cons.mp hl with rfl | hl
          · exact ⟨by decide, by decide, rowWords_blank 2⟩
          · obtain rfl : l = [32] := by simpa using hl
            exact ⟨by decide, by decide, rowWords_blank 1⟩
        · have e1 : R ++ [[32, 32], [32]] = (R ++ [[32, 32]]) ++ [[32]] := by simp
          rw [e1, joinL_app _ _ _ (by simp), joinL_app _ _ _ hR]
          simp) dr
    refine ⟨_, _, rfl, rfl, (by show (0 : Int) < 4; decide), L, _, _, _, rfl, rfl, SqL.of (s4 _ _ hLn.1 fL), he, _, _, rfl, rfl, by rw [mk_len e, sizeLine_eq]; omega, _, rfl, by show 2 ≤ sizeLine; decide, fun q hq => ?_⟩
    have sq := same_new hq (.tup [.str (z ++ mk e), .ref sl])
    have hmt : ((done ++ [cur] ++ E).map mk).map tl = done ++ [cur] ++ E := by
      rw [List.map_map]
      exact List.map_id _
    have hkw : ks.map (·.1) = ws := by rw [hR.ks, List.take_length]
    refine kq (z ++ mk e) ((done ++ [cur] ++ E).map mk) ks q sl us _ (((s2.trans (SB.same sL)).trans s4).trans (SB.same sq)) (d4.same sq) upd_same (sq _ _ (s4 _ _ hsn.1 (sL _ _ e2))) ?_ ⟨?_, by simp, ?_, fun r hr2 => ?_, ?_, fun k hk => ?_⟩ hkw
    · have tq := ((same_tups sL).trans t4).trans (same_tups sq)
      exact AtL.on tq (fun _ _ h => h.on tq) at2
    · rw [hmt, tl_add_, hz]
      exact hE3 _ (by simp)
    · rw [List.length_map, List.length_append, List.length_append]
      simp only [List.length_cons, List.length_nil]
      omega
    · obtain ⟨l0, hl0, rfl⟩ := List.mem_map.mp hr2
      rcases List.mem_append.mp hl0 with h | h
      · exact hR.row l0 h
      · exact ⟨(hE2 l0 h).1, (hE2 l0 h).2.1⟩
    · rw [hmt, allW_app, hR.wd, allW_empty _ _ fun l0 hl0 => (hE2 l0 hl0).2.2, List.append_nil]
    · have : k.1 ∈ ws := by rw [← hkw]; exact List.mem_map.mpr ⟨k, hk, rfl⟩
      exact (hlw k.1 this).wd
end
end My
set_option Elab.async false
set_option linter.all false
set_option maxRecDepth 100000
set_option maxHeartbeats 4000000
namespace My
open PySem L2 SS
abbrev sWLeaf : Stmt := top 53
abbrev sWAll : Stmt := top 54
abbrev sWPlain : Stmt := top 55
abbrev sWClosed : Stmt := top 56
abbrev sWNode : Stmt := top 57
theorem call_str2 {X : Cx} : CallR X (.type "str") (fun xs H Q => (∃ i, xs = [.int i] ∧ i.natAbs.log2 < 1920 ∧ Q (.str (toString i)) H) ∨ ∃ a, xs = [.str a] ∧ Q (.str a) H) := by
  exact call_str_int.or SkE.call_str_str
theorem tl_add (a b : Str) : tl (a ++ b) = tl a ++ tl b := by
  show (a.cps ++ b.cps).toList = _
  simp
theorem add_mk (a b : Str) : a ++ b = mk (tl a ++ tl b) := by rw [← tl_add, mk_tl]
/-- a leaf that is one word -/
def leafT : Ex → Option T
  | .num n => some (numT n)
  | .txt s => some (39 :: s)
  | .tru true => some (tk "true")
  | .tru false => some (tk "false")
  | .non => some (tk "none")
  | .slf => some (tk "self")
  | .nam w => some w
  | .fld w => some (64 :: w)
  | _ => none
theorem leafT_w {e : Ex} {z : T} (h : leafT e = some z) : wE e = [(z, true)] := by
  cases e with
  | tru b => cases b <;> (simp only [leafT, Option.some.injEq] at h; subst h; rfl)
  | _ => first | (simp only [leafT, Option.some.injEq] at h; subst h; rfl) | (simp [leafT] at h)
section
variable {P : Program} {w : World} {K : PySem.W.Frag} {mg : Str → Option Value} {base : Heap}
def spWLeaf : Sp := fun vs H Q _ => ∃ (e : Ex) (z : List Nat) (v : V), vs = [v] ∧ AtE H e v ∧ okE e ∧ leafT e = some z ∧ ∀ H', Same H H' → Q (.str (mk z)) H'
theorem scWLeaf : FnScope ["_law_node", "_law_word_here"] ["_law_node"] (defScope sWLeaf) := ⟨rfl, rfl, rfl, by decide +kernel, rfl, by decide +kernel, by decide +kernel⟩
def leafD : List (Key × V) := [(Sum.inr (Str.ofString "number"), V.str (Str.ofString "")), (Sum.inr (Str.ofString "text"), V.str (Str.ofString "'")), (Sum.inr (Str.ofString "name"), V.str (Str.ofString "")), (Sum.inr (Str.ofString "field"), V.str (Str.ofString "@"))]
theorem c_wleaf (TS : TxS K mg) (D : Dn K mg "_law_leaf_word" sWLeaf) : C0 P w K mg base 1 "_law_leaf_word" spWLeaf := by
  obtain ⟨f, fd, F, m⟩ := D.ex
  refine ⟨f, fd, ["_law_node"], F.ok scWLeaf (fun vs H Q E h => ?_) (fun cdv A outer s H vs Q E hr h => ?_), m, F.kp, F.binds (ps := ["_law_node"]) fun _ _ _ _ _ _ us hl => match us, hl with | [_], _ => rfl⟩
  · obtain ⟨e, z, v, rfl, _⟩ := h
    rfl
  obtain ⟨e, z, v, rfl, at1, ok, hz, k⟩ := h
  refine ⟨_, pss_cons (ps_set (i := 1) scWLeaf.nd rfl (Or.inl rfl) (pe_ix ix_tup (pv 0) pe_int (fun _ _ => rfl))) <|
    pss_cons (ps_if (pt_cmpR op_eq (pv 1) pe_str (nomark _)) (pss_one (ps_ret (pe_ix ix_list (pe_lst (pa_cons pe_str (pa_cons pe_str pa_nil))) (pe_callTy call_int1 (by rfl) TS.int (by decide +kernel) (pa_cons (pe_ix ix_tup (pv 0) pe_int (fun _ _ => rfl)) pa_nil)) (fun _ _ => rfl)))) pss_nil) <|
    pss_cons (ps_if (PW.pt (pw_or (pt_cmpR op_eq (pv 1) pe_str (nomark _)) (pw_or1 (pt_cmpR op_eq (pv 1) pe_str (nomark _))))) (pss_one (ps_ret (pv 1))) pss_nil) <|
    pss_one (ps_ret (pe_op op_add_str (pe_dget (hu_of hr) (pe_disp (pps_cons pe_str pe_str (pps_cons pe_str pe_str (pps_cons pe_str pe_str (pps_cons pe_str pe_str pps_nil)))) (by rfl) (by rfl) (fun z => by cases z) (by decide)) (pv 1) (fun _ _ => rfl)) (pe_callTy call_str2 (by rfl) TS.str (by decide +kernel) (pa_cons (pe_ix ix_tup (pv 0) pe_int (fun _ _ => rfl)) pa_nil)))), ?_⟩
  -- the dict's part
  have dict : ∀ (p : Addr) (ys : List V) (word : Str) (pre : Str) (u : V), H p = some (.tup ys) → ys[1]? = some u → valV (mergeK [] leafD) (Sum.inr word) = some (V.str pre) → ((∃ i, u = .int i ∧ i.natAbs.log2 < 1920 ∧ pre.length + (numStr i).length ≤ sizeLine ∧ pre ++ numStr i = mk z) ∨ (∃ a, u = .str a ∧ pre.length + a.length ≤ sizeLine ∧ pre ++ a = mk z)) →
      tOp (fun x y H Q => ∃ i j, x = V.str i ∧ y = V.str j ∧ i.length + j.length ≤ sizeLine ∧ Q (V.str (i ++ j)) H) (tDGet (tDisp [(tC (.str (Str.ofString "number")), tC (.str (Str.ofString ""))), (tC (.str (Str.ofString "text")), tC (.str (Str.ofString "'"))), (tC (.str (Str.ofString "name")), tC (.str (Str.ofString ""))), (tC (.str (Str.ofString "field")), tC (.str (Str.ofString "@")))]) (tVar 1))
        (tCB (fun xs H Q => (∃ i, xs = [.int i] ∧ i.natAbs.log2 < 1920 ∧ Q (.str (toString i)) H) ∨ ∃ a, xs = [.str a] ∧ Q (.str a) H) (tCons (tOp (rIxT K) (tVar 0) (tC (.int 1))) tNil)) [some (.ref p), some (.str word)] H Q := fun p ys word pre u hp hu hval hor => by
    refine fun q hq => ⟨upd_same, leafD, rfl, by decide, _, rfl, q, .str pre, rfl, ?_, ?_⟩
    · have := DGet.k (k := Sum.inr word) (kvs := mergeK [] leafD) (H := upd (upd H q (.dK [])) q (.dK (mergeK [] leafD))) (a := q) upd_same
      rw [hval] at this
      exact this
    have s2 : Same H (upd (upd H q (.dK [])) q (.dK (mergeK [] leafD))) := fun b u e => by
      rw [upd_ne (ne_of_none e hq), upd_ne (ne_of_none e hq)]
      exact e
    refine ⟨_, rfl, p, _, _, _, rfl, rfl, SqT.of (s2 _ _ hp), atI_nat (j := 1) hu, ?_⟩
    rcases hor with ⟨i, rfl, h1, h2, h3⟩ | ⟨a, rfl, h2, h3⟩
    · refine .inl ⟨i, rfl, h1, _, _, rfl, rfl, h2, ?_⟩
      have := k _ s2
      rw [← h3] at this
      exact this
    · refine .inr ⟨a, rfl, _, _, rfl, rfl, h2, ?_⟩
      have := k _ s2
      rw [← h3] at this
      exact this
  cases e with
  | num n =>
    obtain ⟨p, rfl, hp⟩ := at1
    obtain rfl : numT n = z := Option.some.inj hz
    refine ⟨_, rfl, p, _, _, _, rfl, rfl, SqT.of hp, atI_0, _, rfl, rfl, _, rfl, ite2 (fun c => absurd c (by decide +kernel)) (fun _ => ⟨_, rfl, rfl, _, rfl, ite2 (fun c => absurd c (by decide +kernel)) (fun _ => ⟨_, rfl, rfl, _, rfl, ite2 (fun c => absurd c (by decide +kernel)) (fun _ => ?_)⟩)⟩)⟩
    have hl := numT_len ok.1 ok.2
    refine dict p _ _ (Str.ofString "") _ hp rfl (by decide +kernel) (.inl ⟨n, rfl, log_small ?_, ?_, ?_⟩)
    · have := ok.1; have := ok.2; omega
    · have e0 : (Str.ofString "").length = 0 := by decide +kernel
      rw [e0, ← len_tl, sizeLine_eq]
      show 0 + (numT n).length ≤ _
      omega
    · rw [add_mk]
      have : tl (Str.ofString "") = [] := by decide +kernel
      rw [this]
      rfl
  | txt t =>
    obtain ⟨p, rfl, hp⟩ := at1
    obtain rfl : 39 :: t = z := Option.some.inj hz
    refine ⟨_, rfl, p, _, _, _, rfl, rfl, SqT.of hp, atI_0, _, rfl, rfl, _, rfl, ite2 (fun c => absurd c (by decide +kernel)) (fun _ => ⟨_, rfl, rfl, _, rfl, ite2 (fun c => absurd c (by decide +kernel)) (fun _ => ⟨_, rfl, rfl, _, rfl, ite2 (fun c => absurd c (by decide +kernel)) (fun _ => ?_)⟩)⟩)⟩
    have hl := text_len ok
    refine dict p _ _ (Str.ofString "'") _ hp rfl (by decide +kernel) (.inr ⟨mk t, rfl, ?_, ?_⟩)
    · have e0 : (Str.ofString "'").length = 1 := by decide +kernel
      rw [e0, mk_len, sizeLine_eq]
      omega
    · rw [add_mk]
      have : tl (Str.ofString "'") = [39] := by decide +kernel
      rw [this]
      rfl
  | tru b =>
    obtain ⟨p, rfl, hp⟩ := at1
    refine ⟨_, rfl, p, _, _, _, rfl, rfl, SqT.of hp, atI_0, _, rfl, rfl, _, rfl, ite2 (fun _ => ?_) (fun c => absurd (by decide +kernel) c)⟩
    refine ⟨by decide, fun L hL => ?_⟩
    have sL := same_new hL (.lst [V.str (Str.ofString "false"), V.str (Str.ofString "true")])
    refine ⟨_, rfl, p, _, _, _, rfl, rfl, SqT.of (sL _ _ hp), atI_nat (j := 1) rfl, .inr ⟨b, rfl, L, _, _, .str (mk z), rfl, rfl, SqL.of upd_same, ?_, k _ sL⟩⟩
    cases b with
    | true =>
      obtain rfl : tk "true" = z := Option.some.inj hz
      rw [mk_tl]
      exact atI_nat (j := 1) rfl
    | false =>
      obtain rfl : tk "false" = z := Option.some.inj hz
      rw [mk_tl]
      exact atI_nat (j := 0) rfl
  | non =>
    obtain ⟨p, rfl, hp⟩ := at1
    obtain rfl : tk "none" = z := Option.some.inj hz
    refine ⟨_, rfl, p, _, _, _, rfl, rfl, SqT.of hp, atI_0, _, rfl, rfl, _, rfl, ite2 (fun c => absurd c (by decide +kernel)) (fun _ => ⟨_, rfl, rfl, _, rfl, ite2 (fun c => iteT ⟨_, rfl, ?_⟩) (fun c => absurd (by decide +kernel) c)⟩)⟩
    have := k _ (Same.refl H)
    rw [mk_tl] at this
    exact this
  | slf =>
    obtain ⟨p, rfl, hp⟩ := at1
    obtain rfl : tk "self" = z := Option.some.inj hz
    refine ⟨_, rfl, p, _, _, _, rfl, rfl, SqT.of hp, atI_0, _, rfl, rfl, _, rfl, ite2 (fun c => absurd c (by decide +kernel)) (fun _ => ⟨_, rfl, rfl, _, rfl, ite2 (fun c => absurd c (by decide +kernel)) (fun _ => ⟨_, rfl, rfl, _, rfl, ite2 (fun c => ⟨_, rfl, ?_⟩) (fun c => absurd (by decide +kernel) c)⟩)⟩)⟩
    have := k _ (Same.refl H)
    rw [mk_tl] at this
    exact this
  | nam t =>
    obtain ⟨p, rfl, hp⟩ := at1
    obtain rfl : t = z := Option.some.inj hz
    refine ⟨_, rfl, p, _, _, _, rfl, rfl, SqT.of hp, atI_0, _, rfl, rfl, _, rfl, ite2 (fun c => absurd c (by decide +kernel)) (fun _ => ⟨_, rfl, rfl, _, rfl, ite2 (fun c => absurd c (by decide +kernel)) (fun _ => ⟨_, rfl, rfl, _, rfl, ite2 (fun c => absurd c (by decide +kernel)) (fun _ => ?_)⟩)⟩)⟩
    have hl := free_len ok
    refine dict p _ _ (Str.ofString "") _ hp rfl (by decide +kernel) (.inr ⟨mk t, rfl, ?_, ?_⟩)
    · have e0 : (Str.ofString "").length = 0 := by decide +kernel
      rw [e0, mk_len, sizeLine_eq]
      omega
    · rw [add_mk]
      have : tl (Str.ofString "") = [] := by decide +kernel
      rw [this]
      rfl
  | fld t =>
    obtain ⟨p, rfl, hp⟩ := at1
    obtain rfl : 64 :: t = z := Option.some.inj hz
    refine ⟨_, rfl, p, _, _, _, rfl, rfl, SqT.of hp, atI_0, _, rfl, rfl, _, rfl, ite2 (fun c => absurd c (by decide +kernel)) (fun _ => ⟨_, rfl, rfl, _, rfl, ite2 (fun c => absurd c (by decide +kernel)) (fun _ => ⟨_, rfl, rfl, _, rfl, ite2 (fun c => absurd c (by decide +kernel)) (fun _ => ?_)⟩)⟩)⟩
    have hl := free_len ok
    refine dict p _ _ (Str.ofString "@") _ hp rfl (by decide +kernel) (.inr ⟨mk t, rfl, ?_, ?_⟩)
    · have e0 : (Str.ofString "@").length = 1 := by decide +kernel
      rw [e0, mk_len, sizeLine_eq]
      omega
    · rw [add_mk]
      have : tl (Str.ofString "@") = [64] := by decide +kernel
      rw [this]
      rfl
  | _ => simp [leafT] at hz
end
end My
set_option Elab.async false
set_option linter.all false
set_option maxRecDepth 100000
set_option maxHeartbeats 4000000
namespace My
open PySem L2 SS
def fWB (q : WB) : List V := [.str (mk q.1), .bl q.2]
/-- a list of words, each with whether something begins at it -/
def LW (H : Hp) (a : Addr) (ws : List WB) : Prop := ∃ us, H a = some (.lst us) ∧ AllT fWB H us ws
theorem LW.on {H H' : Hp} {a : Addr} {ws : List WB} (h : LW H a ws) (s : Same H H') : LW H' a ws := by
  obtain ⟨us, h1, h2⟩ := h
  exact ⟨us, s _ _ h1, h2.on (same_tups s)⟩
theorem LW.one {H : Hp} {t L : Addr} {z : Str} {b : Bool} (ht : H t = none) (hL : upd H t (.tup [.str z, .bl b]) L = none) : LW (upd (upd H t (.tup [.str z, .bl b])) L (.lst [.ref t])) L [(tl z, b)] := by
  refine ⟨[.ref t], upd_same, .cons ⟨t, rfl, ?_⟩ .nil⟩
  have hn : t ≠ L := fun e => by rw [← e, upd_same] at hL; cases hL
  rw [upd_ne hn, upd_same]
  show some (HO.tup [.str z, .bl b]) = some (.tup [.str (mk (tl z)), .bl b])
  rw [mk_tl]
theorem LW.cat {H : Hp} {a b : Addr} {ws zs : List WB} (h : LW H a ws) (g : LW H b zs) : ∃ us vs, H a = some (.lst us) ∧ H b = some (.lst vs) ∧ us.length = ws.length ∧ vs.length = zs.length ∧ ∀ p, H p = none → LW (upd H p (.lst (us ++ vs))) p (ws ++ zs) := by
  obtain ⟨us, h1, h2⟩ := h
  obtain ⟨vs, g1, g2⟩ := g
  refine ⟨us, vs, h1, g1, h2.length, g2.length, fun p hp => ⟨us ++ vs, upd_same, (h2.append g2).on (tups_new hp _)⟩⟩
theorem AtL.get {α : Type} {R : Hp → α → V → Prop} {H : Hp} : ∀ {xs : List α} {vs : List V} {i : Nat} {v : V}, AtL R H xs vs → vs[i]? = some v → ∃ x, xs[i]? = some x ∧ R H x v
  | [], vs, i, v, h, hv => by
    have h' : vs = [] := h
    subst h'
    simp at hv
  | y :: r, vs, 0, v, ⟨u, us, h1, h2, h3⟩, hv => by
    subst h1
    simp at hv
    subst hv
    exact ⟨y, rfl, h2⟩
  | y :: r, vs, i + 1, v, ⟨u, us, h1, h2, h3⟩, hv => by
    subst h1
    obtain ⟨x, g1, g2⟩ := AtL.get (i := i) h3 (by simpa using hv)
    exact ⟨x, by simpa using g1, g2⟩
section
variable {P : Program} {w : World} {K : PySem.W.Frag} {mg : Str → Option Value} {base : Heap} {α : Type} {R : Hp → α → V → Prop} {wf : α → List WB} {ok : α → Prop}
def spNA (R : Hp → α → V → Prop) (wf : α → List WB) (ok : α → Prop) : Sp := fun vs H Q _ => ∃ (x : α) (v : V), vs = [v] ∧ R H x v ∧ ok x ∧ ∀ H' a, Same H H' → LW H' a (wf x) → Q (.ref a) H'
def spAA (R : Hp → α → V → Prop) (wf : α → List WB) (ok : α → Prop) : Sp := fun vs H Q _ => ∃ (xs : List α) (q : Addr) (ys : List V), vs = [.ref q] ∧ H q = some (.tup ys) ∧ AtL R H xs ys ∧ (∀ x ∈ xs, ok x) ∧ (xs.flatMap wf).length ≤ 100000 ∧ ∀ H' a, Same H H' → LW H' a (xs.flatMap wf) → Q (.ref a) H'
def spCl (R : Hp → α → V → Prop) (wf : α → List WB) (ok : α → Prop) : Sp := fun vs H Q _ => ∃ (xs : List α) (q : Addr) (ys : List V) (z : Str), vs = [.str z, .ref q] ∧ H q = some (.tup ys) ∧ AtL R H xs ys ∧ (∀ x ∈ xs, ok x) ∧ (xs.flatMap wf).length ≤ 100000 ∧ ∀ H' a, Same H H' → LW H' a (xs.flatMap wf ++ [(tl z, false)]) → Q (.ref a) H'
theorem scWAll : FnScope ["_law_nodes", "_law_found", "_law_node"] ["_law_nodes"] (defScope sWAll) := ⟨rfl, rfl, rfl, by decide +kernel, rfl, by decide +kernel, by decide +kernel⟩
theorem scWCl : FnScope ["_law_word_here", "_law_nodes"] ["_law_word_here", "_law_nodes"] (defScope sWClosed) := ⟨rfl, rfl, rfl, by decide +kernel, rfl, by decide +kernel, by decide +kernel⟩
theorem scWPl : FnScope ["_law_words", "_law_word_here"] ["_law_words"] (defScope sWPlain) := ⟨rfl, rfl, rfl, by decide +kernel, rfl, by decide +kernel, by decide +kernel⟩
theorem c_wall {k : Nat} (hR : ∀ H H' x v, Tups H H' → R H x v → R H' x v) (D : Dn K mg "_law_all_words" sWAll) (G : C0 P w K mg base k "_law_node_words" (spNA R wf ok)) : C0 P w K mg base (k + 1) "_law_all_words" (spAA R wf ok) := by
  obtain ⟨f, fd, F, m⟩ := D.ex
  refine ⟨f, fd, ["_law_nodes"], F.ok scWAll (fun vs H Q E h => ?_) (fun cdv A outer s H vs Q E hr h => ?_), m, F.kp, F.binds (ps := ["_law_nodes"]) fun _ _ _ _ _ _ us hl => match us, hl with | [_], _ => rfl⟩
  · obtain ⟨xs, q, ys, rfl, _⟩ := h
    rfl
  obtain ⟨xs, q, ys, rfl, hq, hat, hok, hlen, kq⟩ := h
  refine ⟨_, pss_cons (ps_set (i := 1) scWAll.nd rfl (Or.inl rfl) (pe_lst pa_nil)) <|
    pss_cons (ps_for PassesOwn.never rfl (pi_tup (pv 0)) (pg_name (i := 2) scWAll.nd rfl (Or.inl rfl)) (pss_one (ps_set (i := 1) scWAll.nd rfl (Or.inl rfl) (pe_op op_cat (pv 1) (pe_cc G hr (Nat.le_refl _) pass0 (pa_cons (pv 2) pa_nil)))))) <|
    pss_one (ps_ret (pv 1)), ?_⟩
  refine ⟨Nat.zero_le _, fun L hL => ?_⟩
  have s0 := same_new hL (.lst [])
  have w0 : LW (upd H L (.lst [])) L [] := ⟨[], upd_same, .nil⟩
  refine ⟨_, rfl, q, rfl, ⟨ys, SqT.of (s0 _ _ hq)⟩, ?_⟩
  refine for_tup (xs := ys) (fun i σ H1 => ∃ (a : Addr) (v2 : Option V), σ = [some (.ref q), some (.ref a), v2] ∧ Same H H1 ∧ LW H1 a ((xs.take i).flatMap wf)) ⟨L, none, rfl, s0, w0⟩ (fun i σ H1 _ ⟨a, v2, _, s1, _⟩ => SqT.of (s1 _ _ hq)) ?_ ?_
  · rintro i v σ H1 hv ⟨a, v2, rfl, s1, w1⟩
    obtain ⟨x, hx, rx⟩ := hat.get hv
    have et : xs.take (i + 1) = xs.take i ++ [x] := by rw [List.take_add_one, hx]; rfl
    refine ⟨_, rfl, _, rfl, x, v, rfl, hR _ _ _ _ (same_tups s1) rx, hok x (List.mem_of_getElem? hx), fun H2 b s2 w2 => ?_⟩
    obtain ⟨us, vs, h1, h2, l1, l2, c⟩ := (w1.on s2).cat w2
    have hl2 : ((xs.take (i + 1)).flatMap wf).length ≤ (xs.flatMap wf).length := by
      have e : xs.flatMap wf = (xs.take (i + 1)).flatMap wf ++ (xs.drop (i + 1)).flatMap wf := by rw [← List.flatMap_append, List.take_append_drop]
      rw [e, List.length_append]
      omega
    rw [et, List.flatMap_append, List.length_append] at hl2
    have e1 : [x].flatMap wf = wf x := by simp
    rw [e1] at hl2
    refine ⟨_, _, us, vs, rfl, rfl, h1, h2, by rw [l1, l2, sizeLine_eq]; omega, fun p hp => ?_⟩
    refine ⟨p, _, rfl, (s1.trans s2).trans (same_new hp _), ?_⟩
    rw [et, List.flatMap_append, e1]
    exact c p hp
  · rintro σ H1 ⟨a, v2, rfl, s1, w1⟩
    rw [hat.len, List.take_length] at w1
    exact ⟨_, rfl, kq H1 a s1 w1⟩
theorem c_wcl {k : Nat} (hR : ∀ H H' x v, Tups H H' → R H x v → R H' x v) (D : Dn K mg "_law_closed" sWClosed) (G : C0 P w K mg base k "_law_all_words" (spAA R wf ok)) : C0 P w K mg base (k + 1) "_law_closed" (spCl R wf ok) := by
  obtain ⟨f, fd, F, m⟩ := D.ex
  refine ⟨f, fd, ["_law_word_here", "_law_nodes"], F.ok scWCl (fun vs H Q E h => ?_) (fun cdv A outer s H vs Q E hr h => ?_), m, F.kp, F.binds (ps := ["_law_word_here", "_law_nodes"]) fun _ _ _ _ _ _ us hl => match us, hl with | [_, _], _ => rfl⟩
  · obtain ⟨xs, q, ys, z, rfl, _⟩ := h
    rfl
  obtain ⟨xs, q, ys, z, rfl, hq, hat, hok, hlen, kq⟩ := h
  refine ⟨_, pss_one (ps_ret (pe_op op_cat (pe_cc G hr (Nat.le_refl _) pass0 (pa_cons (pv 1) pa_nil)) (pe_lst (pa_cons (pe_tup (pa_cons (pv 0) (pa_cons pe_bl pa_nil))) pa_nil)))), ?_⟩
  refine ⟨_, rfl, xs, q, ys, rfl, hq, hat, hok, hlen, fun H1 a s1 w1 => ?_⟩
  refine ⟨_, rfl, by show 2 ≤ sizeLine; decide, fun t ht => ⟨by show 1 ≤ sizeLine; decide, fun L hL => ?_⟩⟩
  have w2 := LW.one ht hL
  have s2 : Same H1 (upd (upd H1 t (.tup [.str z, .bl false])) L (.lst [.ref t])) := (same_new ht _).trans (same_new hL _)
  obtain ⟨us, vs, h1, h2, l1, l2, c⟩ := (w1.on s2).cat w2
  exact ⟨_, _, us, vs, rfl, rfl, h1, h2, by rw [l1, l2, sizeLine_eq]; simp only [List.length_cons, List.length_nil]; omega, fun p hp => kq _ p ((s1.trans s2).trans (same_new hp _)) (c p hp)⟩
/-! plain words -/
def spWPlT : Sp := fun vs H Q _ => ∃ (ws : List (List Nat)) (q : Addr), vs = [.ref q] ∧ H q = some (.tup (wsV ws)) ∧ ws.length ≤ 1000 ∧ ∀ H' a, Same H H' → LW H' a (plainW ws) → Q (.ref a) H'
theorem c_wplT (D : Dn K mg "_law_plain" sWPlain) : C0 P w K mg base 1 "_law_plain" spWPlT := by
  obtain ⟨f, fd, F, m⟩ := D.ex
  refine ⟨f, fd, ["_law_words"], F.ok scWPl (fun vs H Q E h => ?_) (fun cdv A outer s H vs Q E hr h => ?_), m, F.kp, F.binds (ps := ["_law_words"]) fun _ _ _ _ _ _ us hl => match us, hl with | [_], _ => rfl⟩
  · obtain ⟨ws, q, rfl, _⟩ := h
    rfl
  obtain ⟨ws, q, rfl, hq, hl, kq⟩ := h
  refine ⟨_, pss_one (ps_ret (pe_lc (own := [("_law_word_here", 1)]) (g := gName 1) (tt := tYes) rfl scWPl.nd (pi_tup (pv 0))
    (blkOk_by (own := [("_law_word_here", 1)]) (N := ["_law_words", "_law_word_here"]) (sc := defScope sWPlain) (by decide +kernel)) (fun _ _ _ _ _ => pg_name (i := 1) scWPl.nd rfl (Or.inl rfl)) (fun _ _ _ _ _ => pts_nil)
    (fun _ _ _ _ _ => pe_tup (pa_cons (pv 1) (pa_cons pe_bl pa_nil))))), ?_⟩
  refine ⟨_, rfl, q, rfl, ⟨wsV ws, SqT.of hq⟩, fun D0 hD0 => ?_⟩
  refine lc_tup (K := K) (a := q) (xs := wsV ws) (fun i H1 => Same H H1 ∧ LW H1 D0 (plainW (ws.take i))) ⟨same_new hD0 _, [], upd_same, .nil⟩ (fun i H1 _ h1 => SqT.of (h1.1 _ _ hq)) ?_ ?_
  · rintro i v H1 hv ⟨s1, us, h1, h2⟩
    have hv' : (ws.map fun w => V.str (mk w))[i]? = some v := hv
    rw [List.getElem?_map] at hv'
    cases e : ws[i]? with
    | none => rw [e] at hv'; cases hv'
    | some z =>
      rw [e] at hv'
      obtain rfl := Option.some.inj hv'
      have et : ws.take (i + 1) = ws.take i ++ [z] := by rw [List.take_add_one, e]; rfl
      refine ⟨rfl, ?_⟩
      unfold tYes
      refine iteT ?_
      refine ⟨_, rfl, by show 2 ≤ sizeLine; decide, fun t ht => ?_⟩
      have hDt : D0 ≠ t := ne_of_none h1 ht
      have st := same_new ht (.tup [.str (mk z), .bl false])
      have hl2 : us.length ≤ ws.length := by
        rw [h2.length]
        unfold plainW
        rw [List.length_map, List.length_take]
        omega
      refine ⟨us, st _ _ h1, by rw [sizeLine_eq]; omega, ?_, us ++ [.ref t], upd_same, ?_⟩
      · intro b u h
        rw [upd_ne (ne_of_none h hD0)]
        exact st _ _ (s1 _ _ h)
      · have t2 : Tups H1 (upd (upd H1 t (.tup [.str (mk z), .bl false])) D0 (.lst (us ++ [.ref t]))) := (same_tups st).trans (tups_lst (st _ _ h1))
        have e2 : plainW (ws.take (i + 1)) = plainW (ws.take i) ++ [(z, false)] := by
          rw [et]
          unfold plainW
          rw [List.map_append]
          rfl
        rw [e2]
        exact (h2.on t2).append (.cons ⟨t, rfl, by rw [upd_ne hDt.symm, upd_same]; rfl⟩ .nil)
  · rintro H1 ⟨s1, w1⟩
    have e : (wsV ws).length = ws.length := List.length_map _
    rw [e, List.take_length] at w1
    exact kq H1 D0 s1 w1
def spWPlL : Sp := fun vs H Q _ => ∃ (ws : List (List Nat)) (q : Addr), vs = [.ref q] ∧ H q = some (.lst (wsV ws)) ∧ ws.length ≤ 1000 ∧ ∀ H' a, Same H H' → LW H' a (plainW ws) → Q (.ref a) H'
theorem c_wplL (D : Dn K mg "_law_plain" sWPlain) : C0 P w K mg base 1 "_law_plain" spWPlL := by
  obtain ⟨f, fd, F, m⟩ := D.ex
  refine ⟨f, fd, ["_law_words"], F.ok scWPl (fun vs H Q E h => ?_) (fun cdv A outer s H vs Q E hr h => ?_), m, F.kp, F.binds (ps := ["_law_words"]) fun _ _ _ _ _ _ us hl => match us, hl with | [_], _ => rfl⟩
  · obtain ⟨ws, q, rfl, _⟩ := h
    rfl
  obtain ⟨ws, q, rfl, hq, hl, kq⟩ := h
  refine ⟨_, pss_one (ps_ret (pe_lc (own := [("_law_word_here", 1)]) (g := gName 1) (tt := tYes) rfl scWPl.nd (pi_list (pv 0))
    (blkOk_by (own := [("_law_word_here", 1)]) (N := ["_law_words", "_law_word_here"]) (sc := defScope sWPlain) (by decide +kernel)) (fun _ _ _ _ _ => pg_name (i := 1) scWPl.nd rfl (Or.inl rfl)) (fun _ _ _ _ _ => pts_nil)
    (fun _ _ _ _ _ => pe_tup (pa_cons (pv 1) (pa_cons pe_bl pa_nil))))), ?_⟩
  refine ⟨_, rfl, q, rfl, ⟨wsV ws, SqL.of hq⟩, fun D0 hD0 => ?_⟩
  refine lc_list (K := K) (a := q) (xs := wsV ws) (fun i H1 => Same H H1 ∧ LW H1 D0 (plainW (ws.take i))) ⟨same_new hD0 _, [], upd_same, .nil⟩ (fun i H1 _ h1 => SqL.of (h1.1 _ _ hq)) ?_ ?_
  · rintro i v H1 hv ⟨s1, us, h1, h2⟩
    have hv' : (ws.map fun w => V.str (mk w))[i]? = some v := hv
    rw [List.getElem?_map] at hv'
    cases e : ws[i]? with
    | none => rw [e] at hv'; cases hv'
    | some z =>
      rw [e] at hv'
      obtain rfl := Option.some.inj hv'
      have et : ws.take (i + 1) = ws.take i ++ [z] := by rw [List.take_add_one, e]; rfl
      refine ⟨rfl, ?_⟩
      unfold tYes
      refine iteT ?_
      refine ⟨_, rfl, by show 2 ≤ sizeLine; decide, fun t ht => ?_⟩
      have hDt : D0 ≠ t := ne_of_none h1 ht
      have st := same_new ht (.tup [.str (mk z), .bl false])
      have hl2 : us.length ≤ ws.length := by
        rw [h2.length]
        unfold plainW
        rw [List.length_map, List.length_take]
        omega
      refine ⟨us, st _ _ h1, by rw [sizeLine_eq]; omega, ?_, us ++ [.ref t], upd_same, ?_⟩
      · intro b u h
        rw [upd_ne (ne_of_none h hD0)]
        exact st _ _ (s1 _ _ h)
      · have t2 : Tups H1 (upd (upd H1 t (.tup [.str (mk z), .bl false])) D0 (.lst (us ++ [.ref t]))) := (same_tups st).trans (tups_lst (st _ _ h1))
        have e2 : plainW (ws.take (i + 1)) = plainW (ws.take i) ++ [(z, false)] := by
          rw [et]
          unfold plainW
          rw [List.map_append]
          rfl
        rw [e2]
        exact (h2.on t2).append (.cons ⟨t, rfl, by rw [upd_ne hDt.symm, upd_same]; rfl⟩ .nil)
  · rintro H1 ⟨s1, w1⟩
    have e : (wsV ws).length = ws.length := List.length_map _
    rw [e, List.take_length] at w1
    exact kq H1 D0 s1 w1
end
end My
set_option Elab.async false
set_option linter.all false
set_option maxRecDepth 100000
set_option maxHeartbeats 8000000
namespace My
open PySem L2 SS
def eL : Exs → List Ex
  | .nil => []
  | .cons e r => e :: eL r
def sL : Sts → List St_
  | .nil => []
  | .cons e r => e :: sL r
theorem eL_at {H : Hp} : ∀ {es : Exs} {ys : List V}, AtEs H es ys → AtL AtE H (eL es) ys
  | .nil, ys, h => h
  | .cons e r, ys, ⟨v, vs, h1, h2, h3⟩ => ⟨v, vs, h1, h2, eL_at h3⟩
theorem sL_at {H : Hp} : ∀ {es : Sts} {ys : List V}, AtSs H es ys → AtL AtS H (sL es) ys
  | .nil, ys, h => h
  | .cons e r, ys, ⟨v, vs, h1, h2, h3⟩ => ⟨v, vs, h1, h2, sL_at h3⟩
theorem eL_w : ∀ es : Exs, wEs es = (eL es).flatMap wE
  | .nil => rfl
  | .cons e r => by rw [wEs, eL, List.flatMap_cons, eL_w r]
theorem sL_w : ∀ es : Sts, wSs es = (sL es).flatMap wS
  | .nil => rfl
  | .cons e r => by rw [wSs, sL, List.flatMap_cons, sL_w r]
def okNE (d : Nat) (e : Ex) : Prop := okE e ∧ oE e ≤ d ∧ nE e ≤ 1000
def okNS (d : Nat) (e : St_) : Prop := okS e ∧ oS e ≤ d ∧ nS e ≤ 1000
theorem eL_ok {d : Nat} : ∀ {es : Exs}, okEs es → oEs es ≤ d → nEs es ≤ 1000 → ∀ e ∈ eL es, okNE d e
  | .nil, _, _, _, e, h => by simp [eL] at h
  | .cons x r, h1, h2, h3, e, h => by
    simp only [oEs, nEs] at h2 h3
    rcases List.mem_cons.mp h with h | h
    · subst h
      exact ⟨h1.1, by omega, by omega⟩
    · exact eL_ok (es := r) h1.2 (by omega) (by omega) e h
theorem sL_ok {d : Nat} : ∀ {es : Sts}, okSs es → oSs es ≤ d → nSs es ≤ 1000 → ∀ e ∈ sL es, okNS d e
  | .nil, _, _, _, e, h => by simp [sL] at h
  | .cons x r, h1, h2, h3, e, h => by
    simp only [oSs, nSs] at h2 h3
    rcases List.mem_cons.mp h with h | h
    · subst h
      exact ⟨h1.1, by omega, by omega⟩
    · exact sL_ok (es := r) h1.2 (by omega) (by omega) e h
theorem LW.two {H : Hp} {t1 t2 L : Addr} {z1 z2 : Str} {b1 b2 : Bool} (h1 : H t1 = none) (h2 : upd H t1 (.tup [.str z1, .bl b1]) t2 = none) (hL : upd (upd H t1 (.tup [.str z1, .bl b1])) t2 (.tup [.str z2, .bl b2]) L = none) :
    Same H (upd (upd (upd H t1 (.tup [.str z1, .bl b1])) t2 (.tup [.str z2, .bl b2])) L (.lst [.ref t1, .ref t2])) ∧ LW (upd (upd (upd H t1 (.tup [.str z1, .bl b1])) t2 (.tup [.str z2, .bl b2])) L (.lst [.ref t1, .ref t2])) L [(tl z1, b1), (tl z2, b2)] := by
  have s1 := same_new h1 (.tup [.str z1, .bl b1])
  have s2 := same_new h2 (.tup [.str z2, .bl b2])
  have s3 := same_new hL (.lst [.ref t1, .ref t2])
  refine ⟨(s1.trans s2).trans s3, _, upd_same, .cons ⟨t1, rfl, s3 _ _ (s2 _ _ ?_)⟩ (.cons ⟨t2, rfl, s3 _ _ ?_⟩ .nil)⟩
  · rw [upd_same]
    show some (HO.tup [.str z1, .bl b1]) = some (.tup [.str (mk (tl z1)), .bl b1])
    rw [mk_tl]
  · rw [upd_same]
    show some (HO.tup [.str z2, .bl b2]) = some (.tup [.str (mk (tl z2)), .bl b2])
    rw [mk_tl]
theorem LW.three {H : Hp} {t1 t2 t3 L : Addr} {z1 z2 z3 : Str} {b1 b2 b3 : Bool} (h1 : H t1 = none) (h2 : upd H t1 (.tup [.str z1, .bl b1]) t2 = none) (h3 : upd (upd H t1 (.tup [.str z1, .bl b1])) t2 (.tup [.str z2, .bl b2]) t3 = none) (hL : upd (upd (upd H t1 (.tup [.str z1, .bl b1])) t2 (.tup [.str z2, .bl b2])) t3 (.tup [.str z3, .bl b3]) L = none) :
    Same H (upd (upd (upd (upd H t1 (.tup [.str z1, .bl b1])) t2 (.tup [.str z2, .bl b2])) t3 (.tup [.str z3, .bl b3])) L (.lst [.ref t1, .ref t2, .ref t3])) ∧ LW (upd (upd (upd (upd H t1 (.tup [.str z1, .bl b1])) t2 (.tup [.str z2, .bl b2])) t3 (.tup [.str z3, .bl b3])) L (.lst [.ref t1, .ref t2, .ref t3])) L [(tl z1, b1), (tl z2, b2), (tl z3, b3)] := by
  have s1 := same_new h1 (.tup [.str z1, .bl b1])
  have s2 := same_new h2 (.tup [.str z2, .bl b2])
  have s3 := same_new h3 (.tup [.str z3, .bl b3])
  have s4 := same_new hL (.lst [.ref t1, .ref t2, .ref t3])
  refine ⟨((s1.trans s2).trans s3).trans s4, _, upd_same, .cons ⟨t1, rfl, s4 _ _ (s3 _ _ (s2 _ _ ?_))⟩ (.cons ⟨t2, rfl, s4 _ _ (s3 _ _ ?_)⟩ (.cons ⟨t3, rfl, s4 _ _ ?_⟩ .nil))⟩
  · rw [upd_same]
    show some (HO.tup [.str z1, .bl b1]) = some (.tup [.str (mk (tl z1)), .bl b1])
    rw [mk_tl]
  · rw [upd_same]
    show some (HO.tup [.str z2, .bl b2]) = some (.tup [.str (mk (tl z2)), .bl b2])
    rw [mk_tl]
  · rw [upd_same]
    show some (HO.tup [.str z3, .bl b3]) = some (.tup [.str (mk (tl z3)), .bl b3])
    rw [mk_tl]
theorem LW.one' {H : Hp} {t L : Addr} {z : Str} {b : Bool} (ht : H t = none) (hL : upd H t (.tup [.str z, .bl b]) L = none) : Same H (upd (upd H t (.tup [.str z, .bl b])) L (.lst [.ref t])) ∧ LW (upd (upd H t (.tup [.str z, .bl b])) L (.lst [.ref t])) L [(tl z, b)] := ⟨(same_new ht _).trans (same_new hL _), LW.one ht hL⟩
theorem LW.cast {H : Hp} {a : Addr} {ws zs : List WB} (h : LW H a ws) (e : ws = zs) : LW H a zs := e ▸ h
theorem pl_cases {k : T} (h : isPl k = true) : k = tk "do" ∨ k = tk "say" ∨ k = tk "return" ∨ k = tk "raise" := by
  unfold isPl inS at h
  have e : ∀ z : Str, (z == mk k) = true → k = tl z := fun z hz => by rw [eq_of_beq hz]
  simp only [List.any_cons, List.any_nil, Bool.or_false, Bool.or_eq_true] at h
  rcases h with h | h | h | h
  · exact .inl (e _ h)
  · exact .inr (.inl (e _ h))
  · exact .inr (.inr (.inl (e _ h)))
  · exact .inr (.inr (.inr (e _ h)))
section
variable {P : Program} {w : World} {K : PySem.W.Frag} {mg : Str → Option Value} {base : Heap}
abbrev spNE (d : Nat) : Sp := spNA AtE wE (okNE d)
abbrev spNS (d : Nat) : Sp := spNA AtS wS (okNS d)
abbrev spCE (d : Nat) : Sp := spCl AtE wE (okNE d)
abbrev spCS (d : Nat) : Sp := spCl AtS wS (okNS d)
def pNE : Nat → Sp
  | 0 => spF
  | d + 1 => spNE d
def pCE : Nat → Sp
  | 0 => spF
  | d + 1 => spCE d
def pCS : Nat → Sp
  | 0 => spF
  | d + 1 => spCS d
theorem scWN : FnScope ["_law_node", "_law_word_here", "_law_inner", "_law_head"] ["_law_node"] (defScope sWNode) := ⟨rfl, rfl, rfl, by decide +kernel, rfl, by decide +kernel, by decide +kernel⟩
theorem c_wnE {d k kc : Nat} (TS : TxS K mg) (D : Dn K mg "_law_node_words" sWNode) (GL : C0 P w K mg base 1 "_law_leaf_word" spWLeaf) (GP : C0 P w K mg base 1 "_law_plain" spWPlT) (hk : kc = k + 3) (GX : C0 P w K mg base k "_law_node_words" (pNE d)) (GCE : C0 P w K mg base (k + 2) "_law_closed" (pCE d)) (GCS : C0 P w K mg base kc "_law_closed" (pCS d)) : C0 P w K mg base (k + 4) "_law_node_words" (spNE d) := by
  obtain ⟨f, fd, F, m⟩ := D.ex
  refine ⟨f, fd, ["_law_node"], F.ok scWN (fun vs H Q E h => ?_) (fun cdv A outer s H vs Q E hr h => ?_), m, F.kp, F.binds (ps := ["_law_node"]) fun _ _ _ _ _ _ us hl => match us, hl with | [_], _ => rfl⟩
  · obtain ⟨e, v, rfl, _⟩ := h
    rfl
  obtain ⟨e, v, rfl, at1, ⟨ok, oo, nn⟩, kq⟩ := h
  refine ⟨_, pss_cons (ps_set (i := 1) scWN.nd rfl (Or.inl rfl) (pe_ix ix_tup (pv 0) pe_int (fun _ _ => rfl))) <|
    pss_cons (ps_if (pt_cmpR op_eq (pv 1) pe_str (nomark _)) (pss_cons (ps_set (i := 2) scWN.nd rfl (Or.inl rfl) (pe_op op_cat (pe_cc GX hr (by omega) pass0 (pa_cons (pe_ix ix_tup (pv 0) pe_int (fun _ _ => rfl)) pa_nil)) (pe_lst (pa_cons (pe_tup (pa_cons (pe_ix ix_tup (pv 0) pe_int (fun _ _ => rfl)) (pa_cons pe_bl pa_nil))) pa_nil)))) <| pss_one (ps_ret (pe_op op_cat (pe_op op_cat (pe_lst (pa_cons (pe_tup (pa_cons pe_str (pa_cons pe_bl pa_nil))) pa_nil)) (pv 2)) (pe_cc GCE hr (by omega) pass0 (pa_cons pe_str (pa_cons (pe_ix ix_tup (pv 0) pe_int (fun _ _ => rfl)) pa_nil)))))) pss_nil) <|
    pss_cons (ps_if (pt_cmpR op_eq (pv 1) pe_str (nomark _)) (pss_one (ps_ret (pe_op op_cat (pe_lst (pa_cons (pe_tup (pa_cons pe_str (pa_cons pe_bl pa_nil))) (pa_cons (pe_tup (pa_cons pe_str (pa_cons pe_bl pa_nil))) (pa_cons (pe_tup (pa_cons (pe_ix ix_tup (pv 0) pe_int (fun _ _ => rfl)) (pa_cons pe_bl pa_nil))) pa_nil)))) (pe_cc GCE hr (by omega) pass0 (pa_cons pe_str (pa_cons (pe_ix ix_tup (pv 0) pe_int (fun _ _ => rfl)) pa_nil)))))) pss_nil) <|
    pss_cons (ps_if (pt_cmpR op_eq (pv 1) pe_str (nomark _)) (pss_one (ps_ret (pe_op op_cat (pe_lst (pa_cons (pe_tup (pa_cons pe_str (pa_cons pe_bl pa_nil))) pa_nil)) (pe_cc GCE hr (by omega) pass0 (pa_cons pe_str (pa_cons (pe_ix ix_tup (pv 0) pe_int (fun _ _ => rfl)) pa_nil)))))) pss_nil) <|
    pss_cons (ps_if (pt_cmpR op_eq (pv 1) pe_str (nomark _)) (pss_one (ps_ret (pe_op op_cat (pe_op op_cat (pe_op op_cat (pe_lst (pa_cons (pe_tup (pa_cons pe_str (pa_cons pe_bl pa_nil))) pa_nil)) (pe_cc GP hr (by omega) pass0 (pa_cons (pe_ix ix_tup (pv 0) pe_int (fun _ _ => rfl)) pa_nil))) (pe_lst (pa_cons (pe_tup (pa_cons pe_str (pa_cons pe_bl pa_nil))) pa_nil))) (pe_cc GCS hr (by omega) pass0 (pa_cons pe_str (pa_cons (pe_ix ix_tup (pv 0) pe_int (fun _ _ => rfl)) pa_nil)))))) pss_nil) <|
    pss_cons (ps_if (pt_cmpR op_eq (pv 1) pe_str (nomark _)) (pss_one (ps_ret (pe_lst (pa_cons (pe_tup (pa_cons pe_str (pa_cons pe_bl pa_nil))) (pa_cons (pe_tup (pa_cons (pe_ix ix_tup (pv 0) pe_int (fun _ _ => rfl)) (pa_cons pe_bl pa_nil))) pa_nil))))) pss_nil) <|
    pss_cons (ps_if (pt_cmpR op_eq (pv 1) pe_str (nomark _)) (pss_one (ps_ret (pe_op op_cat (pe_lst (pa_cons (pe_tup (pa_cons (pe_ix ix_tup (pv 0) pe_int (fun _ _ => rfl)) (pa_cons pe_bl pa_nil))) (pa_cons (pe_tup (pa_cons pe_str (pa_cons pe_bl pa_nil))) pa_nil))) (pe_cc GX hr (by omega) pass0 (pa_cons (pe_ix ix_tup (pv 0) pe_int (fun _ _ => rfl)) pa_nil))))) pss_nil) <|
    pss_cons (ps_if (pt_cmpR op_eq (pv 1) pe_str (nomark _)) (pss_one (ps_ret (pe_op op_cat (pe_lst (pa_cons (pe_tup (pa_cons (pe_op op_add_str pe_str (pe_ix ix_tup (pv 0) pe_int (fun _ _ => rfl))) (pa_cons pe_bl pa_nil))) (pa_cons (pe_tup (pa_cons pe_str (pa_cons pe_bl pa_nil))) pa_nil))) (pe_cc GX hr (by omega) pass0 (pa_cons (pe_ix ix_tup (pv 0) pe_int (fun _ _ => rfl)) pa_nil))))) pss_nil) <|
    pss_cons (ps_if (pt_cmpR op_eq (pv 1) pe_str (nomark _)) (pss_cons (ps_set (i := 3) scWN.nd rfl (Or.inl rfl) (pe_op op_cat (pe_op op_cat (pe_lst (pa_cons (pe_tup (pa_cons pe_str (pa_cons pe_bl pa_nil))) pa_nil)) (pe_cc GX hr (by omega) pass0 (pa_cons (pe_ix ix_tup (pv 0) pe_int (fun _ _ => rfl)) pa_nil))) (pe_lst (pa_cons (pe_tup (pa_cons pe_str (pa_cons pe_bl pa_nil))) pa_nil)))) <| pss_one (ps_ret (pe_op op_cat (pe_op op_cat (pv 3) (pe_cc GCS hr (by omega) pass0 (pa_cons pe_str (pa_cons (pe_ix ix_tup (pv 0) pe_int (fun _ _ => rfl)) pa_nil)))) (pe_cc GCS hr (by omega) pass0 (pa_cons pe_str (pa_cons (pe_ix ix_tup (pv 0) pe_int (fun _ _ => rfl)) pa_nil)))))) pss_nil) <|
    pss_cons (ps_if (pt_cmpR op_eq (pv 1) pe_str (nomark _)) (pss_one (ps_ret (pe_op op_cat (pe_op op_cat (pe_op op_cat (pe_lst (pa_cons (pe_tup (pa_cons pe_str (pa_cons pe_bl pa_nil))) pa_nil)) (pe_cc GX hr (by omega) pass0 (pa_cons (pe_ix ix_tup (pv 0) pe_int (fun _ _ => rfl)) pa_nil))) (pe_lst (pa_cons (pe_tup (pa_cons pe_str (pa_cons pe_bl pa_nil))) pa_nil))) (pe_cc GCS hr (by omega) pass0 (pa_cons pe_str (pa_cons (pe_ix ix_tup (pv 0) pe_int (fun _ _ => rfl)) pa_nil)))))) pss_nil) <|
    pss_cons (ps_if (pt_cmpR op_eq (pv 1) pe_str (nomark _)) (pss_cons (ps_set (i := 3) scWN.nd rfl (Or.inl rfl) (pe_op op_cat (pe_op op_cat (pe_lst (pa_cons (pe_tup (pa_cons pe_str (pa_cons pe_bl pa_nil))) pa_nil)) (pe_cc GCS hr (by omega) pass0 (pa_cons pe_str (pa_cons (pe_ix ix_tup (pv 0) pe_int (fun _ _ => rfl)) pa_nil)))) (pe_lst (pa_cons (pe_tup (pa_cons (pe_ix ix_tup (pv 0) pe_int (fun _ _ => rfl)) (pa_cons pe_bl pa_nil))) pa_nil)))) <| pss_one (ps_ret (pe_op op_cat (pv 3) (pe_cc GCS hr (by omega) pass0 (pa_cons pe_str (pa_cons (pe_ix ix_tup (pv 0) pe_int (fun _ _ => rfl)) pa_nil)))))) pss_nil) <|
    pss_cons (ps_if (pt_cmpR op_in_seq (pv 1) (pe_lst (pa_cons pe_str (pa_cons pe_str (pa_cons pe_str (pa_cons pe_str pa_nil))))) rfl) (pss_one (ps_ret (pe_op op_cat (pe_lst (pa_cons (pe_tup (pa_cons (pv 1) (pa_cons pe_bl pa_nil))) pa_nil)) (pe_cc GX hr (by omega) pass0 (pa_cons (pe_ix ix_tup (pv 0) pe_int (fun _ _ => rfl)) pa_nil))))) pss_nil) <|
    pss_one (ps_ret (pe_lst (pa_cons (pe_tup (pa_cons (pe_cc GL hr (by omega) pass0 (pa_cons (pv 0) pa_nil)) (pa_cons pe_bl pa_nil))) pa_nil))), ?_⟩
  cases e with
  | num n =>
    obtain ⟨p, rfl, hp⟩ := id at1
    refine ⟨_, rfl, p, _, _, _, rfl, rfl, SqT.of hp, atI_0, ⟨_, rfl, rfl, _, rfl, ite2 (fun c => absurd c (by decide +kernel)) (fun _ => ⟨_, rfl, rfl, _, rfl, ite2 (fun c => absurd c (by decide +kernel)) (fun _ => ⟨_, rfl, rfl, _, rfl, ite2 (fun c => absurd c (by decide +kernel)) (fun _ => ⟨_, rfl, rfl, _, rfl, ite2 (fun c => absurd c (by decide +kernel)) (fun _ => ⟨_, rfl, rfl, _, rfl, ite2 (fun c => absurd c (by decide +kernel)) (fun _ => ⟨_, rfl, rfl, _, rfl, ite2 (fun c => absurd c (by decide +kernel)) (fun _ => ⟨_, rfl, rfl, _, rfl, ite2 (fun c => absurd c (by decide +kernel)) (fun _ => ⟨_, rfl, rfl, _, rfl, ite2 (fun c => absurd c (by decide +kernel)) (fun _ => ⟨_, rfl, rfl, _, rfl, ite2 (fun c => absurd c (by decide +kernel)) (fun _ => ⟨_, rfl, rfl, _, rfl, ite2 (fun c => absurd c (by decide +kernel)) (fun _ => ?_)⟩)⟩)⟩)⟩)⟩)⟩)⟩)⟩)⟩)⟩⟩
    refine ⟨_, rfl, by show 4 ≤ sizeLine; decide, fun L hL => ⟨L, _, rfl, .inl (SqL.of upd_same), rfl, rfl, _, rfl, ite2 (fun c => absurd c (by decide +kernel)) (fun _ => ?_)⟩⟩
    have sL := same_new hL (.lst [V.str (Str.ofString "do"), V.str (Str.ofString "say"), V.str (Str.ofString "return"), V.str (Str.ofString "raise")])
    refine ⟨_, rfl, _, numT n, _, rfl, at1.on_ (same_tups sL), ok, rfl, fun H1 s1 => ⟨by show 2 ≤ sizeLine; decide, fun t ht => ⟨by show 1 ≤ sizeLine; decide, fun L2 hL2 => ?_⟩⟩⟩
    obtain ⟨s2, w2⟩ := LW.one' ht hL2
    exact kq _ L2 ((sL.trans s1).trans s2) w2
  | txt t =>
    obtain ⟨p, rfl, hp⟩ := id at1
    refine ⟨_, rfl, p, _, _, _, rfl, rfl, SqT.of hp, atI_0, ⟨_, rfl, rfl, _, rfl, ite2 (fun c => absurd c (by decide +kernel)) (fun _ => ⟨_, rfl, rfl, _, rfl, ite2 (fun c => absurd c (by decide +kernel)) (fun _ => ⟨_, rfl, rfl, _, rfl, ite2 (fun c => absurd c (by decide +kernel)) (fun _ => ⟨_, rfl, rfl, _, rfl, ite2 (fun c => absurd c (by decide +kernel)) (fun _ => ⟨_, rfl, rfl, _, rfl, ite2 (fun c => absurd c (by decide +kernel)) (fun _ => ⟨_, rfl, rfl, _, rfl, ite2 (fun c => absurd c (by decide +kernel)) (fun _ => ⟨_, rfl, rfl, _, rfl, ite2 (fun c => absurd c (by decide +kernel)) (fun _ => ⟨_, rfl, rfl, _, rfl, ite2 (fun c => absurd c (by decide +kernel)) (fun _ => ⟨_, rfl, rfl, _, rfl, ite2 (fun c => absurd c (by decide +kernel)) (fun _ => ⟨_, rfl, rfl, _, rfl, ite2 (fun c => absurd c (by decide +kernel)) (fun _ => ?_)⟩)⟩)⟩)⟩)⟩)⟩)⟩)⟩)⟩)⟩⟩
    refine ⟨_, rfl, by show 4 ≤ sizeLine; decide, fun L hL => ⟨L, _, rfl, .inl (SqL.of upd_same), rfl, rfl, _, rfl, ite2 (fun c => absurd c (by decide +kernel)) (fun _ => ?_)⟩⟩
    have sL := same_new hL (.lst [V.str (Str.ofString "do"), V.str (Str.ofString "say"), V.str (Str.ofString "return"), V.str (Str.ofString "raise")])
    refine ⟨_, rfl, _, 39 :: t, _, rfl, at1.on_ (same_tups sL), ok, rfl, fun H1 s1 => ⟨by show 2 ≤ sizeLine; decide, fun t ht => ⟨by show 1 ≤ sizeLine; decide, fun L2 hL2 => ?_⟩⟩⟩
    obtain ⟨s2, w2⟩ := LW.one' ht hL2
    exact kq _ L2 ((sL.trans s1).trans s2) w2
  | non =>
    obtain ⟨p, rfl, hp⟩ := id at1
    refine ⟨_, rfl, p, _, _, _, rfl, rfl, SqT.of hp, atI_0, ⟨_, rfl, rfl, _, rfl, ite2 (fun c => absurd c (by decide +kernel)) (fun _ => ⟨_, rfl, rfl, _, rfl, ite2 (fun c => absurd c (by decide +kernel)) (fun _ => ⟨_, rfl, rfl, _, rfl, ite2 (fun c => absurd c (by decide +kernel)) (fun _ => ⟨_, rfl, rfl, _, rfl, ite2 (fun c => absurd c (by decide +kernel)) (fun _ => ⟨_, rfl, rfl, _, rfl, ite2 (fun c => absurd c (by decide +kernel)) (fun _ => ⟨_, rfl, rfl, _, rfl, ite2 (fun c => absurd c (by decide +kernel)) (fun _ => ⟨_, rfl, rfl, _, rfl, ite2 (fun c => absurd c (by decide +kernel)) (fun _ => ⟨_, rfl, rfl, _, rfl, ite2 (fun c => absurd c (by decide +kernel)) (fun _ => ⟨_, rfl, rfl, _, rfl, ite2 (fun c => absurd c (by decide +kernel)) (fun _ => ⟨_, rfl, rfl, _, rfl, ite2 (fun c => absurd c (by decide +kernel)) (fun _ => ?_)⟩)⟩)⟩)⟩)⟩)⟩)⟩)⟩)⟩)⟩⟩
    refine ⟨_, rfl, by show 4 ≤ sizeLine; decide, fun L hL => ⟨L, _, rfl, .inl (SqL.of upd_same), rfl, rfl, _, rfl, ite2 (fun c => absurd c (by decide +kernel)) (fun _ => ?_)⟩⟩
    have sL := same_new hL (.lst [V.str (Str.ofString "do"), V.str (Str.ofString "say"), V.str (Str.ofString "return"), V.str (Str.ofString "raise")])
    refine ⟨_, rfl, _, tk "none", _, rfl, at1.on_ (same_tups sL), ok, rfl, fun H1 s1 => ⟨by show 2 ≤ sizeLine; decide, fun t ht => ⟨by show 1 ≤ sizeLine; decide, fun L2 hL2 => ?_⟩⟩⟩
    obtain ⟨s2, w2⟩ := LW.one' ht hL2
    exact kq _ L2 ((sL.trans s1).trans s2) w2
  | slf =>
    obtain ⟨p, rfl, hp⟩ := id at1
    refine ⟨_, rfl, p, _, _, _, rfl, rfl, SqT.of hp, atI_0, ⟨_, rfl, rfl, _, rfl, ite2 (fun c => absurd c (by decide +kernel)) (fun _ => ⟨_, rfl, rfl, _, rfl, ite2 (fun c => absurd c (by decide +kernel)) (fun _ => ⟨_, rfl, rfl, _, rfl, ite2 (fun c => absurd c (by decide +kernel)) (fun _ => ⟨_, rfl, rfl, _, rfl, ite2 (fun c => absurd c (by decide +kernel)) (fun _ => ⟨_, rfl, rfl, _, rfl, ite2 (fun c => absurd c (by decide +kernel)) (fun _ => ⟨_, rfl, rfl, _, rfl, ite2 (fun c => absurd c (by decide +kernel)) (fun _ => ⟨_, rfl, rfl, _, rfl, ite2 (fun c => absurd c (by decide +kernel)) (fun _ => ⟨_, rfl, rfl, _, rfl, ite2 (fun c => absurd c (by decide +kernel)) (fun _ => ⟨_, rfl, rfl, _, rfl, ite2 (fun c => absurd c (by decide +kernel)) (fun _ => ⟨_, rfl, rfl, _, rfl, ite2 (fun c => absurd c (by decide +kernel)) (fun _ => ?_)⟩)⟩)⟩)⟩)⟩)⟩)⟩)⟩)⟩)⟩⟩
    refine ⟨_, rfl, by show 4 ≤ sizeLine; decide, fun L hL => ⟨L, _, rfl, .inl (SqL.of upd_same), rfl, rfl, _, rfl, ite2 (fun c => absurd c (by decide +kernel)) (fun _ => ?_)⟩⟩
    have sL := same_new hL (.lst [V.str (Str.ofString "do"), V.str (Str.ofString "say"), V.str (Str.ofString "return"), V.str (Str.ofString "raise")])
    refine ⟨_, rfl, _, tk "self", _, rfl, at1.on_ (same_tups sL), ok, rfl, fun H1 s1 => ⟨by show 2 ≤ sizeLine; decide, fun t ht => ⟨by show 1 ≤ sizeLine; decide, fun L2 hL2 => ?_⟩⟩⟩
    obtain ⟨s2, w2⟩ := LW.one' ht hL2
    exact kq _ L2 ((sL.trans s1).trans s2) w2
  | nam t =>
    obtain ⟨p, rfl, hp⟩ := id at1
    refine ⟨_, rfl, p, _, _, _, rfl, rfl, SqT.of hp, atI_0, ⟨_, rfl, rfl, _, rfl, ite2 (fun c => absurd c (by decide +kernel)) (fun _ => ⟨_, rfl, rfl, _, rfl, ite2 (fun c => absurd c (by decide +kernel)) (fun _ => ⟨_, rfl, rfl, _, rfl, ite2 (fun c => absurd c (by decide +kernel)) (fun _ => ⟨_, rfl, rfl, _, rfl, ite2 (fun c => absurd c (by decide +kernel)) (fun _ => ⟨_, rfl, rfl, _, rfl, ite2 (fun c => absurd c (by decide +kernel)) (fun _ => ⟨_, rfl, rfl, _, rfl, ite2 (fun c => absurd c (by decide +kernel)) (fun _ => ⟨_, rfl, rfl, _, rfl, ite2 (fun c => absurd c (by decide +kernel)) (fun _ => ⟨_, rfl, rfl, _, rfl, ite2 (fun c => absurd c (by decide +kernel)) (fun _ => ⟨_, rfl, rfl, _, rfl, ite2 (fun c => absurd c (by decide +kernel)) (fun _ => ⟨_, rfl, rfl, _, rfl, ite2 (fun c => absurd c (by decide +kernel)) (fun _ => ?_)⟩)⟩)⟩)⟩)⟩)⟩)⟩)⟩)⟩)⟩⟩
    refine ⟨_, rfl, by show 4 ≤ sizeLine; decide, fun L hL => ⟨L, _, rfl, .inl (SqL.of upd_same), rfl, rfl, _, rfl, ite2 (fun c => absurd c (by decide +kernel)) (fun _ => ?_)⟩⟩
    have sL := same_new hL (.lst [V.str (Str.ofString "do"), V.str (Str.ofString "say"), V.str (Str.ofString "return"), V.str (Str.ofString "raise")])
    refine ⟨_, rfl, _, t, _, rfl, at1.on_ (same_tups sL), ok, rfl, fun H1 s1 => ⟨by show 2 ≤ sizeLine; decide, fun t ht => ⟨by show 1 ≤ sizeLine; decide, fun L2 hL2 => ?_⟩⟩⟩
    obtain ⟨s2, w2⟩ := LW.one' ht hL2
    exact kq _ L2 ((sL.trans s1).trans s2) w2
  | fld t =>
    obtain ⟨p, rfl, hp⟩ := id at1
    refine ⟨_, rfl, p, _, _, _, rfl, rfl, SqT.of hp, atI_0, ⟨_, rfl, rfl, _, rfl, ite2 (fun c => absurd c (by decide +kernel)) (fun _ => ⟨_, rfl, rfl, _, rfl, ite2 (fun c => absurd c (by decide +kernel)) (fun _ => ⟨_, rfl, rfl, _, rfl, ite2 (fun c => absurd c (by decide +kernel)) (fun _ => ⟨_, rfl, rfl, _, rfl, ite2 (fun c => absurd c (by decide +kernel)) (fun _ => ⟨_, rfl, rfl, _, rfl, ite2 (fun c => absurd c (by decide +kernel)) (fun _ => ⟨_, rfl, rfl, _, rfl, ite2 (fun c => absurd c (by decide +kernel)) (fun _ => ⟨_, rfl, rfl, _, rfl, ite2 (fun c => absurd c (by decide +kernel)) (fun _ => ⟨_, rfl, rfl, _, rfl, ite2 (fun c => absurd c (by decide +kernel)) (fun _ => ⟨_, rfl, rfl, _, rfl, ite2 (fun c => absurd c (by decide +kernel)) (fun _ => ⟨_, rfl, rfl, _, rfl, ite2 (fun c => absurd c (by decide +kernel)) (fun _ => ?_)⟩)⟩)⟩)⟩)⟩)⟩)⟩)⟩)⟩)⟩⟩
    refine ⟨_, rfl, by show 4 ≤ sizeLine; decide, fun L hL => ⟨L, _, rfl, .inl (SqL.of upd_same), rfl, rfl, _, rfl, ite2 (fun c => absurd c (by decide +kernel)) (fun _ => ?_)⟩⟩
    have sL := same_new hL (.lst [V.str (Str.ofString "do"), V.str (Str.ofString "say"), V.str (Str.ofString "return"), V.str (Str.ofString "raise")])
    refine ⟨_, rfl, _, 64 :: t, _, rfl, at1.on_ (same_tups sL), ok, rfl, fun H1 s1 => ⟨by show 2 ≤ sizeLine; decide, fun t ht => ⟨by show 1 ≤ sizeLine; decide, fun L2 hL2 => ?_⟩⟩⟩
    obtain ⟨s2, w2⟩ := LW.one' ht hL2
    exact kq _ L2 ((sL.trans s1).trans s2) w2
  | tru b =>
    obtain ⟨p, rfl, hp⟩ := id at1
    refine ⟨_, rfl, p, _, _, _, rfl, rfl, SqT.of hp, atI_0, ⟨_, rfl, rfl, _, rfl, ite2 (fun c => absurd c (by decide +kernel)) (fun _ => ⟨_, rfl, rfl, _, rfl, ite2 (fun c => absurd c (by decide +kernel)) (fun _ => ⟨_, rfl, rfl, _, rfl, ite2 (fun c => absurd c (by decide +kernel)) (fun _ => ⟨_, rfl, rfl, _, rfl, ite2 (fun c => absurd c (by decide +kernel)) (fun _ => ⟨_, rfl, rfl, _, rfl, ite2 (fun c => absurd c (by decide +kernel)) (fun _ => ⟨_, rfl, rfl, _, rfl, ite2 (fun c => absurd c (by decide +kernel)) (fun _ => ⟨_, rfl, rfl, _, rfl, ite2 (fun c => absurd c (by decide +kernel)) (fun _ => ⟨_, rfl, rfl, _, rfl, ite2 (fun c => absurd c (by decide +kernel)) (fun _ => ⟨_, rfl, rfl, _, rfl, ite2 (fun c => absurd c (by decide +kernel)) (fun _ => ⟨_, rfl, rfl, _, rfl, ite2 (fun c => absurd c (by decide +kernel)) (fun _ => ?_)⟩)⟩)⟩)⟩)⟩)⟩)⟩)⟩)⟩)⟩⟩
    refine ⟨_, rfl, by show 4 ≤ sizeLine; decide, fun L hL => ⟨L, _, rfl, .inl (SqL.of upd_same), rfl, rfl, _, rfl, ite2 (fun c => absurd c (by decide +kernel)) (fun _ => ?_)⟩⟩
    have sL := same_new hL (.lst [V.str (Str.ofString "do"), V.str (Str.ofString "say"), V.str (Str.ofString "return"), V.str (Str.ofString "raise")])
    cases b with
    | true =>
      refine ⟨_, rfl, _, tk "true", _, rfl, at1.on_ (same_tups sL), ok, rfl, fun H1 s1 => ⟨by show 2 ≤ sizeLine; decide, fun t ht => ⟨by show 1 ≤ sizeLine; decide, fun L2 hL2 => ?_⟩⟩⟩
      obtain ⟨s2, w2⟩ := LW.one' ht hL2
      exact kq _ L2 ((sL.trans s1).trans s2) w2
    | false =>
      refine ⟨_, rfl, _, tk "false", _, rfl, at1.on_ (same_tups sL), ok, rfl, fun H1 s1 => ⟨by show 2 ≤ sizeLine; decide, fun t ht => ⟨by show 1 ≤ sizeLine; decide, fun L2 hL2 => ?_⟩⟩⟩
      obtain ⟨s2, w2⟩ := LW.one' ht hL2
      exact kq _ L2 ((sL.trans s1).trans s2) w2
  | new t =>
    obtain ⟨p, rfl, hp⟩ := at1
    refine ⟨_, rfl, p, _, _, _, rfl, rfl, SqT.of hp, atI_0, ⟨_, rfl, rfl, _, rfl, ite2 (fun c => absurd c (by decide +kernel)) (fun _ => ⟨_, rfl, rfl, _, rfl, ite2 (fun c => absurd c (by decide +kernel)) (fun _ => ⟨_, rfl, rfl, _, rfl, ite2 (fun c => absurd c (by decide +kernel)) (fun _ => ⟨_, rfl, rfl, _, rfl, ite2 (fun c => absurd c (by decide +kernel)) (fun _ => ⟨_, rfl, rfl, _, rfl, ite2 (fun _ => ?_) (fun c => absurd (by decide +kernel) c)⟩)⟩)⟩)⟩)⟩⟩
    refine ⟨by show 2 ≤ sizeLine; decide, fun t1 h1 => ⟨_, rfl, p, _, _, _, rfl, rfl, SqT.of (same_new h1 _ _ _ hp), atI_nat (j := 1) rfl, by show 2 ≤ sizeLine; decide, fun t2 h2 => ⟨by show 2 ≤ sizeLine; decide, fun L hL => ?_⟩⟩⟩
    obtain ⟨s2, w2⟩ := LW.two h1 h2 hL
    exact kq _ L s2 w2
  | send r mm es =>
    obtain ⟨p, vr, q, xs, rfl, hp, hq, hr1, hes⟩ := at1
    have hd0 : ∃ d', d = d' + 1 := by
      cases d with
      | zero => simp only [oE] at oo; omega
      | succ d => exact ⟨d, rfl⟩
    obtain ⟨d, rfl⟩ := hd0
    simp only [oE] at oo
    simp only [nE] at nn
    obtain ⟨ok1, ok2, ok3⟩ := ok
    have b1 := wE_b r ok2
    have b2 := wEs_b es ok3
    rw [eL_w] at b2
    refine ⟨_, rfl, p, _, _, _, rfl, rfl, SqT.of hp, atI_0, ⟨_, rfl, rfl, _, rfl, ite2 (fun _ => ?_) (fun c => absurd (by decide +kernel) c)⟩⟩
    refine ⟨_, rfl, p, _, _, _, rfl, rfl, SqT.of (hp), atI_nat (j := 1) rfl, r, vr, rfl, hr1, ⟨ok2, by omega, by omega⟩, fun H1 a1 s1 w1 => ?_⟩
    refine ⟨_, rfl, p, _, _, _, rfl, rfl, SqT.of (s1 _ _ hp), atI_nat (j := 2) rfl, by show 2 ≤ sizeLine; decide, fun t2 h2 => ⟨by show 1 ≤ sizeLine; decide, fun L2 hL2 => ?_⟩⟩
    obtain ⟨s2, w2⟩ := LW.one' h2 hL2
    obtain ⟨us, vs, g1, g2, l1, l2, c⟩ := (w1.on s2).cat w2
    refine ⟨_, _, us, vs, rfl, rfl, g1, g2, by rw [l1, l2, sizeLine_eq]; simp only [List.length_append, List.length_cons, List.length_nil]; omega, fun p3 hp3 => ?_⟩
    have w3 := c p3 hp3
    have s3 := (s1.trans s2).trans (same_new hp3 (.lst (us ++ vs)))
    generalize upd _ p3 (.lst (us ++ vs)) = H3 at w3 s3 ⊢
    refine ⟨by show 2 ≤ sizeLine; decide, fun t4 h4 => ⟨by show 1 ≤ sizeLine; decide, fun L4 hL4 => ⟨_, rfl, ?_⟩⟩⟩
    obtain ⟨s4, w4⟩ := LW.one' h4 hL4
    obtain ⟨us4, vs4, g3, g4, l3, l4, c4⟩ := w4.cat (w3.on s4)
    refine ⟨_, _, us4, vs4, rfl, rfl, g3, g4, by rw [l3, l4, sizeLine_eq]; simp only [List.length_append, List.length_cons, List.length_nil]; omega, fun p5 hp5 => ?_⟩
    have w5 := c4 p5 hp5
    have s5 := (s3.trans s4).trans (same_new hp5 (.lst (us4 ++ vs4)))
    generalize upd _ p5 (.lst (us4 ++ vs4)) = H5 at w5 s5 ⊢
    refine ⟨_, rfl, p, _, _, _, rfl, rfl, SqT.of (s5 _ _ hp), atI_nat (j := 3) rfl, eL es, q, xs, _, rfl, s5 _ _ hq, eL_at (hes.on_ (same_tups s5)), eL_ok ok3 (by omega) (by omega), by omega, fun H6 a6 s6 w6 => ?_⟩
    obtain ⟨us6, vs6, g5, g6, l5, l6, c6⟩ := (w5.on s6).cat w6
    refine ⟨_, _, us6, vs6, rfl, rfl, g5, g6, by rw [l5, l6, sizeLine_eq]; simp only [List.length_append, List.length_cons, List.length_nil]; omega, fun p7 hp7 => kq _ p7 ((s5.trans s6).trans (same_new hp7 _)) ((c6 p7 hp7).cast ?_)⟩
    simp only [wE, eL_w, List.append_assoc, List.cons_append, List.nil_append]
  | up mm es =>
    obtain ⟨p, q, xs, rfl, hp, hq, hes⟩ := at1
    have hd0 : ∃ d', d = d' + 1 := by
      cases d with
      | zero => simp only [oE] at oo; omega
      | succ d => exact ⟨d, rfl⟩
    obtain ⟨d, rfl⟩ := hd0
    simp only [oE] at oo
    simp only [nE] at nn
    obtain ⟨ok1, ok3⟩ := ok
    have b2 := wEs_b es ok3
    rw [eL_w] at b2
    refine ⟨_, rfl, p, _, _, _, rfl, rfl, SqT.of hp, atI_0, ⟨_, rfl, rfl, _, rfl, ite2 (fun c => absurd c (by decide +kernel)) (fun _ => ⟨_, rfl, rfl, _, rfl, ite2 (fun _ => ?_) (fun c => absurd (by decide +kernel) c)⟩)⟩⟩
    refine ⟨by show 2 ≤ sizeLine; decide, fun t1 h1 => ⟨by show 2 ≤ sizeLine; decide, fun t2 h2 => ⟨_, rfl, p, _, _, _, rfl, rfl, SqT.of (same_new h2 _ _ _ (same_new h1 _ _ _ hp)), atI_nat (j := 1) rfl, by show 2 ≤ sizeLine; decide, fun t3 h3 => ⟨by show 3 ≤ sizeLine; decide, fun L hL => ?_⟩⟩⟩⟩
    obtain ⟨s5, w5⟩ := LW.three h1 h2 h3 hL
    generalize upd _ L (.lst [.ref t1, .ref t2, .ref t3]) = H5 at w5 s5 ⊢
    refine ⟨_, rfl, p, _, _, _, rfl, rfl, SqT.of (s5 _ _ hp), atI_nat (j := 2) rfl, eL es, q, xs, _, rfl, s5 _ _ hq, eL_at (hes.on_ (same_tups s5)), eL_ok ok3 (by omega) (by omega), by omega, fun H6 a6 s6 w6 => ?_⟩
    obtain ⟨us6, vs6, g5, g6, l5, l6, c6⟩ := (w5.on s6).cat w6
    refine ⟨_, _, us6, vs6, rfl, rfl, g5, g6, by rw [l5, l6, sizeLine_eq]; simp only [List.length_append, List.length_cons, List.length_nil]; omega, fun p7 hp7 => kq _ p7 ((s5.trans s6).trans (same_new hp7 _)) ((c6 p7 hp7).cast ?_)⟩
    simp only [wE, eL_w, List.append_assoc, List.cons_append, List.nil_append]
  | lst es =>
    obtain ⟨p, q, xs, rfl, hp, hq, hes⟩ := at1
    have hd0 : ∃ d', d = d' + 1 := by
      cases d with
      | zero => simp only [oE] at oo; omega
      | succ d => exact ⟨d, rfl⟩
    obtain ⟨d, rfl⟩ := hd0
    simp only [oE] at oo
    simp only [nE] at nn
    have b2 := wEs_b es ok
    rw [eL_w] at b2
    refine ⟨_, rfl, p, _, _, _, rfl, rfl, SqT.of hp, atI_0, ⟨_, rfl, rfl, _, rfl, ite2 (fun c => absurd c (by decide +kernel)) (fun _ => ⟨_, rfl, rfl, _, rfl, ite2 (fun c => absurd c (by decide +kernel)) (fun _ => ⟨_, rfl, rfl, _, rfl, ite2 (fun _ => ?_) (fun c => absurd (by decide +kernel) c)⟩)⟩)⟩⟩
    refine ⟨by show 2 ≤ sizeLine; decide, fun t1 h1 => ⟨by show 1 ≤ sizeLine; decide, fun L hL => ?_⟩⟩
    obtain ⟨s5, w5⟩ := LW.one' h1 hL
    generalize upd _ L (.lst [.ref t1]) = H5 at w5 s5 ⊢
    refine ⟨_, rfl, p, _, _, _, rfl, rfl, SqT.of (s5 _ _ hp), atI_nat (j := 1) rfl, eL es, q, xs, _, rfl, s5 _ _ hq, eL_at (hes.on_ (same_tups s5)), eL_ok ok (by omega) (by omega), by omega, fun H6 a6 s6 w6 => ?_⟩
    obtain ⟨us6, vs6, g5, g6, l5, l6, c6⟩ := (w5.on s6).cat w6
    refine ⟨_, _, us6, vs6, rfl, rfl, g5, g6, by rw [l5, l6, sizeLine_eq]; simp only [List.length_append, List.length_cons, List.length_nil]; omega, fun p7 hp7 => kq _ p7 ((s5.trans s6).trans (same_new hp7 _)) ((c6 p7 hp7).cast ?_)⟩
    simp only [wE, eL_w, List.append_assoc, List.cons_append, List.nil_append]
  | blk ps ss =>
    obtain ⟨p, vw, q, xs, rfl, hp, hq, haw, hes⟩ := at1
    have hd0 : ∃ d', d = d' + 1 := by
      cases d with
      | zero => simp only [oE] at oo; omega
      | succ d => exact ⟨d, rfl⟩
    obtain ⟨d, rfl⟩ := hd0
    simp only [oE] at oo
    simp only [nE] at nn
    obtain ⟨ok1, ok2, ok3⟩ := ok
    have b2 := wSs_b ss ok3
    rw [sL_w] at b2
    obtain ⟨pw, rfl, hpw⟩ := haw
    refine ⟨_, rfl, p, _, _, _, rfl, rfl, SqT.of hp, atI_0, ⟨_, rfl, rfl, _, rfl, ite2 (fun c => absurd c (by decide +kernel)) (fun _ => ⟨_, rfl, rfl, _, rfl, ite2 (fun c => absurd c (by decide +kernel)) (fun _ => ⟨_, rfl, rfl, _, rfl, ite2 (fun c => absurd c (by decide +kernel)) (fun _ => ⟨_, rfl, rfl, _, rfl, ite2 (fun _ => ?_) (fun c => absurd (by decide +kernel) c)⟩)⟩)⟩)⟩⟩
    refine ⟨by show 2 ≤ sizeLine; decide, fun t1 h1 => ⟨by show 1 ≤ sizeLine; decide, fun L hL => ?_⟩⟩
    obtain ⟨s1, w1⟩ := LW.one' h1 hL
    generalize upd _ L (.lst [.ref t1]) = H1 at w1 s1 ⊢
    refine ⟨_, rfl, p, _, _, _, rfl, rfl, SqT.of (s1 _ _ hp), atI_nat (j := 1) rfl, ps, pw, rfl, s1 _ _ hpw, by omega, fun H2 a2 s2 w2 => ?_⟩
    obtain ⟨us, vs, g1, g2, l1, l2, c⟩ := (w1.on s2).cat w2
    have lp := plainW_len ps
    refine ⟨_, _, us, vs, rfl, rfl, g1, g2, by rw [l1, l2, sizeLine_eq]; simp only [List.length_append, List.length_cons, List.length_nil]; omega, fun p3 hp3 => ?_⟩
    have w3 := c p3 hp3
    have s3 := (s1.trans s2).trans (same_new hp3 (.lst (us ++ vs)))
    generalize upd _ p3 (.lst (us ++ vs)) = H3 at w3 s3 ⊢
    refine ⟨by show 2 ≤ sizeLine; decide, fun t4 h4 => ⟨by show 1 ≤ sizeLine; decide, fun L4 hL4 => ?_⟩⟩
    obtain ⟨s4, w4⟩ := LW.one' h4 hL4
    obtain ⟨us4, vs4, g3, g4, l3, l4, c4⟩ := (w3.on s4).cat w4
    refine ⟨_, _, us4, vs4, rfl, rfl, g3, g4, by rw [l3, l4, sizeLine_eq]; simp only [List.length_append, List.length_cons, List.length_nil]; omega, fun p5 hp5 => ?_⟩
    have w5 := c4 p5 hp5
    have s5 := (s3.trans s4).trans (same_new hp5 (.lst (us4 ++ vs4)))
    generalize upd _ p5 (.lst (us4 ++ vs4)) = H5 at w5 s5 ⊢
    refine ⟨_, rfl, p, _, _, _, rfl, rfl, SqT.of (s5 _ _ hp), atI_nat (j := 2) rfl, sL ss, q, xs, _, rfl, s5 _ _ hq, sL_at (hes.on_ (same_tups s5)), sL_ok ok3 (by omega) (by omega), by omega, fun H6 a6 s6 w6 => ?_⟩
    obtain ⟨us6, vs6, g5, g6, l5, l6, c6⟩ := (w5.on s6).cat w6
    refine ⟨_, _, us6, vs6, rfl, rfl, g5, g6, by rw [l5, l6, sizeLine_eq]; simp only [List.length_append, List.length_cons, List.length_nil]; omega, fun p7 hp7 => kq _ p7 ((s5.trans s6).trans (same_new hp7 _)) ((c6 p7 hp7).cast ?_)⟩
    simp only [wE, sL_w, List.append_assoc, List.cons_append, List.nil_append]
theorem c_wnS {d k kc : Nat} (TS : TxS K mg) (D : Dn K mg "_law_node_words" sWNode) (GL : C0 P w K mg base 1 "_law_leaf_word" spWLeaf) (GP : C0 P w K mg base 1 "_law_plain" spWPlT) (hk : kc = k + 3) (GX : C0 P w K mg base (k + 4) "_law_node_words" (spNE d)) (GCE : C0 P w K mg base (k + 2) "_law_closed" (pCE d)) (GCS : C0 P w K mg base kc "_law_closed" (pCS d)) : C0 P w K mg base (k + 5) "_law_node_words" (spNS d) := by
  obtain ⟨f, fd, F, m⟩ := D.ex
  refine ⟨f, fd, ["_law_node"], F.ok scWN (fun vs H Q E h => ?_) (fun cdv A outer s H vs Q E hr h => ?_), m, F.kp, F.binds (ps := ["_law_node"]) fun _ _ _ _ _ _ us hl => match us, hl with | [_], _ => rfl⟩
  · obtain ⟨e, v, rfl, _⟩ := h
    rfl
  obtain ⟨e, v, rfl, at1, ⟨ok, oo, nn⟩, kq⟩ := h
  refine ⟨_, pss_cons (ps_set (i := 1) scWN.nd rfl (Or.inl rfl) (pe_ix ix_tup (pv 0) pe_int (fun _ _ => rfl))) <|
    pss_cons (ps_if (pt_cmpR op_eq (pv 1) pe_str (nomark _)) (pss_cons (ps_set (i := 2) scWN.nd rfl (Or.inl rfl) (pe_op op_cat (pe_cc GX hr (by omega) pass0 (pa_cons (pe_ix ix_tup (pv 0) pe_int (fun _ _ => rfl)) pa_nil)) (pe_lst (pa_cons (pe_tup (pa_cons (pe_ix ix_tup (pv 0) pe_int (fun _ _ => rfl)) (pa_cons pe_bl pa_nil))) pa_nil)))) <| pss_one (ps_ret (pe_op op_cat (pe_op op_cat (pe_lst (pa_cons (pe_tup (pa_cons pe_str (pa_cons pe_bl pa_nil))) pa_nil)) (pv 2)) (pe_cc GCE hr (by omega) pass0 (pa_cons pe_str (pa_cons (pe_ix ix_tup (pv 0) pe_int (fun _ _ => rfl)) pa_nil)))))) pss_nil) <|
    pss_cons (ps_if (pt_cmpR op_eq (pv 1) pe_str (nomark _)) (pss_one (ps_ret (pe_op op_cat (pe_lst (pa_cons (pe_tup (pa_cons pe_str (pa_cons pe_bl pa_nil))) (pa_cons (pe_tup (pa_cons pe_str (pa_cons pe_bl pa_nil))) (pa_cons (pe_tup (pa_cons (pe_ix ix_tup (pv 0) pe_int (fun _ _ => rfl)) (pa_cons pe_bl pa_nil))) pa_nil)))) (pe_cc GCE hr (by omega) pass0 (pa_cons pe_str (pa_cons (pe_ix ix_tup (pv 0) pe_int (fun _ _ => rfl)) pa_nil)))))) pss_nil) <|
    pss_cons (ps_if (pt_cmpR op_eq (pv 1) pe_str (nomark _)) (pss_one (ps_ret (pe_op op_cat (pe_lst (pa_cons (pe_tup (pa_cons pe_str (pa_cons pe_bl pa_nil))) pa_nil)) (pe_cc GCE hr (by omega) pass0 (pa_cons pe_str (pa_cons (pe_ix ix_tup (pv 0) pe_int (fun _ _ => rfl)) pa_nil)))))) pss_nil) <|
    pss_cons (ps_if (pt_cmpR op_eq (pv 1) pe_str (nomark _)) (pss_one (ps_ret (pe_op op_cat (pe_op op_cat (pe_op op_cat (pe_lst (pa_cons (pe_tup (pa_cons pe_str (pa_cons pe_bl pa_nil))) pa_nil)) (pe_cc GP hr (by omega) pass0 (pa_cons (pe_ix ix_tup (pv 0) pe_int (fun _ _ => rfl)) pa_nil))) (pe_lst (pa_cons (pe_tup (pa_cons pe_str (pa_cons pe_bl pa_nil))) pa_nil))) (pe_cc GCS hr (by omega) pass0 (pa_cons pe_str (pa_cons (pe_ix ix_tup (pv 0) pe_int (fun _ _ => rfl)) pa_nil)))))) pss_nil) <|
    pss_cons (ps_if (pt_cmpR op_eq (pv 1) pe_str (nomark _)) (pss_one (ps_ret (pe_lst (pa_cons (pe_tup (pa_cons pe_str (pa_cons pe_bl pa_nil))) (pa_cons (pe_tup (pa_cons (pe_ix ix_tup (pv 0) pe_int (fun _ _ => rfl)) (pa_cons pe_bl pa_nil))) pa_nil))))) pss_nil) <|
    pss_cons (ps_if (pt_cmpR op_eq (pv 1) pe_str (nomark _)) (pss_one (ps_ret (pe_op op_cat (pe_lst (pa_cons (pe_tup (pa_cons (pe_ix ix_tup (pv 0) pe_int (fun _ _ => rfl)) (pa_cons pe_bl pa_nil))) (pa_cons (pe_tup (pa_cons pe_str (pa_cons pe_bl pa_nil))) pa_nil))) (pe_cc GX hr (by omega) pass0 (pa_cons (pe_ix ix_tup (pv 0) pe_int (fun _ _ => rfl)) pa_nil))))) pss_nil) <|
    pss_cons (ps_if (pt_cmpR op_eq (pv 1) pe_str (nomark _)) (pss_one (ps_ret (pe_op op_cat (pe_lst (pa_cons (pe_tup (pa_cons (pe_op op_add_str pe_str (pe_ix ix_tup (pv 0) pe_int (fun _ _ => rfl))) (pa_cons pe_bl pa_nil))) (pa_cons (pe_tup (pa_cons pe_str (pa_cons pe_bl pa_nil))) pa_nil))) (pe_cc GX hr (by omega) pass0 (pa_cons (pe_ix ix_tup (pv 0) pe_int (fun _ _ => rfl)) pa_nil))))) pss_nil) <|
    pss_cons (ps_if (pt_cmpR op_eq (pv 1) pe_str (nomark _)) (pss_cons (ps_set (i := 3) scWN.nd rfl (Or.inl rfl) (pe_op op_cat (pe_op op_cat (pe_lst (pa_cons (pe_tup (pa_cons pe_str (pa_cons pe_bl pa_nil))) pa_nil)) (pe_cc GX hr (by omega) pass0 (pa_cons (pe_ix ix_tup (pv 0) pe_int (fun _ _ => rfl)) pa_nil))) (pe_lst (pa_cons (pe_tup (pa_cons pe_str (pa_cons pe_bl pa_nil))) pa_nil)))) <| pss_one (ps_ret (pe_op op_cat (pe_op op_cat (pv 3) (pe_cc GCS hr (by omega) pass0 (pa_cons pe_str (pa_cons (pe_ix ix_tup (pv 0) pe_int (fun _ _ => rfl)) pa_nil)))) (pe_cc GCS hr (by omega) pass0 (pa_cons pe_str (pa_cons (pe_ix ix_tup (pv 0) pe_int (fun _ _ => rfl)) pa_nil)))))) pss_nil) <|
    pss_cons (ps_if (pt_cmpR op_eq (pv 1) pe_str (nomark _)) (pss_one (ps_ret (pe_op op_cat (pe_op op_cat (pe_op op_cat (pe_lst (pa_cons (pe_tup (pa_cons pe_str (pa_cons pe_bl pa_nil))) pa_nil)) (pe_cc GX hr (by omega) pass0 (pa_cons (pe_ix ix_tup (pv 0) pe_int (fun _ _ => rfl)) pa_nil))) (pe_lst (pa_cons (pe_tup (pa_cons pe_str (pa_cons pe_bl pa_nil))) pa_nil))) (pe_cc GCS hr (by omega) pass0 (pa_cons pe_str (pa_cons (pe_ix ix_tup (pv 0) pe_int (fun _ _ => rfl)) pa_nil)))))) pss_nil) <|
    pss_cons (ps_if (pt_cmpR op_eq (pv 1) pe_str (nomark _)) (pss_cons (ps_set (i := 3) scWN.nd rfl (Or.inl rfl) (pe_op op_cat (pe_op op_cat (pe_lst (pa_cons (pe_tup (pa_cons pe_str (pa_cons pe_bl pa_nil))) pa_nil)) (pe_cc GCS hr (by omega) pass0 (pa_cons pe_str (pa_cons (pe_ix ix_tup (pv 0) pe_int (fun _ _ => rfl)) pa_nil)))) (pe_lst (pa_cons (pe_tup (pa_cons (pe_ix ix_tup (pv 0) pe_int (fun _ _ => rfl)) (pa_cons pe_bl pa_nil))) pa_nil)))) <| pss_one (ps_ret (pe_op op_cat (pv 3) (pe_cc GCS hr (by omega) pass0 (pa_cons pe_str (pa_cons (pe_ix ix_tup (pv 0) pe_int (fun _ _ => rfl)) pa_nil)))))) pss_nil) <|
    pss_cons (ps_if (pt_cmpR op_in_seq (pv 1) (pe_lst (pa_cons pe_str (pa_cons pe_str (pa_cons pe_str (pa_cons pe_str pa_nil))))) rfl) (pss_one (ps_ret (pe_op op_cat (pe_lst (pa_cons (pe_tup (pa_cons (pv 1) (pa_cons pe_bl pa_nil))) pa_nil)) (pe_cc GX hr (by omega) pass0 (pa_cons (pe_ix ix_tup (pv 0) pe_int (fun _ _ => rfl)) pa_nil))))) pss_nil) <|
    pss_one (ps_ret (pe_lst (pa_cons (pe_tup (pa_cons (pe_cc GL hr (by omega) pass0 (pa_cons (pv 0) pa_nil)) (pa_cons pe_bl pa_nil))) pa_nil))), ?_⟩
  cases e with
  | set t ee =>
    obtain ⟨p, ve, rfl, hp, hee⟩ := at1
    simp only [oS] at oo
    simp only [nS] at nn
    obtain ⟨ok1, ok2⟩ := ok
    have b1 := wE_b ee ok2
    refine ⟨_, rfl, p, _, _, _, rfl, rfl, SqT.of hp, atI_0, ⟨_, rfl, rfl, _, rfl, ite2 (fun c => absurd c (by decide +kernel)) (fun _ => ⟨_, rfl, rfl, _, rfl, ite2 (fun c => absurd c (by decide +kernel)) (fun _ => ⟨_, rfl, rfl, _, rfl, ite2 (fun c => absurd c (by decide +kernel)) (fun _ => ⟨_, rfl, rfl, _, rfl, ite2 (fun c => absurd c (by decide +kernel)) (fun _ => ⟨_, rfl, rfl, _, rfl, ite2 (fun c => absurd c (by decide +kernel)) (fun _ => ⟨_, rfl, rfl, _, rfl, ite2 (fun _ => ?_) (fun c => absurd (by decide +kernel) c)⟩)⟩)⟩)⟩)⟩)⟩⟩
    refine ⟨_, rfl, p, _, _, _, rfl, rfl, SqT.of (hp), atI_nat (j := 1) rfl, by show 2 ≤ sizeLine; decide, fun t1 h1 => ⟨by show 2 ≤ sizeLine; decide, fun t2 h2 => ⟨by show 2 ≤ sizeLine; decide, fun L hL => ?_⟩⟩⟩
    obtain ⟨s5, w5⟩ := LW.two h1 h2 hL
    generalize upd _ L (.lst [.ref t1, .ref t2]) = H5 at w5 s5 ⊢
    refine ⟨_, rfl, p, _, _, _, rfl, rfl, SqT.of (s5 _ _ hp), atI_nat (j := 2) rfl, ee, ve, rfl, hee.on_ (same_tups s5), ⟨ok2, oo, by omega⟩, fun H6 a6 s6 w6 => ?_⟩
    obtain ⟨us6, vs6, g5, g6, l5, l6, c6⟩ := (w5.on s6).cat w6
    refine ⟨_, _, us6, vs6, rfl, rfl, g5, g6, by rw [l5, l6, sizeLine_eq]; simp only [List.length_append, List.length_cons, List.length_nil]; omega, fun p7 hp7 => kq _ p7 ((s5.trans s6).trans (same_new hp7 _)) ((c6 p7 hp7).cast ?_)⟩
    rfl
  | sfl t ee =>
    obtain ⟨p, ve, rfl, hp, hee⟩ := at1
    simp only [oS] at oo
    simp only [nS] at nn
    obtain ⟨ok1, ok2⟩ := ok
    have b1 := wE_b ee ok2
    refine ⟨_, rfl, p, _, _, _, rfl, rfl, SqT.of hp, atI_0, ⟨_, rfl, rfl, _, rfl, ite2 (fun c => absurd c (by decide +kernel)) (fun _ => ⟨_, rfl, rfl, _, rfl, ite2 (fun c => absurd c (by decide +kernel)) (fun _ => ⟨_, rfl, rfl, _, rfl, ite2 (fun c => absurd c (by decide +kernel)) (fun _ => ⟨_, rfl, rfl, _, rfl, ite2 (fun c => absurd c (by decide +kernel)) (fun _ => ⟨_, rfl, rfl, _, rfl, ite2 (fun c => absurd c (by decide +kernel)) (fun _ => ⟨_, rfl, rfl, _, rfl, ite2 (fun c => absurd c (by decide +kernel)) (fun _ => ⟨_, rfl, rfl, _, rfl, ite2 (fun _ => ?_) (fun c => absurd (by decide +kernel) c)⟩)⟩)⟩)⟩)⟩)⟩)⟩⟩
    refine ⟨_, rfl, p, _, _, _, rfl, rfl, SqT.of (hp), atI_nat (j := 1) rfl, _, _, rfl, rfl, by have := free_len ok1; have e8 : (Str.ofString "@").length = 1 := (by decide +kernel); have e9 : (mk t).length = t.length := mk_len t; rw [e8, e9, sizeLine_eq]; omega, by show 2 ≤ sizeLine; decide, fun t1 h1 => ⟨by show 2 ≤ sizeLine; decide, fun t2 h2 => ⟨by show 2 ≤ sizeLine; decide, fun L hL => ?_⟩⟩⟩
    obtain ⟨s5, w5⟩ := LW.two h1 h2 hL
    generalize upd _ L (.lst [.ref t1, .ref t2]) = H5 at w5 s5 ⊢
    refine ⟨_, rfl, p, _, _, _, rfl, rfl, SqT.of (s5 _ _ hp), atI_nat (j := 2) rfl, ee, ve, rfl, hee.on_ (same_tups s5), ⟨ok2, oo, by omega⟩, fun H6 a6 s6 w6 => ?_⟩
    obtain ⟨us6, vs6, g5, g6, l5, l6, c6⟩ := (w5.on s6).cat w6
    refine ⟨_, _, us6, vs6, rfl, rfl, g5, g6, by rw [l5, l6, sizeLine_eq]; simp only [List.length_append, List.length_cons, List.length_nil]; omega, fun p7 hp7 => kq _ p7 ((s5.trans s6).trans (same_new hp7 _)) ((c6 p7 hp7).cast ?_)⟩
    rw [show tl (Str.ofString "@" ++ mk t) = 64 :: t by rw [tl_add]; rfl]
    rfl
  | iff ee sa sb =>
    obtain ⟨p, ve, q1, xs, q2, ys, rfl, hp, hq1, hq2, hee, ha, hb⟩ := at1
    have hd0 : ∃ d', d = d' + 1 := by
      cases d with
      | zero => simp only [oS] at oo; omega
      | succ d => exact ⟨d, rfl⟩
    obtain ⟨d, rfl⟩ := hd0
    simp only [oS] at oo
    simp only [nS] at nn
    obtain ⟨ok1, ok2, ok3⟩ := ok
    have b1 := wE_b ee ok1
    have b2 := wSs_b sa ok2
    have b3 := wSs_b sb ok3
    rw [sL_w] at b2 b3
    refine ⟨_, rfl, p, _, _, _, rfl, rfl, SqT.of hp, atI_0, ⟨_, rfl, rfl, _, rfl, ite2 (fun c => absurd c (by decide +kernel)) (fun _ => ⟨_, rfl, rfl, _, rfl, ite2 (fun c => absurd c (by decide +kernel)) (fun _ => ⟨_, rfl, rfl, _, rfl, ite2 (fun c => absurd c (by decide +kernel)) (fun _ => ⟨_, rfl, rfl, _, rfl, ite2 (fun c => absurd c (by decide +kernel)) (fun _ => ⟨_, rfl, rfl, _, rfl, ite2 (fun c => absurd c (by decide +kernel)) (fun _ => ⟨_, rfl, rfl, _, rfl, ite2 (fun c => absurd c (by decide +kernel)) (fun _ => ⟨_, rfl, rfl, _, rfl, ite2 (fun c => absurd c (by decide +kernel)) (fun _ => ⟨_, rfl, rfl, _, rfl, ite2 (fun _ => ?_) (fun c => absurd (by decide +kernel) c)⟩)⟩)⟩)⟩)⟩)⟩)⟩)⟩⟩
    refine ⟨by show 2 ≤ sizeLine; decide, fun t1 h1 => ⟨by show 1 ≤ sizeLine; decide, fun L hL => ?_⟩⟩
    obtain ⟨s1, w1⟩ := LW.one' h1 hL
    generalize upd _ L (.lst [.ref t1]) = H1 at w1 s1 ⊢
    refine ⟨_, rfl, p, _, _, _, rfl, rfl, SqT.of (s1 _ _ hp), atI_nat (j := 1) rfl, ee, ve, rfl, hee.on_ (same_tups s1), ⟨ok1, by omega, by omega⟩, fun H2 a2 s2 w2 => ?_⟩
    obtain ⟨us, vs, g1, g2, l1, l2, c⟩ := (w1.on s2).cat w2
    refine ⟨_, _, us, vs, rfl, rfl, g1, g2, by rw [l1, l2, sizeLine_eq]; simp only [List.length_append, List.length_cons, List.length_nil]; omega, fun p3 hp3 => ?_⟩
    have w3 := c p3 hp3
    have s3 := (s1.trans s2).trans (same_new hp3 (.lst (us ++ vs)))
    generalize upd _ p3 (.lst (us ++ vs)) = H3 at w3 s3 ⊢
    refine ⟨by show 2 ≤ sizeLine; decide, fun t4 h4 => ⟨by show 1 ≤ sizeLine; decide, fun L4 hL4 => ?_⟩⟩
    obtain ⟨s4, w4⟩ := LW.one' h4 hL4
    obtain ⟨us4, vs4, g3, g4, l3, l4, c4⟩ := (w3.on s4).cat w4
    refine ⟨_, _, us4, vs4, rfl, rfl, g3, g4, by rw [l3, l4, sizeLine_eq]; simp only [List.length_append, List.length_cons, List.length_nil]; omega, fun p5 hp5 => ?_⟩
    have w5 := c4 p5 hp5
    have s5 := (s3.trans s4).trans (same_new hp5 (.lst (us4 ++ vs4)))
    generalize upd _ p5 (.lst (us4 ++ vs4)) = H5 at w5 s5 ⊢
    refine ⟨_, rfl, _, rfl, p, _, _, _, rfl, rfl, SqT.of (s5 _ _ hp), atI_nat (j := 2) rfl, sL sa, q1, xs, _, rfl, s5 _ _ hq1, sL_at (ha.on_ (same_tups s5)), sL_ok ok2 (by omega) (by omega), by omega, fun H6 a6 s6 w6 => ?_⟩
    obtain ⟨us6, vs6, g5, g6, l5, l6, c6⟩ := (w5.on s6).cat w6
    refine ⟨_, _, us6, vs6, rfl, rfl, g5, g6, by rw [l5, l6, sizeLine_eq]; simp only [List.length_append, List.length_cons, List.length_nil]; omega, fun p7 hp7 => ?_⟩
    have w7 := c6 p7 hp7
    have s7 := (s5.trans s6).trans (same_new hp7 (.lst (us6 ++ vs6)))
    generalize upd _ p7 (.lst (us6 ++ vs6)) = H7 at w7 s7 ⊢
    refine ⟨_, rfl, p, _, _, _, rfl, rfl, SqT.of (s7 _ _ hp), atI_nat (j := 3) rfl, sL sb, q2, ys, _, rfl, s7 _ _ hq2, sL_at (hb.on_ (same_tups s7)), sL_ok ok3 (by omega) (by omega), by omega, fun H8 a8 s8 w8 => ?_⟩
    obtain ⟨us8, vs8, g7, g8, l7, l8, c8⟩ := (w7.on s8).cat w8
    refine ⟨_, _, us8, vs8, rfl, rfl, g7, g8, by rw [l7, l8, sizeLine_eq]; simp only [List.length_append, List.length_cons, List.length_nil]; omega, fun p9 hp9 => kq _ p9 ((s7.trans s8).trans (same_new hp9 _)) ((c8 p9 hp9).cast ?_)⟩
    simp only [wS, sL_w, List.append_assoc, List.cons_append, List.nil_append]
  | whl ee sa =>
    obtain ⟨p, ve, q1, xs, rfl, hp, hq1, hee, ha⟩ := at1
    have hd0 : ∃ d', d = d' + 1 := by
      cases d with
      | zero => simp only [oS] at oo; omega
      | succ d => exact ⟨d, rfl⟩
    obtain ⟨d, rfl⟩ := hd0
    simp only [oS] at oo
    simp only [nS] at nn
    obtain ⟨ok1, ok2⟩ := ok
    have b1 := wE_b ee ok1
    have b2 := wSs_b sa ok2
    rw [sL_w] at b2
    refine ⟨_, rfl, p, _, _, _, rfl, rfl, SqT.of hp, atI_0, ⟨_, rfl, rfl, _, rfl, ite2 (fun c => absurd c (by decide +kernel)) (fun _ => ⟨_, rfl, rfl, _, rfl, ite2 (fun c => absurd c (by decide +kernel)) (fun _ => ⟨_, rfl, rfl, _, rfl, ite2 (fun c => absurd c (by decide +kernel)) (fun _ => ⟨_, rfl, rfl, _, rfl, ite2 (fun c => absurd c (by decide +kernel)) (fun _ => ⟨_, rfl, rfl, _, rfl, ite2 (fun c => absurd c (by decide +kernel)) (fun _ => ⟨_, rfl, rfl, _, rfl, ite2 (fun c => absurd c (by decide +kernel)) (fun _ => ⟨_, rfl, rfl, _, rfl, ite2 (fun c => absurd c (by decide +kernel)) (fun _ => ⟨_, rfl, rfl, _, rfl, ite2 (fun c => absurd c (by decide +kernel)) (fun _ => ⟨_, rfl, rfl, _, rfl, ite2 (fun _ => ?_) (fun c => absurd (by decide +kernel) c)⟩)⟩)⟩)⟩)⟩)⟩)⟩)⟩)⟩⟩
    refine ⟨by show 2 ≤ sizeLine; decide, fun t1 h1 => ⟨by show 1 ≤ sizeLine; decide, fun L hL => ?_⟩⟩
    obtain ⟨s1, w1⟩ := LW.one' h1 hL
    generalize upd _ L (.lst [.ref t1]) = H1 at w1 s1 ⊢
    refine ⟨_, rfl, p, _, _, _, rfl, rfl, SqT.of (s1 _ _ hp), atI_nat (j := 1) rfl, ee, ve, rfl, hee.on_ (same_tups s1), ⟨ok1, by omega, by omega⟩, fun H2 a2 s2 w2 => ?_⟩
    obtain ⟨us, vs, g1, g2, l1, l2, c⟩ := (w1.on s2).cat w2
    refine ⟨_, _, us, vs, rfl, rfl, g1, g2, by rw [l1, l2, sizeLine_eq]; simp only [List.length_append, List.length_cons, List.length_nil]; omega, fun p3 hp3 => ?_⟩
    have w3 := c p3 hp3
    have s3 := (s1.trans s2).trans (same_new hp3 (.lst (us ++ vs)))
    generalize upd _ p3 (.lst (us ++ vs)) = H3 at w3 s3 ⊢
    refine ⟨by show 2 ≤ sizeLine; decide, fun t4 h4 => ⟨by show 1 ≤ sizeLine; decide, fun L4 hL4 => ?_⟩⟩
    obtain ⟨s4, w4⟩ := LW.one' h4 hL4
    obtain ⟨us4, vs4, g3, g4, l3, l4, c4⟩ := (w3.on s4).cat w4
    refine ⟨_, _, us4, vs4, rfl, rfl, g3, g4, by rw [l3, l4, sizeLine_eq]; simp only [List.length_append, List.length_cons, List.length_nil]; omega, fun p5 hp5 => ?_⟩
    have w5 := c4 p5 hp5
    have s5 := (s3.trans s4).trans (same_new hp5 (.lst (us4 ++ vs4)))
    generalize upd _ p5 (.lst (us4 ++ vs4)) = H5 at w5 s5 ⊢
    refine ⟨_, rfl, p, _, _, _, rfl, rfl, SqT.of (s5 _ _ hp), atI_nat (j := 2) rfl, sL sa, q1, xs, _, rfl, s5 _ _ hq1, sL_at (ha.on_ (same_tups s5)), sL_ok ok2 (by omega) (by omega), by omega, fun H6 a6 s6 w6 => ?_⟩
    obtain ⟨us6, vs6, g5, g6, l5, l6, c6⟩ := (w5.on s6).cat w6
    refine ⟨_, _, us6, vs6, rfl, rfl, g5, g6, by rw [l5, l6, sizeLine_eq]; simp only [List.length_append, List.length_cons, List.length_nil]; omega, fun p7 hp7 => kq _ p7 ((s5.trans s6).trans (same_new hp7 _)) ((c6 p7 hp7).cast ?_)⟩
    simp only [wS, sL_w, List.append_assoc, List.cons_append, List.nil_append]
  | tri sa t sb =>
    obtain ⟨p, q1, xs, q2, ys, rfl, hp, hq1, hq2, ha, hb⟩ := at1
    have hd0 : ∃ d', d = d' + 1 := by
      cases d with
      | zero => simp only [oS] at oo; omega
      | succ d => exact ⟨d, rfl⟩
    obtain ⟨d, rfl⟩ := hd0
    simp only [oS] at oo
    simp only [nS] at nn
    obtain ⟨ok1, ok2, ok3⟩ := ok
    have b2 := wSs_b sa ok2
    have b3 := wSs_b sb ok3
    rw [sL_w] at b2 b3
    refine ⟨_, rfl, p, _, _, _, rfl, rfl, SqT.of hp, atI_0, ⟨_, rfl, rfl, _, rfl, ite2 (fun c => absurd c (by decide +kernel)) (fun _ => ⟨_, rfl, rfl, _, rfl, ite2 (fun c => absurd c (by decide +kernel)) (fun _ => ⟨_, rfl, rfl, _, rfl, ite2 (fun c => absurd c (by decide +kernel)) (fun _ => ⟨_, rfl, rfl, _, rfl, ite2 (fun c => absurd c (by decide +kernel)) (fun _ => ⟨_, rfl, rfl, _, rfl, ite2 (fun c => absurd c (by decide +kernel)) (fun _ => ⟨_, rfl, rfl, _, rfl, ite2 (fun c => absurd c (by decide +kernel)) (fun _ => ⟨_, rfl, rfl, _, rfl, ite2 (fun c => absurd c (by decide +kernel)) (fun _ => ⟨_, rfl, rfl, _, rfl, ite2 (fun c => absurd c (by decide +kernel)) (fun _ => ⟨_, rfl, rfl, _, rfl, ite2 (fun c => absurd c (by decide +kernel)) (fun _ => ⟨_, rfl, rfl, _, rfl, ite2 (fun _ => ?_) (fun c => absurd (by decide +kernel) c)⟩)⟩)⟩)⟩)⟩)⟩)⟩)⟩)⟩)⟩⟩
    refine ⟨by show 2 ≤ sizeLine; decide, fun t1 h1 => ⟨by show 1 ≤ sizeLine; decide, fun L hL => ?_⟩⟩
    obtain ⟨s1, w1⟩ := LW.one' h1 hL
    generalize upd _ L (.lst [.ref t1]) = H1 at w1 s1 ⊢
    refine ⟨_, rfl, p, _, _, _, rfl, rfl, SqT.of (s1 _ _ hp), atI_nat (j := 1) rfl, sL sa, q1, xs, _, rfl, s1 _ _ hq1, sL_at (ha.on_ (same_tups s1)), sL_ok ok2 (by omega) (by omega), by omega, fun H2 a2 s2 w2 => ?_⟩
    obtain ⟨us, vs, g1, g2, l1, l2, c⟩ := (w1.on s2).cat w2
    refine ⟨_, _, us, vs, rfl, rfl, g1, g2, by rw [l1, l2, sizeLine_eq]; simp only [List.length_append, List.length_cons, List.length_nil]; omega, fun p3 hp3 => ?_⟩
    have w3 := c p3 hp3
    have s3 := (s1.trans s2).trans (same_new hp3 (.lst (us ++ vs)))
    generalize upd _ p3 (.lst (us ++ vs)) = H3 at w3 s3 ⊢
    refine ⟨_, rfl, p, _, _, _, rfl, rfl, SqT.of (s3 _ _ hp), atI_nat (j := 2) rfl, by show 2 ≤ sizeLine; decide, fun t4 h4 => ⟨by show 1 ≤ sizeLine; decide, fun L4 hL4 => ?_⟩⟩
    obtain ⟨s4, w4⟩ := LW.one' h4 hL4
    obtain ⟨us4, vs4, g3, g4, l3, l4, c4⟩ := (w3.on s4).cat w4
    refine ⟨_, _, us4, vs4, rfl, rfl, g3, g4, by rw [l3, l4, sizeLine_eq]; simp only [List.length_append, List.length_cons, List.length_nil]; omega, fun p5 hp5 => ?_⟩
    have w5 := c4 p5 hp5
    have s5 := (s3.trans s4).trans (same_new hp5 (.lst (us4 ++ vs4)))
    generalize upd _ p5 (.lst (us4 ++ vs4)) = H5 at w5 s5 ⊢
    refine ⟨_, rfl, _, rfl, p, _, _, _, rfl, rfl, SqT.of (s5 _ _ hp), atI_nat (j := 3) rfl, sL sb, q2, ys, _, rfl, s5 _ _ hq2, sL_at (hb.on_ (same_tups s5)), sL_ok ok3 (by omega) (by omega), by omega, fun H8 a8 s8 w8 => ?_⟩
    obtain ⟨us8, vs8, g7, g8, l7, l8, c8⟩ := (w5.on s8).cat w8
    refine ⟨_, _, us8, vs8, rfl, rfl, g7, g8, by rw [l7, l8, sizeLine_eq]; simp only [List.length_append, List.length_cons, List.length_nil]; omega, fun p9 hp9 => kq _ p9 ((s5.trans s8).trans (same_new hp9 _)) ((c8 p9 hp9).cast ?_)⟩
    simp only [wS, sL_w, List.append_assoc, List.cons_append, List.nil_append]
  | pl t ee =>
    obtain ⟨p, ve, rfl, hp, hee⟩ := at1
    simp only [oS] at oo
    simp only [nS] at nn
    obtain ⟨ok1, ok2⟩ := ok
    have b1 := wE_b ee ok2
    rcases pl_cases ok1 with rfl | rfl | rfl | rfl
    · rw [mk_tl] at hp
      refine ⟨_, rfl, p, _, _, _, rfl, rfl, SqT.of hp, atI_0, ⟨_, rfl, rfl, _, rfl, ite2 (fun c => absurd c (by decide +kernel)) (fun _ => ⟨_, rfl, rfl, _, rfl, ite2 (fun c => absurd c (by decide +kernel)) (fun _ => ⟨_, rfl, rfl, _, rfl, ite2 (fun c => absurd c (by decide +kernel)) (fun _ => ⟨_, rfl, rfl, _, rfl, ite2 (fun c => absurd c (by decide +kernel)) (fun _ => ⟨_, rfl, rfl, _, rfl, ite2 (fun c => absurd c (by decide +kernel)) (fun _ => ⟨_, rfl, rfl, _, rfl, ite2 (fun c => absurd c (by decide +kernel)) (fun _ => ⟨_, rfl, rfl, _, rfl, ite2 (fun c => absurd c (by decide +kernel)) (fun _ => ⟨_, rfl, rfl, _, rfl, ite2 (fun c => absurd c (by decide +kernel)) (fun _ => ⟨_, rfl, rfl, _, rfl, ite2 (fun c => absurd c (by decide +kernel)) (fun _ => ⟨_, rfl, rfl, _, rfl, ite2 (fun c => absurd c (by decide +kernel)) (fun _ => ?_)⟩)⟩)⟩)⟩)⟩)⟩)⟩)⟩)⟩)⟩⟩
      refine ⟨_, rfl, by show 4 ≤ sizeLine; decide, fun L0 hL0 => ⟨L0, _, rfl, .inl (SqL.of upd_same), rfl, rfl, _, rfl, ite2 (fun _ => ?_) (fun c => absurd (by decide +kernel) c)⟩⟩
      have s0 := same_new hL0 (.lst [V.str (Str.ofString "do"), V.str (Str.ofString "say"), V.str (Str.ofString "return"), V.str (Str.ofString "raise")])
      generalize upd H L0 _ = H0 at s0 ⊢
      refine ⟨_, rfl, by show 2 ≤ sizeLine; decide, fun t1 h1 => ⟨by show 1 ≤ sizeLine; decide, fun L hL => ?_⟩⟩
      obtain ⟨s5, w5⟩ := LW.one' h1 hL
      generalize upd _ L (.lst [.ref t1]) = H5 at w5 s5 ⊢
      refine ⟨_, rfl, p, _, _, _, rfl, rfl, SqT.of (s5 _ _ (s0 _ _ hp)), atI_nat (j := 1) rfl, ee, ve, rfl, (hee.on_ (same_tups s0)).on_ (same_tups s5), ⟨ok2, oo, by omega⟩, fun H6 a6 s6 w6 => ?_⟩
      obtain ⟨us6, vs6, g5, g6, l5, l6, c6⟩ := (w5.on s6).cat w6
      exact ⟨_, _, us6, vs6, rfl, rfl, g5, g6, by rw [l5, l6, sizeLine_eq]; simp only [List.length_append, List.length_cons, List.length_nil]; omega, fun p7 hp7 => kq _ p7 (((s0.trans s5).trans s6).trans (same_new hp7 _)) (c6 p7 hp7)⟩
    · rw [mk_tl] at hp
      refine ⟨_, rfl, p, _, _, _, rfl, rfl, SqT.of hp, atI_0, ⟨_, rfl, rfl, _, rfl, ite2 (fun c => absurd c (by decide +kernel)) (fun _ => ⟨_, rfl, rfl, _, rfl, ite2 (fun c => absurd c (by decide +kernel)) (fun _ => ⟨_, rfl, rfl, _, rfl, ite2 (fun c => absurd c (by decide +kernel)) (fun _ => ⟨_, rfl, rfl, _, rfl, ite2 (fun c => absurd c (by decide +kernel)) (fun _ => ⟨_, rfl, rfl, _, rfl, ite2 (fun c => absurd c (by decide +kernel)) (fun _ => ⟨_, rfl, rfl, _, rfl, ite2 (fun c => absurd c (by decide +kernel)) (fun _ => ⟨_, rfl, rfl, _, rfl, ite2 (fun c => absurd c (by decide +kernel)) (fun _ => ⟨_, rfl, rfl, _, rfl, ite2 (fun c => absurd c (by decide +kernel)) (fun _ => ⟨_, rfl, rfl, _, rfl, ite2 (fun c => absurd c (by decide +kernel)) (fun _ => ⟨_, rfl, rfl, _, rfl, ite2 (fun c => absurd c (by decide +kernel)) (fun _ => ?_)⟩)⟩)⟩)⟩)⟩)⟩)⟩)⟩)⟩)⟩⟩
      refine ⟨_, rfl, by show 4 ≤ sizeLine; decide, fun L0 hL0 => ⟨L0, _, rfl, .inl (SqL.of upd_same), rfl, rfl, _, rfl, ite2 (fun _ => ?_) (fun c => absurd (by decide +kernel) c)⟩⟩
      have s0 := same_new hL0 (.lst [V.str (Str.ofString "do"), V.str (Str.ofString "say"), V.str (Str.ofString "return"), V.str (Str.ofString "raise")])
      generalize upd H L0 _ = H0 at s0 ⊢
      refine ⟨_, rfl, by show 2 ≤ sizeLine; decide, fun t1 h1 => ⟨by show 1 ≤ sizeLine; decide, fun L hL => ?_⟩⟩
      obtain ⟨s5, w5⟩ := LW.one' h1 hL
      generalize upd _ L (.lst [.ref t1]) = H5 at w5 s5 ⊢
      refine ⟨_, rfl, p, _, _, _, rfl, rfl, SqT.of (s5 _ _ (s0 _ _ hp)), atI_nat (j := 1) rfl, ee, ve, rfl, (hee.on_ (same_tups s0)).on_ (same_tups s5), ⟨ok2, oo, by omega⟩, fun H6 a6 s6 w6 => ?_⟩
      obtain ⟨us6, vs6, g5, g6, l5, l6, c6⟩ := (w5.on s6).cat w6
      exact ⟨_, _, us6, vs6, rfl, rfl, g5, g6, by rw [l5, l6, sizeLine_eq]; simp only [List.length_append, List.length_cons, List.length_nil]; omega, fun p7 hp7 => kq _ p7 (((s0.trans s5).trans s6).trans (same_new hp7 _)) (c6 p7 hp7)⟩
    · rw [mk_tl] at hp
      refine ⟨_, rfl, p, _, _, _, rfl, rfl, SqT.of hp, atI_0, ⟨_, rfl, rfl, _, rfl, ite2 (fun c => absurd c (by decide +kernel)) (fun _ => ⟨_, rfl, rfl, _, rfl, ite2 (fun c => absurd c (by decide +kernel)) (fun _ => ⟨_, rfl, rfl, _, rfl, ite2 (fun c => absurd c (by decide +kernel)) (fun _ => ⟨_, rfl, rfl, _, rfl, ite2 (fun c => absurd c (by decide +kernel)) (fun _ => ⟨_, rfl, rfl, _, rfl, ite2 (fun c => absurd c (by decide +kernel)) (fun _ => ⟨_, rfl, rfl, _, rfl, ite2 (fun c => absurd c (by decide +kernel)) (fun _ => ⟨_, rfl, rfl, _, rfl, ite2 (fun c => absurd c (by decide +kernel)) (fun _ => ⟨_, rfl, rfl, _, rfl, ite2 (fun c => absurd c (by decide +kernel)) (fun _ => ⟨_, rfl, rfl, _, rfl, ite2 (fun c => absurd c (by decide +kernel)) (fun _ => ⟨_, rfl, rfl, _, rfl, ite2 (fun c => absurd c (by decide +kernel)) (fun _ => ?_)⟩)⟩)⟩)⟩)⟩)⟩)⟩)⟩)⟩)⟩⟩
      refine ⟨_, rfl, by show 4 ≤ sizeLine; decide, fun L0 hL0 => ⟨L0, _, rfl, .inl (SqL.of upd_same), rfl, rfl, _, rfl, ite2 (fun _ => ?_) (fun c => absurd (by decide +kernel) c)⟩⟩
      have s0 := same_new hL0 (.lst [V.str (Str.ofString "do"), V.str (Str.ofString "say"), V.str (Str.ofString "return"), V.str (Str.ofString "raise")])
      generalize upd H L0 _ = H0 at s0 ⊢
      refine ⟨_, rfl, by show 2 ≤ sizeLine; decide, fun t1 h1 => ⟨by show 1 ≤ sizeLine; decide, fun L hL => ?_⟩⟩
      obtain ⟨s5, w5⟩ := LW.one' h1 hL
      generalize upd _ L (.lst [.ref t1]) = H5 at w5 s5 ⊢
      refine ⟨_, rfl, p, _, _, _, rfl, rfl, SqT.of (s5 _ _ (s0 _ _ hp)), atI_nat (j := 1) rfl, ee, ve, rfl, (hee.on_ (same_tups s0)).on_ (same_tups s5), ⟨ok2, oo, by omega⟩, fun H6 a6 s6 w6 => ?_⟩
      obtain ⟨us6, vs6, g5, g6, l5, l6, c6⟩ := (w5.on s6).cat w6
      exact ⟨_, _, us6, vs6, rfl, rfl, g5, g6, by rw [l5, l6, sizeLine_eq]; simp only [List.length_append, List.length_cons, List.length_nil]; omega, fun p7 hp7 => kq _ p7 (((s0.trans s5).trans s6).trans (same_new hp7 _)) (c6 p7 hp7)⟩
    · rw [mk_tl] at hp
      refine ⟨_, rfl, p, _, _, _, rfl, rfl, SqT.of hp, atI_0, ⟨_, rfl, rfl, _, rfl, ite2 (fun c => absurd c (by decide +kernel)) (fun _ => ⟨_, rfl, rfl, _, rfl, ite2 (fun c => absurd c (by decide +kernel)) (fun _ => ⟨_, rfl, rfl, _, rfl, ite2 (fun c => absurd c (by decide +kernel)) (fun _ => ⟨_, rfl, rfl, _, rfl, ite2 (fun c => absurd c (by decide +kernel)) (fun _ => ⟨_, rfl, rfl, _, rfl, ite2 (fun c => absurd c (by decide +kernel)) (fun _ => ⟨_, rfl, rfl, _, rfl, ite2 (fun c => absurd c (by decide +kernel)) (fun _ => ⟨_, rfl, rfl, _, rfl, ite2 (fun c => absurd c (by decide +kernel)) (fun _ => ⟨_, rfl, rfl, _, rfl, ite2 (fun c => absurd c (by decide +kernel)) (fun _ => ⟨_, rfl, rfl, _, rfl, ite2 (fun c => absurd c (by decide +kernel)) (fun _ => ⟨_, rfl, rfl, _, rfl, ite2 (fun c => absurd c (by decide +kernel)) (fun _ => ?_)⟩)⟩)⟩)⟩)⟩)⟩)⟩)⟩)⟩)⟩⟩
      refine ⟨_, rfl, by show 4 ≤ sizeLine; decide, fun L0 hL0 => ⟨L0, _, rfl, .inl (SqL.of upd_same), rfl, rfl, _, rfl, ite2 (fun _ => ?_) (fun c => absurd (by decide +kernel) c)⟩⟩
      have s0 := same_new hL0 (.lst [V.str (Str.ofString "do"), V.str (Str.ofString "say"), V.str (Str.ofString "return"), V.str (Str.ofString "raise")])
      generalize upd H L0 _ = H0 at s0 ⊢
      refine ⟨_, rfl, by show 2 ≤ sizeLine; decide, fun t1 h1 => ⟨by show 1 ≤ sizeLine; decide, fun L hL => ?_⟩⟩
      obtain ⟨s5, w5⟩ := LW.one' h1 hL
      generalize upd _ L (.lst [.ref t1]) = H5 at w5 s5 ⊢
      refine ⟨_, rfl, p, _, _, _, rfl, rfl, SqT.of (s5 _ _ (s0 _ _ hp)), atI_nat (j := 1) rfl, ee, ve, rfl, (hee.on_ (same_tups s0)).on_ (same_tups s5), ⟨ok2, oo, by omega⟩, fun H6 a6 s6 w6 => ?_⟩
      obtain ⟨us6, vs6, g5, g6, l5, l6, c6⟩ := (w5.on s6).cat w6
      exact ⟨_, _, us6, vs6, rfl, rfl, g5, g6, by rw [l5, l6, sizeLine_eq]; simp only [List.length_append, List.length_cons, List.length_nil]; omega, fun p7 hp7 => kq _ p7 (((s0.trans s5).trans s6).trans (same_new hp7 _)) (c6 p7 hp7)⟩
end
end My
set_option Elab.async false
set_option linter.all false
set_option maxRecDepth 100000
set_option maxHeartbeats 4000000
namespace My
open PySem L2 SS
abbrev sWMe : Stmt := top 58
abbrev sWTr : Stmt := top 59
section
variable {P : Program} {w : World} {K : PySem.W.Frag} {mg : Str → Option Value} {base : Heap}
theorem Cc.mono {CX : CXT} {j k : Nat} {x : Str} {sp : Sp} (h : Cc P w K mg base CX j x sp) (hk : j ≤ k) : Cc P w K mg base CX k x sp := by
  obtain ⟨f, fd, ps, F, r⟩ := h.ex
  exact ⟨f, fd, ps, F.mono hk, r⟩
theorem c_noneWN (k : Nat) (D : Dn K mg "_law_node_words" sWNode) : C0 P w K mg base (k + 1) "_law_node_words" spF := by
  obtain ⟨f, fd, F, m⟩ := D.ex
  exact ⟨f, fd, ["_law_node"], F.ok scWN (fun vs H Q E h => h.elim) (fun cdv A outer s H vs Q E hr h => h.elim), m, F.kp, F.binds (ps := ["_law_node"]) fun _ _ _ _ _ _ us hl => match us, hl with | [_], _ => rfl⟩
theorem c_noneWC (k : Nat) (D : Dn K mg "_law_closed" sWClosed) : C0 P w K mg base (k + 1) "_law_closed" spF := by
  obtain ⟨f, fd, F, m⟩ := D.ex
  exact ⟨f, fd, ["_law_word_here", "_law_nodes"], F.ok scWCl (fun vs H Q E h => h.elim) (fun cdv A outer s H vs Q E hr h => h.elim), m, F.kp, F.binds (ps := ["_law_word_here", "_law_nodes"]) fun _ _ _ _ _ _ us hl => match us, hl with | [_, _], _ => rfl⟩
theorem knotW (TS : TxS K mg) (D : Dn K mg "_law_node_words" sWNode) (DA : Dn K mg "_law_all_words" sWAll) (DC : Dn K mg "_law_closed" sWClosed) (GL : C0 P w K mg base 1 "_law_leaf_word" spWLeaf) (GP : C0 P w K mg base 1 "_law_plain" spWPlT) :
    ∀ d : Nat, C0 P w K mg base (4 * d + 8) "_law_node_words" (spNE d) ∧ C0 P w K mg base (4 * d + 10) "_law_closed" (spCE d) ∧ C0 P w K mg base (4 * d + 11) "_law_closed" (spCS d)
  | 0 => by
    have e := c_wnE (P := P) (w := w) (base := base) (d := 0) (k := 4) TS D GL GP rfl (c_noneWN 3 D) (c_noneWC 5 DC) (c_noneWC 6 DC)
    have s := c_wnS (P := P) (w := w) (base := base) (d := 0) (k := 4) TS D GL GP rfl e (c_noneWC 5 DC) (c_noneWC 6 DC)
    exact ⟨e, c_wcl (fun H H' x v t h => h.on_ t) DC (c_wall (fun H H' x v t h => h.on_ t) DA e), c_wcl (fun H H' x v t h => h.on_ t) DC (c_wall (fun H H' x v t h => h.on_ t) DA s)⟩
  | d + 1 => by
    obtain ⟨h1, h2, h3⟩ := knotW TS D DA DC GL GP d
    have e := c_wnE (P := P) (w := w) (base := base) (d := d + 1) (k := 4 * d + 8) TS D GL GP rfl h1 h2 h3
    have s := c_wnS (P := P) (w := w) (base := base) (d := d + 1) (k := 4 * d + 8) TS D GL GP rfl e h2 h3
    exact ⟨e, c_wcl (fun H H' x v t h => h.on_ t) DC (c_wall (fun H H' x v t h => h.on_ t) DA e), c_wcl (fun H H' x v t h => h.on_ t) DC (c_wall (fun H H' x v t h => h.on_ t) DA s)⟩
/-! a method's words -/
def spWMe : Sp := fun vs H Q _ => ∃ (m : Me) (v : V), vs = [v] ∧ AtM H m v ∧ okM m ∧ nSs m.ss ≤ 1000 ∧ ∀ H' a, Same H H' → LW H' a (wM m) → Q (.ref a) H'
theorem scWMe : FnScope ["_law_method_here", "_law_head"] ["_law_method_here"] (defScope sWMe) := ⟨rfl, rfl, rfl, by decide +kernel, rfl, by decide +kernel, by decide +kernel⟩
theorem wM_len (m : Me) (h : okM m) (hn : nSs m.ss ≤ 1000) : (wM m).length ≤ 6000 := by
  have h1 := lM_eq m
  have h2 := (wSs_b m.ss h.ss).1
  have h3 := h.pl
  have e : lM m = (wM m).length := rfl
  have e2 : lSs m.ss = (wSs m.ss).length := rfl
  omega
theorem c_wme {k : Nat} (hk : 1 ≤ k) (TS : TxS K mg) (gL : mg "list" = none) (D : Dn K mg "_law_method_words" sWMe) (GP : C0 P w K mg base 1 "_law_plain" spWPlL) (GC : C0 P w K mg base k "_law_closed" (spCS 12)) : C0 P w K mg base (k + 1) "_law_method_words" spWMe := by
  obtain ⟨f, fd, F, m⟩ := D.ex
  refine ⟨f, fd, ["_law_method_here"], F.ok scWMe (fun vs H Q E h => ?_) (fun cdv A outer s H vs Q E hr h => ?_), m, F.kp, F.binds (ps := ["_law_method_here"]) fun _ _ _ _ _ _ us hl => match us, hl with | [_], _ => rfl⟩
  · obtain ⟨mm, v, rfl, _⟩ := h
    rfl
  obtain ⟨mm, v, rfl, ⟨p, vw, q, xs, rfl, hp, hvw, hq, hat⟩, ok, hn, kq⟩ := h
  obtain ⟨pw, rfl, hpw⟩ := hvw
  refine ⟨_, pss_cons (ps_set (i := 1) scWMe.nd rfl (Or.inl rfl) (pe_cc GP hr hk pass0 (pa_cons (pe_op op_cat (pe_op op_cat (pe_lst (pa_cons pe_str (pa_cons (pe_ix ix_tup (pv 0) pe_int (fun _ _ => rfl)) pa_nil))) (pe_callTy call_list_of (by rfl) gL (by decide +kernel) (pa_cons (pe_ix ix_tup (pv 0) pe_int (fun _ _ => rfl)) pa_nil))) (pe_lst (pa_cons pe_str pa_nil))) pa_nil))) <|
    pss_one (ps_ret (pe_op op_cat (pv 1) (pe_cc GC hr (Nat.le_refl _) pass0 (pa_cons pe_str (pa_cons (pe_ix ix_tup (pv 0) pe_int (fun _ _ => rfl)) pa_nil))))), ?_⟩
  refine ⟨_, rfl, p, _, _, _, rfl, rfl, SqT.of hp, atI_nat (j := 1) rfl, by show 2 ≤ sizeLine; decide, fun L1 hL1 => ?_⟩
  have s1 := same_new hL1 (.lst [S_ "method", .str (mk mm.m)])
  have f1 : upd H L1 (.lst [S_ "method", .str (mk mm.m)]) L1 = some (.lst [S_ "method", .str (mk mm.m)]) := upd_same
  generalize upd H L1 (.lst [S_ "method", .str (mk mm.m)]) = H1 at s1 f1 ⊢
  refine ⟨_, rfl, p, _, _, _, rfl, rfl, SqT.of (s1 _ _ hp), atI_nat (j := 2) rfl, pw, _, rfl, .inr (SqT.of (s1 _ _ hpw)), fun L2 hL2 => ?_⟩
  have s2 := s1.trans (same_new hL2 (.lst (wsV mm.ps)))
  have f2 : upd H1 L2 (.lst (wsV mm.ps)) L2 = some (.lst (wsV mm.ps)) := upd_same
  have f1' := same_new hL2 (.lst (wsV mm.ps)) _ _ f1
  generalize upd H1 L2 (.lst (wsV mm.ps)) = H2 at s2 f2 f1' ⊢
  have hpl := ok.pl
  have hwl : (wsV mm.ps).length = mm.ps.length := List.length_map _
  refine ⟨_, _, _, _, rfl, rfl, f1', f2, by rw [hwl, sizeLine_eq]; simp only [List.length_cons, List.length_nil]; omega, fun L3 hL3 => ?_⟩
  have s3 := s2.trans (same_new hL3 (.lst ([S_ "method", .str (mk mm.m)] ++ wsV mm.ps)))
  have f3 : upd H2 L3 (.lst ([S_ "method", .str (mk mm.m)] ++ wsV mm.ps)) L3 = some (.lst ([S_ "method", .str (mk mm.m)] ++ wsV mm.ps)) := upd_same
  generalize upd H2 L3 (.lst ([S_ "method", .str (mk mm.m)] ++ wsV mm.ps)) = H3 at s3 f3 ⊢
  refine ⟨by show 1 ≤ sizeLine; decide, fun L4 hL4 => ?_⟩
  have s4 := s3.trans (same_new hL4 (.lst [S_ ":"]))
  have f4 : upd H3 L4 (.lst [S_ ":"]) L4 = some (.lst [S_ ":"]) := upd_same
  have f3' := same_new hL4 (.lst [S_ ":"]) _ _ f3
  generalize upd H3 L4 (.lst [S_ ":"]) = H4 at s4 f4 f3' ⊢
  refine ⟨_, _, _, _, rfl, rfl, f3', f4, by rw [List.length_append, hwl, sizeLine_eq]; simp only [List.length_cons, List.length_nil]; omega, fun L5 hL5 => ?_⟩
  have ew : [S_ "method", .str (mk mm.m)] ++ wsV mm.ps ++ [S_ ":"] = wsV (tk "method" :: mm.m :: (mm.ps ++ [tk ":"])) := by
    unfold wsV
    simp [mk_tl]
  rw [ew]
  have s5 := s4.trans (same_new hL5 (.lst (wsV (tk "method" :: mm.m :: (mm.ps ++ [tk ":"])))))
  have f5 : upd H4 L5 (.lst (wsV (tk "method" :: mm.m :: (mm.ps ++ [tk ":"])))) L5 = some (.lst (wsV (tk "method" :: mm.m :: (mm.ps ++ [tk ":"])))) := upd_same
  generalize upd H4 L5 (.lst (wsV (tk "method" :: mm.m :: (mm.ps ++ [tk ":"])))) = H5 at s5 f5 ⊢
  refine ⟨_, L5, rfl, f5, by simp; omega, fun H6 a6 s6 w6 => ?_⟩
  have s6' := s5.trans s6
  have hln := wSs_b mm.ss ok.ss
  refine ⟨_, rfl, _, rfl, p, _, _, _, rfl, rfl, SqT.of (s6' _ _ hp), atI_nat (j := 3) rfl, sL mm.ss, q, xs, _, rfl, s6' _ _ hq, (sL_at (hat.on_ (same_tups s6'))), sL_ok ok.ss ok.o hn, by rw [← sL_w]; omega, fun H7 a7 s7 w7 => ?_⟩
  obtain ⟨us, vs, h1, h2, l1, l2, c⟩ := (w6.on s7).cat w7
  have hlm := wM_len mm ok hn
  have e7 : plainW (tk "method" :: mm.m :: (mm.ps ++ [tk ":"])) ++ ((sL mm.ss).flatMap wS ++ [(tl (Str.ofString "end"), false)]) = wM mm := by
    rw [← sL_w]
    unfold plainW wM
    simp [plainW]
  have e8 := congrArg List.length e7
  rw [List.length_append] at e8
  refine ⟨_, _, us, vs, rfl, rfl, h1, h2, by rw [l1, l2, sizeLine_eq]; omega, fun r hr7 => ?_⟩
  exact kq _ r ((s6'.trans s7).trans (same_new hr7 _)) ((c r hr7).cast e7)
/-! a tree's words -/
def spWTr : Sp := fun vs H Q _ => ∃ (t : Tr) (v : V), vs = [v] ∧ AtTr H t v ∧ okTr t ∧ nMs t.ms ≤ 1000 ∧ ∀ H' a, Same H H' → LW H' a (wT t) → Q (.ref a) H'
theorem scWTr : FnScope ["_law_tree", "_law_found", "_law_field", "_law_method_here"] ["_law_tree"] (defScope sWTr) := ⟨rfl, rfl, rfl, by decide +kernel, rfl, by decide +kernel, by decide +kernel⟩
theorem nMs_mem : ∀ {ms : List Me} {m : Me}, m ∈ ms → nSs m.ss ≤ nMs ms
  | x :: r, m, h => by
    have e : nMs (x :: r) = nSs x.ss + nMs r := by unfold nMs; rw [List.map_cons, List.sum_cons]
    rcases List.mem_cons.mp h with h | h
    · subst h; omega
    · have := nMs_mem h; omega
theorem wMs_len : ∀ (ms : List Me), (∀ m ∈ ms, okM m) → nMs ms ≤ 1000 → (wMs ms).length ≤ 6000 * ms.length
  | [], _, _ => Nat.le_refl _
  | x :: r, h, hn => by
    have e : nMs (x :: r) = nSs x.ss + nMs r := by unfold nMs; rw [List.map_cons, List.sum_cons]
    have h1 := wM_len x (h x List.mem_cons_self) (by omega)
    have h2 := wMs_len r (fun m hm => h m (List.mem_cons_of_mem _ hm)) (by omega)
    show (wM x ++ wMs r).length ≤ _
    rw [List.length_append, List.length_cons]
    omega
end
end My
set_option Elab.async false
set_option linter.all false
set_option maxRecDepth 100000
set_option maxHeartbeats 4000000
namespace My
open PySem L2 SS
def hdW : Tr → List WB
  | .kind n p fs _ => (tk "kind", false) :: (n, false) :: (tk "under", false) :: (p, false) :: wFd fs
  | .more n _ => [(tk "more", false), (n, false)]
theorem hdW_eq (t : Tr) : wT t = hdW t ++ (wMs t.ms ++ [(tk "end", false)]) := by cases t <;> rfl
theorem hdW_len (t : Tr) (h : okTr t) : (hdW t).length ≤ 10 := by
  cases t with
  | kind n p fs ms =>
    have := h.hd.2.2.1
    show (wFd fs).length + 1 + 1 + 1 + 1 ≤ 10
    rw [wFd_len]
    omega
  | more n ms => show 2 ≤ 10; decide
theorem wFd_take (fs : List T) {i : Nat} {f : T} (h : fs[i]? = some f) : wFd (fs.take (i + 1)) = wFd (fs.take i) ++ plainW [tk "field", f] := by
  rw [List.take_add_one, h]
  unfold wFd
  rw [List.flatMap_append]
  rfl
theorem wMs_take (ms : List Me) {i : Nat} {m : Me} (h : ms[i]? = some m) : wMs (ms.take (i + 1)) = wMs (ms.take i) ++ wM m := by
  rw [List.take_add_one, h]
  exact wMs_snoc _ _
theorem wMs_take_le (ms : List Me) (i : Nat) : (wMs (ms.take i)).length ≤ (wMs ms).length := by
  have e : wMs ms = wMs (ms.take i) ++ wMs (ms.drop i) := by
    unfold wMs
    rw [← List.flatMap_append, List.take_append_drop]
  rw [e, List.length_append]
  omega
section
variable {P : Program} {w : World} {K : PySem.W.Frag} {mg : Str → Option Value} {base : Heap}
theorem c_wtr {k : Nat} (hk : 1 ≤ k) (TS : TxS K mg) (D : Dn K mg "_law_tree_words" sWTr) (GP : C0 P w K mg base 1 "_law_plain" spWPlL) (GM : C0 P w K mg base k "_law_method_words" spWMe) : C0 P w K mg base (k + 1) "_law_tree_words" spWTr := by
  obtain ⟨f, fd, F, m⟩ := D.ex
  refine ⟨f, fd, ["_law_tree"], F.ok scWTr (fun vs H Q E h => ?_) (fun cdv A outer s H vs Q E hr h => ?_), m, F.kp, F.binds (ps := ["_law_tree"]) fun _ _ _ _ _ _ us hl => match us, hl with | [_], _ => rfl⟩
  · obtain ⟨t, v, rfl, _⟩ := h
    rfl
  obtain ⟨t, v, rfl, hat, ok, hn, kq⟩ := h
  refine ⟨_, pss_cons (ps_set (i := 1) scWTr.nd rfl (Or.inl rfl) (pe_cc GP hr hk pass0 (pa_cons (pe_lst (pa_cons (pe_ix ix_tup (pv 0) pe_int (fun _ _ => rfl)) (pa_cons (pe_ix ix_tup (pv 0) pe_int (fun _ _ => rfl)) pa_nil))) pa_nil))) <|
    C8.pss_cut (ps_if (pt_cmpR op_eq (pe_ix ix_tup (pv 0) pe_int (fun _ _ => rfl)) pe_str (nomark _))
      (pss_cons (ps_set (i := 1) scWTr.nd rfl (Or.inl rfl) (pe_op op_cat (pv 1) (pe_cc GP hr hk pass0 (pa_cons (pe_lst (pa_cons pe_str (pa_cons (pe_ix ix_tup (pv 0) pe_int (fun _ _ => rfl)) pa_nil))) pa_nil)))) <|
        pss_one (ps_for PassesOwn.never rfl (pi_tup (pe_ix ix_tup (pv 0) pe_int (fun _ _ => rfl))) (pg_name (i := 2) scWTr.nd rfl (Or.inl rfl)) (pss_one (ps_set (i := 1) scWTr.nd rfl (Or.inl rfl) (pe_op op_cat (pv 1) (pe_cc GP hr hk pass0 (pa_cons (pe_lst (pa_cons pe_str (pa_cons (pv 2) pa_nil))) pa_nil)))))))
      pss_nil) <|
    pss_cons (ps_for PassesOwn.never rfl (pi_tup (pe_ix ix_tup (pv 0) (pe_un un_neg pe_int) (fun _ _ => rfl))) (pg_name (i := 3) scWTr.nd rfl (Or.inl rfl)) (pss_one (ps_set (i := 1) scWTr.nd rfl (Or.inl rfl) (pe_op op_cat (pv 1) (pe_cc GM hr (Nat.le_refl _) pass0 (pa_cons (pv 3) pa_nil)))))) <|
    pss_one (ps_ret (pe_op op_cat (pv 1) (pe_lst (pa_cons (pe_tup (pa_cons pe_str (pa_cons pe_bl pa_nil))) pa_nil)))), ?_⟩
  have hhl := hdW_len t ok
  have hml := ok.ml
  have hmw := wMs_len t.ms ok.ms hn
  -- two words in a new list
  have two : ∀ (H1 : Hp) (z1 z2 : Str), ∀ l, H1 l = none → upd H1 l (.lst [.str z1, .str z2]) l = some (.lst (wsV [tl z1, tl z2])) := fun H1 z1 z2 l hl => by
    rw [upd_same]
    unfold wsV
    simp [mk_tl]
  cases t with
  | kind n q fs ms =>
    obtain ⟨p, vw, r, xs, rfl, hp, hvw, hr2, hms⟩ := hat
    obtain ⟨pw, rfl, hpw⟩ := hvw
    refine ⟨_, rfl, p, _, _, _, rfl, rfl, SqT.of hp, atI_0, _, rfl, p, _, _, _, rfl, rfl, SqT.of hp, atI_nat (j := 1) rfl, by show 2 ≤ sizeLine; decide, fun L1 hL1 => ?_⟩
    have g1 := two H (Str.ofString "kind") (mk n) L1 hL1
    have s1 := same_new hL1 (.lst [.str (Str.ofString "kind"), .str (mk n)])
    generalize upd H L1 (.lst [.str (Str.ofString "kind"), .str (mk n)]) = H1 at g1 s1 ⊢
    refine ⟨[tk "kind", n], L1, rfl, g1, by simp, fun H2 a2 s2 w2 => ?_⟩
    have s2' := s1.trans s2
    refine ⟨fun σ' H' => ∃ (a : Addr) (v2 : Option V), σ' = [some (.ref p), some (.ref a), v2, none] ∧ Same H H' ∧ LW H' a (hdW (.kind n q fs ms)), ?_, ?_⟩
    · refine ⟨_, rfl, p, _, _, _, rfl, rfl, SqT.of (s2' _ _ hp), atI_0, rfl, _, rfl, ?_⟩
      refine ite2 (fun _ => ?_) (fun c => absurd (by decide +kernel) c)
      refine ⟨_, rfl, _, rfl, p, _, _, _, rfl, rfl, SqT.of (s2' _ _ hp), atI_nat (j := 2) rfl, by show 2 ≤ sizeLine; decide, fun L3 hL3 => ?_⟩
      have g3 := two H2 (Str.ofString "under") (mk q) L3 hL3
      have s3 := same_new hL3 (.lst [.str (Str.ofString "under"), .str (mk q)])
      generalize upd H2 L3 (.lst [.str (Str.ofString "under"), .str (mk q)]) = H3 at g3 s3 ⊢
      refine ⟨[tk "under", q], L3, rfl, g3, by simp, fun H4 a4 s4 w4 => ?_⟩
      have s4' := s2'.trans (s3.trans s4)
      obtain ⟨us, vs, h1, h2, l1, l2, c⟩ := ((w2.on s3).on s4).cat w4
      refine ⟨_, _, us, vs, rfl, rfl, h1, h2, by rw [l1, l2, sizeLine_eq]; show 2 + 2 ≤ 16777216; decide, fun L5 hL5 => ?_⟩
      have w5 := c L5 hL5
      have s5 := s4'.trans (same_new hL5 (.lst (us ++ vs)))
      generalize upd H4 L5 (.lst (us ++ vs)) = H5 at w5 s5 ⊢
      refine ⟨_, rfl, p, _, _, _, rfl, rfl, SqT.of (s5 _ _ hp), atI_nat (j := 3) rfl, pw, rfl, ⟨_, SqT.of (s5 _ _ hpw)⟩, ?_⟩
      refine for_tup (xs := wsV fs) (fun i σ H6 => ∃ (a : Addr) (v2 : Option V), σ = [some (.ref p), some (.ref a), v2, none] ∧ Same H H6 ∧ LW H6 a (plainW [tk "kind", n] ++ plainW [tk "under", q] ++ wFd (fs.take i))) ⟨L5, none, rfl, s5, by (have : wFd (fs.take 0) = [] := rfl); rw [this, List.append_nil]; exact w5⟩ (fun i σ H6 _ ⟨a, v2, _, s6, _⟩ => SqT.of (s6 _ _ hpw)) ?_ ?_
      · rintro i u σ H6 hu ⟨a, v2, rfl, s6, w6⟩
        have hu' : (fs.map fun w => V.str (mk w))[i]? = some u := hu
        rw [List.getElem?_map] at hu'
        cases e : fs[i]? with
        | none => rw [e] at hu'; cases hu'
        | some fz =>
          rw [e] at hu'
          obtain rfl := Option.some.inj hu'
          refine ⟨_, rfl, _, rfl, by show 2 ≤ sizeLine; decide, fun L7 hL7 => ?_⟩
          have g7 := two H6 (Str.ofString "field") (mk fz) L7 hL7
          have s7 := same_new hL7 (.lst [.str (Str.ofString "field"), .str (mk fz)])
          generalize upd H6 L7 (.lst [.str (Str.ofString "field"), .str (mk fz)]) = H7 at g7 s7 ⊢
          refine ⟨[tk "field", fz], L7, rfl, g7, by simp, fun H8 a8 s8 w8 => ?_⟩
          obtain ⟨us, vs, h1, h2, l1, l2, c⟩ := ((w6.on s7).on s8).cat w8
          have hfl := ok.hd.2.2.1
          have l3 : us.length ≤ 20 := by
            rw [l1, List.length_append, wFd_len, List.length_take]
            have : (plainW [tk "kind", n] ++ plainW [tk "under", q]).length = 4 := rfl
            omega
          have l4 : vs.length = 2 := l2
          refine ⟨_, _, us, vs, rfl, rfl, h1, h2, by rw [l4, sizeLine_eq]; omega, fun L9 hL9 => ?_⟩
          refine ⟨L9, _, rfl, ((s6.trans s7).trans s8).trans (same_new hL9 _), ?_⟩
          rw [wFd_take fs e, ← List.append_assoc]
          exact c L9 hL9
      · rintro σ H6 ⟨a, v2, rfl, s6, w6⟩
        refine ⟨a, v2, rfl, s6, ?_⟩
        have e : (wsV fs).length = fs.length := List.length_map _
        rw [e, List.take_length] at w6
        exact w6
    · rintro σ' H' ⟨a, v2, rfl, s6, w6⟩
      refine ⟨_, rfl, 1, rfl, p, _, _, _, rfl, rfl, SqT.of (s6 _ _ hp), atI_last [_, _, _, _] _, r, rfl, ⟨xs, SqT.of (s6 _ _ hr2)⟩, ?_⟩
      refine for_tup (xs := xs) (fun i σ H7 => ∃ (a : Addr) (v3 : Option V), σ = [some (.ref p), some (.ref a), v2, v3] ∧ Same H H7 ∧ LW H7 a (hdW (.kind n q fs ms) ++ wMs (ms.take i))) ⟨a, none, rfl, s6, by (have : wMs (ms.take 0) = [] := rfl); rw [this, List.append_nil]; exact w6⟩ (fun i σ H7 _ ⟨a, v3, _, s7, _⟩ => SqT.of (s7 _ _ hr2)) ?_ ?_
      · rintro i u σ H7 hu ⟨a, v3, rfl, s7, w7⟩
        obtain ⟨mm, hm1, hm2⟩ := hms.get hu
        have okm := ok.ms mm (List.mem_of_getElem? hm1)
        refine ⟨_, rfl, _, rfl, mm, u, rfl, hm2.on (same_tups s7), okm, Nat.le_trans (nMs_mem (List.mem_of_getElem? hm1)) hn, fun H8 a8 s8 w8 => ?_⟩
        obtain ⟨us, vs, h1, h2, l1, l2, c⟩ := (w7.on s8).cat w8
        have l3 := wMs_take_le ms i
        have l5 := wM_len mm okm (Nat.le_trans (nMs_mem (List.mem_of_getElem? hm1)) hn)
        have hml' : ms.length ≤ 2 := hml
        have hmw' : (wMs ms).length ≤ 6000 * ms.length := hmw
        refine ⟨_, _, us, vs, rfl, rfl, h1, h2, by rw [l1, l2, List.length_append, sizeLine_eq]; omega, fun L9 hL9 => ?_⟩
        refine ⟨L9, _, rfl, (s7.trans s8).trans (same_new hL9 _), ?_⟩
        rw [wMs_take ms hm1, ← List.append_assoc]
        exact c L9 hL9
      · rintro σ H7 ⟨a, v3, rfl, s7, w7⟩
        rw [hms.len, List.take_length] at w7
        refine ⟨_, rfl, by show 2 ≤ sizeLine; decide, fun t1 h1 => ⟨by show 1 ≤ sizeLine; decide, fun L hL => ?_⟩⟩
        obtain ⟨s8, w8⟩ := LW.one' h1 hL
        obtain ⟨us, vs, h1, h2, l1, l2, c⟩ := (w7.on s8).cat w8
        have hml' : ms.length ≤ 2 := hml
        have hmw' : (wMs ms).length ≤ 6000 * ms.length := hmw
        exact ⟨_, _, us, vs, rfl, rfl, h1, h2, by rw [l1, l2, List.length_append, sizeLine_eq]; simp only [List.length_cons, List.length_nil]; omega, fun L9 hL9 => kq _ L9 ((s7.trans s8).trans (same_new hL9 _)) ((c L9 hL9).cast (by rw [hdW_eq, List.append_assoc]; rfl))⟩
  | more n ms =>
    obtain ⟨p, r, xs, rfl, hp, hr2, hms⟩ := hat
    refine ⟨_, rfl, p, _, _, _, rfl, rfl, SqT.of hp, atI_0, _, rfl, p, _, _, _, rfl, rfl, SqT.of hp, atI_nat (j := 1) rfl, by show 2 ≤ sizeLine; decide, fun L1 hL1 => ?_⟩
    have g1 := two H (Str.ofString "more") (mk n) L1 hL1
    have s1 := same_new hL1 (.lst [.str (Str.ofString "more"), .str (mk n)])
    generalize upd H L1 (.lst [.str (Str.ofString "more"), .str (mk n)]) = H1 at g1 s1 ⊢
    refine ⟨[tk "more", n], L1, rfl, g1, by simp, fun H2 a2 s2 w2 => ?_⟩
    have s2' := s1.trans s2
    refine ⟨fun σ' H' => ∃ (a : Addr) (v2 : Option V), σ' = [some (.ref p), some (.ref a), v2, none] ∧ Same H H' ∧ LW H' a (hdW (.more n ms)), ?_, ?_⟩
    · refine ⟨_, rfl, p, _, _, _, rfl, rfl, SqT.of (s2' _ _ hp), atI_0, rfl, _, rfl, ?_⟩
      refine ite2 (fun c => absurd c (by decide +kernel)) (fun _ => ?_)
      exact ⟨a2, none, rfl, s2', w2⟩
    · rintro σ' H' ⟨a, v2, rfl, s6, w6⟩
      refine ⟨_, rfl, 1, rfl, p, _, _, _, rfl, rfl, SqT.of (s6 _ _ hp), atI_last [_, _] _, r, rfl, ⟨xs, SqT.of (s6 _ _ hr2)⟩, ?_⟩
      refine for_tup (xs := xs) (fun i σ H7 => ∃ (a : Addr) (v3 : Option V), σ = [some (.ref p), some (.ref a), v2, v3] ∧ Same H H7 ∧ LW H7 a (hdW (.more n ms) ++ wMs (ms.take i))) ⟨a, none, rfl, s6, by (have : wMs (ms.take 0) = [] := rfl); rw [this, List.append_nil]; exact w6⟩ (fun i σ H7 _ ⟨a, v3, _, s7, _⟩ => SqT.of (s7 _ _ hr2)) ?_ ?_
      · rintro i u σ H7 hu ⟨a, v3, rfl, s7, w7⟩
        obtain ⟨mm, hm1, hm2⟩ := hms.get hu
        have okm := ok.ms mm (List.mem_of_getElem? hm1)
        refine ⟨_, rfl, _, rfl, mm, u, rfl, hm2.on (same_tups s7), okm, Nat.le_trans (nMs_mem (List.mem_of_getElem? hm1)) hn, fun H8 a8 s8 w8 => ?_⟩
        obtain ⟨us, vs, h1, h2, l1, l2, c⟩ := (w7.on s8).cat w8
        have l3 := wMs_take_le ms i
        have l5 := wM_len mm okm (Nat.le_trans (nMs_mem (List.mem_of_getElem? hm1)) hn)
        have hml' : ms.length ≤ 2 := hml
        have hmw' : (wMs ms).length ≤ 6000 * ms.length := hmw
        refine ⟨_, _, us, vs, rfl, rfl, h1, h2, by rw [l1, l2, List.length_append, sizeLine_eq]; omega, fun L9 hL9 => ?_⟩
        refine ⟨L9, _, rfl, (s7.trans s8).trans (same_new hL9 _), ?_⟩
        rw [wMs_take ms hm1, ← List.append_assoc]
        exact c L9 hL9
      · rintro σ H7 ⟨a, v3, rfl, s7, w7⟩
        rw [hms.len, List.take_length] at w7
        refine ⟨_, rfl, by show 2 ≤ sizeLine; decide, fun t1 h1 => ⟨by show 1 ≤ sizeLine; decide, fun L hL => ?_⟩⟩
        obtain ⟨s8, w8⟩ := LW.one' h1 hL
        obtain ⟨us, vs, h1, h2, l1, l2, c⟩ := (w7.on s8).cat w8
        have hml' : ms.length ≤ 2 := hml
        have hmw' : (wMs ms).length ≤ 6000 * ms.length := hmw
        exact ⟨_, _, us, vs, rfl, rfl, h1, h2, by rw [l1, l2, List.length_append, sizeLine_eq]; simp only [List.length_cons, List.length_nil]; omega, fun L9 hL9 => kq _ L9 ((s7.trans s8).trans (same_new hL9 _)) ((c L9 hL9).cast (by rw [hdW_eq, List.append_assoc]; rfl))⟩
end
end My
set_option Elab.async false
set_option linter.all false
set_option maxRecDepth 100000
set_option maxHeartbeats 4000000
namespace My
open PySem L2 SS
abbrev sPl : Stmt := top 61
abbrev sRt : Stmt := top 62
/-- a method's place and its nodes' places -/
def AtPm (H : Hp) (q : W × List W) (v : V) : Prop := ∃ p v1 v2, v = .ref p ∧ H p = some (.tup [v1, v2]) ∧ AtRC H q.1 v1 ∧ AtRCs H q.2 v2
theorem AtRCs.on {H H' : Hp} (t : Tups H H') {ks : List W} {v : V} (h : AtRCs H ks v) : AtRCs H' ks v := by
  obtain ⟨p, vs, e, h1, h2⟩ := h
  exact ⟨p, vs, e, t _ _ h1, AtL.on t (fun _ _ h => h.on t) h2⟩
theorem AtPm.on {H H' : Hp} (t : Tups H H') {q : W × List W} {v : V} (h : AtPm H q v) : AtPm H' q v := by
  obtain ⟨p, v1, v2, e, h1, h2, h3⟩ := h
  exact ⟨p, v1, v2, e, t _ _ h1, h2.on t, h3.on t⟩
/-- the places of a method that begins at word a -/
def PmOf (ks : List W) (a : Nat) (m : Me) (q : W × List W) : Prop := ks[a]? = some q.1 ∧ (stN a (wM m)).map (fun n => ks[n]?) = q.2.map some
def PmsOf (ks : List W) : Nat → List Me → List (W × List W) → Prop
  | _, [], qs => qs = []
  | a, m :: r, qs => ∃ q r', qs = q :: r' ∧ PmOf ks a m q ∧ PmsOf ks (a + lM m) r r'
theorem PmsOf.snoc {ks : List W} : ∀ {ms : List Me} {a : Nat} {qs : List (W × List W)} {m : Me} {q : W × List W}, PmsOf ks a ms qs → PmOf ks (a + lMs ms) m q → PmsOf ks a (ms ++ [m]) (qs ++ [q])
  | [], a, qs, m, q, h, hq => by
    have h' : qs = [] := h
    subst h'
    exact ⟨q, [], rfl, hq, rfl⟩
  | x :: r, a, qs, m, q, ⟨y, r', h1, h2, h3⟩, hq => by
    subst h1
    have e : lMs (x :: r) = lM x + lMs r := by unfold lMs; show (wM x ++ wMs r).length = _; rw [List.length_append]
    exact ⟨y, r' ++ [q], rfl, h2, PmsOf.snoc h3 (by rw [e, ← Nat.add_assoc] at hq; exact hq)⟩
theorem PmsOf.len {ks : List W} : ∀ {ms : List Me} {a : Nat} {qs : List (W × List W)}, PmsOf ks a ms qs → qs.length = ms.length
  | [], a, qs, h => by
    have h' : qs = [] := h
    subst h'
    rfl
  | x :: r, a, qs, ⟨y, r', h1, h2, h3⟩ => by
    subst h1
    rw [List.length_cons, List.length_cons, h3.len]
theorem PmsOf.get {ks : List W} : ∀ {ms : List Me} {a j : Nat} {qs : List (W × List W)} {q : W × List W}, PmsOf ks a ms qs → qs[j]? = some q → ∃ b m, m ∈ ms ∧ (stMs a ms)[j]? = some (b, stW b (wM m)) ∧ PmOf ks b m q
  | [], a, j, qs, q, h, hq => by
    have h' : qs = [] := h
    subst h'
    simp at hq
  | x :: r, a, 0, qs, q, ⟨y, r', h1, h2, h3⟩, hq => by
    subst h1
    simp at hq
    subst hq
    exact ⟨a, x, List.mem_cons_self, rfl, h2⟩
  | x :: r, a, j + 1, qs, q, ⟨y, r', h1, h2, h3⟩, hq => by
    subst h1
    obtain ⟨b, m, g0, g1, g2⟩ := PmsOf.get (j := j) h3 (by simpa using hq)
    exact ⟨b, m, List.mem_cons_of_mem _ g0, by simpa [stMs] using g1, g2⟩
theorem stN_app : ∀ (x y : List WB) (a : Nat), stN a (x ++ y) = stN a x ++ stN (a + x.length) y
  | [], y, a => rfl
  | q :: r, y, a => by
    rw [List.cons_append, stN, stN, stN_app r y (a + 1), List.append_assoc, List.length_cons, show a + 1 + r.length = a + (r.length + 1) by omega]
theorem stN_take (ws : List WB) {i : Nat} {q : WB} (h : ws[i]? = some q) (a : Nat) : stN a (ws.take (i + 1)) = stN a (ws.take i) ++ (if q.2 = true then [a + i] else []) := by
  have hl : (ws.take i).length = i := by
    rw [List.length_take]
    have := (List.getElem?_eq_some_iff.mp h).1
    omega
  rw [List.take_add_one, h, stN_app, hl]
  show _ ++ ((if q.2 = true then [a + i] else []) ++ []) = _
  rw [List.append_nil]
theorem stN_len : ∀ (ws : List WB) (a : Nat), (stN a ws).length ≤ ws.length
  | [], a => Nat.le_refl _
  | q :: r, a => by
    have := stN_len r (a + 1)
    rw [stN, List.length_append, List.length_cons]
    split
    · simp only [List.length_cons, List.length_nil]; omega
    · simp only [List.length_nil]; omega
theorem AllT.get2 {α : Type} {f : α → List V} {H : Hp} : ∀ {vs : List V} {qs : List α} {i : Nat} {q : α}, AllT f H vs qs → qs[i]? = some q → ∃ p, vs[i]? = some (.ref p) ∧ H p = some (.tup (f q))
  | _, _, i, q, .nil, h => by simp at h
  | _, _, 0, q, .cons ⟨p, e, hp⟩ r, h => by
    simp at h
    subst h
    exact ⟨p, by rw [e]; rfl, hp⟩
  | _, _, i + 1, q, .cons _ r, h => by
    obtain ⟨p, g1, g2⟩ := AllT.get2 (i := i) r (by simpa using h)
    exact ⟨p, by simpa using g1, g2⟩
section
variable {P : Program} {w : World} {K : PySem.W.Frag} {mg : Str → Option Value} {base : Heap}
def spPl : Sp := fun vs H Q _ => ∃ (t : Tr) (v : V) (wl sl : Addr) (s : Nat) (pre post : List WB) (us : List V) (ks : List W), vs = [v, .ref wl, .ref sl, .int (s : Nat)] ∧ AtTr H t v ∧ okTr t ∧ nMs t.ms ≤ 1000 ∧ LW H wl (pre ++ wT t ++ post) ∧ s = pre.length ∧ H sl = some (.lst us) ∧ AtL AtRC H ks us ∧ ks.length = (pre ++ wT t ++ post).length ∧ ks.length ≤ 100000 ∧
  ∀ (qs : List (W × List W)) (q fl : Addr) (fs : List V) (H' : Hp), Same H H' → H' q = some (.tup [.ref fl, .int ((s + lT t : Nat) : Nat)]) → H' fl = some (.lst fs) → AtL AtPm H' qs fs → PmsOf ks (s + mAt t) t.ms qs → Q (.ref q) H'
theorem scPl_ : FnScope ["_law_tree", "_law_words", "_law_spots", "_law_start", "_law_found", "_law_at", "_law_method_here", "_law_many", "_law_starts", "_law_k"] ["_law_tree", "_law_words", "_law_spots", "_law_start"] (defScope sPl) := ⟨rfl, rfl, rfl, by decide +kernel, rfl, by decide +kernel, by decide +kernel⟩
set_option maxHeartbeats 8000000 in
theorem c_pl {k : Nat} (hk : 1 ≤ k) (TS : TxS K mg) (T0 : TxL mg) (D : Dn K mg "_law_places" sPl) (GM : C0 P w K mg base k "_law_method_words" spWMe) : C0 P w K mg base (k + 1) "_law_places" spPl := by
  obtain ⟨f, fd, F, m⟩ := D.ex
  refine ⟨f, fd, ["_law_tree", "_law_words", "_law_spots", "_law_start"], F.ok scPl_ (fun vs H Q E h => ?_) (fun cdv A outer s H vs Q E hr h => ?_), m, F.kp, F.binds (ps := ["_law_tree", "_law_words", "_law_spots", "_law_start"]) fun _ _ _ _ _ _ us hl => match us, hl with | [_, _, _, _], _ => rfl⟩
  · obtain ⟨t, v, wl, sl, s, pre, post, us, ks, rfl, _⟩ := h
    rfl
  obtain ⟨t, v, wl, sl, st, pre, post, us, ks, rfl, hat, ok, hn, hlw, hst, hsl, hks, hkl, hk5, kq⟩ := h
  refine ⟨_, pss_cons (ps_set (i := 4) scPl_.nd rfl (Or.inl rfl) (pe_lst pa_nil)) <|
    pss_cons (ps_set (i := 5) scPl_.nd rfl (Or.inl rfl) (pe_op op_add (pv 3) pe_int)) <|
    C8.pss_cut (ps_if (pt_cmpR op_eq (pe_ix ix_tup (pv 0) pe_int (fun _ _ => rfl)) pe_str (nomark _)) (pss_one (ps_set (i := 5) scPl_.nd rfl (Or.inl rfl) (pe_op op_add (pe_op op_add (pv 5) pe_int) (pe_op op_mul pe_int (pe_callB call_len_seq (by rfl) TS.len PySem.boot_len (pa_cons (pe_ix ix_tup (pv 0) pe_int (fun _ _ => rfl)) pa_nil)))))) pss_nil) <|
    pss_cons (ps_for PassesOwn.never rfl (pi_tup (pe_ix ix_tup (pv 0) (pe_un un_neg pe_int) (fun _ _ => rfl))) (pg_name (i := 6) scPl_.nd rfl (Or.inl rfl)) <|
      pss_cons (ps_set (i := 7) scPl_.nd rfl (Or.inl rfl) (pe_callB call_len_seq (by rfl) TS.len PySem.boot_len (pa_cons (pe_cc GM hr (Nat.le_refl _) pass0 (pa_cons (pv 6) pa_nil)) pa_nil))) <|
      pss_cons (ps_setLc (i := 8) (own := [("_law_k", 9)]) (g := gName 9) (by rfl) scPl_.nd rfl rfl (sw_true rfl rfl rfl (by decide +kernel)) (pi_range2 rfl T0.range (pa_cons (pv 5) (pa_cons (pe_op op_add (pv 5) (pv 7)) pa_nil)))
        (blkOk_by (own := [("_law_k", 9)]) (N := ["_law_tree", "_law_words", "_law_spots", "_law_start", "_law_found", "_law_at", "_law_method_here", "_law_many", "_law_starts", "_law_k"]) (sc := defScope sPl) (by decide +kernel)) (fun _ _ _ _ _ => pg_name (i := 9) scPl_.nd rfl (Or.inl rfl))
        (fun _ _ _ _ _ => pts_one (pt_val (pe_ix (r := rIxT K) ix_tup (pe_ix (r := rIxL K) ix_list (pv 1) (pv 9) (fun _ _ => rfl)) pe_int (fun _ _ => rfl)))) (fun _ _ _ _ _ => pe_ix (r := rIxL K) ix_list (pv 2) (pv 9) (fun _ _ => rfl))) <|
      pss_cons (ps_expr (pe_bm PySem.F.plainAttrs_list PySem.F.slot_list_append PySem.F.type_list_append mt_append (pv 4) (pa_cons (pe_tup (pa_cons (pe_ix ix_list (pv 2) (pv 5) (fun _ _ => rfl)) (pa_cons (pe_callTy call_tuple_of (by rfl) TS.tup (by decide +kernel) (pa_cons (pv 8) pa_nil)) pa_nil))) pa_nil))) <|
      pss_one (ps_set (i := 5) scPl_.nd rfl (Or.inl rfl) (pe_op op_add (pv 5) (pv 7)))) <|
    pss_one (ps_ret (pe_tup (pa_cons (pv 4) (pa_cons (pe_op op_add (pv 5) pe_int) pa_nil)))), ?_⟩
  refine ⟨Nat.zero_le _, fun fl hfl => ?_⟩
  have s1 := same_new hfl (.lst [])
  have f1 : upd H fl (.lst []) fl = some (.lst []) := upd_same
  generalize upd H fl (.lst []) = H1 at s1 f1 ⊢
  refine ⟨_, rfl, _, _, rfl, rfl, ?_⟩
  have hlt := lT_eq t
  have hml := ok.ml
  have hmw := wMs_len t.ms ok.ms hn
  have hlms : lMs t.ms = (wMs t.ms).length := rfl
  have hmat : mAt t ≤ 10 := by
    cases t with
    | kind n q fs ms =>
      have : fs.length ≤ 3 := ok.hd.2.2.1
      show 4 + 2 * fs.length ≤ 10
      omega
    | more n ms => show 2 ≤ 10; decide
  have hmt : ∃ r xs, (∃ p ys, v = .ref p ∧ H p = some (.tup (ys ++ [.ref r]))) ∧ H r = some (.tup xs) ∧ AtMs H t.ms xs := by
    cases t with
    | kind n q fs ms =>
      obtain ⟨p, vw, r, xs, rfl, h1, h2, h3, h4⟩ := hat
      exact ⟨r, xs, ⟨p, [S_ "kind", .str (mk n), .str (mk q), vw], rfl, h1⟩, h3, h4⟩
    | more n ms =>
      obtain ⟨p, r, xs, rfl, h1, h3, h4⟩ := hat
      exact ⟨r, xs, ⟨p, [S_ "more", .str (mk n)], rfl, h1⟩, h3, h4⟩
  refine ⟨fun σ' H' => H' = H1 ∧ σ' = [some v, some (.ref wl), some (.ref sl), some (.int (st : Nat)), some (.ref fl), some (.int ((st + mAt t : Nat) : Nat)), none, none, none, none], ?_, ?_⟩
  · cases t with
    | kind n q fs ms =>
      obtain ⟨p, vw, r, xs, rfl, h1, ⟨pw, rfl, h2⟩, h3, h4⟩ := hat
      have hfs : fs.length ≤ 3 := ok.hd.2.2.1
      refine ⟨_, rfl, p, _, _, _, rfl, rfl, SqT.of (s1 _ _ h1), atI_0, rfl, _, rfl, ?_⟩
      refine ite2 (fun _ => ?_) (fun c => absurd (by decide +kernel) c)
      refine ⟨_, rfl, _, _, rfl, rfl, _, rfl, p, _, _, _, rfl, rfl, SqT.of (s1 _ _ h1), atI_nat (j := 3) rfl, pw, _, rfl, .inr (SqT.of (s1 _ _ h2)), _, _, rfl, rfl, .inl ⟨by decide, by decide⟩, _, _, rfl, rfl, rfl, ?_⟩
      have hwl : (wsV fs).length = fs.length := List.length_map _
      show [some (V.ref p), some (.ref wl), some (.ref sl), some (.int (st : Nat)), some (.ref fl), some (.int (((st : Nat) : Int) + 2 + 2 + 2 * (((wsV fs).length : Nat) : Int))), none, none, none, none] = _
      rw [hwl, show ((st : Nat) : Int) + 2 + 2 + 2 * ((fs.length : Nat) : Int) = ((st + (4 + 2 * fs.length) : Nat) : Int) by omega]
      rfl
    | more n ms =>
      obtain ⟨p, r, xs, rfl, h1, h3, h4⟩ := hat
      refine ⟨_, rfl, p, _, _, _, rfl, rfl, SqT.of (s1 _ _ h1), atI_0, rfl, _, rfl, ?_⟩
      refine ite2 (fun c => absurd c (by decide +kernel)) (fun _ => ?_)
      refine ⟨rfl, ?_⟩
      show [some (V.ref p), some (.ref wl), some (.ref sl), some (.int (st : Nat)), some (.ref fl), some (.int (((st : Nat) : Int) + 2)), none, none, none, none] = _
      rw [show ((st : Nat) : Int) + 2 = ((st + 2 : Nat) : Int) by omega]
      rfl
  rintro σ' H' ⟨rfl, rfl⟩
  obtain ⟨rm, xsm, ⟨pm, ysm, rfl, hpm⟩, hrm, hatm⟩ := hmt
  refine ⟨_, rfl, 1, rfl, pm, _, _, _, rfl, rfl, SqT.of (s1 _ _ hpm), atI_last _ _, rm, rfl, ⟨xsm, SqT.of (s1 _ _ hrm)⟩, ?_⟩
  have hlw1 := hlw
  obtain ⟨uw, hwl, hAw⟩ := hlw
  have hEq : pre ++ wT t ++ post = (pre ++ hdW t) ++ wMs t.ms ++ ((tk "end", false) :: post) := by rw [hdW_eq]; simp [List.append_assoc]
  have hhd : (hdW t).length = mAt t := by
    cases t with
    | kind n q fs ms =>
      show (wFd fs).length + 1 + 1 + 1 + 1 = 4 + 2 * fs.length
      rw [wFd_len]; omega
    | more n ms => rfl
  have hkl2 := hkl
  rw [hEq] at hkl2
  simp only [List.length_append, List.length_cons, hhd] at hkl2
  refine for_tup (xs := xsm) (fun i σ H2 => ∃ (fs : List V) (qs : List (W × List W)) (v6 v7 v8 v9 : Option V), σ = [some (V.ref pm), some (.ref wl), some (.ref sl), some (.int (st : Nat)), some (.ref fl), some (.int ((st + mAt t + lMs (t.ms.take i) : Nat) : Nat)), v6, v7, v8, none] ∧ Same H H2 ∧ H2 fl = some (.lst fs) ∧ AtL AtPm H2 qs fs ∧ PmsOf ks (st + mAt t) (t.ms.take i) qs)
    ⟨[], [], none, none, none, none, rfl, s1, f1, rfl, rfl⟩ (fun i σ H2 _ ⟨_, _, _, _, _, _, _, s2, _⟩ => SqT.of (s2 _ _ hrm)) ?_ ?_
  · rintro i u σ H2 hu ⟨fs, qs, v6, v7, v8, v9, rfl, s2, f2, at2, pm2⟩
    obtain ⟨mm, hm1, hm2⟩ := hatm.get hu
    have hmem := List.mem_of_getElem? hm1
    have okm := ok.ms mm hmem
    have hi : i < t.ms.length := (List.getElem?_eq_some_iff.mp hm1).1
    have hnm := Nat.le_trans (nMs_mem hmem) hn
    have hlm := wM_len mm okm hnm
    have et : t.ms.take (i + 1) = t.ms.take i ++ [mm] := by rw [List.take_add_one, hm1]; rfl
    -- where the method's words stand
    obtain ⟨a, ha⟩ : ∃ a, a = st + mAt t + lMs (t.ms.take i) := ⟨_, rfl⟩
    have hdrop : ∃ rest, pre ++ wT t ++ post = (pre ++ hdW t ++ wMs (t.ms.take i)) ++ (wM mm ++ rest) := by
      have e1 : wMs t.ms = wMs (t.ms.take i) ++ (wM mm ++ wMs (t.ms.drop (i + 1))) := by
        have e2 : t.ms = t.ms.take (i + 1) ++ t.ms.drop (i + 1) := (List.take_append_drop _ _).symm
        rw [et] at e2
        conv => lhs; rw [e2]
        unfold wMs
        rw [List.flatMap_append, List.flatMap_append]
        simp
      exact ⟨wMs (t.ms.drop (i + 1)) ++ ((tk "end", false) :: post), by rw [hEq, e1]; simp [List.append_assoc]⟩
    obtain ⟨rest, hrest⟩ := hdrop
    have hal : (pre ++ hdW t ++ wMs (t.ms.take i)).length = a := by
      rw [List.length_append, List.length_append, hhd, ← hst, ha]
      rfl
    have hwat : ∀ j, j < (wM mm).length → (pre ++ wT t ++ post)[a + j]? = (wM mm)[j]? := fun j hj => by
      rw [hrest, List.getElem?_append_right (by omega), hal, show a + j - a = j by omega, List.getElem?_append_left hj]
    have hkl3 : a + (wM mm).length ≤ ks.length := by
      rw [hkl, hrest, List.length_append, hal, List.length_append]
      omega
    have hkat : ∀ j, j < (wM mm).length → ∃ k, ks[a + j]? = some k := fun j hj => ⟨ks[a + j]'(by omega), List.getElem?_eq_getElem (by omega)⟩
    refine ⟨_, rfl, mm, u, rfl, hm2.on (same_tups s2), okm, hnm, fun H3 a3 s3 w3 => ?_⟩
    obtain ⟨uw3, hw3, hA3⟩ := w3
    have hl3 : uw3.length = lM mm := hA3.length
    refine ⟨a3, _, rfl, .inl (SqL.of hw3), ?_⟩
    rw [hl3, ← ha]
    have s3' := s2.trans s3
    have hLM : lM mm = (wM mm).length := rfl
    refine ⟨_, rfl, _, rfl, _, rfl, _, _, rfl, rfl, ((a : Nat) : Int), (((a : Nat) : Int) + ((lM mm : Nat) : Int)), rfl, ⟨by omega, by omega, by omega, by omega⟩, fun D0 hD0 => ?_⟩
    have en : ((((a : Nat) : Int) + ((lM mm : Nat) : Int)) - ((a : Nat) : Int)).toNat = lM mm := by omega
    refine lc_range (lo := ((a : Nat) : Int)) (n := ((((a : Nat) : Int) + ((lM mm : Nat) : Int)) - ((a : Nat) : Int)).toNat) (fun j H4 => ∃ (vs : List V) (kk : List W), Same H3 H4 ∧ H4 D0 = some (.lst vs) ∧ AtL AtRC H4 kk vs ∧ (stN a ((wM mm).take j)).map (fun n => ks[n]?) = kk.map some) ⟨[], [], same_new hD0 _, upd_same, rfl, rfl⟩ ?_ ?_
    · rintro j H4 hj ⟨vs, kk, s4, h4, at4, hkk⟩
      have hj' : j < (wM mm).length := by rw [en] at hj; exact hj
      have s4' := s3'.trans s4
      rw [show ((a : Nat) : Int) + ((j : Nat) : Int) = ((a + j : Nat) : Int) by omega]
      have hq : (wM mm)[j]? = some (wM mm)[j] := List.getElem?_eq_getElem hj'
      generalize (wM mm)[j] = q at hq
      obtain ⟨pq, hp1, hp2⟩ := hAw.get2 ((hwat j hj').trans hq)
      refine ⟨rfl, ?_⟩
      refine ⟨_, rfl, _, rfl, wl, _, _, _, rfl, rfl, SqL.of (s4' _ _ hwl), atI_nat hp1, pq, _, _, _, rfl, rfl, SqT.of (s4' _ _ hp2), atI_nat (j := 1) rfl, _, rfl, ?_⟩
      obtain ⟨kj, hkj⟩ := hkat j hj'
      have hst2 := stN_take (wM mm) hq a
      have hkl6 : vs.length ≤ 6000 := by
        have e1 := congrArg List.length hkk
        rw [List.length_map, List.length_map] at e1
        have e2 := stN_len ((wM mm).take j) a
        rw [List.length_take] at e2
        rw [at4.len, ← e1]
        omega
      refine ite2 (fun c => ?_) (fun c => ?_)
      · obtain ⟨v, hv1, hv2⟩ := hks.get' hkj
        refine ⟨_, rfl, _, rfl, sl, _, _, _, rfl, rfl, SqL.of (s4' _ _ hsl), atI_nat hv1, vs, h4, by rw [sizeLine_eq]; omega, vs ++ [v], kk ++ [kj], ?_, upd_same, ?_, ?_⟩
        · intro b u h
          rw [upd_ne (ne_of_none h hD0)]
          exact s4 _ _ h
        · have t5 := tups_lst (ys := vs ++ [v]) h4
          exact (AtL.on t5 (fun _ _ h => h.on t5) at4).snoc ((hv2.on (same_tups s4')).on t5)
        · rw [hst2, if_pos c, List.map_append, List.map_append, hkk]
          show _ ++ [ks[a + j]?] = _
          rw [hkj]
          rfl
      · refine ⟨vs, kk, s4, h4, at4, ?_⟩
        rw [hst2, if_neg c, List.append_nil, hkk]
    · rintro H4 ⟨vs, kk, s4, h4, at4, hkk⟩
      rw [en, List.take_length] at hkk
      have s4' := s3'.trans s4
      have f4 : H4 fl = some (.lst fs) := s4 _ _ (s3 _ _ f2)
      obtain ⟨ka, hka⟩ := hkat 0 (by have := lM_eq mm; omega)
      rw [Nat.add_zero] at hka
      obtain ⟨v, hv1, hv2⟩ := hks.get' hka
      refine ⟨_, rfl, .inl ⟨rfl, _, SqL.of f4⟩, _, rfl, _, rfl, sl, _, _, _, rfl, rfl, SqL.of (s4' _ _ hsl), atI_nat hv1, _, rfl, D0, vs, rfl, .inl ⟨SqL.of h4, fun tp htp => ?_⟩⟩
      have s5 := same_new htp (.tup vs)
      have a5 : AtRCs (upd H4 tp (.tup vs)) kk (.ref tp) := ⟨tp, vs, rfl, upd_same, AtL.on (same_tups s5) (fun _ _ h => h.on (same_tups s5)) at4⟩
      have f5 := s5 _ _ f4
      have s5' := s4'.trans s5
      generalize upd H4 tp (.tup vs) = H5 at s5 a5 f5 s5' ⊢
      refine ⟨by show 2 ≤ sizeLine; decide, fun t2 ht2 => ?_⟩
      have s6 := same_new ht2 (.tup [v, .ref tp])
      have f6 := s6 _ _ f5
      have hn2 : t2 ≠ fl := fun e => by rw [e, f5] at ht2; cases ht2
      have hfl2 : fs.length ≤ 2 := by
        rw [at2.len, pm2.len, List.length_take]
        omega
      refine ⟨fl, fs, .ref t2, rfl, rfl, f6, by rw [sizeLine_eq]; omega, ?_⟩
      refine ⟨_, rfl, _, rfl, _, _, rfl, rfl, ?_⟩
      have t7 := tups_lst (ys := fs ++ [.ref t2]) f6
      refine ⟨fs ++ [.ref t2], qs ++ [(ka, kk)], some u, some (.int (lM mm : Nat)), some (.ref D0), none, ?_, ?_, upd_same, ?_, ?_⟩
      rotate_left
      · intro b u h
        rw [upd_ne (ne_of_none h hfl)]
        exact s6 _ _ (s5' _ _ h)
      · have t36 := (same_tups (s3.trans s4)).trans ((same_tups (s5.trans s6)).trans t7)
        refine (AtL.on t36 (fun _ _ h => h.on t36) at2).snoc ⟨t2, v, .ref tp, rfl, ?_, ((hv2.on (same_tups s5')).on (same_tups s6)).on t7, (a5.on (same_tups s6)).on t7⟩
        rw [upd_ne hn2, upd_same]
      · rw [et]
        refine pm2.snoc ⟨by rw [← ha]; exact hka, by rw [← ha]; exact hkk⟩
      · rw [et, lMs_snoc]
        show [some (V.ref pm), some (.ref wl), some (.ref sl), some (.int (st : Nat)), some (.ref fl), some (.int (((a : Nat) : Int) + ((lM mm : Nat) : Int))), some u, some (.int (lM mm : Nat)), some (.ref D0), none] = _
        rw [show ((a : Nat) : Int) + ((lM mm : Nat) : Int) = ((st + mAt t + (lMs (t.ms.take i) + lM mm) : Nat) : Int) by omega]
  · rintro σ H2 ⟨fs, qs, v6, v7, v8, v9, rfl, s2, f2, at2, pm2⟩
    rw [hatm.len, List.take_length] at pm2
    refine ⟨_, rfl, _, rfl, _, _, rfl, rfl, by show 2 ≤ sizeLine; decide, fun q hq => ?_⟩
    have sq := same_new hq (.tup [.ref fl, .int (((st + mAt t + lMs (t.ms.take xsm.length) : Nat) : Int) + 1)])
    refine kq qs q fl fs _ (s2.trans sq) ?_ (sq _ _ f2) (AtL.on (same_tups sq) (fun _ _ h => h.on (same_tups sq)) at2) pm2
    rw [upd_same, hatm.len, List.take_length, hlt]
    show some (HO.tup [V.ref fl, .int (((st + mAt t + lMs t.ms : Nat) : Int) + 1)]) = _
    rw [show ((st + mAt t + lMs t.ms : Nat) : Int) + 1 = ((st + (mAt t + (lMs t.ms + 1)) : Nat) : Int) by omega]
end
end My
set_option Elab.async false
set_option linter.all false
set_option maxRecDepth 100000
set_option maxHeartbeats 4000000
namespace My
open PySem L2 SS
/-! ### places compared -/
def dRC (k : W) : PyData := .tuple [.int (k.2.1 : Nat), .int (k.2.2 : Nat)]
theorem dp_rc {K : PySem.W.Frag} {H : Hp} {k : W} {v : V} (h : AtRC H k v) : Dp K H v (dRC k) := by
  obtain ⟨p, rfl, h⟩ := h
  exact .tup (SqT.of h) (.cons (.int _) (.cons (.int _) .nil))
theorem dp_all {α : Type} {K : PySem.W.Frag} {H : Hp} {R : Hp → α → V → Prop} {f : α → PyData} (h : ∀ x v, R H x v → Dp K H v (f x)) : ∀ {xs : List α} {vs : List V}, AtL R H xs vs → DpAll K H vs (xs.map f)
  | [], vs, e => by
    have e' : vs = [] := e
    subst e'
    exact .nil
  | x :: r, vs, ⟨v, us, e, h1, h2⟩ => by
    subst e
    exact .cons (h x v h1) (dp_all h h2)
theorem dp_rcs {K : PySem.W.Frag} {H : Hp} {ks : List W} {v : V} (h : AtRCs H ks v) : Dp K H v (.tuple (ks.map dRC)) := by
  obtain ⟨p, vs, rfl, h1, h2⟩ := h
  exact .tup (SqT.of h1) (dp_all (fun _ _ h => dp_rc h) h2)
theorem lay_all {α : Type} {f : α → PyData} {n : Nat} : ∀ xs : List α, (∀ x ∈ xs, (f x).canLay0 = true ∧ (f x).depth ≤ n) → PyData.canLayAll0 (xs.map f) = true ∧ PyData.depthAll (xs.map f) ≤ n
  | [], _ => ⟨rfl, Nat.zero_le _⟩
  | x :: r, h => by
    obtain ⟨h1, h2⟩ := h x List.mem_cons_self
    obtain ⟨h3, h4⟩ := lay_all r fun y hy => h y (List.mem_cons_of_mem _ hy)
    refine ⟨?_, ?_⟩
    · rw [List.map_cons, PyData.canLayAll0, h1, h3]
      rfl
    · rw [List.map_cons, PyData.depthAll]
      exact Nat.max_le.mpr ⟨h2, h4⟩
theorem rc_shape (k : W) : (dRC k).canLay0 = true ∧ (dRC k).depth ≤ 1 := by
  unfold dRC
  refine ⟨?_, ?_⟩
  · simp [PyData.canLay0, PyData.canLayAll0]
  · simp [PyData.depth, PyData.depthAll]
theorem shaped_of {d : PyData} (h1 : d.canLay0 = true) (h2 : d.depth ≤ 64) : SeqAt.shaped d = true := by
  unfold SeqAt.shaped
  rw [h1, decide_eq_true h2]
  rfl
/-- the same data: not unequal -/
theorem ne_same {K : PySem.W.Frag} {H : Hp} {x y : V} {d : PyData} {Q : VK} (h1 : Dp K H x d) (h2 : Dp K H y d) (c : d.canLay0 = true) (dp : d.depth ≤ 64) (q : Q (.bl false) H) : rNeD K x y H Q := by
  refine ⟨d, d, h1, h2, shaped_of c dp, shaped_of c dp, ?_⟩
  rw [SeqAt.eqv_refl d c]
  exact q
theorem rcs_shape (ks : List W) : (PyData.tuple (ks.map dRC)).canLay0 = true ∧ (PyData.tuple (ks.map dRC)).depth ≤ 64 := by
  obtain ⟨h1, h2⟩ := lay_all (n := 1) ks fun k _ => rc_shape k
  refine ⟨?_, ?_⟩
  · rw [PyData.canLay0]; exact h1
  · rw [PyData.depth]; omega
theorem stTs_get : ∀ {ts : List Tr} {i : Nat} {t : Tr} (a : Nat), ts[i]? = some t → (stTs a ts)[i]? = some (a + lTs (ts.take i), stMs (a + lTs (ts.take i) + mAt t) t.ms)
  | x :: r, 0, t, a, h => by
    simp at h
    subst h
    rfl
  | x :: r, i + 1, t, a, h => by
    have e : lTs ((x :: r).take (i + 1)) = lT x + lTs (r.take i) := by unfold lTs; show (wT x ++ wTs (r.take i)).length = _; rw [List.length_append]
    have := stTs_get (ts := r) (i := i) (a + lT x) (by simpa using h)
    rw [e, ← Nat.add_assoc]
    simpa [stTs] using this
theorem nTs_mem : ∀ {ts : List Tr} {t : Tr}, t ∈ ts → nMs t.ms ≤ nTs ts
  | x :: r, t, h => by
    have e : nTs (x :: r) = nMs x.ms + nTs r := by unfold nTs; rw [List.map_cons, List.sum_cons]
    rcases List.mem_cons.mp h with h | h
    · subst h; omega
    · have := nTs_mem h; omega
theorem wTs_split (ts : List Tr) {i : Nat} {t : Tr} (h : ts[i]? = some t) : wTs ts = wTs (ts.take i) ++ wT t ++ wTs (ts.drop (i + 1)) := by
  have et : ts.take (i + 1) = ts.take i ++ [t] := by rw [List.take_add_one, h]; rfl
  have e2 : ts = ts.take (i + 1) ++ ts.drop (i + 1) := (List.take_append_drop _ _).symm
  rw [et] at e2
  conv => lhs; rw [e2]
  unfold wTs
  rw [List.flatMap_append, List.flatMap_append]
  simp
section
variable {P : Program} {w : World} {K : PySem.W.Frag} {mg : Str → Option Value} {base : Heap} {CP : Addr}
def spRt (CP : Addr) : Sp := fun vs H Q _ => ∃ (pp tp wl sl : Addr) (pg z : Str) (ts : List Tr) (ks : List W) (ys us : List V), vs = [.ref pp, .ref tp, .ref wl, .ref sl] ∧ PageAt CP H pp pg z ts ks ∧ H tp = some (.tup ys) ∧ AtTs H ts ys ∧ (∀ t ∈ ts, okTr t) ∧ ts.length ≤ 3 ∧ nTs ts ≤ 1000 ∧ LW H wl (wTs ts) ∧ H sl = some (.lst us) ∧ AtL AtRC H ks us ∧ ks.length = (wTs ts).length ∧ ks.length ≤ 100000 ∧ ∀ H', Same H H' → Q (.bl true) H'
theorem scRt : FnScope ["_law_page", "_law_trees_here", "_law_words", "_law_spots", "_law_start", "_law_k", "_law_found", "_law_end", "_law_m"] ["_law_page", "_law_trees_here", "_law_words", "_law_spots"] (defScope sRt) := ⟨rfl, rfl, rfl, by decide +kernel, rfl, by decide +kernel, by decide +kernel⟩
set_option maxHeartbeats 8000000 in
theorem c_rt {k : Nat} (hk : 2 ≤ k) (TS : TxS K mg) (T0 : TxL mg) (TP : TxP K mg CP) (D : Dn K mg "_law_right" sRt) (GP : C0 P w K mg base k "_law_places" spPl) (M1 : MP P w K mg base CP 2 "place" (nPl CP)) (M2 : MP P w K mg base CP 2 "method_place" (nMp CP)) (M3 : MP P w K mg base CP 2 "node_places" (nNp CP)) : C0 P w K mg base (k + 1) "_law_right" (spRt CP) := by
  obtain ⟨f, fd, F, m⟩ := D.ex
  refine ⟨f, fd, ["_law_page", "_law_trees_here", "_law_words", "_law_spots"], F.ok scRt (fun vs H Q E h => ?_) (fun cdv A outer s H vs Q E hr h => ?_), m, F.kp, F.binds (ps := ["_law_page", "_law_trees_here", "_law_words", "_law_spots"]) fun _ _ _ _ _ _ us hl => match us, hl with | [_, _, _, _], _ => rfl⟩
  · obtain ⟨pp, tp, wl, sl, pg, z, ts, ks, ys, us, rfl, _⟩ := h
    rfl
  obtain ⟨pp, tp, wl, sl, pg, z, ts, ks, ys, us, rfl, hpg, htp, hts, hok, htl, hnt, hlw, hsl, hks, hkl, hk5, kq⟩ := h
  refine ⟨_, pss_cons (ps_set (i := 4) scRt.nd rfl (Or.inl rfl) pe_int) <|
    pss_cons (ps_for PassesOwn.never rfl (pi_range1 rfl T0.range (pa_cons (pe_callB call_len_seq (by rfl) TS.len PySem.boot_len (pa_cons (pv 1) pa_nil)) pa_nil)) (pg_name (i := 5) scRt.nd rfl (Or.inl rfl)) <|
      pss_cons (ps_asg (pe_cc GP hr (Nat.le_refl _) pass0 (pa_cons (pe_ix ix_tup (pv 1) (pv 5) (fun _ _ => rfl)) (pa_cons (pv 2) (pa_cons (pv 3) (pa_cons (pv 4) pa_nil))))) (pg_tup (by rfl) (pgs_cons (pg_name (i := 6) scRt.nd rfl (Or.inl rfl)) (pgs_cons (pg_name (i := 7) scRt.nd rfl (Or.inl rfl)) pgs_nil)))) <|
      pss_cons (ps_if (pt_cmpR (op_neD hr.units) (pe_mm TP.cl M1 hr hk pass0 (pv 0) (pa_cons (pv 5) pa_nil)) (pe_ix ix_list (pv 3) (pv 4) (fun _ _ => rfl)) (nomark _)) (pss_one (ps_ret pe_bl)) pss_nil) <|
      pss_cons (ps_for PassesOwn.never rfl (pi_range1 rfl T0.range (pa_cons (pe_callB call_len_seq (by rfl) TS.len PySem.boot_len (pa_cons (pv 6) pa_nil)) pa_nil)) (pg_name (i := 8) scRt.nd rfl (Or.inl rfl)) <|
        pss_one (ps_if (PW.pt (pw_or (pt_cmpR (op_neD hr.units) (pe_mm TP.cl M2 hr hk pass0 (pv 0) (pa_cons (pv 5) (pa_cons (pv 8) pa_nil))) (pe_ix ix_tup (pe_ix ix_list (pv 6) (pv 8) (fun _ _ => rfl)) pe_int (fun _ _ => rfl)) (nomark _)) (pw_or1 (pt_cmpR (op_neD hr.units) (pe_mm TP.cl M3 hr hk pass0 (pv 0) (pa_cons (pv 5) (pa_cons (pv 8) pa_nil))) (pe_ix ix_tup (pe_ix ix_list (pv 6) (pv 8) (fun _ _ => rfl)) pe_int (fun _ _ => rfl)) (nomark _))))) (pss_one (ps_ret pe_bl)) pss_nil)) <|
      pss_one (ps_set (i := 4) scRt.nd rfl (Or.inl rfl) (pv 7))) <|
    pss_one (ps_ret pe_bl), ?_⟩
  have hyl : ys.length = ts.length := hts.len
  refine ⟨_, rfl, tp, _, rfl, .inr (SqT.of htp), ((ts.length : Nat) : Int), by rw [hyl], by omega, by omega, ?_⟩
  refine for_range (lo := 0) (n := ((ts.length : Nat) : Int).toNat) (fun i σ H1 => ∃ (v5 v6 v7 v8 : Option V), σ = [some (V.ref pp), some (.ref tp), some (.ref wl), some (.ref sl), some (.int ((lTs (ts.take i) : Nat) : Nat)), v5, v6, v7, v8] ∧ Same H H1) ⟨none, none, none, none, rfl, Same.refl _⟩ ?_ ?_
  · rintro i σ H1 hi ⟨v5, v6, v7, v8, rfl, s1⟩
    have hi' : i < ts.length := by omega
    have ht : ts[i]? = some ts[i] := List.getElem?_eq_getElem hi'
    generalize ts[i] = t at ht
    have hmem := List.mem_of_getElem? ht
    have hsp := wTs_split ts ht
    obtain ⟨a, ha⟩ : ∃ a, a = lTs (ts.take i) := ⟨_, rfl⟩
    obtain ⟨v, hv1, hv2⟩ := hts.get' ht
    have hlt := lT_eq t
    have hsl2 : (wTs ts).length = a + lT t + (wTs (ts.drop (i + 1))).length := by
      rw [hsp, List.length_append, List.length_append, ha]
      rfl
    rw [show (0 : Int) + ((i : Nat) : Int) = ((i : Nat) : Int) by omega, ← ha]
    refine ⟨_, rfl, _, rfl, tp, _, _, _, rfl, rfl, SqT.of (s1 _ _ htp), atI_nat hv1, _, rfl, _, rfl, _, rfl, t, v, wl, sl, a, wTs (ts.take i), wTs (ts.drop (i + 1)), us, ks, rfl, hv2.on (same_tups s1), hok t hmem, Nat.le_trans (nTs_mem hmem) hnt, ?_, ha, s1 _ _ hsl, AtL.on (same_tups s1) (fun _ _ h => h.on (same_tups s1)) hks, by rw [← hsp]; exact hkl, hk5, fun qs q fl fs H2 s2 hq hfl hfs hpm => ?_⟩
    · rw [← hsp]
      exact hlw.on s1
    have s2' := s1.trans s2
    refine ⟨q, _, rfl, SqT.of hq, rfl, _, _, rfl, _, _, rfl, rfl, ?_⟩
    -- the tree's place
    have hka : ∃ ka, ks[a]? = some ka := ⟨ks[a]'(by omega), List.getElem?_eq_getElem (by omega)⟩
    obtain ⟨ka, hka⟩ := hka
    have hstT := stTs_get 0 ht
    rw [Nat.zero_add, ← ha] at hstT
    have hpg2 := hpg.same s2'
    have hpg3 := hpg2
    obtain ⟨dx, vt, wl', st', us', xs', pi⟩ := hpg2
    refine ⟨_, rfl, pp, dx, _, rfl, pi.ob, by kernel_rfl, _, rfl, pp, pg, z, ts, ks, i, _, ka, rfl, hpg3, hstT, hka, fun v3 H3 s3 hv3 => ?_⟩
    have s3' := s2'.trans s3
    obtain ⟨vs_, hvs1, hvs2⟩ := hks.get' hka
    obtain ⟨c1, c2⟩ := rc_shape ka
    refine ⟨_, rfl, _, rfl, sl, _, _, _, rfl, rfl, SqL.of (s3' _ _ hsl), atI_nat hvs1, ne_same (dp_rc hv3) (dp_rc (hvs2.on (same_tups s3'))) c1 (by omega) ⟨_, rfl, iteF ?_⟩⟩
    have f3 := s3 _ _ hfl
    have hql := hpm.len
    have hfsl : fs.length = t.ms.length := by rw [hfs.len, hql]
    have hml := (hok t hmem).ml
    refine ⟨_, rfl, fl, _, rfl, .inl (SqL.of f3), ((fs.length : Nat) : Int), rfl, by omega, by omega, ?_⟩
    refine for_range (lo := 0) (n := ((fs.length : Nat) : Int).toNat) (fun j σ H4 => ∃ (v8 : Option V), σ = [some (V.ref pp), some (.ref tp), some (.ref wl), some (.ref sl), some (.int (a : Nat)), some (.int (i : Nat)), some (.ref fl), some (.int ((a + lT t : Nat) : Nat)), v8] ∧ Same H3 H4) ⟨v8, rfl, Same.refl _⟩ ?_ ?_
    · rintro j σ H4 hj ⟨v8', rfl, s4⟩
      have hj' : j < qs.length := by rw [hql]; omega
      have hqj : qs[j]? = some qs[j] := List.getElem?_eq_getElem hj'
      generalize qs[j] = qj at hqj
      obtain ⟨b, mm, hmm, hb1, hb2, hb3⟩ := hpm.get hqj
      obtain ⟨vf, hvf1, pf, v1, v2, rfl, hpf, hr1, hr2⟩ := hfs.get' hqj
      have s4' := s3'.trans s4
      rw [show (0 : Int) + ((j : Nat) : Int) = ((j : Nat) : Int) by omega]
      have hpg4 := hpg.same s4'
      have hpg4' := hpg4
      obtain ⟨dx4, vt4, wl4, st4, us4, xs4, pi4⟩ := hpg4
      have s34 := s3.trans s4
      refine ⟨_, rfl, pp, dx4, _, rfl, pi4.ob, by kernel_rfl, _, rfl, _, rfl, pp, pg, z, ts, ks, i, j, _, (b, stW b (wM mm)), qj.1, rfl, hpg4', hstT, hb1, hb2, fun v5 H5 s5 hv5 => ?_⟩
      have s5' := s4'.trans s5
      have s35 := s34.trans s5
      obtain ⟨c3, c4⟩ := rc_shape qj.1
      refine ⟨_, rfl, _, rfl, fl, _, _, _, rfl, rfl, SqL.of (s35 _ _ hfl), atI_nat hvf1, pf, _, _, _, rfl, rfl, SqT.of (s35 _ _ hpf), atI_0, ne_same (dp_rc hv5) (dp_rc (hr1.on (same_tups s35))) c3 (by omega) ⟨_, rfl, iteF ?_⟩⟩
      have hpg6 := hpg.same s5'
      have hpg6' := hpg6
      obtain ⟨dx6, vt6, wl6, st6, us6, xs6, pi6⟩ := hpg6
      have hstl : (stN b (wM mm)).length ≤ 100000 := by
        have h1 := stN_len (wM mm) b
        have h2 := wM_len mm ((hok t hmem).ms mm hmm) (Nat.le_trans (nMs_mem hmm) (Nat.le_trans (nTs_mem hmem) hnt))
        omega
      refine ⟨_, rfl, pp, dx6, _, rfl, pi6.ob, by kernel_rfl, _, rfl, _, rfl, pp, pg, z, ts, ks, i, j, _, b, stN b (wM mm), qj.2, rfl, hpg6', hstT, by rw [← stW_N]; exact hb1, hstl, hb3, fun v7 H7 s7 hv7 => ?_⟩
      have s37 := s35.trans s7
      obtain ⟨c5, c6⟩ := rcs_shape qj.2
      refine ⟨_, rfl, _, rfl, fl, _, _, _, rfl, rfl, SqL.of (s37 _ _ hfl), atI_nat hvf1, pf, _, _, _, rfl, rfl, SqT.of (s37 _ _ hpf), atI_nat (j := 1) rfl, ne_same (dp_rcs hv7) (dp_rcs (hr2.on (same_tups s37))) c5 c6 ⟨_, rfl, iteF ?_⟩⟩
      exact ⟨_, rfl, (s4.trans s5).trans s7⟩
    · rintro σ H4 ⟨v8', rfl, s4⟩
      refine ⟨_, rfl, some (.int (i : Nat)), some (.ref fl), some (.int ((a + lT t : Nat) : Nat)), v8', ?_, s3'.trans s4⟩
      have et : ts.take (i + 1) = ts.take i ++ [t] := by rw [List.take_add_one, ht]; rfl
      rw [et, lTs_snoc, ← ha]
      rfl
  · rintro σ H1 ⟨v5, v6, v7, v8, rfl, s1⟩
    exact kq H1 s1
end
end My
set_option Elab.async false
set_option linter.all false
set_option maxRecDepth 100000
set_option maxHeartbeats 4000000
namespace My
open PySem L2 SS
theorem layM (m : Me) (h : okM m) : LayAll (wM m) := .cons (layw_tk "method" (by simp)) (.cons (layw_free h.fr) ((lay_plain h.ps).app (.cons (layw_tk ":" (by simp)) ((laySs m.ss h.ss).app (.cons (layw_tk "end" (by simp)) .nil)))))
theorem layMs : ∀ ms : List Me, (∀ m ∈ ms, okM m) → LayAll (wMs ms)
  | [], _ => .nil
  | m :: r, h => (layM m (h m List.mem_cons_self)).app (layMs r fun x hx => h x (List.mem_cons_of_mem _ hx))
theorem layFd : ∀ fs : List T, (∀ w ∈ fs, isFree w = true) → LayAll (wFd fs)
  | [], _ => .nil
  | f :: r, h => .cons (layw_tk "field" (by simp)) (.cons (layw_free (h f List.mem_cons_self)) (layFd r fun x hx => h x (List.mem_cons_of_mem _ hx)))
theorem layT (t : Tr) (h : okTr t) : LayAll (wT t) := by
  cases t with
  | kind n p fs ms => exact .cons (layw_tk "kind" (by simp)) (.cons (layw_kind h.hd.1) (.cons (layw_tk "under" (by simp)) (.cons (layw_kind h.hd.2.1) ((layFd fs h.hd.2.2.2).app ((layMs ms h.ms).app (.cons (layw_tk "end" (by simp)) .nil))))))
  | more n ms => exact .cons (layw_tk "more" (by simp)) (.cons (layw_kind h.hd) ((layMs ms h.ms).app (.cons (layw_tk "end" (by simp)) .nil)))
theorem layTs : ∀ ts : List Tr, (∀ t ∈ ts, okTr t) → LayAll (wTs ts)
  | [], _ => .nil
  | t :: r, h => (layT t (h t List.mem_cons_self)).app (layTs r fun x hx => h x (List.mem_cons_of_mem _ hx))
theorem wtl_wt (ws : List WB) : wtl (ws.map (·.1)) = wt ws := by
  unfold wtl wt
  rw [List.map_map]
  rfl
theorem tkl2 : (tk "method").length = 6 ∧ (tk ":").length = 1 ∧ (tk "end").length = 3 ∧ (tk "kind").length = 4 ∧ (tk "under").length = 5 ∧ (tk "field").length = 5 ∧ (tk "more").length = 4 := by decide +kernel
theorem wtM (m : Me) (h : okM m) : wt (wM m) ≤ 79 + 44 * nSs m.ss := by
  have h1 := free_len h.fr
  have h2 := plainW_wt m.ps h.ps
  have h3 := (wSs_b m.ss h.ss).2
  have h4 := h.pl
  have := tkl2
  unfold wM
  simp only [wt_cons, wt_app, wt_nil]
  omega
theorem wtMs : ∀ ms : List Me, (∀ m ∈ ms, okM m) → wt (wMs ms) ≤ 79 * ms.length + 44 * nMs ms
  | [], _ => Nat.le_refl _
  | m :: r, h => by
    have e : nMs (m :: r) = nSs m.ss + nMs r := by unfold nMs; rw [List.map_cons, List.sum_cons]
    have h1 := wtM m (h m List.mem_cons_self)
    have h2 := wtMs r fun x hx => h x (List.mem_cons_of_mem _ hx)
    show wt (wM m ++ wMs r) ≤ _
    rw [wt_app, List.length_cons]
    omega
theorem wtFd : ∀ fs : List T, (∀ w ∈ fs, isFree w = true) → wt (wFd fs) ≤ 23 * fs.length
  | [], _ => Nat.le_refl _
  | f :: r, h => by
    have h1 := free_len (h f List.mem_cons_self)
    have h2 := wtFd r fun x hx => h x (List.mem_cons_of_mem _ hx)
    have := tkl2
    show wt ((tk "field", false) :: (f, false) :: wFd r) ≤ _
    rw [wt_cons, wt_cons, List.length_cons]
    show (tk "field").length + 3 + (f.length + 3 + wt (wFd r)) ≤ _
    omega
theorem wtT (t : Tr) (h : okTr t) : wt (wT t) ≤ 280 + 44 * nMs t.ms := by
  have := tkl2
  cases t with
  | kind n p fs ms =>
    have h1 := kind_len h.hd.1
    have h2 := kind_len h.hd.2.1
    have h3 := wtFd fs h.hd.2.2.2
    have h4 := h.hd.2.2.1
    have h5 := wtMs ms h.ms
    have h6 : ms.length ≤ 2 := h.ml
    unfold wT
    simp only [wt_cons, wt_app, wt_nil]
    show _ ≤ 280 + 44 * nMs ms
    omega
  | more n ms =>
    have h1 := kind_len h.hd
    have h5 := wtMs ms h.ms
    have h6 : ms.length ≤ 2 := h.ml
    unfold wT
    simp only [wt_cons, wt_app, wt_nil]
    show _ ≤ 280 + 44 * nMs ms
    omega
theorem wtTs : ∀ ts : List Tr, (∀ t ∈ ts, okTr t) → wt (wTs ts) ≤ 280 * ts.length + 44 * nTs ts
  | [], _ => Nat.le_refl _
  | t :: r, h => by
    have e : nTs (t :: r) = nMs t.ms + nTs r := by unfold nTs; rw [List.map_cons, List.sum_cons]
    have h1 := wtT t (h t List.mem_cons_self)
    have h2 := wtTs r fun x hx => h x (List.mem_cons_of_mem _ hx)
    show wt (wT t ++ wTs r) ≤ _
    rw [wt_app, List.length_cons]
    omega
theorem wt_len : ∀ ws : List WB, 3 * ws.length ≤ wt ws
  | [] => Nat.le_refl _
  | q :: r => by
    have := wt_len r
    rw [wt_cons, List.length_cons]
    omega
/-! ### trees as data -/
abbrev dS_ (s : String) : PyData := .str (Str.ofString s)
def dW (ws : List T) : PyData := .tuple (ws.map fun w => .str (mk w))
mutual
def dE : Ex → PyData
  | .num n => .tuple [dS_ "number", .int n]
  | .txt s => .tuple [dS_ "text", .str (mk s)]
  | .tru b => .tuple [dS_ "truth", .bool b]
  | .non => .tuple [dS_ "none"]
  | .slf => .tuple [dS_ "self"]
  | .nam w => .tuple [dS_ "name", .str (mk w)]
  | .fld w => .tuple [dS_ "field", .str (mk w)]
  | .new w => .tuple [dS_ "new", .str (mk w)]
  | .send r m es => .tuple [dS_ "send", dE r, .str (mk m), .tuple (dEs es)]
  | .up m es => .tuple [dS_ "up", .str (mk m), .tuple (dEs es)]
  | .lst es => .tuple [dS_ "list", .tuple (dEs es)]
  | .blk ps ss => .tuple [dS_ "block", dW ps, .tuple (dSs ss)]
def dEs : Exs → List PyData
  | .nil => []
  | .cons e r => dE e :: dEs r
def dS : St_ → PyData
  | .set w e => .tuple [dS_ "set", .str (mk w), dE e]
  | .sfl w e => .tuple [dS_ "setfield", .str (mk w), dE e]
  | .pl k e => .tuple [.str (mk k), dE e]
  | .iff e a b => .tuple [dS_ "if", dE e, .tuple (dSs a), .tuple (dSs b)]
  | .whl e a => .tuple [dS_ "while", dE e, .tuple (dSs a)]
  | .tri a w b => .tuple [dS_ "try", .tuple (dSs a), .str (mk w), .tuple (dSs b)]
def dSs : Sts → List PyData
  | .nil => []
  | .cons s r => dS s :: dSs r
end
section
variable {K : PySem.W.Frag} {H : Hp}
theorem dp_w {ws : List T} {v : V} (h : AtW H ws v) : Dp K H v (dW ws) := by
  obtain ⟨p, rfl, h⟩ := h
  refine .tup (SqT.of h) ?_
  clear h
  induction ws with
  | nil => exact .nil
  | cons w r ih => exact .cons (.str _) ih
mutual
theorem dpE : ∀ (e : Ex) (v : V), AtE H e v → Dp K H v (dE e)
  | .num n, v, ⟨p, e, h⟩ => e ▸ .tup (SqT.of h) (.cons (.str _) (.cons (.int _) .nil))
  | .txt s, v, ⟨p, e, h⟩ => e ▸ .tup (SqT.of h) (.cons (.str _) (.cons (.str _) .nil))
  | .tru b, v, ⟨p, e, h⟩ => e ▸ .tup (SqT.of h) (.cons (.str _) (.cons (.bl _) .nil))
  | .non, v, ⟨p, e, h⟩ => e ▸ .tup (SqT.of h) (.cons (.str _) .nil)
  | .slf, v, ⟨p, e, h⟩ => e ▸ .tup (SqT.of h) (.cons (.str _) .nil)
  | .nam w, v, ⟨p, e, h⟩ => e ▸ .tup (SqT.of h) (.cons (.str _) (.cons (.str _) .nil))
  | .fld w, v, ⟨p, e, h⟩ => e ▸ .tup (SqT.of h) (.cons (.str _) (.cons (.str _) .nil))
  | .new w, v, ⟨p, e, h⟩ => e ▸ .tup (SqT.of h) (.cons (.str _) (.cons (.str _) .nil))
  | .send r m es, v, ⟨p, vr, q, xs, e, h1, h2, h3, h4⟩ => e ▸ .tup (SqT.of h1) (.cons (.str _) (.cons (dpE r vr h3) (.cons (.str _) (.cons (.tup (SqT.of h2) (dpEs es xs h4)) .nil))))
  | .up m es, v, ⟨p, q, xs, e, h1, h2, h4⟩ => e ▸ .tup (SqT.of h1) (.cons (.str _) (.cons (.str _) (.cons (.tup (SqT.of h2) (dpEs es xs h4)) .nil)))
  | .lst es, v, ⟨p, q, xs, e, h1, h2, h4⟩ => e ▸ .tup (SqT.of h1) (.cons (.str _) (.cons (.tup (SqT.of h2) (dpEs es xs h4)) .nil))
  | .blk ps ss, v, ⟨p, vw, q, xs, e, h1, h2, h3, h4⟩ => e ▸ .tup (SqT.of h1) (.cons (.str _) (.cons (dp_w h3) (.cons (.tup (SqT.of h2) (dpSs ss xs h4)) .nil)))
theorem dpEs : ∀ (e : Exs) (v : List V), AtEs H e v → DpAll K H v (dEs e)
  | .nil, xs, h => (show xs = [] from h) ▸ .nil
  | .cons e r, xs, ⟨v, vs, h1, h2, h3⟩ => h1 ▸ .cons (dpE e v h2) (dpEs r vs h3)
theorem dpS : ∀ (s : St_) (v : V), AtS H s v → Dp K H v (dS s)
  | .set w e, v, ⟨p, ve, h1, h2, h3⟩ => h1 ▸ .tup (SqT.of h2) (.cons (.str _) (.cons (.str _) (.cons (dpE e ve h3) .nil)))
  | .sfl w e, v, ⟨p, ve, h1, h2, h3⟩ => h1 ▸ .tup (SqT.of h2) (.cons (.str _) (.cons (.str _) (.cons (dpE e ve h3) .nil)))
  | .pl k e, v, ⟨p, ve, h1, h2, h3⟩ => h1 ▸ .tup (SqT.of h2) (.cons (.str _) (.cons (dpE e ve h3) .nil))
  | .iff e a b, v, ⟨p, ve, q, xs, r, ys, h1, h2, h3, h4, h5, h6, h7⟩ => h1 ▸ .tup (SqT.of h2) (.cons (.str _) (.cons (dpE e ve h5) (.cons (.tup (SqT.of h3) (dpSs a xs h6)) (.cons (.tup (SqT.of h4) (dpSs b ys h7)) .nil))))
  | .whl e a, v, ⟨p, ve, q, xs, h1, h2, h3, h5, h6⟩ => h1 ▸ .tup (SqT.of h2) (.cons (.str _) (.cons (dpE e ve h5) (.cons (.tup (SqT.of h3) (dpSs a xs h6)) .nil)))
  | .tri a w b, v, ⟨p, q, xs, r, ys, h1, h2, h3, h4, h6, h7⟩ => h1 ▸ .tup (SqT.of h2) (.cons (.str _) (.cons (.tup (SqT.of h3) (dpSs a xs h6)) (.cons (.str _) (.cons (.tup (SqT.of h4) (dpSs b ys h7)) .nil))))
theorem dpSs : ∀ (e : Sts) (v : List V), AtSs H e v → DpAll K H v (dSs e)
  | .nil, xs, h => (show xs = [] from h) ▸ .nil
  | .cons e r, xs, ⟨v, vs, h1, h2, h3⟩ => h1 ▸ .cons (dpS e v h2) (dpSs r vs h3)
end
def dM (m : Me) : PyData := .tuple [dS_ "method", .str (mk m.m), dW m.ps, .tuple (dSs m.ss)]
theorem dpM {m : Me} {v : V} (h : AtM H m v) : Dp K H v (dM m) := by
  obtain ⟨p, vw, q, xs, rfl, h1, h2, h3, h4⟩ := h
  exact .tup (SqT.of h1) (.cons (.str _) (.cons (.str _) (.cons (dp_w h2) (.cons (.tup (SqT.of h3) (dpSs m.ss xs h4)) .nil))))
def dTr : Tr → PyData
  | .kind n p fs ms => .tuple [dS_ "kind", .str (mk n), .str (mk p), dW fs, .tuple (ms.map dM)]
  | .more n ms => .tuple [dS_ "more", .str (mk n), .tuple (ms.map dM)]
theorem dpT {t : Tr} {v : V} (h : AtTr H t v) : Dp K H v (dTr t) := by
  cases t with
  | kind n q fs ms =>
    obtain ⟨p, vw, r, xs, rfl, h1, h2, h3, h4⟩ := h
    exact .tup (SqT.of h1) (.cons (.str _) (.cons (.str _) (.cons (.str _) (.cons (dp_w h2) (.cons (.tup (SqT.of h3) (dp_all (fun _ _ h => dpM h) h4)) .nil)))))
  | more n ms =>
    obtain ⟨p, r, xs, rfl, h1, h3, h4⟩ := h
    exact .tup (SqT.of h1) (.cons (.str _) (.cons (.str _) (.cons (.tup (SqT.of h3) (dp_all (fun _ _ h => dpM h) h4)) .nil)))
theorem dpTT {ts : List Tr} {v : V} (h : AtTT H ts v) : Dp K H v (.tuple (ts.map dTr)) := by
  obtain ⟨p, vs, rfl, h1, h2⟩ := h
  exact .tup (SqT.of h1) (dp_all (fun _ _ h => dpT h) h2)
end
theorem str_of {w : T} (h : ∀ c ∈ w, c < 1000) : PyData.strOk (mk w) = true := by
  unfold PyData.strOk
  show (w.toArray).all _ = true
  rw [List.all_toArray]
  exact List.all_eq_true.mpr fun c hc => decide_eq_true (by have := h c hc; omega)
theorem sg_lt {c : Nat} (h : Sg c) : c < 1000 := by unfold Sg at h; omega
theorem str_free {w : T} (h : isFree w = true) : PyData.strOk (mk w) = true := str_of fun c hc => sg_lt ((small_facts (free_small h)).2.2.1 c hc)
theorem str_kind {w : T} (h : isKindName w = true) : PyData.strOk (mk w) = true := str_of fun c hc => sg_lt ((kind_facts h).2.2.1 c hc)
theorem str_text {w : T} (h : isText w = true) : PyData.strOk (mk w) = true := str_of fun c hc => sg_lt ((text_facts h).2 c hc)
theorem str_msg {w : T} (h : isMsg w = true) : PyData.strOk (mk w) = true := by
  unfold isMsg at h
  rcases Bool.or_eq_true_iff.mp h with h | h
  · exact str_free h
  · unfold inS at h
    obtain ⟨z, hz, e⟩ := List.any_eq_true.mp h
    rw [← eq_of_beq e]
    clear e h
    revert z
    decide +kernel
theorem str_pl {w : T} (h : isPl w = true) : PyData.strOk (mk w) = true := by
  rcases pl_cases_ h with h | h | h | h <;> (rw [h, mk_tl]; decide +kernel)
/-- a tuple is fit where all in it is -/
theorem ft {ds : List PyData} {n : Nat} (h : ∀ d ∈ ds, d.canLay0 = true ∧ d.depth ≤ n) : (PyData.tuple ds).canLay0 = true ∧ (PyData.tuple ds).depth ≤ n + 1 := by
  have := lay_all (f := id) (n := n) ds h
  rw [List.map_id] at this
  refine ⟨?_, ?_⟩
  · rw [PyData.canLay0]; exact this.1
  · rw [PyData.depth]; have := this.2; omega
abbrev Fit (d : PyData) (n : Nat) : Prop := d.canLay0 = true ∧ d.depth ≤ n
theorem Fit.up {d : PyData} {n m : Nat} (h : Fit d n) (e : n ≤ m) : Fit d m := ⟨h.1, Nat.le_trans h.2 e⟩
theorem fit_s {z : Str} {n : Nat} (h : PyData.strOk z = true) : Fit (.str z) n := ⟨by rw [PyData.canLay0]; exact h, by rw [PyData.depth]; exact Nat.zero_le _⟩
theorem fit_i {i : Int} {n : Nat} : Fit (.int i) n := ⟨by rw [PyData.canLay0], by rw [PyData.depth]; exact Nat.zero_le _⟩
theorem fit_b {b : Bool} {n : Nat} : Fit (.bool b) n := ⟨by rw [PyData.canLay0], by rw [PyData.depth]; exact Nat.zero_le _⟩
theorem fit_w {ws : List T} {n : Nat} (h : ∀ w ∈ ws, isFree w = true) (hn : 1 ≤ n) : Fit (dW ws) n := Fit.up (n := 1) (ft (n := 0) fun d hd => by
  obtain ⟨w, hw, rfl⟩ := List.mem_map.mp hd
  exact fit_s (str_free (h w hw))) hn
theorem fl {d : PyData} {ds : List PyData} {n : Nat} (h : Fit d n) (g : ∀ x ∈ ds, Fit x n) : ∀ x ∈ d :: ds, Fit x n := fun x hx => by
  rcases List.mem_cons.mp hx with rfl | hx
  · exact h
  · exact g x hx
theorem f0 {n : Nat} : ∀ x ∈ ([] : List PyData), Fit x n := fun x hx => by simp at hx
theorem fk (s : String) {n : Nat} (h : PyData.strOk (Str.ofString s) = true) : Fit (dS_ s) n := fit_s h
mutual
theorem fE : ∀ e : Ex, okE e → Fit (dE e) (3 * oE e + 1)
  | .num n, h => ft (fl (fk "number" (by decide +kernel)) (fl fit_i f0))
  | .txt s, h => ft (fl (fk "text" (by decide +kernel)) (fl (fit_s (str_text h)) f0))
  | .tru b, h => ft (fl (fk "truth" (by decide +kernel)) (fl fit_b f0))
  | .non, h => ft (fl (fk "none" (by decide +kernel)) f0)
  | .slf, h => ft (fl (fk "self" (by decide +kernel)) f0)
  | .nam w, h => ft (fl (fk "name" (by decide +kernel)) (fl (fit_s (str_free h)) f0))
  | .fld w, h => ft (fl (fk "field" (by decide +kernel)) (fl (fit_s (str_free h)) f0))
  | .new w, h => ft (fl (fk "new" (by decide +kernel)) (fl (fit_s (str_kind h)) f0))
  | .send r m es, h => by
    have ho : oE (.send r m es) = 1 + max (oE r) (oEs es) := rfl
    have h1 := fE r h.2.1
    have h2 := ft (fEs es h.2.2)
    exact (ft (n := 3 * oE (.send r m es)) (fl (fk "send" (by decide +kernel)) (fl (h1.up (by omega)) (fl (fit_s (str_msg h.1)) (fl (Fit.up h2 (by omega)) f0)))))
  | .up m es, h => by
    have ho : oE (.up m es) = 1 + oEs es := rfl
    have h2 := ft (fEs es h.2)
    exact (ft (n := 3 * oE (.up m es)) (fl (fk "up" (by decide +kernel)) (fl (fit_s (str_free h.1)) (fl (Fit.up h2 (by omega)) f0))))
  | .lst es, h => by
    have ho : oE (.lst es) = 1 + oEs es := rfl
    have h2 := ft (fEs es h)
    exact (ft (n := 3 * oE (.lst es)) (fl (fk "list" (by decide +kernel)) (fl (Fit.up h2 (by omega)) f0)))
  | .blk ps ss, h => by
    have ho : oE (.blk ps ss) = 1 + oSs ss := rfl
    have h2 := ft (fSs ss h.2.2)
    exact (ft (n := 3 * oE (.blk ps ss)) (fl (fk "block" (by decide +kernel)) (fl (fit_w h.2.1 (by omega)) (fl (Fit.up h2 (by omega)) f0))))
theorem fEs : ∀ e : Exs, okEs e → ∀ d ∈ dEs e, Fit d (3 * oEs e + 1)
  | .nil, _ => f0
  | .cons e r, h => by
    have ho : oEs (.cons e r) = max (oE e) (oEs r) := rfl
    exact fl ((fE e h.1).up (by omega)) fun d hd => (fEs r h.2 d hd).up (by omega)
theorem fS : ∀ s : St_, okS s → Fit (dS s) (3 * oS s + 2)
  | .set w e, h => by
    have ho : oS (.set w e) = oE e := rfl
    exact (ft (n := 3 * oE e + 1) (fl (fk "set" (by decide +kernel)) (fl (fit_s (str_free h.1)) (fl (fE e h.2) f0))))
  | .sfl w e, h => by
    have ho : oS (.sfl w e) = oE e := rfl
    exact (ft (n := 3 * oE e + 1) (fl (fk "setfield" (by decide +kernel)) (fl (fit_s (str_free h.1)) (fl (fE e h.2) f0))))
  | .pl k e, h => by
    have ho : oS (.pl k e) = oE e := rfl
    exact (ft (n := 3 * oE e + 1) (fl (fit_s (str_pl h.1)) (fl (fE e h.2) f0)))
  | .iff e a b, h => by
    have ho : oS (.iff e a b) = 1 + max (oE e) (max (oSs a) (oSs b)) := rfl
    have h1 := fE e h.1
    have h2 := ft (fSs a h.2.1)
    have h3 := ft (fSs b h.2.2)
    exact (ft (n := 3 * oS (.iff e a b) + 1) (fl (fk "if" (by decide +kernel)) (fl (h1.up (by omega)) (fl (Fit.up h2 (by omega)) (fl (Fit.up h3 (by omega)) f0)))))
  | .whl e a, h => by
    have ho : oS (.whl e a) = 1 + max (oE e) (oSs a) := rfl
    have h1 := fE e h.1
    have h2 := ft (fSs a h.2)
    exact (ft (n := 3 * oS (.whl e a) + 1) (fl (fk "while" (by decide +kernel)) (fl (h1.up (by omega)) (fl (Fit.up h2 (by omega)) f0))))
  | .tri a w b, h => by
    have ho : oS (.tri a w b) = 1 + max (oSs a) (oSs b) := rfl
    have h2 := ft (fSs a h.2.1)
    have h3 := ft (fSs b h.2.2)
    exact (ft (n := 3 * oS (.tri a w b) + 1) (fl (fk "try" (by decide +kernel)) (fl (Fit.up h2 (by omega)) (fl (fit_s (str_free h.1)) (fl (Fit.up h3 (by omega)) f0)))))
theorem fSs : ∀ e : Sts, okSs e → ∀ d ∈ dSs e, Fit d (3 * oSs e + 2)
  | .nil, _ => f0
  | .cons e r, h => by
    have ho : oSs (.cons e r) = max (oS e) (oSs r) := rfl
    exact fl ((fS e h.1).up (by omega)) fun d hd => (fSs r h.2 d hd).up (by omega)
end
theorem fM (m : Me) (h : okM m) : Fit (dM m) 40 := by
  have h1 := ft (fSs m.ss h.ss)
  have h2 := h.o
  exact (ft (n := 39) (fl (fk "method" (by decide +kernel)) (fl (fit_s (str_free h.fr)) (fl (fit_w h.ps (by decide)) (fl (Fit.up h1 (by omega)) f0)))))
theorem fMs {ms : List Me} (h : ∀ m ∈ ms, okM m) : Fit (.tuple (ms.map dM)) 41 := ft fun d hd => by
  obtain ⟨m, hm, rfl⟩ := List.mem_map.mp hd
  exact fM m (h m hm)
theorem fT (t : Tr) (h : okTr t) : Fit (dTr t) 42 := by
  cases t with
  | kind n p fs ms => exact ft (fl (fk "kind" (by decide +kernel)) (fl (fit_s (str_kind h.hd.1)) (fl (fit_s (str_kind h.hd.2.1)) (fl (fit_w h.hd.2.2.2 (by decide)) (fl (fMs h.ms) f0)))))
  | more n ms => exact ft (fl (fk "more" (by decide +kernel)) (fl (fit_s (str_kind h.hd)) (fl (fMs h.ms) f0)))
theorem fTT {ts : List Tr} (h : ∀ t ∈ ts, okTr t) : Fit (.tuple (ts.map dTr)) 43 := ft fun d hd => by
  obtain ⟨t, ht, rfl⟩ := List.mem_map.mp hd
  exact fT t (h t ht)
end My
set_option Elab.async false
set_option linter.all false
set_option maxRecDepth 100000
set_option maxHeartbeats 4000000
namespace My
open PySem L2 SS
/-! ### a laid text as data; a page of it -/
theorem flush_mem {cur : T} {k : Nat} {c : Nat} (h : c ∈ cur) : ∃ q ∈ flush cur k, c ∈ q.1 := by
  unfold flush
  rw [if_neg (fun e => by rw [e] at h; simp at h)]
  exact ⟨_, List.mem_singleton.mpr rfl, h⟩
theorem rw_chars : ∀ (l cur : T) (k c : Nat), c ∈ cur ++ l → c = 32 ∨ ∃ q ∈ rw_ cur k l, c ∈ q.1
  | [], cur, k, c, h => by
    rw [List.append_nil] at h
    exact .inr (flush_mem h)
  | x :: r, cur, k, c, h => by
    rw [rw_]
    by_cases hs : isSep x = true
    · rw [if_pos hs]
      rcases List.mem_append.mp h with h | h
      · obtain ⟨q, h1, h2⟩ := flush_mem (k := k) h
        exact .inr ⟨q, List.mem_append_left _ (List.mem_append_left _ h1), h2⟩
      · rcases List.mem_cons.mp h with rfl | h
        · by_cases c32 : c = 32
          · exact .inl c32
          · refine .inr ⟨([c], k), List.mem_append_left _ (List.mem_append_right _ ?_), by simp⟩
            rw [if_neg c32]
            simp
        · rcases rw_chars r [] (k + 1) c (by simpa using h) with h | ⟨q, h1, h2⟩
          · exact .inl h
          · exact .inr ⟨q, List.mem_append_right _ h1, h2⟩
    · rw [if_neg hs]
      exact rw_chars r (cur ++ [x]) (k + 1) c (by simpa using h)
theorem inS_lt {zs : List Str} (hz : (zs.all fun z => (tl z).all fun c => decide (c < 1000)) = true) {w : T} (h : inS zs w = true) : ∀ c ∈ w, c < 1000 := by
  unfold inS at h
  obtain ⟨z, h1, e⟩ := List.any_eq_true.mp h
  have e2 : w = tl z := by rw [eq_of_beq e]
  intro c hc
  rw [e2] at hc
  exact of_decide_eq_true (List.all_eq_true.mp (List.all_eq_true.mp hz z h1) c hc)
theorem numw_lt {w : T} (h : isNum w = true) : ∀ c ∈ w, c < 1000 := by
  unfold isNum at h
  simp only [Bool.and_eq_true] at h
  have h2 := h.2.1
  intro c hc
  by_cases c45 : c = 45
  · omega
  · have hf : c ∈ figsOf w := by
      unfold figsOf
      split
      · rcases List.mem_cons.mp hc with h | h
        · exact absurd h c45
        · exact h
      · exact hc
    unfold hasOnly at h2
    have := mem_figs.mp (of_decide_eq_true (List.all_eq_true.mp h2 c hf))
    omega
theorem drop1_lt {w : T} {a : Nat} (h0 : w.head? = some a) (ha : a < 1000) (h : ∀ c ∈ w.drop 1, c < 1000) : ∀ c ∈ w, c < 1000 := by
  cases w with
  | nil => cases h0
  | cons x r =>
    have e : x = a := by simpa using h0
    intro c hc
    rcases List.mem_cons.mp hc with q | q
    · omega
    · exact h c q
theorem word_lt {w : T} (h : isWord w = true) : ∀ c ∈ w, c < 1000 := by
  unfold isWord at h
  split at h
  · rename_i q
    rcases q with q | q
    · exact inS_lt (by decide +kernel) q
    · exact inS_lt (by decide +kernel) q
  · split at h
    · rename_i q
      exact drop1_lt q (by decide) fun c hc => sg_lt ((small_facts h).2.2.1 c hc)
    · split at h
      · rename_i q
        exact drop1_lt q (by decide) fun c hc => sg_lt ((text_facts h).2 c hc)
      · rcases Bool.or_eq_true_iff.mp h with h | h
        · exact fun c hc => sg_lt ((small_facts h).2.2.1 c hc)
        · rcases Bool.or_eq_true_iff.mp h with h | h
          · exact fun c hc => sg_lt ((kind_facts h).2.2.1 c hc)
          · exact numw_lt h
theorem mem_joinL {c : Nat} : ∀ {ls : List T}, c ∈ TL.joinL [10] ls → c = 10 ∨ ∃ l ∈ ls, c ∈ l
  | [], h => by exact absurd h (by simp [TL.joinL])
  | [l], h => .inr ⟨l, by simp, by simpa [TL.joinL] using h⟩
  | l :: m :: r, h => by
    rw [joinL_cons _ _ _ (by simp)] at h
    rcases List.mem_append.mp h with h | h
    · exact .inr ⟨l, by simp, h⟩
    · rcases List.mem_append.mp h with h | h
      · exact .inl (by simpa using h)
      · rcases mem_joinL h with h | ⟨x, h1, h2⟩
        · exact .inl h
        · exact .inr ⟨x, List.mem_cons_of_mem _ h1, h2⟩
theorem allW_mem : ∀ {ls : List T} {l : T} (r : Nat), l ∈ ls → ∀ q ∈ rowWords l, ∃ k ∈ allW r ls, k.1 = q.1
  | x :: xs, l, r, h, q, hq => by
    rw [allW]
    rcases List.mem_cons.mp h with rfl | h
    · exact ⟨(q.1, r, q.2), List.mem_append_left _ (List.mem_map.mpr ⟨q, hq, rfl⟩), rfl⟩
    · obtain ⟨k, h1, h2⟩ := allW_mem (r + 1) h q hq
      exact ⟨k, List.mem_append_right _ h1, h2⟩
theorem LaidOk.str {z : Str} {rs : List Str} {ks : List W} {n : Nat} (h : LaidOk z rs ks n) : PyData.strOk z = true := by
  have e : z = My.mk (tl z) := (mk_tl z).symm
  rw [e]
  refine str_of fun c hc => ?_
  rw [h.hz] at hc
  rcases mem_joinL hc with hc | ⟨l, h1, h2⟩
  · omega
  · rcases rw_chars l [] 1 c (by simpa using h2) with h3 | ⟨q, h3, h4⟩
    · omega
    · obtain ⟨k, h5, h6⟩ := allW_mem 1 h1 q h3
      rw [h.wd] at h5
      exact word_lt (h.ok k h5) c (by rw [h6]; exact h4)
theorem mat_of {ks : List W} {ws : List WB} (h : ks.map (·.1) = ws.map (·.1)) : Mat (wdl ks) 0 ws := fun j q hq => by
  have e := congrArg (fun l => l[j]?) h
  simp only [List.getElem?_map, hq, Option.map_some] at e
  rw [Nat.zero_add]
  exact e
theorem passN {X : Cx} : Passes (L2.CX X.prog X.w) X E0 := fun pins σ H s e s' I c => by
  obtain ⟨a, B, H', cls, d, rfl, fl, hok, ub, na, os, ag, hE⟩ := c
  exact hE.elim
theorem mk_page {CF CP : Addr} {z : Str} {rs : List Str} {ks : List W} {n : Nat} {ts : List Tr} {pg : Str} {H0 H : Hp} {pp dx : Addr} {Q : VK} {E : XK} (hl : LaidOk z rs ks n) (hn : n ≤ 300) (hks : ks.map (·.1) = (wTs ts).map (·.1)) (hok : ∀ t ∈ ts, okTr t) (hpg : pg.length ≤ 1000) (s0 : Same H0 H) (hp0 : H0 pp = none) (hpp : H pp = some (.ins CP dx []))
    (k : ∀ H', Same H0 H' → PageAt CP H' pp pg z ts ks → Q .non H') : nPg CF CP [.ref pp, .str pg, .str z] H Q E := by
  have hsc := hl.scan hn
  have e1 : (SS.scan isWord (rs.map tl)).1 = ks := by rw [hsc]
  have e2 : (SS.scan isWord (rs.map tl)).2 = none := by rw [hsc]
  have hlen : ks.length = lTs ts := by
    have := congrArg List.length hks
    rw [List.length_map, List.length_map] at this
    exact this
  refine ⟨H0, pp, dx, pg, z, rs, .ok ts, rfl, s0, hp0, hpp, hpg, hl.fits (by omega), hl.ne, hl.sc, ?_, fun ts' e => ⟨fun p hp => (by rw [e2] at hp; cases hp), fun _ H' s hp => ?_⟩, fun i d e => by cases e⟩
  · rw [e1]
    have := RP_of (g := wdl ks) (n := ks.length) ts [] 0 (mat_of hks) hok (by omega)
    rw [List.nil_append] at this
    exact this
  · have e' : ts = ts' := by injection e
    rw [e1, ← e'] at hp
    exact k H' s hp
end My
set_option Elab.async false
set_option linter.all false
set_option maxRecDepth 100000
set_option maxHeartbeats 8000000
namespace My
open PySem L2 SS
abbrev sLaw : Stmt := top 63
theorem LW.sb {p : Addr} {xs : List V} {H H' : Hp} {a : Addr} {ws : List WB} (h : LW H a ws) (s : SB p H H') (hp : H p = some (.lst xs)) (n : a ≠ p) : LW H' a ws := by
  obtain ⟨us, e, t⟩ := h
  exact ⟨us, s _ _ n e, t.on (s.tups hp)⟩
theorem wTs_take (ts : List Tr) {i : Nat} {t : Tr} (h : ts[i]? = some t) : wTs (ts.take (i + 1)) = wTs (ts.take i) ++ wT t := by
  rw [List.take_add_one, h]
  exact wTs_snoc _ t
theorem wTs_take_le (ts : List Tr) {i : Nat} {t : Tr} (h : ts[i]? = some t) : (wTs (ts.take i)).length + (wT t).length ≤ (wTs ts).length := by
  rw [wTs_split ts h, List.length_append, List.length_append]
  omega
/-- the page's own == and str -/
structure TxQ (K : PySem.W.Frag) (CP fE fS : Addr) : Prop where
  eq : PySem.W.findIn K (.ref CP) "__eq__" = some (some (.ref fE))
  eqf : PySem.W.isFn K (.ref fE) = true
  st : PySem.W.findIn K (.ref CP) "__str__" = some (some (.ref fS))
  stf : PySem.W.isFn K (.ref fS) = true
  nf : PySem.W.notFirst K CP (.type "str") = true
theorem nl_ne (z : Str) : decide (z = z ++ Str.ofString "\n") = false := decide_eq_false fun e => by
  have h := congrArg (fun y : Str => (tl y).length) e
  have h2 : (tl (z ++ Str.ofString "\n")).length = (tl z).length + 1 := by
    rw [tl_add_, List.length_append]
    rfl
  simp only [h2] at h
  omega
section
variable {P : Program} {w : World} {K : PySem.W.Frag} {mg : Str → Option Value} {base : Heap} {CP CF fI fE fS : Addr} {fdI fdE fdS : FuncData}
def spLaw (K : PySem.W.Frag) : Sp := fun vs H Q _ => ∃ (a : Addr) (ns : List Int), vs = [.ref a] ∧ SqL K H a (ns.map V.int) ∧ ns.length ≤ 63 ∧ ∀ H', Q (.bl true) H'
theorem scLaw : FnScope ["_law_script", "_law_deck_here", "_law_trees_here", "_law_words", "_law_tree", "_law_text", "_law_spots", "_law_name_here", "_law_page", "_law_word_here", "_law_starts"] ["_law_script"] (defScope sLaw) := ⟨rfl, rfl, rfl, by decide +kernel, rfl, by decide +kernel, by decide +kernel⟩
theorem ok_law {f : Addr} {fd : FuncData} (F : Fun K "law" "law" sLaw f fd) (TS : TxS K mg) (T0 : TxL mg) (TP : TxP K mg CP) (TQ : TxQ K CP fE fS) (gI : mg "isinstance" = none) (gP : mg "Page" = some (.ref CP))
    (GD : C0 P w K mg base 1 "_law_deck" (spDeck K)) (GN : C0 P w K mg base 1 "_law_next" spNext) (GTr : C0 P w K mg base 89 "_law_trees" spGT) (GW : C0 P w K mg base 89 "_law_tree_words" spWTr) (GL : C0 P w K mg base 2 "_law_laid" spLaid) (GR : C0 P w K mg base 89 "_law_right" (spRt CP))
    (MK : Mk K CP fI) (FI : FnOk P w K mg base (L2.CX P w) 88 fI fdI ["self", "name", "text"] (nPg CF CP)) (bI : Binds K fdI ["self", "name", "text"] []) (FE : FnOk P w K mg base CX0 1 fE fdE ["self", "other"] (nEq CP)) (bE : Binds K fdE ["self", "other"] []) (FS : FnOk P w K mg base CX0 1 fS fdS ["self"] (nStr CP)) (bS : Binds K fdS ["self"] []) :
    FnOk P w K mg base CX0 90 f fd ["_law_script"] (spLaw K) := by
  refine F.ok scLaw (fun vs H Q E h => ?_) (fun cdv A outer s H vs Q E hr h => ?_)
  · obtain ⟨a, ns, rfl, _⟩ := h
    rfl
  obtain ⟨a, ns, rfl, hS, hns, k⟩ := h
  refine ⟨_, pss_cons (ps_set (i := 1) scLaw.nd rfl (Or.inl rfl) (pe_cc GD hr (by decide) pass0 (pa_cons (pv 0) pa_nil))) <|
    pss_cons (ps_set (i := 2) scLaw.nd rfl (Or.inl rfl) (pe_cc GTr hr (by decide) pass0 (pa_cons (pv 1) (pa_cons (pe_op op_add pe_int (pe_op op_mod (pe_cc GN hr (by decide) pass0 (pa_cons (pv 1) pa_nil)) pe_int)) pa_nil)))) <|
    pss_cons (ps_set (i := 3) scLaw.nd rfl (Or.inl rfl) (pe_lst pa_nil)) <|
    pss_cons (ps_for PassesOwn.never rfl (pi_tup (pv 2)) (pg_name (i := 4) scLaw.nd rfl (Or.inl rfl)) (pss_one (ps_set (i := 3) scLaw.nd rfl (Or.inl rfl) (pe_op op_cat (pv 3) (pe_cc GW hr (by decide) pass0 (pa_cons (pv 4) pa_nil)))))) <|
    pss_cons (ps_asg (pe_cc GL hr (by decide) pass0 (pa_cons (pe_lc (own := [("_law_word_here", 9), ("_law_starts", 10)]) (g := gTup K 2 (gCons (gName 9) (gCons (gName 10) gNil))) (tt := tYes) rfl scLaw.nd (pi_list (pv 3))
        (blkOk_by (own := [("_law_word_here", 9), ("_law_starts", 10)]) (N := ["_law_script", "_law_deck_here", "_law_trees_here", "_law_words", "_law_tree", "_law_text", "_law_spots", "_law_name_here", "_law_page", "_law_word_here", "_law_starts"]) (sc := defScope sLaw) (by decide +kernel))
        (fun _ _ _ _ _ => pg_tup (by rfl) (pgs_cons (pg_name (i := 9) scLaw.nd rfl (Or.inl rfl)) (pgs_cons (pg_name (i := 10) scLaw.nd rfl (Or.inl rfl)) pgs_nil))) (fun _ _ _ _ _ => pts_nil)
        (fun _ _ _ _ _ => pv 9)) (pa_cons (pv 1) pa_nil))) (pg_tup (by rfl) (pgs_cons (pg_name (i := 5) scLaw.nd rfl (Or.inl rfl)) (pgs_cons (pg_name (i := 6) scLaw.nd rfl (Or.inl rfl)) pgs_nil)))) <|
    pss_cons (ps_set (i := 7) scLaw.nd rfl (Or.inl rfl) (pe_ix ix_list (pe_lst (pa_cons pe_str (pa_cons pe_str (pa_cons pe_str pa_nil)))) (pe_op op_mod (pe_cc GN hr (by decide) pass0 (pa_cons (pv 1) pa_nil)) pe_int) (fun _ _ => rfl))) <|
    pss_cons (ps_set (i := 8) scLaw.nd rfl (Or.inl rfl) (pe_make MK FI (hr.mono (by decide)) rfl gP bI .nil passN (pa_cons (pv 7) (pa_cons (pv 5) pa_nil)))) <|
    pss_cons (ps_if (PW.pt (pw_or (pt_not (pt_val (pe_callB call_isi (by rfl) gI (by decide +kernel) (pa_cons (pe_fld (pv 8) rfl) (pa_cons (pe_bltn (v := .ty "tuple") (by rfl) TS.tup (by decide +kernel) rfl) pa_nil))))) (pw_or1 (pt_cmpR (op_neD hr.units) (pe_fld (pv 8) rfl) (pv 2) (nomark _))))) (pss_one (ps_ret pe_bl)) pss_nil) <|
    pss_cons (ps_if (pt_cmpR (op_neD hr.units) (pe_tup (pa_cons (pe_fld (pv 8) rfl) (pa_cons (pe_fld (pv 8) rfl) (pa_cons (pe_callTy (call_strOwn FS TQ.st TQ.stf bS pass0 (hr.mono (by decide))) (by rfl) TS.str (by decide +kernel) (pa_cons (pv 8) pa_nil)) pa_nil)))) (pe_tup (pa_cons (pv 7) (pa_cons (pv 5) (pa_cons (pv 5) pa_nil)))) (nomark _)) (pss_one (ps_ret pe_bl)) pss_nil) <|
    pss_cons (ps_if (PW.pt (pw_or (pt_not (pt_cmpR (op_eqOwn FE TQ.eq TQ.eqf bE pass0 (hr.mono (by decide))) (pv 8) (pe_make MK FI (hr.mono (by decide)) rfl gP bI .nil passN (pa_cons (pv 7) (pa_cons (pv 5) pa_nil))) (nomark _)))
      (pw_or (pt_cmpR (op_eqOwn FE TQ.eq TQ.eqf bE pass0 (hr.mono (by decide))) (pv 8) (pe_make MK FI (hr.mono (by decide)) rfl gP bI .nil passN (pa_cons (pv 7) (pa_cons (pe_op op_add_str (pv 5) pe_str) pa_nil))) (nomark _))
      (pw_or (pt_cmpR (op_eqOwn FE TQ.eq TQ.eqf bE pass0 (hr.mono (by decide))) (pv 8) (pe_make MK FI (hr.mono (by decide)) rfl gP bI .nil passN (pa_cons pe_str (pa_cons (pv 5) pa_nil))) (nomark _))
      (pw_or1 (pt_cmpR (op_eqOwn FE TQ.eq TQ.eqf bE pass0 (hr.mono (by decide))) (pv 8) (pv 5) (nomark _))))))) (pss_one (ps_ret pe_bl)) pss_nil) <|
    pss_one (ps_ret (pe_cc GR hr (by decide) pass0 (pa_cons (pv 8) (pa_cons (pv 2) (pa_cons (pv 3) (pa_cons (pv 6) pa_nil)))))), ?_⟩
  refine ⟨_, rfl, a, ns, rfl, hS, hns, fun H1 p l xs _ _ _ d0 => ?_⟩
  refine ⟨_, rfl, _, rfl, p, l, 0, 70, xs, rfl, d0, by omega, fun n1 h1 d1 => ?_⟩
  generalize upd H1 p _ = H2 at d1 ⊢
  obtain ⟨c1, ec1, hc1⟩ := emod_nat n1 (n := 12) (by decide)
  refine ⟨_, _, rfl, rfl, (by show (0 : Int) < 12; decide), _, _, rfl, rfl, p, l, 1, xs, _, c1 + 1, rfl, ?_, by omega, d1, by decide, fun ts q ys a' b' H3 s3 d3 ha3 hq hts hok htl hnt => ?_⟩
  · have e1 : n1 % 12 = ((c1 : Nat) : Int) := ec1
    show 1 + n1 % 12 = _
    omega
  have hwt : wt (wTs ts) ≤ 12000 := by
    have := wtTs ts hok
    omega
  have hwl : (wTs ts).length ≤ 4000 := by
    have := wt_len (wTs ts)
    omega
  refine ⟨Nat.zero_le _, fun w0 hw0 => ?_⟩
  have s4 := same_new hw0 (.lst [])
  have g4 : LW (upd H3 w0 (.lst [])) w0 (wTs []) := ⟨[], upd_same, .nil⟩
  have n4 := (d3.ne hw0).1
  have d4 := d3.same s4
  generalize upd H3 w0 (.lst []) = H4 at s4 g4 d4 ⊢
  refine ⟨_, rfl, q, rfl, ⟨_, SqT.of (s4 _ _ hq)⟩, ?_⟩
  refine for_tup (xs := ys) (fun i σ H5 => ∃ (wl : Addr) (v4 : Option V), σ = [some (.ref a), some (.ref p), some (.ref q), some (.ref wl), v4, none, none, none, none, none, none] ∧ Same H4 H5 ∧ LW H5 wl (wTs (ts.take i)) ∧ wl ≠ p) ⟨w0, none, rfl, Same.refl _, g4, n4⟩ (fun i σ H5 _ ⟨wl, v4, _, s5, _⟩ => SqT.of (s5 _ _ (s4 _ _ hq))) ?_ ?_
  · rintro i u σ H5 hu ⟨wl, v4, rfl, s5, w5, nwl⟩
    obtain ⟨t, ht1, ht2⟩ := hts.get hu
    have hmem := List.mem_of_getElem? ht1
    have okt := hok t hmem
    refine ⟨_, rfl, _, rfl, t, u, rfl, ht2.on (same_tups (s4.trans s5)), okt, Nat.le_trans (nTs_mem hmem) (by omega), fun H6 a6 s6 w6 => ?_⟩
    obtain ⟨us, vs, h1, h2, l1, l2, c⟩ := (w5.on s6).cat w6
    have h5 := wTs_take_le ts ht1
    have d6 := (d4.same s5).same s6
    refine ⟨_, _, us, vs, rfl, rfl, h1, h2, by rw [l1, l2, sizeLine_eq]; omega, fun L7 hL7 => ?_⟩
    refine ⟨L7, _, rfl, (s5.trans s6).trans (same_new hL7 _), ?_, (d6.ne hL7).1⟩
    rw [wTs_take ts ht1]
    exact c L7 hL7
  rintro σ H5 ⟨wl, v4, rfl, s5, w5, nwl⟩
  rw [hts.len, List.take_length] at w5
  have d5 := d4.same s5
  have hq5 := s5 _ _ (s4 _ _ hq)
  have hts5 : AtTs H5 ts ys := hts.on_ (same_tups (s4.trans s5))
  have w5' := w5
  obtain ⟨us, hus, hall⟩ := w5'
  have hul := hall.length
  refine ⟨_, rfl, wl, rfl, ⟨_, SqL.of hus⟩, fun D0 hD0 => ?_⟩
  refine lc_list (K := K) (a := wl) (xs := us) (fun i H6 => Same H5 H6 ∧ H6 D0 = some (.lst (wsV (((wTs ts).take i).map (·.1))))) ⟨same_new hD0 _, upd_same⟩ (fun i H6 _ h => SqL.of (h.1 _ _ hus)) ?_ ?_
  · rintro i u H6 hu ⟨s6, h6⟩
    obtain ⟨y, hy1, py, rfl, hpy⟩ := (hall.on (same_tups s6)).get hu
    refine ⟨py, _, rfl, SqT.of hpy, rfl, _, _, rfl, _, _, rfl, rfl, rfl, ?_⟩
    unfold tYes
    refine iteT ?_
    refine ⟨_, rfl, _, h6, ?_, ?_, ?_⟩
    · unfold wsV
      rw [List.length_map, List.length_map, List.length_take, sizeLine_eq]
      omega
    · intro b u h
      rw [upd_ne (ne_of_none h hD0)]
      exact s6 _ _ h
    · rw [upd_same, List.take_add_one, hy1]
      unfold wsV
      simp only [List.map_append, Option.toList, List.map_cons, List.map_nil]
  rintro H6 ⟨s6, h6⟩
  rw [hul, List.take_length] at h6
  have d6 := d5.same s6
  have hwn : ((wTs ts).map (·.1)).length = (wTs ts).length := List.length_map _
  refine ⟨_, rfl, D0, p, l, a', b', xs, (wTs ts).map (·.1), rfl, h6, fun y hy => ?_, by rw [wtl_wt]; exact hwt, d6, by rw [hwn]; omega, fun z rs ks q2 sl us2 H7 s7 d7 hq2 hsl at7 hl hkw => ?_⟩
  · obtain ⟨y0, hy0, rfl⟩ := List.mem_map.mp hy
    exact layTs ts hok y0 hy0
  have hw7 : LW H7 wl (wTs ts) := (w5.on s6).sb s7 d6.1 nwl
  have t57 : Tups H5 H7 := (same_tups s6).trans (s7.tups d6.1)
  have hq7 : H7 q = some (.tup ys) := t57 _ _ hq5
  have hts7 : AtTs H7 ts ys := hts5.on_ t57
  refine ⟨q2, _, rfl, SqT.of hq2, rfl, _, _, rfl, _, _, rfl, rfl, ?_⟩
  refine ⟨by decide, fun L hL => ?_⟩
  have sL := same_new hL (.lst [V.str (Str.ofString "main"), V.str (Str.ofString "a"), V.str (Str.ofString "pagepagepage")])
  have fL : upd H7 L (.lst [V.str (Str.ofString "main"), V.str (Str.ofString "a"), V.str (Str.ofString "pagepagepage")]) L = some (.lst [V.str (Str.ofString "main"), V.str (Str.ofString "a"), V.str (Str.ofString "pagepagepage")]) := upd_same
  have hLn := d7.ne hL
  have d8 := d7.same sL
  have nsl : sl ≠ p := fun e => by
    rw [e, d7.1] at hsl
    injection hsl with e1
    injection e1 with e2
    rw [← e2] at at7
    have hk0 := at7.len
    cases ks with
    | nil => cases at7
    | cons k0 r =>
      obtain ⟨v0, r0, e3, ⟨p0, e4, _⟩, _⟩ := at7
      rw [e4] at e3
      cases e3
  generalize upd H7 L _ = H8 at sL fL d8 ⊢
  have dl : a' + ((wTs ts).map (·.1)).length + 1 ≤ 10000 := by rw [hwn]; omega
  refine ⟨_, rfl, p, l, _, b', xs, rfl, d8, dl, fun dr hdr d9 => ?_⟩
  have s9 : SB p H8 (upd H8 p (.lst [.int ((a' + ((wTs ts).map (·.1)).length + 1 + 1 : Nat) : Int), .ref l, .int b'])) := SB.upd _
  have t9 : Tups H8 (upd H8 p (.lst [.int ((a' + ((wTs ts).map (·.1)).length + 1 + 1 : Nat) : Int), .ref l, .int b'])) := tups_lst d8.1
  generalize upd H8 p (.lst [.int ((a' + ((wTs ts).map (·.1)).length + 1 + 1 : Nat) : Int), .ref l, .int b']) = H9 at d9 s9 t9 ⊢
  obtain ⟨pg, hpg, hpg1, hpg2, hpg3⟩ := pick (n := 3) (xs := [V.str (Str.ofString "main"), V.str (Str.ofString "a"), V.str (Str.ofString "pagepagepage")]) (f := fun z => V.str z) (Pz := fun z : Str => z.length ≤ 1000 ∧ PyData.strOk z = true ∧ decide (z = Str.ofString "other") = false) rfl (by decide) (fun v hv => by
    simp only [List.mem_cons, List.not_mem_nil, or_false] at hv
    rcases hv with rfl | rfl | rfl
    · exact ⟨_, rfl, by decide +kernel, by decide +kernel, by decide +kernel⟩
    · exact ⟨_, rfl, by decide +kernel, by decide +kernel, by decide +kernel⟩
    · exact ⟨_, rfl, by decide +kernel, by decide +kernel, by decide +kernel⟩) dr
  refine ⟨_, _, rfl, rfl, (by show (0 : Int) < 3; decide), L, _, _, _, rfl, rfl, SqL.of (s9 _ _ hLn.1 fL), hpg, ?_⟩
  have s79 : SB p H7 H9 := (SB.same sL).trans s9
  have hw9 : LW H9 wl (wTs ts) := hw7.sb s79 d7.1 nwl
  have t79 : Tups H7 H9 := s79.tups d7.1
  have hq9 := t79 _ _ hq7
  have hts9 := hts7.on_ t79
  have hsl9 := s79 _ _ nsl hsl
  have at9 : AtL AtRC H9 ks us2 := AtL.on t79 (fun _ _ h => h.on t79) at7
  have hfit := hl.fits (by decide)
  have hzl := hfit.2.1
  -- the page
  refine ⟨_, rfl, _, rfl, fun pp dx hpp hdx hpd => ?_⟩
  refine mk_page (H0 := H9) hl (by decide) hkw hok hpg1 ((same_new hdx _).trans (same_new (by rw [upd_ne hpd.symm]; exact hpp) _)) hpp upd_same fun H10 s10 pA => ⟨rfl, ?_⟩
  have pA' := pA
  obtain ⟨dxA, vtA, wlA, stA, usA, xsA, pi⟩ := pA'
  obtain ⟨pt, vst, rfl, ht1, ht2⟩ := pi.tr
  refine ⟨_, rfl, pp, CP, dxA, _, _, rfl, pi.ob, TP.cl, TP.f3, pf_trees, .ref pt, .ty "tuple", _, _, true, rfl, .ty "tuple", .base (.tup ht1), kit_ty (by decide +kernel), _, rfl, ?_⟩
  refine iteF ?_
  have fT := fTT hok
  refine ⟨_, rfl, pp, CP, dxA, _, _, rfl, pi.ob, TP.cl, TP.f3, pf_trees, _, rfl, ne_same (dpTT pi.tr) (dpTT (ts := ts) ⟨q, ys, rfl, s10 _ _ hq9, hts9.on_ (same_tups s10)⟩) fT.1 (by have := fT.2; omega) ⟨_, rfl, iteF ?_⟩⟩
  refine ⟨_, rfl, pp, CP, dxA, _, _, rfl, pi.ob, TP.cl, TP.f1, pf_name, _, rfl, pp, CP, dxA, _, _, rfl, pi.ob, TP.cl, TP.f2, pf_text, _, rfl, pp, dxA, _, rfl, pi.ob, pp, pg, z, ts, ks, rfl, pA, z, rfl, by show 3 ≤ sizeLine; decide, fun t1 ht1' => ?_⟩
  have s11 := s10.trans (same_new ht1' (.tup [.str pg, .str z, .str z]))
  have f11 : upd H10 t1 (.tup [.str pg, .str z, .str z]) t1 = some (.tup [.str pg, .str z, .str z]) := upd_same
  have pB := pA.same (same_new ht1' (.tup [.str pg, .str z, .str z]))
  generalize upd H10 t1 (.tup [.str pg, .str z, .str z]) = H11 at s11 f11 pB ⊢
  refine ⟨_, rfl, _, rfl, _, rfl, by show 3 ≤ sizeLine; decide, fun t2 ht2' => ?_⟩
  have s12 := s11.trans (same_new ht2' (.tup [.str pg, .str z, .str z]))
  have f12 : upd H11 t2 (.tup [.str pg, .str z, .str z]) t2 = some (.tup [.str pg, .str z, .str z]) := upd_same
  have f12' := same_new ht2' (.tup [.str pg, .str z, .str z]) _ _ f11
  have pC := pB.same (same_new ht2' (.tup [.str pg, .str z, .str z]))
  generalize upd H11 t2 (.tup [.str pg, .str z, .str z]) = H12 at s12 f12 f12' pC ⊢
  have f3s := ft (n := 0) (fl (fit_s hpg2) (fl (fit_s hl.str) (fl (fit_s hl.str) f0)))
  refine ne_same (d := .tuple [.str pg, .str z, .str z]) (.tup (SqT.of f12') (.cons (.str _) (.cons (.str _) (.cons (.str _) .nil)))) (.tup (SqT.of f12) (.cons (.str _) (.cons (.str _) (.cons (.str _) .nil)))) f3s.1 (by have := f3s.2; omega) ⟨_, rfl, iteF ?_⟩
  -- the same page again
  refine ⟨_, rfl, _, rfl, _, rfl, fun p2 d2 hp2 hd2 hpd2 => ?_⟩
  refine mk_page (H0 := H12) hl (by decide) hkw hok hpg1 ((same_new hd2 _).trans (same_new (by rw [upd_ne hpd2.symm]; exact hp2) _)) hp2 upd_same fun H13 s13 pD => ⟨rfl, ?_⟩
  have pE := pC.same s13
  have pE' := pE
  have pD' := pD
  obtain ⟨dxE, _, _, _, _, _, piE⟩ := pE'
  obtain ⟨dxD, _, _, _, _, _, piD⟩ := pD'
  refine ⟨pp, dxE, _, rfl, piE.ob, .inl ⟨p2, dxD, _, rfl, piD.ob⟩, .inl ⟨pp, p2, pg, z, pg, z, ts, ts, ks, ks, rfl, pE, pD, ?_⟩⟩
  rw [decide_eq_true rfl, decide_eq_true rfl]
  refine ⟨true, rfl, true, rfl, iteF ?_⟩
  -- with one row more
  refine ⟨_, rfl, _, rfl, _, rfl, _, _, rfl, rfl, by show z.length + 1 ≤ sizeLine; rw [sizeLine_eq]; omega, fun p3 d3' hp3 hd3 hpd3 => ?_⟩
  refine mk_page (H0 := H13) hl.nl (by decide) hkw hok hpg1 ((same_new hd3 _).trans (same_new (by rw [upd_ne hpd3.symm]; exact hp3) _)) hp3 upd_same fun H14 s14 pF => ⟨rfl, ?_⟩
  have pG := pE.same s14
  have pG' := pG
  have pF' := pF
  obtain ⟨dxG, _, _, _, _, _, piG⟩ := pG'
  obtain ⟨dxF, _, _, _, _, _, piF⟩ := pF'
  refine ⟨pp, dxG, _, rfl, piG.ob, .inl ⟨p3, dxF, _, rfl, piF.ob⟩, .inl ⟨pp, p3, pg, z, pg, _, ts, ts, ks, ks, rfl, pG, pF, ?_⟩⟩
  rw [nl_ne, Bool.and_false]
  refine ⟨false, rfl, false, rfl, iteF ?_⟩
  -- of another name
  refine ⟨_, rfl, _, rfl, fun p4 d4' hp4 hd4 hpd4 => ?_⟩
  refine mk_page (H0 := H14) hl (by decide) hkw hok (by decide +kernel) ((same_new hd4 _).trans (same_new (by rw [upd_ne hpd4.symm]; exact hp4) _)) hp4 upd_same fun H15 s15 pH => ⟨rfl, ?_⟩
  have pI := pG.same s15
  have pI' := pI
  have pH' := pH
  obtain ⟨dxI, _, _, _, _, _, piI⟩ := pI'
  obtain ⟨dxH, _, _, _, _, _, piH⟩ := pH'
  refine ⟨pp, dxI, _, rfl, piI.ob, .inl ⟨p4, dxH, _, rfl, piH.ob⟩, .inl ⟨pp, p4, pg, z, _, z, ts, ts, ks, ks, rfl, pI, pH, ?_⟩⟩
  rw [hpg3, Bool.false_and]
  refine ⟨false, rfl, false, rfl, iteF ?_⟩
  -- a text
  refine ⟨_, rfl, _, rfl, pp, dxI, _, rfl, piI.ob, .inr ⟨z, rfl, TQ.nf⟩, .inr ⟨pp, pg, z, z, ts, ks, rfl, pI, false, rfl, false, rfl, iteF ?_⟩⟩
  have s9E : Same H9 H15 := ((s12.trans s13).trans s14).trans s15
  have hkl : ks.length = (wTs ts).length := by
    have := congrArg List.length hkw
    rw [List.length_map, List.length_map] at this
    exact this
  exact ⟨_, rfl, _, rfl, _, rfl, _, rfl, pp, q, wl, sl, pg, z, ts, ks, ys, us2, rfl, pI, s9E _ _ hq9, hts9.on_ (same_tups s9E), hok, htl, by omega, hw9.on s9E, s9E _ _ hsl9, AtL.on (same_tups s9E) (fun _ _ h => h.on (same_tups s9E)) at9, hkl, by omega, fun H' _ => k H'⟩
end
end My
set_option Elab.async false
set_option linter.all false
set_option maxRecDepth 100000
set_option maxHeartbeats 8000000
namespace My
open PySem L2 SS
theorem vals_strs : ∀ (zs : List Str) (us : List Value), us.map (fun u => match u with | .str z _ => some z | _ => none) = zs.map some → Vals (zs.map V.str) us
  | [], [], _ => .nil
  | [], u :: us, h => by simp at h
  | z :: zs, [], h => by simp at h
  | z :: zs, u :: us, h => by
    rw [List.map_cons, List.map_cons] at h
    injection h with h1 h2
    refine .cons ?_ (vals_strs zs us h2)
    cases u with
    | str y t =>
      obtain rfl := Option.some.inj h1
      exact ⟨t, rfl⟩
    | _ => cases h1
theorem exm_self {K : PySem.W.Frag} {S : Addr} (h1 : PySem.W.subIn K (.ref S) (.type "BaseException") = some true) (h2 : PySem.W.isClsIn K S = true) (h3 : PySem.W.typeIn K (.ref S) = some (.type "type")) (h4 : PySem.W.subIn K (.ref S) (.ref S) = some true) :
    PySem.W.exmOne K (.ref S) (.ref S) = some true := by
  have e1 : (PySem.W.subIn K (.ref S) (.type "BaseException") == some true) = true := by rw [h1] <;> rfl
  have e2 : ((PySem.W.clsIn K S).isSome && PySem.W.typeIn K (.ref S) == some (.type "type")) = true := by
    have h2' : (PySem.W.clsIn K S).isSome = true := h2
    rw [h2', h3] <;> rfl
  show (if (PySem.W.subIn K (.ref S) (.type "BaseException") == some true) = true then (if ((PySem.W.clsIn K S).isSome && PySem.W.typeIn K (.ref S) == some (.type "type")) = true then PySem.W.subIn K (.ref S) (.ref S) else none) else none) = some true
  rw [if_pos e1, if_pos e2]
  exact h4
/-- two defs of two names stand at two places -/
def nameAt : Option Obj → Str
  | some ⟨_, _, .func fd, _⟩ => fd.name
  | _ => ""
theorem two_places {o1 o2 : Option Obj} (h : nameAt o1 ≠ nameAt o2) : o1 ≠ o2 := fun e => h (by rw [e])
theorem all_mk {l : PySem.W.OpenLaw} {w : World} {K : PySem.W.Frag} {h : Heap} {mg : Str → Option Value} {fa : Addr} (X : K.In h) (G : h.Ns mainGlobals mg) (hfa : mg "law" = some (.ref fa))
    {f0 : Addr} {oc0 kV0 dc0 pm0 cd0 ct0 : Value} {od0 an0 : Option Addr} {sl0 : Array (Option Value)}
    {f1 : Addr} {oc1 kV1 dc1 pm1 cd1 ct1 : Value} {od1 an1 : Option Addr} {sl1 : Array (Option Value)}
    {f2 : Addr} {oc2 kV2 dc2 pm2 cd2 ct2 : Value} {od2 an2 : Option Addr} {sl2 : Array (Option Value)}
    {f3 : Addr} {oc3 kV3 dc3 pm3 cd3 ct3 : Value} {od3 an3 : Option Addr} {sl3 : Array (Option Value)}
    {f4 : Addr} {oc4 kV4 dc4 pm4 cd4 ct4 : Value} {od4 an4 : Option Addr} {sl4 : Array (Option Value)}
    {f5 : Addr} {oc5 kV5 dc5 pm5 cd5 ct5 : Value} {od5 an5 : Option Addr} {sl5 : Array (Option Value)}
    {f6 : Addr} {oc6 kV6 dc6 pm6 cd6 ct6 : Value} {od6 an6 : Option Addr} {sl6 : Array (Option Value)}
    {f7 : Addr} {oc7 kV7 dc7 pm7 cd7 ct7 : Value} {od7 an7 : Option Addr} {sl7 : Array (Option Value)}
    {f8 : Addr} {oc8 kV8 dc8 pm8 cd8 ct8 : Value} {od8 an8 : Option Addr} {sl8 : Array (Option Value)}
    {f9 : Addr} {oc9 kV9 dc9 pm9 cd9 ct9 : Value} {od9 an9 : Option Addr} {sl9 : Array (Option Value)}
    {f10 : Addr} {oc10 kV10 dc10 pm10 cd10 ct10 : Value} {od10 an10 : Option Addr} {sl10 : Array (Option Value)}
    {f11 : Addr} {oc11 kV11 dc11 pm11 cd11 ct11 : Value} {od11 an11 : Option Addr} {sl11 : Array (Option Value)}
    {f12 : Addr} {oc12 kV12 dc12 pm12 cd12 ct12 : Value} {od12 an12 : Option Addr} {sl12 : Array (Option Value)}
    {f13 : Addr} {oc13 kV13 dc13 pm13 cd13 ct13 : Value} {od13 an13 : Option Addr} {sl13 : Array (Option Value)}
    {f14 : Addr} {oc14 kV14 dc14 pm14 cd14 ct14 : Value} {od14 an14 : Option Addr} {sl14 : Array (Option Value)}
    {f15 : Addr} {oc15 kV15 dc15 pm15 cd15 ct15 : Value} {od15 an15 : Option Addr} {sl15 : Array (Option Value)}
    {f16 : Addr} {oc16 kV16 dc16 pm16 cd16 ct16 : Value} {od16 an16 : Option Addr} {sl16 : Array (Option Value)}
    {f17 : Addr} {oc17 kV17 dc17 pm17 cd17 ct17 : Value} {od17 an17 : Option Addr} {sl17 : Array (Option Value)}
    {f18 : Addr} {oc18 kV18 dc18 pm18 cd18 ct18 : Value} {od18 an18 : Option Addr} {sl18 : Array (Option Value)}
    {f19 : Addr} {oc19 kV19 dc19 pm19 cd19 ct19 : Value} {od19 an19 : Option Addr} {sl19 : Array (Option Value)}
    {f20 : Addr} {oc20 kV20 dc20 pm20 cd20 ct20 : Value} {od20 an20 : Option Addr} {sl20 : Array (Option Value)}
    {f21 : Addr} {oc21 kV21 dc21 pm21 cd21 ct21 : Value} {od21 an21 : Option Addr} {sl21 : Array (Option Value)}
    {f22 : Addr} {oc22 kV22 dc22 pm22 cd22 ct22 : Value} {od22 an22 : Option Addr} {sl22 : Array (Option Value)}
    {f23 : Addr} {oc23 kV23 dc23 pm23 cd23 ct23 : Value} {od23 an23 : Option Addr} {sl23 : Array (Option Value)}
    {f24 : Addr} {oc24 kV24 dc24 pm24 cd24 ct24 : Value} {od24 an24 : Option Addr} {sl24 : Array (Option Value)}
    {f25 : Addr} {oc25 kV25 dc25 pm25 cd25 ct25 : Value} {od25 an25 : Option Addr} {sl25 : Array (Option Value)}
    {f26 : Addr} {oc26 kV26 dc26 pm26 cd26 ct26 : Value} {od26 an26 : Option Addr} {sl26 : Array (Option Value)}
    {f27 : Addr} {oc27 kV27 dc27 pm27 cd27 ct27 : Value} {od27 an27 : Option Addr} {sl27 : Array (Option Value)}
    {f28 : Addr} {oc28 kV28 dc28 pm28 cd28 ct28 : Value} {od28 an28 : Option Addr} {sl28 : Array (Option Value)}
    {f29 : Addr} {oc29 kV29 dc29 pm29 cd29 ct29 : Value} {od29 an29 : Option Addr} {sl29 : Array (Option Value)}
    {f30 : Addr} {oc30 kV30 dc30 pm30 cd30 ct30 : Value} {od30 an30 : Option Addr} {sl30 : Array (Option Value)}
    {f31 : Addr} {oc31 kV31 dc31 pm31 cd31 ct31 : Value} {od31 an31 : Option Addr} {sl31 : Array (Option Value)}
    {f32 : Addr} {oc32 kV32 dc32 pm32 cd32 ct32 : Value} {od32 an32 : Option Addr} {sl32 : Array (Option Value)}
    {f33 : Addr} {oc33 kV33 dc33 pm33 cd33 ct33 : Value} {od33 an33 : Option Addr} {sl33 : Array (Option Value)}
    {f34 : Addr} {oc34 kV34 dc34 pm34 cd34 ct34 : Value} {od34 an34 : Option Addr} {sl34 : Array (Option Value)}
    {f35 : Addr} {oc35 kV35 dc35 pm35 cd35 ct35 : Value} {od35 an35 : Option Addr} {sl35 : Array (Option Value)}
    {f36 : Addr} {oc36 kV36 dc36 pm36 cd36 ct36 : Value} {od36 an36 : Option Addr} {sl36 : Array (Option Value)}
    {f37 : Addr} {oc37 kV37 dc37 pm37 cd37 ct37 : Value} {od37 an37 : Option Addr} {sl37 : Array (Option Value)}
    {R CP S CF : Addr}
    {g0 : Addr} {goc0 gkV0 gdc0 gpm0 gcd0 gct0 : Value} {god0 gan0 : Option Addr} {gsl0 : Array (Option Value)}
    {g1 : Addr} {goc1 gkV1 gdc1 gpm1 gcd1 gct1 : Value} {god1 gan1 : Option Addr} {gsl1 : Array (Option Value)}
    {g2 : Addr} {goc2 gkV2 gdc2 gpm2 gcd2 gct2 : Value} {god2 gan2 : Option Addr} {gsl2 : Array (Option Value)}
    {g3 : Addr} {goc3 gkV3 gdc3 gpm3 gcd3 gct3 : Value} {god3 gan3 : Option Addr} {gsl3 : Array (Option Value)}
    {g4 : Addr} {goc4 gkV4 gdc4 gpm4 gcd4 gct4 : Value} {god4 gan4 : Option Addr} {gsl4 : Array (Option Value)}
    {g5 : Addr} {goc5 gkV5 gdc5 gpm5 gcd5 gct5 : Value} {god5 gan5 : Option Addr} {gsl5 : Array (Option Value)}
    {g6 : Addr} {goc6 gkV6 gdc6 gpm6 gcd6 gct6 : Value} {god6 gan6 : Option Addr} {gsl6 : Array (Option Value)}
    {g7 : Addr} {goc7 gkV7 gdc7 gpm7 gcd7 gct7 : Value} {god7 gan7 : Option Addr} {gsl7 : Array (Option Value)}
    {g8 : Addr} {goc8 gkV8 gdc8 gpm8 gcd8 gct8 : Value} {god8 gan8 : Option Addr} {gsl8 : Array (Option Value)}
    {g9 : Addr} {goc9 gkV9 gdc9 gpm9 gcd9 gct9 : Value} {god9 gan9 : Option Addr} {gsl9 : Array (Option Value)}
    {g10 : Addr} {goc10 gkV10 gdc10 gpm10 gcd10 gct10 : Value} {god10 gan10 : Option Addr} {gsl10 : Array (Option Value)}
    {g11 : Addr} {goc11 gkV11 gdc11 gpm11 gcd11 gct11 : Value} {god11 gan11 : Option Addr} {gsl11 : Array (Option Value)}
    {g12 : Addr} {goc12 gkV12 gdc12 gpm12 gcd12 gct12 : Value} {god12 gan12 : Option Addr} {gsl12 : Array (Option Value)}
    {g13 : Addr} {goc13 gkV13 gdc13 gpm13 gcd13 gct13 : Value} {god13 gan13 : Option Addr} {gsl13 : Array (Option Value)}
    {g14 : Addr} {goc14 gkV14 gdc14 gpm14 gcd14 gct14 : Value} {god14 gan14 : Option Addr} {gsl14 : Array (Option Value)}
    {g15 : Addr} {goc15 gkV15 gdc15 gpm15 gcd15 gct15 : Value} {god15 gan15 : Option Addr} {gsl15 : Array (Option Value)}
    {g16 : Addr} {goc16 gkV16 gdc16 gpm16 gcd16 gct16 : Value} {god16 gan16 : Option Addr} {gsl16 : Array (Option Value)}
    {g17 : Addr} {goc17 gkV17 gdc17 gpm17 gcd17 gct17 : Value} {god17 gan17 : Option Addr} {gsl17 : Array (Option Value)}
    {g18 : Addr} {goc18 gkV18 gdc18 gpm18 gcd18 gct18 : Value} {god18 gan18 : Option Addr} {gsl18 : Array (Option Value)}
    {g19 : Addr} {goc19 gkV19 gdc19 gpm19 gcd19 gct19 : Value} {god19 gan19 : Option Addr} {gsl19 : Array (Option Value)}
    {g20 : Addr} {goc20 gkV20 gdc20 gpm20 gcd20 gct20 : Value} {god20 gan20 : Option Addr} {gsl20 : Array (Option Value)}
    {g21 : Addr} {goc21 gkV21 gdc21 gpm21 gcd21 gct21 : Value} {god21 gan21 : Option Addr} {gsl21 : Array (Option Value)}
    {g22 : Addr} {goc22 gkV22 gdc22 gpm22 gcd22 gct22 : Value} {god22 gan22 : Option Addr} {gsl22 : Array (Option Value)}
    {g23 : Addr} {goc23 gkV23 gdc23 gpm23 gcd23 gct23 : Value} {god23 gan23 : Option Addr} {gsl23 : Array (Option Value)}
    {g24 : Addr} {goc24 gkV24 gdc24 gpm24 gcd24 gct24 : Value} {god24 gan24 : Option Addr} {gsl24 : Array (Option Value)}
    {g25 : Addr} {goc25 gkV25 gdc25 gpm25 gcd25 gct25 : Value} {god25 gan25 : Option Addr} {gsl25 : Array (Option Value)}
    {gq0 : Addr} {gocq0 gkVq0 gdcq0 gpmq0 gcdq0 gctq0 : Value} {godq0 ganq0 : Option Addr} {gslq0 : Array (Option Value)}
    {gq1 : Addr} {gocq1 gkVq1 gdcq1 gpmq1 gcdq1 gctq1 : Value} {godq1 ganq1 : Option Addr} {gslq1 : Array (Option Value)}
    {gq2 : Addr} {gocq2 gkVq2 gdcq2 gpmq2 gcdq2 gctq2 : Value} {godq2 ganq2 : Option Addr} {gslq2 : Array (Option Value)}
    {gq3 : Addr} {gocq3 gkVq3 gdcq3 gpmq3 gcdq3 gctq3 : Value} {godq3 ganq3 : Option Addr} {gslq3 : Array (Option Value)}
    {gq4 : Addr} {gocq4 gkVq4 gdcq4 gpmq4 gcdq4 gctq4 : Value} {godq4 ganq4 : Option Addr} {gslq4 : Array (Option Value)}
    {gq5 : Addr} {gocq5 gkVq5 gdcq5 gpmq5 gcdq5 gctq5 : Value} {godq5 ganq5 : Option Addr} {gslq5 : Array (Option Value)}
    {gq6 : Addr} {gocq6 gkVq6 gdcq6 gpmq6 gcdq6 gctq6 : Value} {godq6 ganq6 : Option Addr} {gslq6 : Array (Option Value)}
    {nm q : Str} {N : Addr} {bs bm : List Value} {sn : List Str} {sub : List Value} {ab : Bool} {col : Option Bool} {dd : Option Addr} {m0_ m1_ m2_ m3_ m5_ : Option Value}
    {fI fS T : Addr} {ioc ikV idc ipm icd ict soc skV sdc spm scd sct : Value} {iod ian sod san : Option Addr} {isl ssl : Array (Option Value)} {tO : Obj} {tI : List Value} {tn : Nat}
    {tbig : Tok}
    {trows : Tok}
    {tcols : Tok}
    {ttsig : Tok}
    {tnsig : Tok}
    {tsmall : Tok} {ssmall : Str}
    {tssig : Tok} {sssig : Str}
    {tksig : Tok} {sksig : Str}
    {tcaps : Tok} {scaps : Str}
    {tfigs : Tok} {sfigs : Str}
    {ttexts : Tok} {stexts : Str}
    {abr : Addr} {obr : Obj} {ibr : Array Value} {nbr : Nat}
    {amarks : Addr} {omarks : Obj} {imarks : Array Value} {nmarks : Nat}
    {akept : Addr} {okept : Obj} {ikept : Array Value} {nkept : Nat}
    {apls : Addr} {opls : Obj} {ipls : Array Value} {npls : Nat}
    {tmo : Tok}
    {amsg : Addr} {omsg : Obj} {imsg : Array Value} {nmsg : Nat}
    (a0 : PySem.W.nsIn K mainGlobals "scanned" = some (some (.ref f0)))
    (l0 : K.lookup f0 = some ⟨oc0, od0, .func (PySem.W.fnOf "scanned" "scanned" (defArgs sScanned) (defBody sScanned) (defScope sScanned) .none kV0 dc0 pm0 an0 cd0 ct0), sl0⟩)
    (c0 : PySem.W.codeIn K cd0 "scanned" = true)
    (k0 : PySem.W.keepIn K (.ref f0) = true)
    (a1 : PySem.W.nsIn K mainGlobals "words_of_row" = some (some (.ref f1)))
    (l1 : K.lookup f1 = some ⟨oc1, od1, .func (PySem.W.fnOf "words_of_row" "words_of_row" (defArgs sRow) (defBody sRow) (defScope sRow) .none kV1 dc1 pm1 an1 cd1 ct1), sl1⟩)
    (c1 : PySem.W.codeIn K cd1 "words_of_row" = true)
    (k1 : PySem.W.keepIn K (.ref f1) = true)
    (a2 : PySem.W.nsIn K mainGlobals "wrong_column" = some (some (.ref f2)))
    (l2 : K.lookup f2 = some ⟨oc2, od2, .func (PySem.W.fnOf "wrong_column" "wrong_column" (defArgs sWrong) (defBody sWrong) (defScope sWrong) .none kV2 dc2 pm2 an2 cd2 ct2), sl2⟩)
    (c2 : PySem.W.codeIn K cd2 "wrong_column" = true)
    (k2 : PySem.W.keepIn K (.ref f2) = true)
    (a3 : PySem.W.nsIn K mainGlobals "end_place" = some (some (.ref f3)))
    (l3 : K.lookup f3 = some ⟨oc3, od3, .func (PySem.W.fnOf "end_place" "end_place" (defArgs sEnd) (defBody sEnd) (defScope sEnd) .none kV3 dc3 pm3 an3 cd3 ct3), sl3⟩)
    (c3 : PySem.W.codeIn K cd3 "end_place" = true)
    (k3 : PySem.W.keepIn K (.ref f3) = true)
    (a4 : PySem.W.nsIn K mainGlobals "is_word" = some (some (.ref f4)))
    (l4 : K.lookup f4 = some ⟨oc4, od4, .func (PySem.W.fnOf "is_word" "is_word" (defArgs sIsWord) (defBody sIsWord) (defScope sIsWord) .none kV4 dc4 pm4 an4 cd4 ct4), sl4⟩)
    (c4 : PySem.W.codeIn K cd4 "is_word" = true)
    (k4 : PySem.W.keepIn K (.ref f4) = true)
    (a5 : PySem.W.nsIn K mainGlobals "is_small" = some (some (.ref f5)))
    (l5 : K.lookup f5 = some ⟨oc5, od5, .func (PySem.W.fnOf "is_small" "is_small" (defArgs sIsSmall) (defBody sIsSmall) (defScope sIsSmall) .none kV5 dc5 pm5 an5 cd5 ct5), sl5⟩)
    (c5 : PySem.W.codeIn K cd5 "is_small" = true)
    (k5 : PySem.W.keepIn K (.ref f5) = true)
    (a6 : PySem.W.nsIn K mainGlobals "is_free" = some (some (.ref f6)))
    (l6 : K.lookup f6 = some ⟨oc6, od6, .func (PySem.W.fnOf "is_free" "is_free" (defArgs sIsFree) (defBody sIsFree) (defScope sIsFree) .none kV6 dc6 pm6 an6 cd6 ct6), sl6⟩)
    (c6 : PySem.W.codeIn K cd6 "is_free" = true)
    (k6 : PySem.W.keepIn K (.ref f6) = true)
    (a7 : PySem.W.nsIn K mainGlobals "is_kind_name" = some (some (.ref f7)))
    (l7 : K.lookup f7 = some ⟨oc7, od7, .func (PySem.W.fnOf "is_kind_name" "is_kind_name" (defArgs sIsKind) (defBody sIsKind) (defScope sIsKind) .none kV7 dc7 pm7 an7 cd7 ct7), sl7⟩)
    (c7 : PySem.W.codeIn K cd7 "is_kind_name" = true)
    (k7 : PySem.W.keepIn K (.ref f7) = true)
    (a8 : PySem.W.nsIn K mainGlobals "is_name" = some (some (.ref f8)))
    (l8 : K.lookup f8 = some ⟨oc8, od8, .func (PySem.W.fnOf "is_name" "is_name" (defArgs sIsName) (defBody sIsName) (defScope sIsName) .none kV8 dc8 pm8 an8 cd8 ct8), sl8⟩)
    (c8 : PySem.W.codeIn K cd8 "is_name" = true)
    (k8 : PySem.W.keepIn K (.ref f8) = true)
    (a9 : PySem.W.nsIn K mainGlobals "is_text" = some (some (.ref f9)))
    (l9 : K.lookup f9 = some ⟨oc9, od9, .func (PySem.W.fnOf "is_text" "is_text" (defArgs sIsText) (defBody sIsText) (defScope sIsText) .none kV9 dc9 pm9 an9 cd9 ct9), sl9⟩)
    (c9 : PySem.W.codeIn K cd9 "is_text" = true)
    (k9 : PySem.W.keepIn K (.ref f9) = true)
    (a10 : PySem.W.nsIn K mainGlobals "is_number" = some (some (.ref f10)))
    (l10 : K.lookup f10 = some ⟨oc10, od10, .func (PySem.W.fnOf "is_number" "is_number" (defArgs sIsNum) (defBody sIsNum) (defScope sIsNum) .none kV10 dc10 pm10 an10 cd10 ct10), sl10⟩)
    (c10 : PySem.W.codeIn K cd10 "is_number" = true)
    (k10 : PySem.W.keepIn K (.ref f10) = true)
    (a11 : PySem.W.nsIn K mainGlobals "has_only" = some (some (.ref f11)))
    (l11 : K.lookup f11 = some ⟨oc11, od11, .func (PySem.W.fnOf "has_only" "has_only" (defArgs sHas) (defBody sHas) (defScope sHas) .none kV11 dc11 pm11 an11 cd11 ct11), sl11⟩)
    (c11 : PySem.W.codeIn K cd11 "has_only" = true)
    (k11 : PySem.W.keepIn K (.ref f11) = true)
    (a12 : PySem.W.nsIn K mainGlobals "reader_of" = some (some (.ref f12)))
    (l12 : K.lookup f12 = some ⟨oc12, od12, .func (PySem.W.fnOf "reader_of" "reader_of" (defArgs sRO) (defBody sRO) (defScope sRO) .none kV12 dc12 pm12 an12 cd12 ct12), sl12⟩)
    (c12 : PySem.W.codeIn K cd12 "reader_of" = true)
    (k12 : PySem.W.keepIn K (.ref f12) = true)
    (a13 : PySem.W.nsIn K mainGlobals "is_message" = some (some (.ref f13)))
    (l13 : K.lookup f13 = some ⟨oc13, od13, .func (PySem.W.fnOf "is_message" "is_message" (defArgs sMsg) (defBody sMsg) (defScope sMsg) .none kV13 dc13 pm13 an13 cd13 ct13), sl13⟩)
    (c13 : PySem.W.codeIn K cd13 "is_message" = true)
    (k13 : PySem.W.keepIn K (.ref f13) = true)
    (a14 : PySem.W.nsIn K mainGlobals "is_free_field" = some (some (.ref f14)))
    (l14 : K.lookup f14 = some ⟨oc14, od14, .func (PySem.W.fnOf "is_free_field" "is_free_field" (defArgs sFF) (defBody sFF) (defScope sFF) .none kV14 dc14 pm14 an14 cd14 ct14), sl14⟩)
    (c14 : PySem.W.codeIn K cd14 "is_free_field" = true)
    (k14 : PySem.W.keepIn K (.ref f14) = true)
    (a15 : PySem.W.nsIn K mainGlobals "leaf" = some (some (.ref f15)))
    (l15 : K.lookup f15 = some ⟨oc15, od15, .func (PySem.W.fnOf "leaf" "leaf" (defArgs sLeaf) (defBody sLeaf) (defScope sLeaf) .none kV15 dc15 pm15 an15 cd15 ct15), sl15⟩)
    (c15 : PySem.W.codeIn K cd15 "leaf" = true)
    (k15 : PySem.W.keepIn K (.ref f15) = true)
    (a16 : PySem.W.nsIn K mainGlobals "_law_deck" = some (some (.ref f16)))
    (l16 : K.lookup f16 = some ⟨oc16, od16, .func (PySem.W.fnOf "_law_deck" "_law_deck" (defArgs sDeck) (defBody sDeck) (defScope sDeck) .none kV16 dc16 pm16 an16 cd16 ct16), sl16⟩)
    (c16 : PySem.W.codeIn K cd16 "_law_deck" = true)
    (k16 : PySem.W.keepIn K (.ref f16) = true)
    (a17 : PySem.W.nsIn K mainGlobals "_law_next" = some (some (.ref f17)))
    (l17 : K.lookup f17 = some ⟨oc17, od17, .func (PySem.W.fnOf "_law_next" "_law_next" (defArgs sNext) (defBody sNext) (defScope sNext) .none kV17 dc17 pm17 an17 cd17 ct17), sl17⟩)
    (c17 : PySem.W.codeIn K cd17 "_law_next" = true)
    (k17 : PySem.W.keepIn K (.ref f17) = true)
    (a18 : PySem.W.nsIn K mainGlobals "_law_word" = some (some (.ref f18)))
    (l18 : K.lookup f18 = some ⟨oc18, od18, .func (PySem.W.fnOf "_law_word" "_law_word" (defArgs sLWord) (defBody sLWord) (defScope sLWord) .none kV18 dc18 pm18 an18 cd18 ct18), sl18⟩)
    (c18 : PySem.W.codeIn K cd18 "_law_word" = true)
    (k18 : PySem.W.keepIn K (.ref f18) = true)
    (a19 : PySem.W.nsIn K mainGlobals "_law_name" = some (some (.ref f19)))
    (l19 : K.lookup f19 = some ⟨oc19, od19, .func (PySem.W.fnOf "_law_name" "_law_name" (defArgs sLName) (defBody sLName) (defScope sLName) .none kV19 dc19 pm19 an19 cd19 ct19), sl19⟩)
    (c19 : PySem.W.codeIn K cd19 "_law_name" = true)
    (k19 : PySem.W.keepIn K (.ref f19) = true)
    (a20 : PySem.W.nsIn K mainGlobals "_law_leaf" = some (some (.ref f20)))
    (l20 : K.lookup f20 = some ⟨oc20, od20, .func (PySem.W.fnOf "_law_leaf" "_law_leaf" (defArgs sLLeaf) (defBody sLLeaf) (defScope sLLeaf) .none kV20 dc20 pm20 an20 cd20 ct20), sl20⟩)
    (c20 : PySem.W.codeIn K cd20 "_law_leaf" = true)
    (k20 : PySem.W.keepIn K (.ref f20) = true)
    (a21 : PySem.W.nsIn K mainGlobals "_law_es" = some (some (.ref f21)))
    (l21 : K.lookup f21 = some ⟨oc21, od21, .func (PySem.W.fnOf "_law_es" "_law_es" (defArgs sGEs) (defBody sGEs) (defScope sGEs) .none kV21 dc21 pm21 an21 cd21 ct21), sl21⟩)
    (c21 : PySem.W.codeIn K cd21 "_law_es" = true)
    (k21 : PySem.W.keepIn K (.ref f21) = true)
    (a22 : PySem.W.nsIn K mainGlobals "_law_e" = some (some (.ref f22)))
    (l22 : K.lookup f22 = some ⟨oc22, od22, .func (PySem.W.fnOf "_law_e" "_law_e" (defArgs sGE) (defBody sGE) (defScope sGE) .none kV22 dc22 pm22 an22 cd22 ct22), sl22⟩)
    (c22 : PySem.W.codeIn K cd22 "_law_e" = true)
    (k22 : PySem.W.keepIn K (.ref f22) = true)
    (a23 : PySem.W.nsIn K mainGlobals "_law_body" = some (some (.ref f23)))
    (l23 : K.lookup f23 = some ⟨oc23, od23, .func (PySem.W.fnOf "_law_body" "_law_body" (defArgs sGB) (defBody sGB) (defScope sGB) .none kV23 dc23 pm23 an23 cd23 ct23), sl23⟩)
    (c23 : PySem.W.codeIn K cd23 "_law_body" = true)
    (k23 : PySem.W.keepIn K (.ref f23) = true)
    (a24 : PySem.W.nsIn K mainGlobals "_law_statement" = some (some (.ref f24)))
    (l24 : K.lookup f24 = some ⟨oc24, od24, .func (PySem.W.fnOf "_law_statement" "_law_statement" (defArgs sGS) (defBody sGS) (defScope sGS) .none kV24 dc24 pm24 an24 cd24 ct24), sl24⟩)
    (c24 : PySem.W.codeIn K cd24 "_law_statement" = true)
    (k24 : PySem.W.keepIn K (.ref f24) = true)
    (a25 : PySem.W.nsIn K mainGlobals "_law_method" = some (some (.ref f25)))
    (l25 : K.lookup f25 = some ⟨oc25, od25, .func (PySem.W.fnOf "_law_method" "_law_method" (defArgs sGM) (defBody sGM) (defScope sGM) .none kV25 dc25 pm25 an25 cd25 ct25), sl25⟩)
    (c25 : PySem.W.codeIn K cd25 "_law_method" = true)
    (k25 : PySem.W.keepIn K (.ref f25) = true)
    (a26 : PySem.W.nsIn K mainGlobals "_law_trees" = some (some (.ref f26)))
    (l26 : K.lookup f26 = some ⟨oc26, od26, .func (PySem.W.fnOf "_law_trees" "_law_trees" (defArgs sGT) (defBody sGT) (defScope sGT) .none kV26 dc26 pm26 an26 cd26 ct26), sl26⟩)
    (c26 : PySem.W.codeIn K cd26 "_law_trees" = true)
    (k26 : PySem.W.keepIn K (.ref f26) = true)
    (a27 : PySem.W.nsIn K mainGlobals "_law_leaf_word" = some (some (.ref f27)))
    (l27 : K.lookup f27 = some ⟨oc27, od27, .func (PySem.W.fnOf "_law_leaf_word" "_law_leaf_word" (defArgs sWLeaf) (defBody sWLeaf) (defScope sWLeaf) .none kV27 dc27 pm27 an27 cd27 ct27), sl27⟩)
    (c27 : PySem.W.codeIn K cd27 "_law_leaf_word" = true)
    (k27 : PySem.W.keepIn K (.ref f27) = true)
    (a28 : PySem.W.nsIn K mainGlobals "_law_all_words" = some (some (.ref f28)))
    (l28 : K.lookup f28 = some ⟨oc28, od28, .func (PySem.W.fnOf "_law_all_words" "_law_all_words" (defArgs sWAll) (defBody sWAll) (defScope sWAll) .none kV28 dc28 pm28 an28 cd28 ct28), sl28⟩)
    (c28 : PySem.W.codeIn K cd28 "_law_all_words" = true)
    (k28 : PySem.W.keepIn K (.ref f28) = true)
    (a29 : PySem.W.nsIn K mainGlobals "_law_plain" = some (some (.ref f29)))
    (l29 : K.lookup f29 = some ⟨oc29, od29, .func (PySem.W.fnOf "_law_plain" "_law_plain" (defArgs sWPlain) (defBody sWPlain) (defScope sWPlain) .none kV29 dc29 pm29 an29 cd29 ct29), sl29⟩)
    (c29 : PySem.W.codeIn K cd29 "_law_plain" = true)
    (k29 : PySem.W.keepIn K (.ref f29) = true)
    (a30 : PySem.W.nsIn K mainGlobals "_law_closed" = some (some (.ref f30)))
    (l30 : K.lookup f30 = some ⟨oc30, od30, .func (PySem.W.fnOf "_law_closed" "_law_closed" (defArgs sWClosed) (defBody sWClosed) (defScope sWClosed) .none kV30 dc30 pm30 an30 cd30 ct30), sl30⟩)
    (c30 : PySem.W.codeIn K cd30 "_law_closed" = true)
    (k30 : PySem.W.keepIn K (.ref f30) = true)
    (a31 : PySem.W.nsIn K mainGlobals "_law_node_words" = some (some (.ref f31)))
    (l31 : K.lookup f31 = some ⟨oc31, od31, .func (PySem.W.fnOf "_law_node_words" "_law_node_words" (defArgs sWNode) (defBody sWNode) (defScope sWNode) .none kV31 dc31 pm31 an31 cd31 ct31), sl31⟩)
    (c31 : PySem.W.codeIn K cd31 "_law_node_words" = true)
    (k31 : PySem.W.keepIn K (.ref f31) = true)
    (a32 : PySem.W.nsIn K mainGlobals "_law_method_words" = some (some (.ref f32)))
    (l32 : K.lookup f32 = some ⟨oc32, od32, .func (PySem.W.fnOf "_law_method_words" "_law_method_words" (defArgs sWMe) (defBody sWMe) (defScope sWMe) .none kV32 dc32 pm32 an32 cd32 ct32), sl32⟩)
    (c32 : PySem.W.codeIn K cd32 "_law_method_words" = true)
    (k32 : PySem.W.keepIn K (.ref f32) = true)
    (a33 : PySem.W.nsIn K mainGlobals "_law_tree_words" = some (some (.ref f33)))
    (l33 : K.lookup f33 = some ⟨oc33, od33, .func (PySem.W.fnOf "_law_tree_words" "_law_tree_words" (defArgs sWTr) (defBody sWTr) (defScope sWTr) .none kV33 dc33 pm33 an33 cd33 ct33), sl33⟩)
    (c33 : PySem.W.codeIn K cd33 "_law_tree_words" = true)
    (k33 : PySem.W.keepIn K (.ref f33) = true)
    (a34 : PySem.W.nsIn K mainGlobals "_law_laid" = some (some (.ref f34)))
    (l34 : K.lookup f34 = some ⟨oc34, od34, .func (PySem.W.fnOf "_law_laid" "_law_laid" (defArgs sLaid) (defBody sLaid) (defScope sLaid) .none kV34 dc34 pm34 an34 cd34 ct34), sl34⟩)
    (c34 : PySem.W.codeIn K cd34 "_law_laid" = true)
    (k34 : PySem.W.keepIn K (.ref f34) = true)
    (a35 : PySem.W.nsIn K mainGlobals "_law_places" = some (some (.ref f35)))
    (l35 : K.lookup f35 = some ⟨oc35, od35, .func (PySem.W.fnOf "_law_places" "_law_places" (defArgs sPl) (defBody sPl) (defScope sPl) .none kV35 dc35 pm35 an35 cd35 ct35), sl35⟩)
    (c35 : PySem.W.codeIn K cd35 "_law_places" = true)
    (k35 : PySem.W.keepIn K (.ref f35) = true)
    (a36 : PySem.W.nsIn K mainGlobals "_law_right" = some (some (.ref f36)))
    (l36 : K.lookup f36 = some ⟨oc36, od36, .func (PySem.W.fnOf "_law_right" "_law_right" (defArgs sRt) (defBody sRt) (defScope sRt) .none kV36 dc36 pm36 an36 cd36 ct36), sl36⟩)
    (c36 : PySem.W.codeIn K cd36 "_law_right" = true)
    (k36 : PySem.W.keepIn K (.ref f36) = true)
    (a37 : PySem.W.nsIn K mainGlobals "law" = some (some (.ref f37)))
    (l37 : K.lookup f37 = some ⟨oc37, od37, .func (PySem.W.fnOf "law" "law" (defArgs sLaw) (defBody sLaw) (defScope sLaw) .none kV37 dc37 pm37 an37 cd37 ct37), sl37⟩)
    (c37 : PySem.W.codeIn K cd37 "law" = true)
    (k37 : PySem.W.keepIn K (.ref f37) = true)
    (aR : PySem.W.nsIn K mainGlobals "Reader" = some (some (.ref R)))
    (aP : PySem.W.nsIn K mainGlobals "Page" = some (some (.ref CP)))
    (aS : PySem.W.nsIn K mainGlobals "SteadError" = some (some (.ref S)))
    (aF : PySem.W.nsIn K mainGlobals "Fault" = some (some (.ref CF)))
    (pgR : PySem.W.plainGet K R Str.empty = true)
    (hdR : PySem.W.hasDictIn K R = true)
    (poR : PySem.W.plainOver K R = true)
    (saR : PySem.W.findIn K (.ref R) "__setattr__" = some (some (.builtin "object.__setattr__")))
    (mkR : PySem.W.makesIn K R = true)
    (kcR : PySem.W.keepIn K (.ref R) = true)
    (pgP : PySem.W.plainGet K CP Str.empty = true)
    (hdP : PySem.W.hasDictIn K CP = true)
    (poP : PySem.W.plainOver K CP = true)
    (saP : PySem.W.findIn K (.ref CP) "__setattr__" = some (some (.builtin "object.__setattr__")))
    (mkP : PySem.W.makesIn K CP = true)
    (kcP : PySem.W.keepIn K (.ref CP) = true)
    (nR0 : PySem.W.findIn K (.ref R) "page" = some none)
    (nR1 : PySem.W.findIn K (.ref R) "words" = some none)
    (nR2 : PySem.W.findIn K (.ref R) "stop" = some none)
    (nR3 : PySem.W.findIn K (.ref R) "stop_why" = some none)
    (nR4 : PySem.W.findIn K (.ref R) "at" = some none)
    (nR5 : PySem.W.findIn K (.ref R) "many_open" = some none)
    (nR6 : PySem.W.findIn K (.ref R) "starts" = some none)
    (nR7 : PySem.W.findIn K (.ref R) "method_starts" = some none)
    (nR8 : PySem.W.findIn K (.ref R) "node_starts" = some none)
    (nP0 : PySem.W.findIn K (.ref CP) "name" = some none)
    (nP1 : PySem.W.findIn K (.ref CP) "text" = some none)
    (nP2 : PySem.W.findIn K (.ref CP) "trees" = some none)
    (nP3 : PySem.W.findIn K (.ref CP) "words" = some none)
    (nP4 : PySem.W.findIn K (.ref CP) "_starts" = some none)
    (haP : PySem.W.findIn K (.ref CP) "__class__" = some (some (.builtin "object.__class__")))
    (hnP : PySem.W.specialIn K (.builtin "object.__class__") "__get__" = some (some (.builtin "getset_descriptor.__get__")))
    (tkP : PySem.W.takesIn K (.builtin "object.__class__") = some true)
    (moP : PySem.W.mroIn K CP (.type "object") = some true)
    (meP : PySem.W.kitOne K (.ref CP) (.ref CP) = some true)
    (ksP : PySem.W.kitOne K (.type "str") (.ref CP) = some false)
    (nfP : PySem.W.notFirst K CP (.type "str") = true)
    (b0 : PySem.W.findIn K (.ref R) "__init__" = some (some (.ref g0)))
    (i0 : PySem.W.isFn K (.ref g0) = true)
    (m0 : K.lookup g0 = some ⟨goc0, god0, .func (PySem.W.fnOf "__init__" "Reader.__init__" (defArgs (rd 0)) (defBody (rd 0)) (defScope (rd 0)) .none gkV0 gdc0 gpm0 gan0 gcd0 gct0), gsl0⟩)
    (d0 : PySem.W.codeIn K gcd0 "Reader.__init__" = true)
    (e0 : PySem.W.keepIn K (.ref g0) = true)
    (b1 : PySem.W.findIn K (.ref R) "word" = some (some (.ref g1)))
    (i1 : PySem.W.isFn K (.ref g1) = true)
    (m1 : K.lookup g1 = some ⟨goc1, god1, .func (PySem.W.fnOf "word" "Reader.word" (defArgs (rd 1)) (defBody (rd 1)) (defScope (rd 1)) .none gkV1 gdc1 gpm1 gan1 gcd1 gct1), gsl1⟩)
    (d1 : PySem.W.codeIn K gcd1 "Reader.word" = true)
    (e1 : PySem.W.keepIn K (.ref g1) = true)
    (b2 : PySem.W.findIn K (.ref R) "refuse_stop" = some (some (.ref g2)))
    (i2 : PySem.W.isFn K (.ref g2) = true)
    (m2 : K.lookup g2 = some ⟨goc2, god2, .func (PySem.W.fnOf "refuse_stop" "Reader.refuse_stop" (defArgs (rd 2)) (defBody (rd 2)) (defScope (rd 2)) .none gkV2 gdc2 gpm2 gan2 gcd2 gct2), gsl2⟩)
    (d2 : PySem.W.codeIn K gcd2 "Reader.refuse_stop" = true)
    (e2 : PySem.W.keepIn K (.ref g2) = true)
    (b3 : PySem.W.findIn K (.ref R) "refuse" = some (some (.ref g3)))
    (i3 : PySem.W.isFn K (.ref g3) = true)
    (m3 : K.lookup g3 = some ⟨goc3, god3, .func (PySem.W.fnOf "refuse" "Reader.refuse" (defArgs (rd 3)) (defBody (rd 3)) (defScope (rd 3)) .none gkV3 gdc3 gpm3 gan3 gcd3 gct3), gsl3⟩)
    (d3 : PySem.W.codeIn K gcd3 "Reader.refuse" = true)
    (e3 : PySem.W.keepIn K (.ref g3) = true)
    (b4 : PySem.W.findIn K (.ref R) "skip" = some (some (.ref g4)))
    (i4 : PySem.W.isFn K (.ref g4) = true)
    (m4 : K.lookup g4 = some ⟨goc4, god4, .func (PySem.W.fnOf "skip" "Reader.skip" (defArgs (rd 4)) (defBody (rd 4)) (defScope (rd 4)) .none gkV4 gdc4 gpm4 gan4 gcd4 gct4), gsl4⟩)
    (d4 : PySem.W.codeIn K gcd4 "Reader.skip" = true)
    (e4 : PySem.W.keepIn K (.ref g4) = true)
    (b5 : PySem.W.findIn K (.ref R) "take" = some (some (.ref g5)))
    (i5 : PySem.W.isFn K (.ref g5) = true)
    (m5 : K.lookup g5 = some ⟨goc5, god5, .func (PySem.W.fnOf "take" "Reader.take" (defArgs (rd 5)) (defBody (rd 5)) (defScope (rd 5)) .none gkV5 gdc5 gpm5 gan5 gcd5 gct5), gsl5⟩)
    (d5 : PySem.W.codeIn K gcd5 "Reader.take" = true)
    (e5 : PySem.W.keepIn K (.ref g5) = true)
    (b6 : PySem.W.findIn K (.ref R) "enter" = some (some (.ref g6)))
    (i6 : PySem.W.isFn K (.ref g6) = true)
    (m6 : K.lookup g6 = some ⟨goc6, god6, .func (PySem.W.fnOf "enter" "Reader.enter" (defArgs (rd 6)) (defBody (rd 6)) (defScope (rd 6)) .none gkV6 gdc6 gpm6 gan6 gcd6 gct6), gsl6⟩)
    (d6 : PySem.W.codeIn K gcd6 "Reader.enter" = true)
    (e6 : PySem.W.keepIn K (.ref g6) = true)
    (b7 : PySem.W.findIn K (.ref R) "leave" = some (some (.ref g7)))
    (i7 : PySem.W.isFn K (.ref g7) = true)
    (m7 : K.lookup g7 = some ⟨goc7, god7, .func (PySem.W.fnOf "leave" "Reader.leave" (defArgs (rd 7)) (defBody (rd 7)) (defScope (rd 7)) .none gkV7 gdc7 gpm7 gan7 gcd7 gct7), gsl7⟩)
    (d7 : PySem.W.codeIn K gcd7 "Reader.leave" = true)
    (e7 : PySem.W.keepIn K (.ref g7) = true)
    (b8 : PySem.W.findIn K (.ref R) "page_trees" = some (some (.ref g8)))
    (i8 : PySem.W.isFn K (.ref g8) = true)
    (m8 : K.lookup g8 = some ⟨goc8, god8, .func (PySem.W.fnOf "page_trees" "Reader.page_trees" (defArgs (rd 8)) (defBody (rd 8)) (defScope (rd 8)) .none gkV8 gdc8 gpm8 gan8 gcd8 gct8), gsl8⟩)
    (d8 : PySem.W.codeIn K gcd8 "Reader.page_trees" = true)
    (e8 : PySem.W.keepIn K (.ref g8) = true)
    (b9 : PySem.W.findIn K (.ref R) "tree" = some (some (.ref g9)))
    (i9 : PySem.W.isFn K (.ref g9) = true)
    (m9 : K.lookup g9 = some ⟨goc9, god9, .func (PySem.W.fnOf "tree" "Reader.tree" (defArgs (rd 9)) (defBody (rd 9)) (defScope (rd 9)) .none gkV9 gdc9 gpm9 gan9 gcd9 gct9), gsl9⟩)
    (d9 : PySem.W.codeIn K gcd9 "Reader.tree" = true)
    (e9 : PySem.W.keepIn K (.ref g9) = true)
    (b10 : PySem.W.findIn K (.ref R) "kind" = some (some (.ref g10)))
    (i10 : PySem.W.isFn K (.ref g10) = true)
    (m10 : K.lookup g10 = some ⟨goc10, god10, .func (PySem.W.fnOf "kind" "Reader.kind" (defArgs (rd 10)) (defBody (rd 10)) (defScope (rd 10)) .none gkV10 gdc10 gpm10 gan10 gcd10 gct10), gsl10⟩)
    (d10 : PySem.W.codeIn K gcd10 "Reader.kind" = true)
    (e10 : PySem.W.keepIn K (.ref g10) = true)
    (b11 : PySem.W.findIn K (.ref R) "more" = some (some (.ref g11)))
    (i11 : PySem.W.isFn K (.ref g11) = true)
    (m11 : K.lookup g11 = some ⟨goc11, god11, .func (PySem.W.fnOf "more" "Reader.more" (defArgs (rd 11)) (defBody (rd 11)) (defScope (rd 11)) .none gkV11 gdc11 gpm11 gan11 gcd11 gct11), gsl11⟩)
    (d11 : PySem.W.codeIn K gcd11 "Reader.more" = true)
    (e11 : PySem.W.keepIn K (.ref g11) = true)
    (b12 : PySem.W.findIn K (.ref R) "methods" = some (some (.ref g12)))
    (i12 : PySem.W.isFn K (.ref g12) = true)
    (m12 : K.lookup g12 = some ⟨goc12, god12, .func (PySem.W.fnOf "methods" "Reader.methods" (defArgs (rd 12)) (defBody (rd 12)) (defScope (rd 12)) .none gkV12 gdc12 gpm12 gan12 gcd12 gct12), gsl12⟩)
    (d12 : PySem.W.codeIn K gcd12 "Reader.methods" = true)
    (e12 : PySem.W.keepIn K (.ref g12) = true)
    (b13 : PySem.W.findIn K (.ref R) "method" = some (some (.ref g13)))
    (i13 : PySem.W.isFn K (.ref g13) = true)
    (m13 : K.lookup g13 = some ⟨goc13, god13, .func (PySem.W.fnOf "method" "Reader.method" (defArgs (rd 13)) (defBody (rd 13)) (defScope (rd 13)) .none gkV13 gdc13 gpm13 gan13 gcd13 gct13), gsl13⟩)
    (d13 : PySem.W.codeIn K gcd13 "Reader.method" = true)
    (e13 : PySem.W.keepIn K (.ref g13) = true)
    (b14 : PySem.W.findIn K (.ref R) "free_words" = some (some (.ref g14)))
    (i14 : PySem.W.isFn K (.ref g14) = true)
    (m14 : K.lookup g14 = some ⟨goc14, god14, .func (PySem.W.fnOf "free_words" "Reader.free_words" (defArgs (rd 14)) (defBody (rd 14)) (defScope (rd 14)) .none gkV14 gdc14 gpm14 gan14 gcd14 gct14), gsl14⟩)
    (d14 : PySem.W.codeIn K gcd14 "Reader.free_words" = true)
    (e14 : PySem.W.keepIn K (.ref g14) = true)
    (b15 : PySem.W.findIn K (.ref R) "statements" = some (some (.ref g15)))
    (i15 : PySem.W.isFn K (.ref g15) = true)
    (m15 : K.lookup g15 = some ⟨goc15, god15, .func (PySem.W.fnOf "statements" "Reader.statements" (defArgs (rd 15)) (defBody (rd 15)) (defScope (rd 15)) .none gkV15 gdc15 gpm15 gan15 gcd15 gct15), gsl15⟩)
    (d15 : PySem.W.codeIn K gcd15 "Reader.statements" = true)
    (e15 : PySem.W.keepIn K (.ref g15) = true)
    (b16 : PySem.W.findIn K (.ref R) "statement" = some (some (.ref g16)))
    (i16 : PySem.W.isFn K (.ref g16) = true)
    (m16 : K.lookup g16 = some ⟨goc16, god16, .func (PySem.W.fnOf "statement" "Reader.statement" (defArgs (rd 16)) (defBody (rd 16)) (defScope (rd 16)) .none gkV16 gdc16 gpm16 gan16 gcd16 gct16), gsl16⟩)
    (d16 : PySem.W.codeIn K gcd16 "Reader.statement" = true)
    (e16 : PySem.W.keepIn K (.ref g16) = true)
    (b17 : PySem.W.findIn K (.ref R) "new_worth" = some (some (.ref g17)))
    (i17 : PySem.W.isFn K (.ref g17) = true)
    (m17 : K.lookup g17 = some ⟨goc17, god17, .func (PySem.W.fnOf "new_worth" "Reader.new_worth" (defArgs (rd 17)) (defBody (rd 17)) (defScope (rd 17)) .none gkV17 gdc17 gpm17 gan17 gcd17 gct17), gsl17⟩)
    (d17 : PySem.W.codeIn K gcd17 "Reader.new_worth" = true)
    (e17 : PySem.W.keepIn K (.ref g17) = true)
    (b18 : PySem.W.findIn K (.ref R) "choice" = some (some (.ref g18)))
    (i18 : PySem.W.isFn K (.ref g18) = true)
    (m18 : K.lookup g18 = some ⟨goc18, god18, .func (PySem.W.fnOf "choice" "Reader.choice" (defArgs (rd 18)) (defBody (rd 18)) (defScope (rd 18)) .none gkV18 gdc18 gpm18 gan18 gcd18 gct18), gsl18⟩)
    (d18 : PySem.W.codeIn K gcd18 "Reader.choice" = true)
    (e18 : PySem.W.keepIn K (.ref g18) = true)
    (b19 : PySem.W.findIn K (.ref R) "loop" = some (some (.ref g19)))
    (i19 : PySem.W.isFn K (.ref g19) = true)
    (m19 : K.lookup g19 = some ⟨goc19, god19, .func (PySem.W.fnOf "loop" "Reader.loop" (defArgs (rd 19)) (defBody (rd 19)) (defScope (rd 19)) .none gkV19 gdc19 gpm19 gan19 gcd19 gct19), gsl19⟩)
    (d19 : PySem.W.codeIn K gcd19 "Reader.loop" = true)
    (e19 : PySem.W.keepIn K (.ref g19) = true)
    (b20 : PySem.W.findIn K (.ref R) "attempt" = some (some (.ref g20)))
    (i20 : PySem.W.isFn K (.ref g20) = true)
    (m20 : K.lookup g20 = some ⟨goc20, god20, .func (PySem.W.fnOf "attempt" "Reader.attempt" (defArgs (rd 20)) (defBody (rd 20)) (defScope (rd 20)) .none gkV20 gdc20 gpm20 gan20 gcd20 gct20), gsl20⟩)
    (d20 : PySem.W.codeIn K gcd20 "Reader.attempt" = true)
    (e20 : PySem.W.keepIn K (.ref g20) = true)
    (b21 : PySem.W.findIn K (.ref R) "expressions" = some (some (.ref g21)))
    (i21 : PySem.W.isFn K (.ref g21) = true)
    (m21 : K.lookup g21 = some ⟨goc21, god21, .func (PySem.W.fnOf "expressions" "Reader.expressions" (defArgs (rd 21)) (defBody (rd 21)) (defScope (rd 21)) .none gkV21 gdc21 gpm21 gan21 gcd21 gct21), gsl21⟩)
    (d21 : PySem.W.codeIn K gcd21 "Reader.expressions" = true)
    (e21 : PySem.W.keepIn K (.ref g21) = true)
    (b22 : PySem.W.findIn K (.ref R) "expression" = some (some (.ref g22)))
    (i22 : PySem.W.isFn K (.ref g22) = true)
    (m22 : K.lookup g22 = some ⟨goc22, god22, .func (PySem.W.fnOf "expression" "Reader.expression" (defArgs (rd 22)) (defBody (rd 22)) (defScope (rd 22)) .none gkV22 gdc22 gpm22 gan22 gcd22 gct22), gsl22⟩)
    (d22 : PySem.W.codeIn K gcd22 "Reader.expression" = true)
    (e22 : PySem.W.keepIn K (.ref g22) = true)
    (b23 : PySem.W.findIn K (.ref R) "sending" = some (some (.ref g23)))
    (i23 : PySem.W.isFn K (.ref g23) = true)
    (m23 : K.lookup g23 = some ⟨goc23, god23, .func (PySem.W.fnOf "sending" "Reader.sending" (defArgs (rd 23)) (defBody (rd 23)) (defScope (rd 23)) .none gkV23 gdc23 gpm23 gan23 gcd23 gct23), gsl23⟩)
    (d23 : PySem.W.codeIn K gcd23 "Reader.sending" = true)
    (e23 : PySem.W.keepIn K (.ref g23) = true)
    (b24 : PySem.W.findIn K (.ref R) "listing" = some (some (.ref g24)))
    (i24 : PySem.W.isFn K (.ref g24) = true)
    (m24 : K.lookup g24 = some ⟨goc24, god24, .func (PySem.W.fnOf "listing" "Reader.listing" (defArgs (rd 24)) (defBody (rd 24)) (defScope (rd 24)) .none gkV24 gdc24 gpm24 gan24 gcd24 gct24), gsl24⟩)
    (d24 : PySem.W.codeIn K gcd24 "Reader.listing" = true)
    (e24 : PySem.W.keepIn K (.ref g24) = true)
    (b25 : PySem.W.findIn K (.ref R) "block" = some (some (.ref g25)))
    (i25 : PySem.W.isFn K (.ref g25) = true)
    (m25 : K.lookup g25 = some ⟨goc25, god25, .func (PySem.W.fnOf "block" "Reader.block" (defArgs (rd 25)) (defBody (rd 25)) (defScope (rd 25)) .none gkV25 gdc25 gpm25 gan25 gcd25 gct25), gsl25⟩)
    (d25 : PySem.W.codeIn K gcd25 "Reader.block" = true)
    (e25 : PySem.W.keepIn K (.ref g25) = true)
    (bq0 : PySem.W.findIn K (.ref CP) "__init__" = some (some (.ref gq0)))
    (iq0 : PySem.W.isFn K (.ref gq0) = true)
    (mq0 : K.lookup gq0 = some ⟨gocq0, godq0, .func (PySem.W.fnOf "__init__" "Page.__init__" (defArgs (pgm 0)) (defBody (pgm 0)) (defScope (pgm 0)) .none gkVq0 gdcq0 gpmq0 ganq0 gcdq0 gctq0), gslq0⟩)
    (dq0 : PySem.W.codeIn K gcdq0 "Page.__init__" = true)
    (eq0 : PySem.W.keepIn K (.ref gq0) = true)
    (bq1 : PySem.W.findIn K (.ref CP) "_place_of" = some (some (.ref gq1)))
    (iq1 : PySem.W.isFn K (.ref gq1) = true)
    (mq1 : K.lookup gq1 = some ⟨gocq1, godq1, .func (PySem.W.fnOf "_place_of" "Page._place_of" (defArgs (pgm 1)) (defBody (pgm 1)) (defScope (pgm 1)) .none gkVq1 gdcq1 gpmq1 ganq1 gcdq1 gctq1), gslq1⟩)
    (dq1 : PySem.W.codeIn K gcdq1 "Page._place_of" = true)
    (eq1 : PySem.W.keepIn K (.ref gq1) = true)
    (bq2 : PySem.W.findIn K (.ref CP) "place" = some (some (.ref gq2)))
    (iq2 : PySem.W.isFn K (.ref gq2) = true)
    (mq2 : K.lookup gq2 = some ⟨gocq2, godq2, .func (PySem.W.fnOf "place" "Page.place" (defArgs (pgm 2)) (defBody (pgm 2)) (defScope (pgm 2)) .none gkVq2 gdcq2 gpmq2 ganq2 gcdq2 gctq2), gslq2⟩)
    (dq2 : PySem.W.codeIn K gcdq2 "Page.place" = true)
    (eq2 : PySem.W.keepIn K (.ref gq2) = true)
    (bq3 : PySem.W.findIn K (.ref CP) "method_place" = some (some (.ref gq3)))
    (iq3 : PySem.W.isFn K (.ref gq3) = true)
    (mq3 : K.lookup gq3 = some ⟨gocq3, godq3, .func (PySem.W.fnOf "method_place" "Page.method_place" (defArgs (pgm 3)) (defBody (pgm 3)) (defScope (pgm 3)) .none gkVq3 gdcq3 gpmq3 ganq3 gcdq3 gctq3), gslq3⟩)
    (dq3 : PySem.W.codeIn K gcdq3 "Page.method_place" = true)
    (eq3 : PySem.W.keepIn K (.ref gq3) = true)
    (bq4 : PySem.W.findIn K (.ref CP) "node_places" = some (some (.ref gq4)))
    (iq4 : PySem.W.isFn K (.ref gq4) = true)
    (mq4 : K.lookup gq4 = some ⟨gocq4, godq4, .func (PySem.W.fnOf "node_places" "Page.node_places" (defArgs (pgm 4)) (defBody (pgm 4)) (defScope (pgm 4)) .none gkVq4 gdcq4 gpmq4 ganq4 gcdq4 gctq4), gslq4⟩)
    (dq4 : PySem.W.codeIn K gcdq4 "Page.node_places" = true)
    (eq4 : PySem.W.keepIn K (.ref gq4) = true)
    (bq5 : PySem.W.findIn K (.ref CP) "__str__" = some (some (.ref gq5)))
    (iq5 : PySem.W.isFn K (.ref gq5) = true)
    (mq5 : K.lookup gq5 = some ⟨gocq5, godq5, .func (PySem.W.fnOf "__str__" "Page.__str__" (defArgs (pgm 5)) (defBody (pgm 5)) (defScope (pgm 5)) .none gkVq5 gdcq5 gpmq5 ganq5 gcdq5 gctq5), gslq5⟩)
    (dq5 : PySem.W.codeIn K gcdq5 "Page.__str__" = true)
    (eq5 : PySem.W.keepIn K (.ref gq5) = true)
    (bq6 : PySem.W.findIn K (.ref CP) "__eq__" = some (some (.ref gq6)))
    (iq6 : PySem.W.isFn K (.ref gq6) = true)
    (mq6 : K.lookup gq6 = some ⟨gocq6, godq6, .func (PySem.W.fnOf "__eq__" "Page.__eq__" (defArgs (pgm 6)) (defBody (pgm 6)) (defScope (pgm 6)) .none gkVq6 gdcq6 gpmq6 ganq6 gcdq6 gctq6), gslq6⟩)
    (dq6 : PySem.W.codeIn K gcdq6 "Page.__eq__" = true)
    (eq6 : PySem.W.keepIn K (.ref gq6) = true)
    (xF : K.lookup CF = some (excClassObj nm q CF N bs bm true sn sub ab col dd m0_ m1_ m2_ m3_ m5_ "ValueError.__new__"))
    (xB : PySem.HandSPX.refsVE bm = true)
    (sF : PySem.W.findIn K (.ref CF) "__setattr__" = some (some (.builtin "object.__setattr__")))
    (gF : PySem.W.findIn K (.ref CF) "__getattribute__" = some (some (.builtin "BaseException.__getattribute__")))
    (ggF : PySem.W.findIn K (.ref CF) "__getattr__" = some none)
    (eF : PySem.W.subIn K (.ref CF) (.type "BaseException") = some true)
    (tF : PySem.W.typeIn K (.ref CF) = some (.type "type"))
    (kF : PySem.W.keepIn K (.ref CF) = true)
    (hF : PySem.W.hasDictIn K CF = true)
    (isF : PySem.W.isClsIn K CF = true)
    (ssF : PySem.W.subIn K (.ref CF) (.ref CF) = some true)
    (nF0 : PySem.W.findIn K (.ref CF) "page" = some none)
    (nF1 : PySem.W.findIn K (.ref CF) "row" = some none)
    (nF2 : PySem.W.findIn K (.ref CF) "column" = some none)
    (nF3 : PySem.W.findIn K (.ref CF) "why" = some none)
    (iF : PySem.W.findIn K (.ref CF) "__init__" = some (some (.ref fI)))
    (tI_ : PySem.W.typeIn K (.ref fI) = some (.type "function"))
    (lI : K.lookup fI = some ⟨ioc, iod, .func (PySem.W.fnOf "__init__" "Fault.__init__" (defArgs sFault) (defBody sFault) (defScope sFault) .none ikV idc ipm ian icd ict), isl⟩)
    (cI : PySem.W.codeIn K icd "Fault.__init__" = true)
    (kI : PySem.W.keepIn K (.ref fI) = true)
    (vV : PySem.W.findCls K (.type "ValueError") (.type "type") "__init__" = some (.val (.builtin "ValueError.__init__")))
    (rdS : PySem.W.readsIn K S (.type "type") = true)
    (gaS : PySem.W.specialIn K (.ref S) "__getattribute__" = some (some (.builtin "type.__getattribute__")))
    (fS_ : PySem.W.findCls K (.ref S) (.type "type") "__init__" = some (.val (.ref fS)))
    (kS : PySem.W.keepIn K (.ref fS) = true)
    (lS : K.lookup fS = some ⟨soc, sod, .func (PySem.W.fnOf "__init__" "SteadError.__init__" (defArgs sSE) (defBody sSE) (defScope sSE) (.ref T) skV sdc spm san scd sct), ssl⟩)
    (cS : PySem.W.codeIn K scd "SteadError.__init__" = true)
    (lT : K.lookup T = some tO)
    (dT : tO.data = .seq tI.toArray tn)
    (vT : Vals [V.str (Str.ofString "refused")] tI)
    (zlen : PySem.W.nsIn K mainGlobals "len" = some none)
    (zall : PySem.W.nsIn K mainGlobals "all" = some none)
    (zmin : PySem.W.nsIn K mainGlobals "min" = some none)
    (ztup : PySem.W.nsIn K mainGlobals "tuple" = some none)
    (zint : PySem.W.nsIn K mainGlobals "int" = some none)
    (zstr : PySem.W.nsIn K mainGlobals "str" = some none)
    (zenum : PySem.W.nsIn K mainGlobals "enumerate" = some none)
    (zrange : PySem.W.nsIn K mainGlobals "range" = some none)
    (zVE : PySem.W.nsIn K mainGlobals "ValueError" = some none)
    (vbig : PySem.W.nsIn K mainGlobals "BIG" = some (some (.int 1000000000000 tbig)))
    (vrows : PySem.W.nsIn K mainGlobals "MOST_ROWS" = some (some (.int 300 trows)))
    (vcols : PySem.W.nsIn K mainGlobals "MOST_COLUMNS" = some (some (.int 120 tcols)))
    (vtsig : PySem.W.nsIn K mainGlobals "MOST_TEXT_SIGNS" = some (some (.int 40 ttsig)))
    (vnsig : PySem.W.nsIn K mainGlobals "MOST_NAME_SIGNS" = some (some (.int 12 tnsig)))
    (vssig : PySem.W.nsIn K mainGlobals "SMALL_SIGNS" = some (some (.str sssig tssig)))
    (essig : sssig = mk (SMALL ++ FIGS))
    (vksig : PySem.W.nsIn K mainGlobals "KIND_SIGNS" = some (some (.str sksig tksig)))
    (eksig : sksig = mk (SMALL ++ CAPS ++ FIGS))
    (vsmall : PySem.W.nsIn K mainGlobals "SMALL" = some (some (.str ssmall tsmall)))
    (esmall : ssmall = mk SMALL)
    (vcaps : PySem.W.nsIn K mainGlobals "CAPITALS" = some (some (.str scaps tcaps)))
    (ecaps : scaps = mk CAPS)
    (vfigs : PySem.W.nsIn K mainGlobals "FIGURES" = some (some (.str sfigs tfigs)))
    (efigs : sfigs = mk FIGS)
    (vtexts : PySem.W.nsIn K mainGlobals "TEXT_SIGNS" = some (some (.str stexts ttexts)))
    (etexts : stexts = mk TEXTS)
    (vbr : PySem.W.nsIn K mainGlobals "BRACKETS" = some (some (.ref abr)))
    (lbr : K.lookup abr = some obr)
    (ybr : obr.cls = .type "tuple")
    (wbr : obr.data = .seq ibr nbr)
    (sbr : ibr.size ≤ sizeLine)
    (ubr : Vals (BRs.map V.str) ibr.toList)
    (vmarks : PySem.W.nsIn K mainGlobals "MARKS" = some (some (.ref amarks)))
    (lmarks : K.lookup amarks = some omarks)
    (ymarks : omarks.cls = .type "tuple")
    (wmarks : omarks.data = .seq imarks nmarks)
    (smarks : imarks.size ≤ sizeLine)
    (umarks : Vals (MARKs.map V.str) imarks.toList)
    (vkept : PySem.W.nsIn K mainGlobals "KEPT" = some (some (.ref akept)))
    (lkept : K.lookup akept = some okept)
    (ykept : okept.cls = .type "tuple")
    (wkept : okept.data = .seq ikept nkept)
    (skept : ikept.size ≤ sizeLine)
    (ukept : Vals (KEPTs.map V.str) ikept.toList)
    (vpls : PySem.W.nsIn K mainGlobals "PLAIN_STATEMENTS" = some (some (.ref apls)))
    (lpls : K.lookup apls = some opls)
    (ypls : opls.cls = .type "tuple")
    (wpls : opls.data = .seq ipls npls)
    (spls : ipls.size ≤ sizeLine)
    (upls : Vals (PLq.map V.str) ipls.toList)
    (zisi : PySem.W.nsIn K mainGlobals "isinstance" = some none)
    (zlist : PySem.W.nsIn K mainGlobals "list" = some none)
    (vmo : PySem.W.nsIn K mainGlobals "MOST_OPEN" = some (some (.int 12 tmo)))
    (vmsg : PySem.W.nsIn K mainGlobals "MESSAGE_MARKS" = some (some (.ref amsg)))
    (lmsg : K.lookup amsg = some omsg)
    (ymsg : omsg.cls = .type "tuple")
    (wmsg : omsg.data = .seq imsg nmsg)
    (smsg : imsg.size ≤ sizeLine)
    (umsg : Vals (MSGs.map V.str) imsg.toList)
    : ∃ fd : FuncData, (∀ (s : Shared) (v : Value), BindsTo s fd ⟨[v], []⟩ [("_law_script", v)]) ∧ ∀ base : Heap, K.In base → base.Ns mainGlobals mg → FnOk l.prog w K mg base CX0 90 fa fd ["_law_script"] (spLaw K) := by
  have e := hfa.symm.trans (PySem.W.mg_of X G a37)
  cases e
  have D0 : Dn K mg "scanned" sScanned := ⟨⟨f0, _, fun_mk l0 c0 k0, PySem.W.mg_of X G a0⟩⟩
  have D1 : Dn K mg "words_of_row" sRow := ⟨⟨f1, _, fun_mk l1 c1 k1, PySem.W.mg_of X G a1⟩⟩
  have D2 : Dn K mg "wrong_column" sWrong := ⟨⟨f2, _, fun_mk l2 c2 k2, PySem.W.mg_of X G a2⟩⟩
  have D3 : Dn K mg "end_place" sEnd := ⟨⟨f3, _, fun_mk l3 c3 k3, PySem.W.mg_of X G a3⟩⟩
  have D4 : Dn K mg "is_word" sIsWord := ⟨⟨f4, _, fun_mk l4 c4 k4, PySem.W.mg_of X G a4⟩⟩
  have D5 : Dn K mg "is_small" sIsSmall := ⟨⟨f5, _, fun_mk l5 c5 k5, PySem.W.mg_of X G a5⟩⟩
  have D6 : Dn K mg "is_free" sIsFree := ⟨⟨f6, _, fun_mk l6 c6 k6, PySem.W.mg_of X G a6⟩⟩
  have D7 : Dn K mg "is_kind_name" sIsKind := ⟨⟨f7, _, fun_mk l7 c7 k7, PySem.W.mg_of X G a7⟩⟩
  have D8 : Dn K mg "is_name" sIsName := ⟨⟨f8, _, fun_mk l8 c8 k8, PySem.W.mg_of X G a8⟩⟩
  have D9 : Dn K mg "is_text" sIsText := ⟨⟨f9, _, fun_mk l9 c9 k9, PySem.W.mg_of X G a9⟩⟩
  have D10 : Dn K mg "is_number" sIsNum := ⟨⟨f10, _, fun_mk l10 c10 k10, PySem.W.mg_of X G a10⟩⟩
  have D11 : Dn K mg "has_only" sHas := ⟨⟨f11, _, fun_mk l11 c11 k11, PySem.W.mg_of X G a11⟩⟩
  have D12 : Dn K mg "reader_of" sRO := ⟨⟨f12, _, fun_mk l12 c12 k12, PySem.W.mg_of X G a12⟩⟩
  have D13 : Dn K mg "is_message" sMsg := ⟨⟨f13, _, fun_mk l13 c13 k13, PySem.W.mg_of X G a13⟩⟩
  have D14 : Dn K mg "is_free_field" sFF := ⟨⟨f14, _, fun_mk l14 c14 k14, PySem.W.mg_of X G a14⟩⟩
  have D15 : Dn K mg "leaf" sLeaf := ⟨⟨f15, _, fun_mk l15 c15 k15, PySem.W.mg_of X G a15⟩⟩
  have D16 : Dn K mg "_law_deck" sDeck := ⟨⟨f16, _, fun_mk l16 c16 k16, PySem.W.mg_of X G a16⟩⟩
  have D17 : Dn K mg "_law_next" sNext := ⟨⟨f17, _, fun_mk l17 c17 k17, PySem.W.mg_of X G a17⟩⟩
  have D18 : Dn K mg "_law_word" sLWord := ⟨⟨f18, _, fun_mk l18 c18 k18, PySem.W.mg_of X G a18⟩⟩
  have D19 : Dn K mg "_law_name" sLName := ⟨⟨f19, _, fun_mk l19 c19 k19, PySem.W.mg_of X G a19⟩⟩
  have D20 : Dn K mg "_law_leaf" sLLeaf := ⟨⟨f20, _, fun_mk l20 c20 k20, PySem.W.mg_of X G a20⟩⟩
  have D21 : Dn K mg "_law_es" sGEs := ⟨⟨f21, _, fun_mk l21 c21 k21, PySem.W.mg_of X G a21⟩⟩
  have D22 : Dn K mg "_law_e" sGE := ⟨⟨f22, _, fun_mk l22 c22 k22, PySem.W.mg_of X G a22⟩⟩
  have D23 : Dn K mg "_law_body" sGB := ⟨⟨f23, _, fun_mk l23 c23 k23, PySem.W.mg_of X G a23⟩⟩
  have D24 : Dn K mg "_law_statement" sGS := ⟨⟨f24, _, fun_mk l24 c24 k24, PySem.W.mg_of X G a24⟩⟩
  have D25 : Dn K mg "_law_method" sGM := ⟨⟨f25, _, fun_mk l25 c25 k25, PySem.W.mg_of X G a25⟩⟩
  have D26 : Dn K mg "_law_trees" sGT := ⟨⟨f26, _, fun_mk l26 c26 k26, PySem.W.mg_of X G a26⟩⟩
  have D27 : Dn K mg "_law_leaf_word" sWLeaf := ⟨⟨f27, _, fun_mk l27 c27 k27, PySem.W.mg_of X G a27⟩⟩
  have D28 : Dn K mg "_law_all_words" sWAll := ⟨⟨f28, _, fun_mk l28 c28 k28, PySem.W.mg_of X G a28⟩⟩
  have D29 : Dn K mg "_law_plain" sWPlain := ⟨⟨f29, _, fun_mk l29 c29 k29, PySem.W.mg_of X G a29⟩⟩
  have D30 : Dn K mg "_law_closed" sWClosed := ⟨⟨f30, _, fun_mk l30 c30 k30, PySem.W.mg_of X G a30⟩⟩
  have D31 : Dn K mg "_law_node_words" sWNode := ⟨⟨f31, _, fun_mk l31 c31 k31, PySem.W.mg_of X G a31⟩⟩
  have D32 : Dn K mg "_law_method_words" sWMe := ⟨⟨f32, _, fun_mk l32 c32 k32, PySem.W.mg_of X G a32⟩⟩
  have D33 : Dn K mg "_law_tree_words" sWTr := ⟨⟨f33, _, fun_mk l33 c33 k33, PySem.W.mg_of X G a33⟩⟩
  have D34 : Dn K mg "_law_laid" sLaid := ⟨⟨f34, _, fun_mk l34 c34 k34, PySem.W.mg_of X G a34⟩⟩
  have D35 : Dn K mg "_law_places" sPl := ⟨⟨f35, _, fun_mk l35 c35 k35, PySem.W.mg_of X G a35⟩⟩
  have D36 : Dn K mg "_law_right" sRt := ⟨⟨f36, _, fun_mk l36 c36 k36, PySem.W.mg_of X G a36⟩⟩
  have M1 : Dm K R "word" "Reader.word" (rd 1) := ⟨⟨g1, _, fun_mk m1 d1 e1, ⟨b1, i1, e1⟩⟩⟩
  have M2 : Dm K R "refuse_stop" "Reader.refuse_stop" (rd 2) := ⟨⟨g2, _, fun_mk m2 d2 e2, ⟨b2, i2, e2⟩⟩⟩
  have M3 : Dm K R "refuse" "Reader.refuse" (rd 3) := ⟨⟨g3, _, fun_mk m3 d3 e3, ⟨b3, i3, e3⟩⟩⟩
  have M4 : Dm K R "skip" "Reader.skip" (rd 4) := ⟨⟨g4, _, fun_mk m4 d4 e4, ⟨b4, i4, e4⟩⟩⟩
  have M5 : Dm K R "take" "Reader.take" (rd 5) := ⟨⟨g5, _, fun_mk m5 d5 e5, ⟨b5, i5, e5⟩⟩⟩
  have M6 : Dm K R "enter" "Reader.enter" (rd 6) := ⟨⟨g6, _, fun_mk m6 d6 e6, ⟨b6, i6, e6⟩⟩⟩
  have M7 : Dm K R "leave" "Reader.leave" (rd 7) := ⟨⟨g7, _, fun_mk m7 d7 e7, ⟨b7, i7, e7⟩⟩⟩
  have M8 : Dm K R "page_trees" "Reader.page_trees" (rd 8) := ⟨⟨g8, _, fun_mk m8 d8 e8, ⟨b8, i8, e8⟩⟩⟩
  have M9 : Dm K R "tree" "Reader.tree" (rd 9) := ⟨⟨g9, _, fun_mk m9 d9 e9, ⟨b9, i9, e9⟩⟩⟩
  have M10 : Dm K R "kind" "Reader.kind" (rd 10) := ⟨⟨g10, _, fun_mk m10 d10 e10, ⟨b10, i10, e10⟩⟩⟩
  have M11 : Dm K R "more" "Reader.more" (rd 11) := ⟨⟨g11, _, fun_mk m11 d11 e11, ⟨b11, i11, e11⟩⟩⟩
  have M12 : Dm K R "methods" "Reader.methods" (rd 12) := ⟨⟨g12, _, fun_mk m12 d12 e12, ⟨b12, i12, e12⟩⟩⟩
  have M13 : Dm K R "method" "Reader.method" (rd 13) := ⟨⟨g13, _, fun_mk m13 d13 e13, ⟨b13, i13, e13⟩⟩⟩
  have M14 : Dm K R "free_words" "Reader.free_words" (rd 14) := ⟨⟨g14, _, fun_mk m14 d14 e14, ⟨b14, i14, e14⟩⟩⟩
  have M15 : Dm K R "statements" "Reader.statements" (rd 15) := ⟨⟨g15, _, fun_mk m15 d15 e15, ⟨b15, i15, e15⟩⟩⟩
  have M16 : Dm K R "statement" "Reader.statement" (rd 16) := ⟨⟨g16, _, fun_mk m16 d16 e16, ⟨b16, i16, e16⟩⟩⟩
  have M17 : Dm K R "new_worth" "Reader.new_worth" (rd 17) := ⟨⟨g17, _, fun_mk m17 d17 e17, ⟨b17, i17, e17⟩⟩⟩
  have M18 : Dm K R "choice" "Reader.choice" (rd 18) := ⟨⟨g18, _, fun_mk m18 d18 e18, ⟨b18, i18, e18⟩⟩⟩
  have M19 : Dm K R "loop" "Reader.loop" (rd 19) := ⟨⟨g19, _, fun_mk m19 d19 e19, ⟨b19, i19, e19⟩⟩⟩
  have M20 : Dm K R "attempt" "Reader.attempt" (rd 20) := ⟨⟨g20, _, fun_mk m20 d20 e20, ⟨b20, i20, e20⟩⟩⟩
  have M21 : Dm K R "expressions" "Reader.expressions" (rd 21) := ⟨⟨g21, _, fun_mk m21 d21 e21, ⟨b21, i21, e21⟩⟩⟩
  have M22 : Dm K R "expression" "Reader.expression" (rd 22) := ⟨⟨g22, _, fun_mk m22 d22 e22, ⟨b22, i22, e22⟩⟩⟩
  have M23 : Dm K R "sending" "Reader.sending" (rd 23) := ⟨⟨g23, _, fun_mk m23 d23 e23, ⟨b23, i23, e23⟩⟩⟩
  have M24 : Dm K R "listing" "Reader.listing" (rd 24) := ⟨⟨g24, _, fun_mk m24 d24 e24, ⟨b24, i24, e24⟩⟩⟩
  have M25 : Dm K R "block" "Reader.block" (rd 25) := ⟨⟨g25, _, fun_mk m25 d25 e25, ⟨b25, i25, e25⟩⟩⟩
  have P1 : Dm K CP "_place_of" "Page._place_of" (pgm 1) := ⟨⟨gq1, _, fun_mk mq1 dq1 eq1, ⟨bq1, iq1, eq1⟩⟩⟩
  have P2 : Dm K CP "place" "Page.place" (pgm 2) := ⟨⟨gq2, _, fun_mk mq2 dq2 eq2, ⟨bq2, iq2, eq2⟩⟩⟩
  have P3 : Dm K CP "method_place" "Page.method_place" (pgm 3) := ⟨⟨gq3, _, fun_mk mq3 dq3 eq3, ⟨bq3, iq3, eq3⟩⟩⟩
  have P4 : Dm K CP "node_places" "Page.node_places" (pgm 4) := ⟨⟨gq4, _, fun_mk mq4 dq4 eq4, ⟨bq4, iq4, eq4⟩⟩⟩
  have TS : TxS K mg := { len := PySem.W.mg_none_of X G zlen, all := PySem.W.mg_none_of X G zall, mn := PySem.W.mg_none_of X G zmin, tup := PySem.W.mg_none_of X G ztup, int := PySem.W.mg_none_of X G zint, str := PySem.W.mg_none_of X G zstr, enum := PySem.W.mg_none_of X G zenum, big := ⟨_, PySem.W.mg_of X G vbig, ⟨_, rfl⟩⟩, rows := ⟨_, PySem.W.mg_of X G vrows, ⟨_, rfl⟩⟩, cols := ⟨_, PySem.W.mg_of X G vcols, ⟨_, rfl⟩⟩, tsig := ⟨_, PySem.W.mg_of X G vtsig, ⟨_, rfl⟩⟩, nsig := ⟨_, PySem.W.mg_of X G vnsig, ⟨_, rfl⟩⟩, small := ⟨_, PySem.W.mg_of X G vsmall, ⟨_, by rw [esmall]⟩⟩, ssig := ⟨_, PySem.W.mg_of X G vssig, ⟨_, by rw [essig]⟩⟩, ksig := ⟨_, PySem.W.mg_of X G vksig, ⟨_, by rw [eksig]⟩⟩, caps := ⟨_, PySem.W.mg_of X G vcaps, ⟨_, by rw [ecaps]⟩⟩, figs := ⟨_, PySem.W.mg_of X G vfigs, ⟨_, by rw [efigs]⟩⟩, texts := ⟨_, PySem.W.mg_of X G vtexts, ⟨_, by rw [etexts]⟩⟩, br := ⟨_, PySem.W.mg_of X G vbr, fun _ => .inr ⟨_, _, _, lbr, ybr, wbr, sbr, ubr⟩⟩, marks := ⟨_, PySem.W.mg_of X G vmarks, fun _ => .inr ⟨_, _, _, lmarks, ymarks, wmarks, smarks, umarks⟩⟩, kept := ⟨_, PySem.W.mg_of X G vkept, fun _ => .inr ⟨_, _, _, lkept, ykept, wkept, skept, ukept⟩⟩ }
  have mPL : GT K mg "PLAIN_STATEMENTS" PLq := ⟨_, PySem.W.mg_of X G vpls, fun _ => .inr ⟨_, _, _, lpls, ypls, wpls, spls, upls⟩⟩
  have mMS : GT K mg "MESSAGE_MARKS" MSGs := ⟨_, PySem.W.mg_of X G vmsg, fun _ => .inr ⟨_, _, _, lmsg, ymsg, wmsg, smsg, umsg⟩⟩
  have mMO : GI mg "MOST_OPEN" 12 := ⟨_, PySem.W.mg_of X G vmo, ⟨_, rfl⟩⟩
  have TL_ : TxL mg := ⟨PySem.W.mg_none_of X G zrange, PySem.W.mg_none_of X G zmin⟩
  have TE : TxE K mg S CF fI fS := { gS := PySem.W.mg_of X G aS, gC := PySem.W.mg_of X G aF, gV := PySem.W.mg_none_of X G zVE, vV := vV, rS := ⟨rdS, gaS⟩, fndS := fS_, kS := kS, oC := ⟨⟨nm, q, N, bs, bm, sn, sub, ab, col, dd, m0_, m1_, m2_, m3_, m5_, xF, xB⟩, sF, eF, tF, kF⟩, iC := iF, tI := tI_, n1 := nF0, n2 := nF1, n3 := nF2, n4 := nF3, dS := ⟨_, ⟨⟨_, _, _, _, _, _, _, _, _, _, rfl, lS, cS, .inr ⟨by simp, T, tO, tI, tn, rfl, lT, dT, vT⟩, .inl rfl⟩, kS⟩⟩, dI := ⟨_, fun_mk lI cI kI⟩, xf := ⟨gF, ggF, eF, hF⟩, te := exm_self eF isF tF ssF }
  have TR : TxR K mg R := ⟨⟨pgR, hdR, poR, saR⟩, nR0, nR1, nR2, nR3, nR4, nR5, nR6, nR7, nR8⟩
  have TP : TxP K mg CP := ⟨⟨pgP, hdP, poP, saP⟩, nP0, nP1, nP2, nP3, nP4⟩
  have hKF : f7 ≠ f6 := fun z => by
    have e : K.lookup f7 ≠ K.lookup f6 := by
      rw [l7, l6]
      exact two_places (show (Str.ofString "is_kind_name") ≠ (Str.ofString "is_free") by decide +kernel)
    exact e (by rw [z])
  have hMF : f13 ≠ f6 := fun z => by
    have e : K.lookup f13 ≠ K.lookup f6 := by
      rw [l13, l6]
      exact two_places (show (Str.ofString "is_message") ≠ (Str.ofString "is_free") by decide +kernel)
    exact e (by rw [z])
  have hMK : f13 ≠ f7 := fun z => by
    have e : K.lookup f13 ≠ K.lookup f7 := by
      rw [l13, l7]
      exact two_places (show (Str.ofString "is_message") ≠ (Str.ofString "is_kind_name") by decide +kernel)
    exact e (by rw [z])
  have hXF : f14 ≠ f6 := fun z => by
    have e : K.lookup f14 ≠ K.lookup f6 := by
      rw [l14, l6]
      exact two_places (show (Str.ofString "is_free_field") ≠ (Str.ofString "is_free") by decide +kernel)
    exact e (by rw [z])
  have hXK : f14 ≠ f7 := fun z => by
    have e : K.lookup f14 ≠ K.lookup f7 := by
      rw [l14, l7]
      exact two_places (show (Str.ofString "is_free_field") ≠ (Str.ofString "is_kind_name") by decide +kernel)
    exact e (by rw [z])
  have hXM : f14 ≠ f13 := fun z => by
    have e : K.lookup f14 ≠ K.lookup f13 := by
      rw [l14, l13]
      exact two_places (show (Str.ofString "is_free_field") ≠ (Str.ofString "is_message") by decide +kernel)
    exact e (by rw [z])
  have TF : TxF mg f6 f7 f13 f14 := ⟨PySem.W.mg_of X G a6, PySem.W.mg_of X G a7, PySem.W.mg_of X G a13, PySem.W.mg_of X G a14, hKF, hMF, hMK, hXF, hXK, hXM⟩
  have TQ : TxQ K CP gq6 gq5 := ⟨bq6, iq6, bq5, iq5, nfP⟩
  have IC : C8.InsC K CP := ⟨⟨pgP, hdP, poP, saP⟩, haP, hnP, tkP, moP, meP⟩
  refine ⟨PySem.W.fnOf "law" "law" (defArgs sLaw) (defBody sLaw) (defScope sLaw) .none kV37 dc37 pm37 an37 cd37 ct37, fun s v => .of_eq rfl, fun base _ _ => ?_⟩
  have Ghas : C0 l.prog w K mg base 1 "has_only" spHas := c_has TS D11
  have Gname : C0 l.prog w K mg base 2 "is_name" spName := c_name TS D8 Ghas
  have Gsmall : C0 l.prog w K mg base 3 "is_small" (spB isSmall) := c_small TS D5 Gname
  have Gkind : C0 l.prog w K mg base 3 "is_kind_name" (spB isKindName) := c_kind TS D7 Gname
  have Gtext : C0 l.prog w K mg base 2 "is_text" (spB isText) := c_text TS D9 Ghas
  have Gfree : C0 l.prog w K mg base 4 "is_free" (spB isFree) := c_free TS D6 Gsmall
  have Gnum : C0 l.prog w K mg base 2 "is_number" (spB isNum) := c_num TS D10 Ghas
  have Gword : C0 l.prog w K mg base 4 "is_word" (spB isWord) := c_word TS D4 Gsmall Gkind Gtext Gnum
  have Grow : C0 l.prog w K mg base 1 "words_of_row" spRow := c_row TS D1
  have Gwrong : C0 l.prog w K mg base 5 "wrong_column" spWrong := c_wrong TS D2 Gword
  have Gscan : C0 l.prog w K mg base 6 "scanned" spScan := c_scan TS D0 Grow Gwrong
  have Gep : C0 l.prog w K mg base 1 "end_place" spEP := c_ep TS D3
  have Gff : C0 l.prog w K mg base 5 "is_free_field" (spB isFF) := c_ff D14 Gfree
  have Gmsg : C0 l.prog w K mg base 5 "is_message" (spB isMsg) := c_msg mMS D13 Gfree
  have Gleaf : C0 l.prog w K mg base 6 "leaf" nLeaf := n_leaf TS D15 Gnum Gfree Gff
  have Gro : C0 l.prog w K mg base 7 "reader_of" (spRO R) := c_ro TR D12 ⟨g0, _, ⟨mkR, b0, i0, kcR⟩, fun_mk m0 d0 e0⟩ (PySem.W.mg_of X G aR) Gscan Gep
  have Nrs : M0 l.prog w K mg base R 4 "refuse_stop" (nRS R CF) := n_rs TR TE M2
  have Nref : M0 l.prog w K mg base R 4 "refuse" (nRef R CF) := n_ref TR TE M3
  have Nwd : M0 l.prog w K mg base R 5 "word" (nWd R CF) := n_wd TR TS M1 Nrs
  have Nskip : M0 l.prog w K mg base R 6 "skip" (nSkip R CF) := n_skip TR M4 Nwd Nref
  have A : ∀ f sp, Sq f6 f7 f13 f14 f = some sp → Held l.prog w K mg base 5 f sp := fun f sp hs => by
    unfold Sq at hs
    obtain ⟨fa1, fda, psa, Fa, ma, ka, ba⟩ := Gfree.ex
    have ea : fa1 = f6 := by
      have := ma.symm.trans (PySem.W.mg_of X G a6)
      injection this with this
      injection this
    obtain ⟨fb1, fdb, psb, Fb, mb, kb, bb⟩ := Gkind.ex
    have eb : fb1 = f7 := by
      have := mb.symm.trans (PySem.W.mg_of X G a7)
      injection this with this
      injection this
    obtain ⟨fc1, fdc, psc, Fc, mc, kc, bc⟩ := Gmsg.ex
    have ec : fc1 = f13 := by
      have := mc.symm.trans (PySem.W.mg_of X G a13)
      injection this with this
      injection this
    obtain ⟨fd1, fdd, psd, Fd, md, kd, bd⟩ := Gff.ex
    have ed : fd1 = f14 := by
      have := md.symm.trans (PySem.W.mg_of X G a14)
      injection this with this
      injection this
    by_cases q0 : f = f6
    · rw [if_pos q0] at hs
      obtain rfl := Option.some.inj hs
      rw [q0, ← ea]
      exact ⟨fda, psa, Fa.mono (by decide), ka, ba⟩
    rw [if_neg q0] at hs
    by_cases q1 : f = f7
    · rw [if_pos q1] at hs
      obtain rfl := Option.some.inj hs
      rw [q1, ← eb]
      exact ⟨fdb, psb, Fb.mono (by decide), kb, bb⟩
    rw [if_neg q1] at hs
    by_cases q2 : f = f13
    · rw [if_pos q2] at hs
      obtain rfl := Option.some.inj hs
      rw [q2, ← ec]
      exact ⟨fdc, psc, Fc.mono (by decide), kc, bc⟩
    rw [if_neg q2] at hs
    by_cases q3 : f = f14
    · rw [if_pos q3] at hs
      obtain rfl := Option.some.inj hs
      rw [q3, ← ed]
      exact ⟨fdd, psd, Fd.mono (by decide), kd, bd⟩
    rw [if_neg q3] at hs
    cases hs
  have Ntake : M0 l.prog w K mg base R 6 "take" (nTake R CF (Sq f6 f7 f13 f14)) := n_take TR M5 A Nwd Nref
  have Nent : M0 l.prog w K mg base R 5 "enter" (nEnter R CF) := n_enter TR mMO M6 Nref
  have Nlv : M0 l.prog w K mg base R 1 "leave" (nLeave R) := n_leave TR M7
  have Nfw : M0 l.prog w K mg base R 7 "free_words" (nFw R CF) := n_fw TR TS TF M14 Nwd Ntake
  have DR : DmR K R := ⟨M15, M16, M17, M18, M19, M20, M21, M22, M23, M24, M25⟩
  have RB : RdS l.prog w K mg base R CF f6 f7 f13 f14 := ⟨Nwd, Nref, Nskip, Ntake, Nent, Nlv, Nfw, Gleaf⟩
  obtain ⟨_, _, Nss⟩ := knot TR TS TF mPL DR RB 12
  have Nme : M0 l.prog w K mg base R 73 "method" (nMe R CF) := n_me (k := 72) (by decide) TR TS TF M13 RB Nss
  have Nms : M0 l.prog w K mg base R 74 "methods" (nMs_ R CF) := n_ms (k := 73) (by decide) TR TS M12 RB Nme
  have Nkd : M0 l.prog w K mg base R 75 "kind" (nKd R CF (tk "kind")) := n_kd (k := 74) (by decide) TR TS TF M10 RB Nms
  have Nmo : M0 l.prog w K mg base R 75 "more" (nKd R CF []) := n_mo (k := 74) (by decide) TR TF M11 RB Nms
  have Ntr : M0 l.prog w K mg base R 76 "tree" (nTr R CF) := n_tr (k := 75) (by decide) TR TS M9 RB Nkd Nmo
  have Npt : M0 l.prog w K mg base R 77 "page_trees" (nPT R CF) := n_pt (k := 76) (by decide) TR TS M8 Ntr Nrs
  have FP := fun_mk (x := "__init__") (qual := "Page.__init__") (st := pgm 0) mq0 dq0 eq0
  have GP := (n_pg (P := l.prog) (w := w) (base := base) (k := 77) (by decide) TP TR TS FP Gro Npt).mono (show 78 ≤ 88 by decide)
  have bP := FP.binds (ps := ["self", "name", "text"]) fun _ _ _ _ _ _ us hl => match us, hl with | [_, _, _], _ => rfl
  have FQ := fun_mk (x := "__eq__") (qual := "Page.__eq__") (st := pgm 6) mq6 dq6 eq6
  have GQ := p_eq (P := l.prog) (w := w) (base := base) TP IC ksP (PySem.W.mg_none_of X G zisi) (PySem.W.mg_of X G aP) FQ
  have bQ := FQ.binds (ps := ["self", "other"]) fun _ _ _ _ _ _ us hl => match us, hl with | [_, _], _ => rfl
  have FT := fun_mk (x := "__str__") (qual := "Page.__str__") (st := pgm 5) mq5 dq5 eq5
  have GT_ := p_str (P := l.prog) (w := w) (base := base) TP TS FT
  have bT := FT.binds (ps := ["self"]) fun _ _ _ _ _ _ us hl => match us, hl with | [_], _ => rfl
  have Qpo : MP l.prog w K mg base CP 1 "_place_of" (nPO CP) := p_po TP P1
  have Qpl : MP l.prog w K mg base CP 2 "place" (nPl CP) := p_pl TP P2 Qpo
  have Qmp : MP l.prog w K mg base CP 2 "method_place" (nMp CP) := p_mp TP P3 Qpo
  have Qnp : MP l.prog w K mg base CP 2 "node_places" (nNp CP) := p_np TP TS P4 Qpo
  have GD : C0 l.prog w K mg base 1 "_law_deck" (spDeck K) := c_deck TS TL_ D16
  have GN : C0 l.prog w K mg base 1 "_law_next" spNext := c_next TS D17
  have Glw : C0 l.prog w K mg base 1 "_law_word" (spLWord isFree) := c_lword D18
  have Gln : C0 l.prog w K mg base 1 "_law_name" (spLWord isKindName) := c_lname D19
  have Gll : C0 l.prog w K mg base 2 "_law_leaf" spLLeaf := c_lleaf Glw Gln D20
  have GM : ∀ d, d ≤ 12 → C0 l.prog w K mg base 43 "_law_method" (spGM d) := fun d hd => by
    obtain ⟨_, _, GB⟩ := gen_all (P := l.prog) (w := w) (base := base) TS TL_ D22 D21 D23 D24 GN Glw Gll d
    exact c_gm (k := 42) (by decide) TS TL_ D25 GN Glw (GB.mono (by omega))
  have GTr : C0 l.prog w K mg base 44 "_law_trees" spGT := c_gt (k := 43) (by decide) TS TL_ D26 GN Glw Gln GM
  have Gwl : C0 l.prog w K mg base 1 "_law_leaf_word" spWLeaf := c_wleaf TS D27
  have GpT : C0 l.prog w K mg base 1 "_law_plain" spWPlT := c_wplT D29
  have GpL : C0 l.prog w K mg base 1 "_law_plain" spWPlL := c_wplL D29
  obtain ⟨_, _, Gcl⟩ := knotW (P := l.prog) (w := w) (base := base) TS D31 D28 D30 Gwl GpT 12
  have Gwm : C0 l.prog w K mg base 60 "_law_method_words" spWMe := c_wme (k := 59) (by decide) TS (PySem.W.mg_none_of X G zlist) D32 GpL Gcl
  have Gwt : C0 l.prog w K mg base 61 "_law_tree_words" spWTr := c_wtr (k := 60) (by decide) TS D33 GpL Gwm
  have Gla : C0 l.prog w K mg base 2 "_law_laid" spLaid := c_laid TS TL_ D34 GN
  have Gpl : C0 l.prog w K mg base 61 "_law_places" spPl := c_pl (k := 60) (by decide) TS TL_ D35 Gwm
  have Grt : C0 l.prog w K mg base 62 "_law_right" (spRt CP) := c_rt (k := 61) (by decide) TS TL_ TP D36 Gpl Qpl Qmp Qnp
  exact ok_law (fun_mk l37 c37 k37) TS TL_ TP TQ (PySem.W.mg_none_of X G zisi) (PySem.W.mg_of X G aP) GD GN (GTr.mono (by decide)) (Gwt.mono (by decide)) Gla (Grt.mono (by decide)) ⟨mkP, bq0, iq0, kcP⟩ GP bP GQ bQ GT_ bT
end My
open PySem PySem.W PyProof.Rows in
set_option maxRecDepth 100000 in
set_option maxHeartbeats 0 in
theorem PySem.Challenge.cw_sendstead_k03_whole_pages_read_holds : PySem.Challenge.rw_sendstead_k03_whole_pages_read.Holds := by
  w_on; o_law; k_head; (case hw => w_witness2)
  k_fill
  refine L2.walk_of (l := PySem.Challenge.rw_sendstead_k03_whole_pages_read) (n := 63) (k := 90) (x := "_law_script") (CX := fun _ => L2.CX0) (sp := fun w => My.spLaw _) rfl (by decide) rfl ⟨rfl, by decide, by decide⟩ (fun w h Y => PySem.W.kIn_of Y) ?F (fun _ _ a ns hl _ hS => ⟨a, ns, rfl, hS, hl, fun _ => rfl⟩) fun _ _ _ _ _ z => z
  case F =>
    intro w mg fa h KX G hmg
    refine' My.all_mk KX G hmg ?a0 ?l0 ?c0 ?k0 ?a1 ?l1 ?c1 ?k1 ?a2 ?l2 ?c2 ?k2 ?a3 ?l3 ?c3 ?k3 ?a4 ?l4 ?c4 ?k4 ?a5 ?l5 ?c5 ?k5 ?a6 ?l6 ?c6 ?k6 ?a7 ?l7 ?c7 ?k7 ?a8 ?l8 ?c8 ?k8 ?a9 ?l9 ?c9 ?k9 ?a10 ?l10 ?c10 ?k10 ?a11 ?l11 ?c11 ?k11 ?a12 ?l12 ?c12 ?k12 ?a13 ?l13 ?c13 ?k13 ?a14 ?l14 ?c14 ?k14 ?a15 ?l15 ?c15 ?k15 ?a16 ?l16 ?c16 ?k16 ?a17 ?l17 ?c17 ?k17 ?a18 ?l18 ?c18 ?k18 ?a19 ?l19 ?c19 ?k19 ?a20 ?l20 ?c20 ?k20 ?a21 ?l21 ?c21 ?k21 ?a22 ?l22 ?c22 ?k22 ?a23 ?l23 ?c23 ?k23 ?a24 ?l24 ?c24 ?k24 ?a25 ?l25 ?c25 ?k25 ?a26 ?l26 ?c26 ?k26 ?a27 ?l27 ?c27 ?k27 ?a28 ?l28 ?c28 ?k28 ?a29 ?l29 ?c29 ?k29 ?a30 ?l30 ?c30 ?k30 ?a31 ?l31 ?c31 ?k31 ?a32 ?l32 ?c32 ?k32 ?a33 ?l33 ?c33 ?k33 ?a34 ?l34 ?c34 ?k34 ?a35 ?l35 ?c35 ?k35 ?a36 ?l36 ?c36 ?k36 ?a37 ?l37 ?c37 ?k37 ?aR ?aP ?aS ?aF ?pgR ?hdR ?poR ?saR ?mkR ?kcR ?pgP ?hdP ?poP ?saP ?mkP ?kcP ?nR0 ?nR1 ?nR2 ?nR3 ?nR4 ?nR5 ?nR6 ?nR7 ?nR8 ?nP0 ?nP1 ?nP2 ?nP3 ?nP4 ?haP ?hnP ?tkP ?moP ?meP ?ksP ?nfP ?b0 ?i0 ?m0 ?d0 ?e0 ?b1 ?i1 ?m1 ?d1 ?e1 ?b2 ?i2 ?m2 ?d2 ?e2 ?b3 ?i3 ?m3 ?d3 ?e3 ?b4 ?i4 ?m4 ?d4 ?e4 ?b5 ?i5 ?m5 ?d5 ?e5 ?b6 ?i6 ?m6 ?d6 ?e6 ?b7 ?i7 ?m7 ?d7 ?e7 ?b8 ?i8 ?m8 ?d8 ?e8 ?b9 ?i9 ?m9 ?d9 ?e9 ?b10 ?i10 ?m10 ?d10 ?e10 ?b11 ?i11 ?m11 ?d11 ?e11 ?b12 ?i12 ?m12 ?d12 ?e12 ?b13 ?i13 ?m13 ?d13 ?e13 ?b14 ?i14 ?m14 ?d14 ?e14 ?b15 ?i15 ?m15 ?d15 ?e15 ?b16 ?i16 ?m16 ?d16 ?e16 ?b17 ?i17 ?m17 ?d17 ?e17 ?b18 ?i18 ?m18 ?d18 ?e18 ?b19 ?i19 ?m19 ?d19 ?e19 ?b20 ?i20 ?m20 ?d20 ?e20 ?b21 ?i21 ?m21 ?d21 ?e21 ?b22 ?i22 ?m22 ?d22 ?e22 ?b23 ?i23 ?m23 ?d23 ?e23 ?b24 ?i24 ?m24 ?d24 ?e24 ?b25 ?i25 ?m25 ?d25 ?e25 ?bq0 ?iq0 ?mq0 ?dq0 ?eq0 ?bq1 ?iq1 ?mq1 ?dq1 ?eq1 ?bq2 ?iq2 ?mq2 ?dq2 ?eq2 ?bq3 ?iq3 ?mq3 ?dq3 ?eq3 ?bq4 ?iq4 ?mq4 ?dq4 ?eq4 ?bq5 ?iq5 ?mq5 ?dq5 ?eq5 ?bq6 ?iq6 ?mq6 ?dq6 ?eq6 ?xF ?xB ?sF ?gF ?ggF ?eF ?tF ?kF ?hF ?isF ?ssF ?nF0 ?nF1 ?nF2 ?nF3 ?iF ?tI_ ?lI ?cI ?kI ?vV ?rdS ?gaS ?fS_ ?kS ?lS ?cS ?lT ?dT ?vT ?zlen ?zall ?zmin ?ztup ?zint ?zstr ?zenum ?zrange ?zVE ?vbig ?vrows ?vcols ?vtsig ?vnsig ?vssig ?essig ?vksig ?eksig ?vsmall ?esmall ?vcaps ?ecaps ?vfigs ?efigs ?vtexts ?etexts ?vbr ?lbr ?ybr ?wbr ?sbr ?ubr ?vmarks ?lmarks ?ymarks ?wmarks ?smarks ?umarks ?vkept ?lkept ?ykept ?wkept ?skept ?ukept ?vpls ?lpls ?ypls ?wpls ?spls ?upls ?zisi ?zlist ?vmo ?vmsg ?lmsg ?ymsg ?wmsg ?smsg ?umsg
    (case a0 => k_is)
    (case l0 => k_is)
    (case c0 => k_is)
    (case k0 => k_is)
    (case a1 => k_is)
    (case l1 => k_is)
    (case c1 => k_is)
    (case k1 => k_is)
    (case a2 => k_is)
    (case l2 => k_is)
    (case c2 => k_is)
    (case k2 => k_is)
    (case a3 => k_is)
    (case l3 => k_is)
    (case c3 => k_is)
    (case k3 => k_is)
    (case a4 => k_is)
    (case l4 => k_is)
    (case c4 => k_is)
    (case k4 => k_is)
    (case a5 => k_is)
    (case l5 => k_is)
    (case c5 => k_is)
    (case k5 => k_is)
    (case a6 => k_is)
    (case l6 => k_is)
    (case c6 => k_is)
    (case k6 => k_is)
    (case a7 => k_is)
    (case l7 => k_is)
    (case c7 => k_is)
    (case k7 => k_is)
    (case a8 => k_is)
    (case l8 => k_is)
    (case c8 => k_is)
    (case k8 => k_is)
    (case a9 => k_is)
    (case l9 => k_is)
    (case c9 => k_is)
    (case k9 => k_is)
    (case a10 => k_is)
    (case l10 => k_is)
    (case c10 => k_is)
    (case k10 => k_is)
    (case a11 => k_is)
    (case l11 => k_is)
    (case c11 => k_is)
    (case k11 => k_is)
    (case a12 => k_is)
    (case l12 => k_is)
    (case c12 => k_is)
    (case k12 => k_is)
    (case a13 => k_is)
    (case l13 => k_is)
    (case c13 => k_is)
    (case k13 => k_is)
    (case a14 => k_is)
    (case l14 => k_is)
    (case c14 => k_is)
    (case k14 => k_is)
    (case a15 => k_is)
    (case l15 => k_is)
    (case c15 => k_is)
    (case k15 => k_is)
    (case a16 => k_is)
    (case l16 => k_is)
    (case c16 => k_is)
    (case k16 => k_is)
    (case a17 => k_is)
    (case l17 => k_is)
    (case c17 => k_is)
    (case k17 => k_is)
    (case a18 => k_is)
    (case l18 => k_is)
    (case c18 => k_is)
    (case k18 => k_is)
    (case a19 => k_is)
    (case l19 => k_is)
    (case c19 => k_is)
    (case k19 => k_is)
    (case a20 => k_is)
    (case l20 => k_is)
    (case c20 => k_is)
    (case k20 => k_is)
    (case a21 => k_is)
    (case l21 => k_is)
    (case c21 => k_is)
    (case k21 => k_is)
    (case a22 => k_is)
    (case l22 => k_is)
    (case c22 => k_is)
    (case k22 => k_is)
    (case a23 => k_is)
    (case l23 => k_is)
    (case c23 => k_is)
    (case k23 => k_is)
    (case a24 => k_is)
    (case l24 => k_is)
    (case c24 => k_is)
    (case k24 => k_is)
    (case a25 => k_is)
    (case l25 => k_is)
    (case c25 => k_is)
    (case k25 => k_is)
    (case a26 => k_is)
    (case l26 => k_is)
    (case c26 => k_is)
    (case k26 => k_is)
    (case a27 => k_is)
    (case l27 => k_is)
    (case c27 => k_is)
    (case k27 => k_is)
    (case a28 => k_is)
    (case l28 => k_is)
    (case c28 => k_is)
    (case k28 => k_is)
    (case a29 => k_is)
    (case l29 => k_is)
    (case c29 => k_is)
    (case k29 => k_is)
    (case a30 => k_is)
    (case l30 => k_is)
    (case c30 => k_is)
    (case k30 => k_is)
    (case a31 => k_is)
    (case l31 => k_is)
    (case c31 => k_is)
    (case k31 => k_is)
    (case a32 => k_is)
    (case l32 => k_is)
    (case c32 => k_is)
    (case k32 => k_is)
    (case a33 => k_is)
    (case l33 => k_is)
    (case c33 => k_is)
    (case k33 => k_is)
    (case a34 => k_is)
    (case l34 => k_is)
    (case c34 => k_is)
    (case k34 => k_is)
    (case a35 => k_is)
    (case l35 => k_is)
    (case c35 => k_is)
    (case k35 => k_is)
    (case a36 => k_is)
    (case l36 => k_is)
    (case c36 => k_is)
    (case k36 => k_is)
    (case a37 => k_is)
    (case l37 => k_is)
    (case c37 => k_is)
    (case k37 => k_is)
    (case aR => k_is)
    (case aP => k_is)
    (case aS => k_is)
    (case aF => k_is)
    (case pgR => k_is)
    (case hdR => k_is)
    (case poR => k_is)
    (case saR => k_is)
    (case mkR => k_is)
    (case kcR => k_is)
    (case pgP => k_is)
    (case hdP => k_is)
    (case poP => k_is)
    (case saP => k_is)
    (case mkP => k_is)
    (case kcP => k_is)
    (case nR0 => k_is)
    (case nR1 => k_is)
    (case nR2 => k_is)
    (case nR3 => k_is)
    (case nR4 => k_is)
    (case nR5 => k_is)
    (case nR6 => k_is)
    (case nR7 => k_is)
    (case nR8 => k_is)
    (case nP0 => k_is)
    (case nP1 => k_is)
    (case nP2 => k_is)
    (case nP3 => k_is)
    (case nP4 => k_is)
    (case haP => k_is)
    (case hnP => k_is)
    (case tkP => k_is)
    (case moP => k_is)
    (case meP => first | k_is | (decide +kernel) | rfl | kernel_rfl)
    (case ksP => first | k_is | (decide +kernel) | rfl | kernel_rfl)
    (case nfP => first | k_is | (decide +kernel) | rfl | kernel_rfl)
    (case b0 => k_is)
    (case i0 => k_is)
    (case m0 => k_is)
    (case d0 => k_is)
    (case e0 => k_is)
    (case b1 => k_is)
    (case i1 => k_is)
    (case m1 => k_is)
    (case d1 => k_is)
    (case e1 => k_is)
    (case b2 => k_is)
    (case i2 => k_is)
    (case m2 => k_is)
    (case d2 => k_is)
    (case e2 => k_is)
    (case b3 => k_is)
    (case i3 => k_is)
    (case m3 => k_is)
    (case d3 => k_is)
    (case e3 => k_is)
    (case b4 => k_is)
    (case i4 => k_is)
    (case m4 => k_is)
    (case d4 => k_is)
    (case e4 => k_is)
    (case b5 => k_is)
    (case i5 => k_is)
    (case m5 => k_is)
    (case d5 => k_is)
    (case e5 => k_is)
    (case b6 => k_is)
    (case i6 => k_is)
    (case m6 => k_is)
    (case d6 => k_is)
    (case e6 => k_is)
    (case b7 => k_is)
    (case i7 => k_is)
    (case m7 => k_is)
    (case d7 => k_is)
    (case e7 => k_is)
    (case b8 => k_is)
    (case i8 => k_is)
    (case m8 => k_is)
    (case d8 => k_is)
    (case e8 => k_is)
    (case b9 => k_is)
    (case i9 => k_is)
    (case m9 => k_is)
    (case d9 => k_is)
    (case e9 => k_is)
    (case b10 => k_is)
    (case i10 => k_is)
    (case m10 => k_is)
    (case d10 => k_is)
    (case e10 => k_is)
    (case b11 => k_is)
    (case i11 => k_is)
    (case m11 => k_is)
    (case d11 => k_is)
    (case e11 => k_is)
    (case b12 => k_is)
    (case i12 => k_is)
    (case m12 => k_is)
    (case d12 => k_is)
    (case e12 => k_is)
    (case b13 => k_is)
    (case i13 => k_is)
    (case m13 => k_is)
    (case d13 => k_is)
    (case e13 => k_is)
    (case b14 => k_is)
    (case i14 => k_is)
    (case m14 => k_is)
    (case d14 => k_is)
    (case e14 => k_is)
    (case b15 => k_is)
    (case i15 => k_is)
    (case m15 => k_is)
    (case d15 => k_is)
    (case e15 => k_is)
    (case b16 => k_is)
    (case i16 => k_is)
    (case m16 => k_is)
    (case d16 => k_is)
    (case e16 => k_is)
    (case b17 => k_is)
    (case i17 => k_is)
    (case m17 => k_is)
    (case d17 => k_is)
    (case e17 => k_is)
    (case b18 => k_is)
    (case i18 => k_is)
    (case m18 => k_is)
    (case d18 => k_is)
    (case e18 => k_is)
    (case b19 => k_is)
    (case i19 => k_is)
    (case m19 => k_is)
    (case d19 => k_is)
    (case e19 => k_is)
    (case b20 => k_is)
    (case i20 => k_is)
    (case m20 => k_is)
    (case d20 => k_is)
    (case e20 => k_is)
    (case b21 => k_is)
    (case i21 => k_is)
    (case m21 => k_is)
    (case d21 => k_is)
    (case e21 => k_is)
    (case b22 => k_is)
    (case i22 => k_is)
    (case m22 => k_is)
    (case d22 => k_is)
    (case e22 => k_is)
    (case b23 => k_is)
    (case i23 => k_is)
    (case m23 => k_is)
    (case d23 => k_is)
    (case e23 => k_is)
    (case b24 => k_is)
    (case i24 => k_is)
    (case m24 => k_is)
    (case d24 => k_is)
    (case e24 => k_is)
    (case b25 => k_is)
    (case i25 => k_is)
    (case m25 => k_is)
    (case d25 => k_is)
    (case e25 => k_is)
    (case bq0 => k_is)
    (case iq0 => k_is)
    (case mq0 => k_is)
    (case dq0 => k_is)
    (case eq0 => k_is)
    (case bq1 => k_is)
    (case iq1 => k_is)
    (case mq1 => k_is)
    (case dq1 => k_is)
    (case eq1 => k_is)
    (case bq2 => k_is)
    (case iq2 => k_is)
    (case mq2 => k_is)
    (case dq2 => k_is)
    (case eq2 => k_is)
    (case bq3 => k_is)
    (case iq3 => k_is)
    (case mq3 => k_is)
    (case dq3 => k_is)
    (case eq3 => k_is)
    (case bq4 => k_is)
    (case iq4 => k_is)
    (case mq4 => k_is)
    (case dq4 => k_is)
    (case eq4 => k_is)
    (case bq5 => k_is)
    (case iq5 => k_is)
    (case mq5 => k_is)
    (case dq5 => k_is)
    (case eq5 => k_is)
    (case bq6 => k_is)
    (case iq6 => k_is)
    (case mq6 => k_is)
    (case dq6 => k_is)
    (case eq6 => k_is)
    (case xF => k_is)
    (case xB => first | rfl | decide +kernel | kernel_rfl)
    (case sF => k_is)
    (case gF => k_is)
    (case ggF => k_is)
    (case eF => k_is)
    (case tF => k_is)
    (case kF => k_is)
    (case hF => k_is)
    (case isF => k_is)
    (case ssF => k_is)
    (case nF0 => k_is)
    (case nF1 => k_is)
    (case nF2 => k_is)
    (case nF3 => k_is)
    (case iF => k_is)
    (case tI_ => k_is)
    (case lI => k_is)
    (case cI => k_is)
    (case kI => k_is)
    (case vV => k_is)
    (case rdS => k_is)
    (case gaS => k_is)
    (case fS_ => k_is)
    (case kS => k_is)
    (case lS => k_is)
    (case cS => k_is)
    (case lT => k_is)
    (case dT => first | rfl | kernel_rfl)
    (case vT => exact .cons ⟨_, rfl⟩ .nil)
    (case zlen => k_is)
    (case zall => k_is)
    (case zmin => k_is)
    (case ztup => k_is)
    (case zint => k_is)
    (case zstr => k_is)
    (case zenum => k_is)
    (case zrange => k_is)
    (case zVE => k_is)
    (case vbig => k_is)
    (case vrows => k_is)
    (case vcols => k_is)
    (case vtsig => k_is)
    (case vnsig => k_is)
    (case vssig => k_is)
    (case essig => decide +kernel)
    (case vksig => k_is)
    (case eksig => decide +kernel)
    (case vsmall => k_is)
    (case esmall => decide +kernel)
    (case vcaps => k_is)
    (case ecaps => decide +kernel)
    (case vfigs => k_is)
    (case efigs => decide +kernel)
    (case vtexts => k_is)
    (case etexts => decide +kernel)
    (case vbr => k_is)
    (case lbr => k_is)
    (case ybr => first | rfl | kernel_rfl)
    (case wbr => first | rfl | kernel_rfl)
    (case sbr => decide +kernel)
    (case ubr => exact My.vals_strs _ _ (by decide +kernel))
    (case vmarks => k_is)
    (case lmarks => k_is)
    (case ymarks => first | rfl | kernel_rfl)
    (case wmarks => first | rfl | kernel_rfl)
    (case smarks => decide +kernel)
    (case umarks => exact My.vals_strs _ _ (by decide +kernel))
    (case vkept => k_is)
    (case lkept => k_is)
    (case ykept => first | rfl | kernel_rfl)
    (case wkept => first | rfl | kernel_rfl)
    (case skept => decide +kernel)
    (case ukept => exact My.vals_strs _ _ (by decide +kernel))
    (case vpls => k_is)
    (case lpls => k_is)
    (case ypls => first | rfl | kernel_rfl)
    (case wpls => first | rfl | kernel_rfl)
    (case spls => decide +kernel)
    (case upls => exact My.vals_strs _ _ (by decide +kernel))
    (case zisi => k_is)
    (case zlist => k_is)
    (case vmo => k_is)
    (case vmsg => k_is)
    (case lmsg => k_is)
    (case ymsg => first | rfl | kernel_rfl)
    (case wmsg => first | rfl | kernel_rfl)
    (case smsg => decide +kernel)
    (case umsg => exact My.vals_strs _ _ (by decide +kernel))
