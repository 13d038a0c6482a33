import PyProof.Rows.All
import Wide.All
import OpenK.AllK
import Wide.FinOn
import HandS.ForMost
import HandS.ForExc
import HandS.ExcInit
import HandS.ExcField
import HandS.FStr
import HandS.CallLocal
import HandS.SortKw
import HandS.StrMore
import HandS.Flow
import HandS.CallSlots
import HandS.TupAny
import HandS.ClsMeth
import HandS.Walk
import KE.DataMinMax
import KE.GoesEnumKw
import HandS.IsInst
import HandS.OwnEq
import KE.KCallOwn
import HandS.Star
import HandS.Strs
import KE.IntTextLaws
import HandS.Codes
import HandS.Zip
import HandS.Evl
import KE.KDictPairs
import HandS.DictComp
import HandS.SortInts
import HandS.More
import HandS.SetFor
import KE.KLam
import KE.SortKeyHeap
import KE.SortData
import HandS.Lambda
import PyProof.ReprRoads
import HandS.FStrTup
import HandS.EndTab
import PySem.Challenge.RW_sendstead_k29_sweep_papers
set_option Elab.async false
set_option linter.all false
set_option maxRecDepth 100000
set_option maxHeartbeats 4000000
section
/-! the mathematics of texts, rows and words: plain lists of codes -/
set_option autoImplicit false
namespace SS
abbrev T := List Nat
def BR : T := [40, 41, 123, 125, 91, 93, 124]
def isSep (c : Nat) : Bool := decide (c = 32) || decide (c ∈ BR)
def flush (cur : T) (k : Nat) : List (T × Nat) := if cur = [] then [] else [(cur, k - cur.length)]
/-- the words of what is left of a row, cur being read ahead of column k -/
def rw_ : T → Nat → T → List (T × Nat)
  | cur, k, [] => flush cur k
  | cur, k, c :: r => if isSep c = true then flush cur k ++ (if c = 32 then [] else [([c], k)]) ++ rw_ [] (k + 1) r else rw_ (cur ++ [c]) (k + 1) r
def rowWords (l : T) : List (T × Nat) := rw_ [] 1 l

def SMALL : T := (List.range 26).map (· + 97)
def CAPS : T := (List.range 26).map (· + 65)
def FIGS : T := (List.range 10).map (· + 48)
def TEXTS : T := SMALL ++ CAPS ++ FIGS ++ [95]
def hasOnly (w s : T) : Bool := w.all fun c => decide (c ∈ s)
def isName (w first others : T) : Bool := decide (1 ≤ w.length ∧ w.length ≤ 12) && (decide ((w.getD 0 0) ∈ first) && hasOnly w others)
def isSmall (w : T) : Bool := isName w SMALL (SMALL ++ FIGS)
def isKindName (w : T) : Bool := isName w CAPS (SMALL ++ CAPS ++ FIGS)
def isText (w : T) : Bool := decide (w.length ≤ 40) && hasOnly w TEXTS

/-- one word that is none, or the row too long: the first column -/
def cols (isW : T → Bool) (p : List (T × Nat)) (n : Nat) : List Nat := (p.filter fun q => !isW q.1).map (·.2) ++ (if n > 120 then [121] else [])
def minOf : List Nat → Option Nat
  | [] => none
  | a :: r => match minOf r with
    | none => some a
    | some b => some (if b < a then b else a)
theorem minOf_none : ∀ {l : List Nat}, minOf l = none ↔ l = []
  | [] => by simp [minOf]
  | a :: r => by
    simp only [minOf]
    split <;> simp
theorem minOf_some : ∀ {l : List Nat} {m : Nat}, minOf l = some m ↔ m ∈ l ∧ ∀ y ∈ l, m ≤ y
  | [], m => by simp [minOf]
  | a :: r, m => by
    simp only [minOf]
    cases e : minOf r with
    | none =>
      have e' := minOf_none.mp e
      subst e'
      simp
      constructor
      · intro h; subst h; simp
      · intro h; exact h.1.symm
    | some b =>
      have ih := (minOf_some (l := r) (m := b)).mp e
      simp only [Option.some.injEq]
      constructor
      · intro h
        split at h
        · subst h
          refine ⟨List.mem_cons_of_mem _ ih.1, fun y hy => ?_⟩
          rcases List.mem_cons.mp hy with h | h
          · subst h; omega
          · exact ih.2 y h
        · subst h
          refine ⟨List.mem_cons_self, fun y hy => ?_⟩
          rcases List.mem_cons.mp hy with h | h
          · omega
          · have := ih.2 y h; omega
      · rintro ⟨h1, h2⟩
        have ha := h2 a List.mem_cons_self
        have hb := h2 b (List.mem_cons_of_mem _ ih.1)
        rcases List.mem_cons.mp h1 with h | h
        · subst h
          split
          · omega
          · rfl
        · have := ih.2 m h
          split <;> omega
def wrongCol (isW : T → Bool) (p : List (T × Nat)) (n : Nat) : Option Nat := minOf (cols isW p n)

abbrev W := T × Nat × Nat
def lay (r : Nat) (p : List (T × Nat)) : List W := p.map fun q => (q.1, r, q.2)
def scanGo (isW : T → Bool) : Nat → List T → List W × Option (Nat × Nat)
  | _, [] => ([], none)
  | r, l :: ls => match wrongCol isW (rowWords l) l.length with
    | some c => (lay r ((rowWords l).filter fun q => decide (q.2 < c)), some (r, c))
    | none => (lay r (rowWords l) ++ (scanGo isW (r + 1) ls).1, (scanGo isW (r + 1) ls).2)
def scan (isW : T → Bool) (rows : List T) : List W × Option (Nat × Nat) :=
  match (scanGo isW 1 (rows.take 300)).2 with
  | some p => ((scanGo isW 1 (rows.take 300)).1, some p)
  | none => ((scanGo isW 1 (rows.take 300)).1, if rows.length > 300 then some (301, 1) else none)

/-! ### rows: facts -/
theorem flush_nil (k : Nat) : flush [] k = [] := rfl
theorem rw_sep {cur : T} {k c : Nat} {r : T} (h : isSep c = true) : rw_ cur k (c :: r) = flush cur k ++ (if c = 32 then [] else [([c], k)]) ++ rw_ [] (k + 1) r := by
  rw [rw_, if_pos h]
theorem rw_on {cur : T} {k c : Nat} {r : T} (h : isSep c = false) : rw_ cur k (c :: r) = rw_ (cur ++ [c]) (k + 1) r := by
  rw [rw_, if_neg (by rw [h]; decide)]
theorem rw_blank {cur : T} {k : Nat} {r : T} : rw_ cur k (32 :: r) = flush cur k ++ rw_ [] (k + 1) r := by
  rw [rw_sep (by decide)]
  simp
theorem rw_blanks : ∀ (n k : Nat) (r : T), rw_ [] k (List.replicate n 32 ++ r) = rw_ [] (k + n) r
  | 0, k, r => rfl
  | n + 1, k, r => by
    rw [List.replicate_succ, List.cons_append, rw_blank, flush_nil, List.nil_append, rw_blanks n (k + 1) r]
    congr 1
    omega
theorem rw_tail (cur : T) (k n : Nat) : rw_ cur k (List.replicate n 32) = flush cur k := by
  cases n with
  | zero => rfl
  | succ n =>
    rw [List.replicate_succ, rw_blank]
    have := rw_blanks n (k + 1) []
    rw [List.append_nil] at this
    rw [this]
    simp [rw_, flush]
/-- a plain word, then what ends it -/
theorem rw_word : ∀ (w cur : T) (k : Nat) (r : T), (w.all fun c => !isSep c) = true → rw_ cur k (w ++ r) = rw_ (cur ++ w) (k + w.length) r
  | [], cur, k, r, _ => by simp
  | c :: w, cur, k, r, h => by
    rw [List.all_cons, Bool.and_eq_true] at h
    rw [List.cons_append, rw_on (by simpa using h.1), rw_word w _ _ _ h.2, List.append_assoc, List.singleton_append, List.length_cons]
    congr 1
    omega
theorem flush_word {w : T} {k : Nat} (h : w ≠ []) : flush w (k + w.length) = [(w, k)] := by
  unfold flush
  rw [if_neg h]
  congr 2
  omega
theorem rw_word1 {w : T} {k : Nat} {r : T} (h : w ≠ []) (hs : (w.all fun c => !isSep c) = true) : rw_ [] k (w ++ 32 :: r) = (w, k) :: rw_ [] (k + w.length + 1) r := by
  rw [rw_word w [] k _ hs, List.nil_append, rw_blank, flush_word h]
  rfl
theorem rw_wordEnd {w : T} {k n : Nat} (h : w ≠ []) (hs : (w.all fun c => !isSep c) = true) : rw_ [] k (w ++ List.replicate n 32) = [(w, k)] := by
  rw [rw_word w [] k _ hs, List.nil_append, rw_tail, flush_word h]
theorem rw_ge : ∀ (r cur : T) (k m : Nat), m + cur.length ≤ k → ∀ q ∈ rw_ cur k r, m ≤ q.2
  | [], cur, k, m, h, q, hq => by
    rw [rw_] at hq
    unfold flush at hq
    split at hq
    · simp at hq
    · simp at hq; subst hq; show m ≤ k - cur.length; omega
  | c :: r, cur, k, m, h, q, hq => by
    rw [rw_] at hq
    split at hq
    · rcases List.mem_append.mp hq with hq | hq
      · rcases List.mem_append.mp hq with hq | hq
        · unfold flush at hq
          split at hq
          · simp at hq
          · simp at hq; subst hq; show m ≤ k - cur.length; omega
        · split at hq
          · simp at hq
          · simp at hq; subst hq; show m ≤ k; omega
      · exact rw_ge r [] (k + 1) m (by simp; omega) q hq
    · exact rw_ge r (cur ++ [c]) (k + 1) m (by simp; omega) q hq
/-- the loop over a row, sign by sign -/
def sl (L : T) (a b : Nat) : T := (L.drop a).take (b - a)
theorem sl_snoc {L : T} {a b c : Nat} (h : a ≤ b) (hc : L[b]? = some c) : sl L a (b + 1) = sl L a b ++ [c] := by
  unfold sl
  have e : b + 1 - a = (b - a) + 1 := by omega
  rw [e, List.take_add_one, List.getElem?_drop]
  have e2 : a + (b - a) = b := by omega
  rw [e2, hc]
  rfl
theorem sl_len {L : T} {a b : Nat} (hb : b ≤ L.length) : (sl L a b).length = b - a := by
  unfold sl
  rw [List.length_take, List.length_drop]
  omega
theorem sl_self (L : T) (a : Nat) : sl L a a = [] := by simp [sl]
theorem sl_nil {L : T} {a b : Nat} (hb : b ≤ L.length) (h : ¬ a < b) : sl L a b = [] := by
  have := sl_len (a := a) hb
  exact List.eq_nil_of_length_eq_zero (by omega)
theorem drop_at {L : T} {b c : Nat} (hc : L[b]? = some c) : L.drop b = c :: L.drop (b + 1) := by
  obtain ⟨h, e⟩ := List.getElem?_eq_some_iff.mp hc
  rw [List.drop_eq_getElem_cons h, e]
/-- a turn at a sign that ends no word -/
theorem turn_on {L : T} {a b c : Nat} {ps : List (T × Nat)} (h : a ≤ b) (hc : L[b]? = some c) (hs : isSep c = false)
    (I : ps ++ rw_ (sl L a b) (b + 1) (L.drop b) = rowWords L) : ps ++ rw_ (sl L a (b + 1)) (b + 1 + 1) (L.drop (b + 1)) = rowWords L := by
  rw [drop_at hc, rw_on hs] at I
  rw [sl_snoc h hc]
  exact I
/-- a turn at a sign that ends one -/
theorem turn_sep {L : T} {a b c : Nat} {ps : List (T × Nat)} (h : a ≤ b) (hc : L[b]? = some c) (hs : isSep c = true)
    (I : ps ++ rw_ (sl L a b) (b + 1) (L.drop b) = rowWords L) :
    (ps ++ (if a < b then [(sl L a b, a + 1)] else [])) ++ (if c = 32 then [] else [([c], b + 1)]) ++ rw_ (sl L (b + 1) (b + 1)) (b + 1 + 1) (L.drop (b + 1)) = rowWords L := by
  rw [drop_at hc, rw_sep hs] at I
  rw [sl_self, ← I]
  have hb : b < L.length := (List.getElem?_eq_some_iff.mp hc).1
  have e : flush (sl L a b) (b + 1) = if a < b then [(sl L a b, a + 1)] else [] := by
    unfold flush
    by_cases q : a < b
    · have n : sl L a b ≠ [] := fun z => by
        have := sl_len (L := L) (a := a) (b := b) (by omega)
        rw [z] at this
        simp at this
        omega
      rw [if_neg n, if_pos q, sl_len (by omega)]
      congr 2
      omega
    · rw [if_neg q, if_pos (sl_nil (by omega) q)]
  rw [e]
  simp only [List.append_assoc]
/-- the last turn, at the blank behind the row -/
theorem turn_last {L : T} {a : Nat} {ps : List (T × Nat)} (h : a ≤ L.length)
    (I : ps ++ rw_ (sl L a L.length) (L.length + 1) (L.drop L.length) = rowWords L) :
    ps ++ (if a < L.length then [(sl L a L.length, a + 1)] else []) = rowWords L := by
  rw [List.drop_length] at I
  rw [← I, rw_]
  have e : flush (sl L a L.length) (L.length + 1) = if a < L.length then [(sl L a L.length, a + 1)] else [] := by
    unfold flush
    by_cases q : a < L.length
    · have n : sl L a L.length ≠ [] := fun z => by
        have := sl_len (L := L) (a := a) (b := L.length) (by omega)
        rw [z] at this
        simp at this
        omega
      rw [if_neg n, if_pos q, sl_len (by omega)]
      congr 2
      omega
    · rw [if_neg q, if_pos (sl_nil (by omega) q)]
  rw [e]
theorem rw_len : ∀ (r cur : T) (k : Nat), (rw_ cur k r).length ≤ (flush cur k).length + 2 * r.length
  | [], cur, k => by simp [rw_]
  | c :: r, cur, k => by
    rw [rw_]
    split
    · have h := rw_len r [] (k + 1)
      rw [flush_nil, List.length_nil] at h
      rw [List.length_append, List.length_append]
      have h2 : (if c = 32 then ([] : List (T × Nat)) else [([c], k)]).length ≤ 1 := by split <;> simp
      simp only [List.length_cons]
      omega
    · have h := rw_len r (cur ++ [c]) (k + 1)
      have h1 : (flush (cur ++ [c]) (k + 1)).length ≤ 1 := by unfold flush; split <;> simp
      simp only [List.length_cons]
      omega
theorem rowWords_len (l : T) : (rowWords l).length ≤ 2 * l.length := by
  have h := rw_len l [] 1
  rw [flush_nil, List.length_nil, Nat.zero_add] at h
  exact h

/-! ### statements, rows of the law -/
abbrev tDo : T := [100, 111]
abbrev tSay : T := [115, 97, 121]
abbrev tRet : T := [114, 101, 116, 117, 114, 110]
abbrev t1 : T := [49]
abbrev tQx : T := [39, 120]
abbrev tQabc : T := [39, 97, 98, 99]
abbrev tSelf : T := [115, 101, 108, 102]
abbrev tNone : T := [110, 111, 110, 101]
abbrev tX : T := [120]
abbrev tSet : T := [58, 61]
abbrev tRb : T := [93]
abbrev tEnd : T := [101, 110, 100]
/-- the es that stand in these statements -/
def Leaf (e : T) : Prop := e = t1 ∨ e = tQx ∨ e = tQabc ∨ e = tSelf ∨ e = tNone
def Plain (a : T) : Prop := a = tDo ∨ a = tSay ∨ a = tRet
inductive Stms : List T → Prop
  | nil : Stms []
  | plain {a e : T} {r : List T} : Plain a → Leaf e → Stms r → Stms (a :: e :: r)
  | set {e : T} {r : List T} : Leaf e → Stms r → Stms (tX :: tSet :: e :: r)
theorem Stms.append : ∀ {a b : List T}, Stms a → Stms b → Stms (a ++ b)
  | _, _, .nil, h => h
  | _, _, .plain p q r, h => .plain p q (r.append h)
  | _, _, .set q r, h => .set q (r.append h)
abbrev Out := List (T × Nat) × Option Nat
def outOf (isW : T → Bool) (l : T) : Out := match wrongCol isW (rowWords l) l.length with
  | some c => ((rowWords l).filter (fun q => decide (q.2 < c)), some c)
  | none => (rowWords l, none)
def scanO : Nat → List Out → List W × Option (Nat × Nat)
  | _, [] => ([], none)
  | r, o :: os => match o.2 with
    | some c => (lay r o.1, some (r, c))
    | none => (lay r o.1 ++ (scanO (r + 1) os).1, (scanO (r + 1) os).2)
theorem scanO_eq (isW : T → Bool) : ∀ (ls : List T) (r : Nat), scanGo isW r ls = scanO r (ls.map (outOf isW))
  | [], r => rfl
  | l :: ls, r => by
    rw [List.map_cons, scanGo, scanO, scanO_eq isW ls (r + 1)]
    unfold outOf
    cases wrongCol isW (rowWords l) l.length <;> rfl
abbrev texts (o : List (T × Nat)) : List T := o.map (·.1)
theorem lay_texts (r : Nat) (p : List (T × Nat)) : (lay r p).map (·.1) = texts p := by
  unfold lay texts
  rw [List.map_map]
  rfl
/-- what is known of the row with number ρ: A the long one's, B the odd one's -/
def InfoAt (A B aw bk : Nat) (ρ : Nat) (o : Out) : Prop :=
  if ρ = A then Stms (texts o.1) ∧ o.2 = (if aw = 1 then some 121 else none)
  else if ρ = B ∧ bk = 1 then o = ([(tDo, 1), (tRb, 4)], none)
  else if ρ = B ∧ bk = 2 then o = ([], some 1)
  else Stms (texts o.1) ∧ o.2 = none
def sgn (A B aw bk : Nat) (r n : Nat) : Option (Nat × Nat) :=
  if (aw = 1 ∧ r ≤ A ∧ A < r + n) ∧ ((bk = 2 ∧ r ≤ B ∧ B < r + n) → A < B) then some (A, 121)
  else if bk = 2 ∧ r ≤ B ∧ B < r + n then some (B, 1) else none
def wrd (A B aw bk : Nat) (r n : Nat) : Option (Nat × Nat) :=
  if bk = 1 ∧ r ≤ B ∧ B < r + n ∧ ((aw = 1 ∧ r ≤ A) → B < A) then some (B, 4) else none
/-- words that are statements, up to a do ] at a place, if there is one -/
def Body (w : List W) : Option (Nat × Nat) → Prop
  | none => Stms (w.map (·.1))
  | some p => ∃ S q rest, w = S ++ (tDo, q) :: (tRb, p) :: rest ∧ Stms (S.map (·.1))
theorem Body.ahead {a w : List W} {o : Option (Nat × Nat)} (h : Stms (a.map (·.1))) (b : Body w o) : Body (a ++ w) o := by
  cases o with
  | none =>
    show Stms _
    rw [List.map_append]
    exact h.append b
  | some p =>
    obtain ⟨S, q, rest, e, s⟩ := b
    refine ⟨a ++ S, q, rest, by rw [e, List.append_assoc], ?_⟩
    rw [List.map_append]
    exact h.append s
theorem scan_outs {A B aw bk : Nat} (hAB : A ≠ B) : ∀ (os : List Out) (r : Nat), (∀ i o, os[i]? = some o → InfoAt A B aw bk (r + i) o) →
    (scanO r os).2 = sgn A B aw bk r os.length ∧ Body (scanO r os).1 (wrd A B aw bk r os.length)
  | [], r, _ => by
    refine ⟨?_, ?_⟩
    · unfold sgn
      rw [if_neg (by simp only [List.length_nil]; omega), if_neg (by simp only [List.length_nil]; omega)]
      rfl
    · unfold wrd
      rw [if_neg (by simp only [List.length_nil]; omega)]
      exact .nil
  | o :: os, r, h => by
    have h0 := h 0 o rfl
    rw [Nat.add_zero] at h0
    have ih := scan_outs (aw := aw) (bk := bk) hAB os (r + 1) (fun i u e => by
      have := h (i + 1) u (by simpa using e)
      rw [show r + 1 + i = r + (i + 1) by omega]
      exact this)
    have stop : ∀ c, o.2 = some c → scanO r (o :: os) = (lay r o.1, some (r, c)) := fun c e => by rw [scanO, e]
    have on : o.2 = none → scanO r (o :: os) = (lay r o.1 ++ (scanO (r + 1) os).1, (scanO (r + 1) os).2) := fun e => by rw [scanO, e]
    have onS : o.2 = none → sgn A B aw bk r (os.length + 1) = sgn A B aw bk (r + 1) os.length → (scanO r (o :: os)).2 = sgn A B aw bk r (os.length + 1) := fun e z => by
      rw [on e, z]
      exact ih.1
    have onW : o.2 = none → Stms (texts o.1) → wrd A B aw bk r (os.length + 1) = wrd A B aw bk (r + 1) os.length → Body (scanO r (o :: os)).1 (wrd A B aw bk r (os.length + 1)) := fun e st z => by
      rw [on e, z]
      exact Body.ahead (by rw [lay_texts]; exact st) ih.2
    rw [List.length_cons]
    clear h
    unfold InfoAt at h0
    by_cases a : r = A
    · rw [if_pos a] at h0
      obtain ⟨h1, h2⟩ := h0
      by_cases w1 : aw = 1
      · rw [if_pos w1] at h2
        rw [stop 121 h2]
        refine ⟨?_, ?_⟩
        · unfold sgn
          rw [if_pos (by omega), a]
        · unfold wrd
          rw [if_neg (by omega)]
          show Stms _
          rw [lay_texts]
          exact h1
      · rw [if_neg w1] at h2
        refine ⟨onS h2 ?_, onW h2 h1 ?_⟩
        · unfold sgn
          repeat' split
          all_goals first | rfl | (exfalso; omega)
        · unfold wrd
          repeat' split
          all_goals first | rfl | (exfalso; omega)
    · rw [if_neg a] at h0
      by_cases b1 : r = B ∧ bk = 1
      · rw [if_pos b1] at h0
        have hn : o.2 = none := by rw [h0]
        refine ⟨onS hn ?_, ?_⟩
        · unfold sgn
          repeat' split
          all_goals first | rfl | (exfalso; omega)
        · rw [on hn]
          unfold wrd
          rw [if_pos (by omega)]
          refine ⟨[], (r, 1), (scanO (r + 1) os).1, ?_, .nil⟩
          rw [h0, ← b1.1]
          rfl
      · rw [if_neg b1] at h0
        by_cases b2 : r = B ∧ bk = 2
        · rw [if_pos b2] at h0
          rw [stop 1 (by rw [h0])]
          refine ⟨?_, ?_⟩
          · unfold sgn
            rw [if_neg (by omega), if_pos (by omega), b2.1]
          · unfold wrd
            rw [if_neg (by omega), h0]
            exact .nil
        · rw [if_neg b2] at h0
          refine ⟨onS h0.2 ?_, onW h0.2 h0.1 ?_⟩
          · unfold sgn
            repeat' split
            all_goals first | rfl | (exfalso; omega)
          · unfold wrd
            repeat' split
            all_goals first | rfl | (exfalso; omega)
end SS

end
set_option Elab.async false
set_option linter.all false
set_option maxRecDepth 100000
set_option maxHeartbeats 1000000
namespace PySem.W
open PySem PyProof.Rows
section
variable {M : Model} {prog : Program} {w : World} {A : Around} {E : Value → Shared → Prop} {s : Shared} {env : Env}
theorem callWithT_kwB {pos : Pos} {T : String} {first : List Value} {args : List (Bool × Sem Value)} {keywords : List (Option Str × Sem Value)} {Q : Value → Shared → Prop}
    (hplain : args.any (·.1) = false) (hkw : keywords.any (·.1.isNone) = false)
    (h : wpAny M A (evalArgs (.type T) true args keywords) (fun a s₁ => wpAny M A (call (.type T) (first ++ a.pos) a.kw) Q E s₁) E s) :
    wpAny M A (callWith pos (.type T) first args keywords) Q E s := by
  unfold callWith
  refine wpAny_bind (wpAny_holding (wpAny_mono h (fun a s₁ h₁ => wpAny_bind (wpAny_standAt ?_)) fun _ _ x => x))
  simp only [hplain, hkw, Bool.or_false]
  refine wpAny_bind (wpAny_pure ?_)
  exact wpAny_bind (wpAny_mono h₁ (fun r s₂ hr => wpAny_bind (wpAny_holding (wpAny_point (wpAny_pure hr)))) fun _ _ x => x)
theorem callWithT_kw {pos : Pos} {T : String} {e : Expr} {rest : List Expr} {kws : List Keyword} {Q : Value → Shared → Prop}
    (h : wpAny M A (spliced (backTo pos (starEach (e :: rest) env))) (fun vs s₁ => wpAny M A (evalAll ((backToKw pos (keywordEach kws env)).map (·.2)))
      (fun kvs s₂ => wpAny M A (call (.type T) vs (((backToKw pos (keywordEach kws env)).filterMap (·.1)).zip kvs)) Q E s₂) E s₁) E s)
    (he : backTo pos (starEach (e :: rest) env) = (false, eval e env) :: backTo pos (starEach rest env) := by rfl)
    (hplain : (backTo pos (starEach (e :: rest) env)).any (·.1) = false := by rfl)
    (hall : (backToKw pos (keywordEach kws env)).all (·.1.isSome) = true := by rfl)
    (hkw : (backToKw pos (keywordEach kws env)).any (·.1.isNone) = false := by rfl) :
    wpAny M A (callWith pos (.type T) [] (backTo pos (starEach (e :: rest) env)) (backToKw pos (keywordEach kws env))) Q E s := by
  refine callWithT_kwB hplain hkw ?_
  rw [he] at h ⊢
  exact evalArgs_kwB hall h
theorem meets_enumerate_new1 {v : Value} {o : Obj} {H : Heap → Prop} (B : Begins v o H) :
    Meets (Builtin.«enumerate.__new__» ⟨[.type "enumerate", v], []⟩) (fun _ R s => H s.heap ∧
      R (.ok (.ret (.ref (s.heap.push o).objs.size))) { s with heap := (s.heap.push o).push { cls := .type "enumerate", data := .fields #[.none, .bool false, .ref s.heap.objs.size, rawInt 0, .none, .none] } }) :=
  .of_wp fun prog w A R s h => by
    obtain ⟨hp, g, d, tk, os⟩ := s; obtain ⟨h1, h⟩ := h
    have hsub := sub_enumerate
    have q1 : ∀ {A' : Around} {E : Value → Shared → Prop} {Q : Value → Shared → Prop}, Q (.ref hp.objs.size) ⟨hp.push o, g, d, tk, os⟩ → wpAny (model prog w) A' (pyIter v) Q E ⟨hp, g, d, tk, os⟩ :=
      fun q => B.iter prog w _ _ ⟨hp, g, d, tk, os⟩ _ h1 q
    wp_walk using q1
    refine wpAny_stack_any fun st => wpAny_pure ?_
    split
    · rename_i c _ _ _ _ _
      cases (c == Value.type "enumerate")
      · wp_walk using q1
        exact ⟨_, rfl, h⟩
      · wp_walk using q1
        exact ⟨_, rfl, h⟩
    · wp_walk using q1
      exact ⟨_, rfl, h⟩
theorem call_enumX {x : Str} {t : Tok} {Q : Value → Shared → Prop}
    (h : ∀ h', IsEnum h' (s.heap.objs.size + 1) s.heap.objs.size 0 .none → h'.IsStrIter s.heap.objs.size (strIterType x) x t 0 → h'.objs.size = s.heap.objs.size + 2 →
      (∀ b o, s.heap.get? b = some o → h'.get? b = some o) → Q (.ref (s.heap.objs.size + 1)) { s with heap := h' }) :
    wpAny (model prog w) A (call (.type "enumerate") [.str x t]) Q E s := by
  have B := begins_text x t
  refine callType_new F.called_enumerate (by decide) (F.typeCall_enumerate_1 _) (F.newCall_enumerate_1 _) (fun obj => F.args_object_init_2 obj _) F.entry_enumerate_new
    (meets_enumerate_new1 B) ⟨trivial, ?_⟩
  have hz : (s.heap.push { cls := .type (strIterType x), data := .fields #[.str x t, .int 0 0] }).objs.size = s.heap.objs.size + 1 := Heap.size_push ..
  show _ ∧ _
  rw [hz]
  have he : IsEnum ((s.heap.push { cls := .type (strIterType x), data := .fields #[.str x t, .int 0 0] }).push { cls := .type "enumerate", data := .fields #[.none, .bool false, .ref s.heap.objs.size, rawInt 0, .none, .none] }) (s.heap.objs.size + 1) s.heap.objs.size 0 .none := by
    have := Heap.get?_push_size (s.heap.push { cls := .type (strIterType x), data := .fields #[.str x t, .int 0 0] }) (o := { cls := .type "enumerate", data := .fields #[.none, .bool false, .ref s.heap.objs.size, rawInt 0, .none, .none] }) rfl
    rw [hz] at this; exact this
  exact ⟨⟨_, he, rfl⟩, h _ he ⟨_, Heap.get?_push_of_some _ (Heap.get?_push_size _ B.free), rfl, rfl⟩ (by rw [Heap.size_push, hz]) fun b o x => Heap.get?_push_of_some _ (Heap.get?_push_of_some _ x)⟩
end
end PySem.W
namespace L2
open PySem PySem.Spec PyProof.Rows

/-! ### text * int -/
def repS (z : Str) (n : Int) : Str := ⟨(List.replicate n.toNat z.cps.toList).flatten.toArray⟩
theorem fold_app (a : Array Nat) : ∀ (n : Nat) (b : Array Nat), (List.replicate n a).foldl (· ++ ·) b = b ++ (List.replicate n a.toList).flatten.toArray
  | 0, b => by simp
  | n + 1, b => by
    rw [List.replicate_succ, List.foldl_cons, fold_app a n, List.replicate_succ, List.flatten_cons]
    apply Array.toList_inj.mp
    simp
theorem repS_length (z : Str) (n : Int) : (repS z n).length = n.toNat * z.length := by
  show (List.replicate n.toNat z.cps.toList).flatten.toArray.size = _
  simp [Str.length]
theorem repS_0 (z : Str) : repS z 0 = Str.empty := by
  unfold repS Str.empty
  simp
theorem repS_1 (z : Str) : repS z 1 = z := by
  unfold repS
  cases z
  simp
theorem op_mul_str {X : Cx} : OpR X (binaryOp .Mult) (fun x y H Q => ∃ (z : Str) (n : Int), x = .str z ∧ y = .int n ∧ 0 ≤ n ∧ n ≤ 1000 ∧ 0 < z.length ∧ z.length ≤ 1000 ∧ Q (.str (repS z n)) H) := by
  intro pins s σ H x y v u Q I rx ry h
  obtain ⟨z, n, rfl, rfl, h0, h1, hz0, hz, q⟩ := h
  obtain ⟨t, rfl⟩ := rx
  obtain ⟨t', rfl⟩ := ry
  have hm : z.length * n.toNat ≤ 1000 * 1000 := Nat.mul_le_mul hz (by omega)
  have e : (⟨(List.replicate n.toNat z.cps).foldl (· ++ ·) #[]⟩ : Str) = repS z n := by
    rw [fold_app]
    unfold repS
    simp
  refine P.mul_str ?_ (fun _ _ => ?_) (fun _ _ => ?_) ?_
  · have a : ¬ n < -(2 ^ 63 : Int) := by omega
    have b : ¬ n ≥ 2 ^ 63 := by omega
    rw [decide_eq_false a, decide_eq_false b]; rfl
  · rename_i hn _
    have : (2 ^ 63 - 1) / n ≥ 1000 := by
      apply Int.le_ediv_of_mul_le (by omega)
      omega
    omega
  · unfold Builtin.Str.tooLong
    exact decide_eq_false (by rw [sizeLine_eq]; omega)
  · by_cases c0 : n < 1
    · rw [if_pos c0]
      have : n = 0 := by omega
      subst this
      rw [repS_0] at q
      exact ⟨by decide, V.str Str.empty, H, I.tok _, ⟨_, rfl⟩, q⟩
    · rw [if_neg c0]
      by_cases c1 : n = 1
      · subst c1
        rw [if_pos (by rfl)]
        rw [repS_1] at q
        exact ⟨V.str z, H, I, ⟨_, rfl⟩, q⟩
      · have e1 : (n == 1 || z.length == 0) = false := by
          have a : (n == 1) = false := by simp; omega
          have b : (z.length == 0) = false := by simp; omega
          rw [a, b]; rfl
        rw [if_neg (by rw [e1]; decide), e]
        refine ⟨?_, V.str (repS z n), H, I.tok _, ⟨_, rfl⟩, q⟩
        rw [repS_length, sizeLine_eq, Nat.mul_comm]
        omega

/-! ### enumerate(text); enumerate(list, start=k) -/
/-- the signs of x, each in a new pair -/
def Iex (x : Str) : It :=
  ⟨fun i _ => i < x.cps.size, fun i H v H' => ∃ T c, v = .ref T ∧ H T = none ∧ H' = upd H T (.tup [.int (i : Nat), .str ⟨#[c]⟩]) ∧ x.cps[i]? = some c, fun i _ => x.cps.size ≤ i⟩
theorem turn_enumX {P : Program} {w : World} {K : PySem.W.Frag} {elts : List Expr} {kk : Nat} {tpos : Pos} (e it : Addr) (x : Str) (t : Tok) :
    Turn P w K (.Tuple elts kk tpos) (Iex x) [e, it] e (fun i h => (∃ old, IsEnum h e it ((i : Nat) : Int) old) ∧ h.IsStrIter it (strIterType x) x t i ∧ e ≠ it ∧ i ≤ x.cps.size) where
  mem := by simp
  obj := fun i h st b hb => by
    obtain ⟨⟨old, he⟩, ⟨o, ho, hc, hd⟩, _⟩ := st
    have e' : b = e ∨ b = it := by simpa using hb
    rcases e' with z | z
    · rw [z]; exact ⟨_, he, fun v q => nomatch q⟩
    · rw [z]; exact ⟨o, ho, fun v q => by rw [hd] at q; cases q⟩
  keep := fun i h h' st k => let ⟨⟨old, he⟩, ⟨o, ho, r⟩, hne, hz⟩ := st; ⟨⟨old, k e (by simp) _ he⟩, ⟨o, k it (by simp) o ho, r⟩, hne, hz⟩
  item := by
    intro X hP hw hK hc i pins s σ H E I hf st hg
    subst hP hw hK
    obtain ⟨⟨old, he⟩, hit, hne, hz⟩ := st
    have hel : e < s.heap.objs.size := Heap.lt_size he
    have hil : it < s.heap.objs.size := by obtain ⟨_, q, _⟩ := hit; exact Heap.lt_size q
    have D := Draws.text (prog := X.prog) (w := X.w) (A := X.A.in1) (I.ok.hd hc) it x t
    refine wpAny_pyNext_enum_itemC D he hit hg hne (by simpa using hne) fun v h' tk hv ho hit' hT hsz hk => ?_
    obtain ⟨c, u, hcx, rfl⟩ := hv
    refine ⟨_, rfl, wpAny_letOwnedTupleGo_enum (s := { s with heap := h', toks := tk + 1 }) ho fun h'' he' sb => ?_⟩
    have hT2 : h''.get? s.heap.objs.size = some { cls := .type "tuple", data := .seq #[.int i tk, .str ⟨#[c]⟩ u] } := (sb.2 _ (Nat.ne_of_gt hel)).trans hT
    have new : ObjOk X.prog X.w (upd H s.heap.objs.size (.tup [.int (i : Nat), .str ⟨#[c]⟩])) h'' s.heap.objs.size (.tup [.int (i : Nat), .str ⟨#[c]⟩]) :=
      ⟨by show 2 ≤ sizeLine; decide, [.int i tk, .str ⟨#[c]⟩ u], .cons ⟨_, rfl⟩ (.cons ⟨_, rfl⟩ .nil), ⟨_, hT2, rfl, _, rfl⟩⟩
    have I1 : Inv X pins σ (upd H s.heap.objs.size (.tup [.int (i : Nat), .str ⟨#[c]⟩])) { s with heap := h'', toks := tk + 1 } :=
      I.turnedNew (ch := [e, it]) (fun b ob hb q => (sb.2 b (fun z => hb (by simp [z]))).trans (hk b ob (fun z => hb (by simp [z])) (fun z => hb (by simp [z])) q)) hf (Nat.le_refl _) new
    refine ⟨.ref s.heap.objs.size, _, I1, rfl, ⟨_, c, rfl, I.hok.fresh (Nat.le_refl _), rfl, hcx⟩, ⟨⟨Value.str ⟨#[c]⟩ u, ?_⟩, ?_, hne, hg⟩, fun b hb => ?_⟩
    · have e1 : ((i + 1 : Nat) : Int) = (i : Int) + 1 := by omega
      rw [e1]; exact he'
    · obtain ⟨o, q, r⟩ := hit'
      exact ⟨o, (sb.2 it (Ne.symm hne)).trans q, r⟩
    · have hb' : b < s.heap.objs.size := by
        have e' : b = e ∨ b = it := by simpa using hb
        rcases e' with z | z
        · rw [z]; exact hel
        · rw [z]; exact hil
      rw [upd_ne (Nat.ne_of_lt hb')]
      exact (hf b hb).1
  done := by
    intro X hP hw hK hc i pins s σ H E I hf st hg
    subst hP hw hK
    obtain ⟨⟨old, he⟩, hit, hne, hz⟩ := st
    obtain ⟨f0, f1, f2, f3, f4, f5⟩ := hf it (by simp)
    have D := Draws.text (prog := X.prog) (w := X.w) (A := X.A.in1) (I.ok.hd hc) it x t
    have e1 : i = x.cps.size := Nat.le_antisymm hz hg
    subst e1
    exact wpAny_pyNext_enum_endD D he hit fun h' eb => ⟨rfl, I.turned (t' := s.toks) (fun b o hb q => eb b o hb q) f0 f1 f3 f4 f5⟩
  self := fun A i s Q E st h => let ⟨⟨_, he⟩, _⟩ := st; wpAny_pyIter_enum he h
def iEnumX (ta : TA) : TI := fun σ H R => ta σ H fun vs H1 => ∃ x : Str, vs = [.str x] ∧ R (Iex x) H1
theorem pi_enumX {X : Cx} {e : Expr} {ta : TA} {p pos tpos : Pos} {elts : List Expr} {kk : Nat} (hg : Gl X "enumerate") (hm : X.mg "enumerate" = none) (ha : PA X [e] ta) (hs : starEach [e] X.env = [(false, eval e X.env)] := by rfl) :
    PI X (.Tuple elts kk tpos) (.Call (.Name "enumerate" p) [e] [] pos) (iEnumX ta) := by
  refine ⟨fun pins s σ H R I h => ?_⟩
  refine Call_ (ld_blt I hg hm boot_enumerate (PyProof.Rows.callWith_type1 (thn (ha.run pos pins s σ H _ I h) fun us s1 ⟨vs, H1, I1, r1, q1⟩ => ?_) hs rfl))
  obtain ⟨x, ex, q⟩ := q1
  subst ex
  cases r1 with
  | cons r rr =>
    cases rr
    obtain ⟨t, rfl⟩ := r
    refine PySem.W.call_enumX (x := x) (t := t) fun h' he hit hsz hk => wpAny_pyIter_enum he ?_
    have I2 : Inv X pins σ H1 { s1 with heap := h' } := I1.kept (t' := s1.toks) hk
    refine ⟨s1.heap.objs.size + 1, [s1.heap.objs.size + 1, s1.heap.objs.size], _, _, H1, rfl, I2, turn_enumX (s1.heap.objs.size + 1) s1.heap.objs.size x t, ⟨⟨.none, he⟩, hit, Nat.succ_ne_self _, Nat.zero_le _⟩, fun b hb => ?_, q⟩
    have e' : b = s1.heap.objs.size + 1 ∨ b = s1.heap.objs.size := by simpa using hb
    have hle : s1.heap.objs.size ≤ b := by
      rcases e' with z | z
      · rw [z]; exact Nat.le_add_right _ _
      · rw [z]; exact Nat.le_refl _
    exact I1.fpOk hle (I1.hok.fresh hle)
theorem walk_enumX {x : Str} : Walk (Iex x) x.cps.size (fun _ => True) (fun i H v H' => ∃ T c, v = .ref T ∧ H T = none ∧ H' = upd H T (.tup [.int (i : Nat), .str ⟨#[c]⟩]) ∧ x.cps[i]? = some c) :=
  ⟨fun _ _ hi _ => hi, fun _ _ => Nat.le_refl _, fun _ _ _ _ _ _ y => y⟩
/-- the items xs of the list at a, counted from k, each in a new pair -/
def Iek (K : PySem.W.Frag) (a : Addr) (xs : List V) (k : Int) : It :=
  ⟨fun i H => i < xs.length ∧ SqL K H a xs, fun i H v H' => ∃ T x, v = .ref T ∧ H T = none ∧ H' = upd H T (.tup [.int (k + (i : Nat)), x]) ∧ xs[i]? = some x, fun i H => xs.length = i ∧ SqL K H a xs⟩
theorem turn_enumK {P : Program} {w : World} {K : PySem.W.Frag} {elts : List Expr} {kk : Nat} {tpos : Pos} (a e it : Addr) (xs : List V) (k0 : Int) :
    Turn P w K (.Tuple elts kk tpos) (Iek K a xs k0) [e, it] e (fun i h => (∃ old, IsEnum h e it (k0 + (i : Nat)) old) ∧ h.IsListIter it a i ∧ e ≠ it) where
  mem := by simp
  obj := fun i h st b hb => by
    obtain ⟨⟨old, he⟩, ⟨o, ho, hc, hd⟩, _⟩ := st
    have e' : b = e ∨ b = it := by simpa using hb
    rcases e' with z | z
    · rw [z]; exact ⟨_, he, fun v q => nomatch q⟩
    · rw [z]; exact ⟨o, ho, fun v q => by rw [hd] at q; cases q⟩
  keep := fun i h h' st k => let ⟨⟨old, he⟩, hi, hne⟩ := st; ⟨⟨old, k e (by simp) _ he⟩, hi.at fun o q => k it (by simp) o q, hne⟩
  item := by
    intro X hP hw hK hc i pins s σ H E I hf st hg
    subst hP hw hK
    obtain ⟨⟨old, he⟩, hit, hne⟩ := st
    obtain ⟨hlt, hq⟩ := hg
    have hx : xs[i]? = some xs[i] := by simp [hlt]
    generalize xs[i] = x at hx
    obtain ⟨its, rv, p, hz⟩ := I.list hq
    obtain ⟨u0, hu, ru⟩ := rv.get hx
    have hel : e < s.heap.objs.size := Heap.lt_size he
    have hil : it < s.heap.objs.size := by obtain ⟨_, q, _⟩ := hit; exact Heap.lt_size q
    have hia : a ≠ it := fun z => by
      obtain ⟨o, ho, hcl, hd⟩ := hit
      obtain ⟨o2, ho2, hcl2, _⟩ := p.isList
      rw [z, ho] at ho2
      have := Option.some.inj ho2
      subst this
      rw [hcl] at hcl2
      injection hcl2 with z9
      exact absurd z9 (by decide)
    have hea : e ≠ a := fun z => by
      obtain ⟨o2, ho2, hcl2, _⟩ := p.isList
      rw [← z, he] at ho2
      have := Option.some.inj ho2
      subst this
      injection hcl2 with z9
      exact absurd z9 (by decide)
    have D := Draws.list (prog := X.prog) (w := X.w) (A := X.A.in1) (I.ok.hd hc) it a hia its.toArray
    have hlen : i < its.toArray.size := by
      have := rv.length
      simp
      omega
    refine wpAny_pyNext_enum_itemC D he ⟨hit, p.isList⟩ hlen hne (by simp [hne, hea]) fun v h' tk hv ho hit' hT hsz hk => ?_
    have ev : v = u0 := by
      have z : its.toArray[i]? = some v := hv
      have z2 : its.toArray[i]? = some u0 := by simpa using hu
      rw [z2] at z
      exact (Option.some.inj z).symm
    subst ev
    refine ⟨_, rfl, wpAny_letOwnedTupleGo_enum (s := { s with heap := h', toks := tk + 1 }) ho fun h'' he' sb => ?_⟩
    have hT2 : h''.get? s.heap.objs.size = some { cls := .type "tuple", data := .seq #[.int (k0 + (i : Nat)) tk, v] } := (sb.2 _ (Nat.ne_of_gt hel)).trans hT
    have new : ObjOk X.prog X.w (upd H s.heap.objs.size (.tup [.int (k0 + (i : Nat)), x])) h'' s.heap.objs.size (.tup [.int (k0 + (i : Nat)), x]) :=
      ⟨by show 2 ≤ sizeLine; decide, [.int (k0 + (i : Nat)) tk, v], .cons ⟨_, rfl⟩ (.cons ru .nil), ⟨_, hT2, rfl, _, rfl⟩⟩
    have I1 : Inv X pins σ (upd H s.heap.objs.size (.tup [.int (k0 + (i : Nat)), x])) { s with heap := h'', toks := tk + 1 } :=
      I.turnedNew (ch := [e, it]) (fun b ob hb q => (sb.2 b (fun z => hb (by simp [z]))).trans (hk b ob (fun z => hb (by simp [z])) (fun z => hb (by simp [z])) q)) hf (Nat.le_refl _) new
    refine ⟨.ref s.heap.objs.size, _, I1, rfl, ⟨_, x, rfl, I.hok.fresh (Nat.le_refl _), rfl, hx⟩, ⟨⟨v, ?_⟩, hit'.1.at fun o q => (sb.2 it (Ne.symm hne)).trans q, hne⟩, fun b hb => ?_⟩
    · have e1 : k0 + ((i + 1 : Nat) : Int) = k0 + (i : Int) + 1 := by omega
      rw [e1]; exact he'
    · have hb' : b < s.heap.objs.size := by
        have e' : b = e ∨ b = it := by simpa using hb
        rcases e' with z | z
        · rw [z]; exact hel
        · rw [z]; exact hil
      rw [upd_ne (Nat.ne_of_lt hb')]
      exact (hf b hb).1
  done := by
    intro X hP hw hK hc i pins s σ H E I hf st hg
    subst hP hw hK
    obtain ⟨⟨old, he⟩, hit, hne⟩ := st
    obtain ⟨hlt, hq⟩ := hg
    obtain ⟨its, rv, p, hz⟩ := I.list hq
    obtain ⟨f0, f1, f2, f3, f4, f5⟩ := hf it (by simp)
    have hia : a ≠ it := fun z => by
      obtain ⟨o, ho, hcl, hd⟩ := hit
      obtain ⟨o2, ho2, hcl2, _⟩ := p.isList
      rw [z, ho] at ho2
      have := Option.some.inj ho2
      subst this
      rw [hcl] at hcl2
      injection hcl2 with z9
      exact absurd z9 (by decide)
    have D := Draws.list (prog := X.prog) (w := X.w) (A := X.A.in1) (I.ok.hd hc) it a hia its.toArray
    have e1 : i = its.toArray.size := by
      have := rv.length
      simp
      omega
    subst e1
    exact wpAny_pyNext_enum_endD D he ⟨hit, p.isList⟩ fun h' eb => ⟨rfl, I.turned (t' := s.toks) (fun b o hb q => eb b o hb q) f0 f1 f3 f4 f5⟩
  self := fun A i s Q E st h => let ⟨⟨_, he⟩, _⟩ := st; wpAny_pyIter_enum he h
def iEnumK (K : PySem.W.Frag) (ta tk : TA) : TI := fun σ H R => ta σ H fun vs H1 => tk σ H1 fun zs H2 => ∃ (a : Addr) (xs : List V) (k : Int), vs = [.ref a] ∧ zs = [.int k] ∧ 0 ≤ k ∧ k < 1000 ∧ SqL K H2 a xs ∧ R (Iek K a xs k) H2
theorem pi_enumK {X : Cx} {e : Expr} {kws : List Keyword} {ta tk : TA} {p pos tpos : Pos} {elts : List Expr} {kk : Nat} (hg : Gl X "enumerate") (hm : X.mg "enumerate" = none) (ha : PA X [e] ta) (hk : PK X kws tk)
    (he : backTo pos (starEach [e] X.env) = (false, eval e X.env) :: backTo pos (starEach [] X.env) := by rfl) (hpl : (backTo pos (starEach [e] X.env)).any (·.1) = false := by rfl)
    (hall : (backToKw pos (keywordEach kws X.env)).all (·.1.isSome) = true := by rfl) (hnone : (backToKw pos (keywordEach kws X.env)).any (·.1.isNone) = false := by rfl) (hks : (backToKw pos (keywordEach kws X.env)).filterMap (·.1) = [Str.ofString "start"] := by rfl) :
    PI X (.Tuple elts kk tpos) (.Call (.Name "enumerate" p) [e] kws pos) (iEnumK X.K ta tk) := by
  refine ⟨fun pins s σ H R I h => ?_⟩
  refine wpAny_Call_Name_kw (ld_blt I hg hm boot_enumerate ?_)
  refine PySem.W.callWithT_kw (thn (ha.run pos pins s σ H _ I h) fun us s1 ⟨vs, H1, I1, r1, q1⟩ => thn (hk.run pos pins s1 σ H1 _ I1 q1) fun ws s2 ⟨zs, H2, I2, r2, q2⟩ => ?_) he hpl hall hnone
  rw [hks]
  obtain ⟨a, xs, k, ex, ez, hk0, hk1, hq, q⟩ := q2
  subst ex ez
  cases r1 with
  | cons r rr =>
    cases rr
    cases r
    cases r2 with
    | cons r' rr' =>
      cases rr'
      obtain ⟨t, rfl⟩ := r'
      obtain ⟨its, rv, p', hz⟩ := I2.list hq
      refine enum_begins_start (begins_list a its.toArray) p'.isList (by omega) (by omega) fun h' he hit hsz hkp => wpAny_pyIter_enum he ?_
      have I3 : Inv X pins σ H2 { s2 with heap := h' } := I2.kept (t' := s2.toks) hkp
      have e0 : k + ((0 : Nat) : Int) = k := by omega
      refine ⟨s2.heap.objs.size + 1, [s2.heap.objs.size + 1, s2.heap.objs.size], _, _, H2, rfl, I3, turn_enumK a (s2.heap.objs.size + 1) s2.heap.objs.size xs k, ⟨⟨.none, by rw [e0]; exact he⟩, ⟨_, hit, rfl, rfl⟩, Nat.succ_ne_self _⟩, fun b hb => ?_, q⟩
      have e' : b = s2.heap.objs.size + 1 ∨ b = s2.heap.objs.size := by simpa using hb
      have hle : s2.heap.objs.size ≤ b := by
        rcases e' with z | z
        · rw [z]; exact Nat.le_add_right _ _
        · rw [z]; exact Nat.le_refl _
      exact I2.fpOk hle (I2.hok.fresh hle)
theorem walk_enumK {K : PySem.W.Frag} {a : Addr} {xs : List V} {k : Int} : Walk (Iek K a xs k) xs.length (fun H => SqL K H a xs) (fun i H v H' => ∃ T x, v = .ref T ∧ H T = none ∧ H' = upd H T (.tup [.int (k + (i : Nat)), x]) ∧ xs[i]? = some x) :=
  ⟨fun _ _ hi q => ⟨hi, q⟩, fun _ q => ⟨rfl, q⟩, fun _ _ _ _ _ _ y => y⟩

/-! ### min(xs, default=d) of data -/
theorem Vals.ref1' {a : Addr} {us : List Value} (r : Vals [V.ref a] us) : us = [Value.ref a] := by
  cases r with
  | cons r rr => cases rr; cases r; rfl
def rMinD (K : PySem.W.Frag) : List V → List V → Hp → VK → Prop := fun vs zs H Q => ∃ (a : Addr) (xs : List V) (ds : List PyData) (d : V), vs = [.ref a] ∧ zs = [d] ∧ SqL K H a xs ∧ DpAll K H xs ds ∧ PySem.W.AlikeAll ds ∧ PyData.depthAll ds ≤ 20 ∧
  (ds = [] → Q d H) ∧ ∀ (y : PyData) (ys : List PyData) (i : Nat) (v : V) (e : PyData), ds = y :: ys → xs[i]? = some v → ds[i]? = some e → e = PySem.W.minD y ys → Q v H
theorem dpAll_get {K : PySem.W.Frag} {H : Hp} : ∀ {xs : List V} {ds : List PyData}, DpAll K H xs ds → ∀ {i : Nat} {v : V}, xs[i]? = some v → ∃ e, ds[i]? = some e ∧ Dp K H v e
  | _, _, .nil, i, v, h => by simp at h
  | _, _, .cons a r, 0, v, h => by simp at h; subst h; exact ⟨_, rfl, a⟩
  | _, _, .cons a r, i + 1, v, h => by
    obtain ⟨e, h1, h2⟩ := dpAll_get r (i := i) (v := v) (by simpa using h)
    exact ⟨e, by simpa using h1, h2⟩
theorem cr_minD {X : Cx} {k : Nat} (hc : X.calm = true) (hr : Room k X.A) : CallRK X (.builtin "min") [Str.ofString "default"] (rMinD X.K) := by
  intro pins s σ H vs zs us ws Q I r rz h
  obtain ⟨a, xs, ds, d, rfl, rfl, hs, hd, ha, hdep, q0, q1⟩ := h
  obtain rfl := Vals.ref1' r
  cases rz with
  | @cons _ u0 _ _ rd rr =>
    cases rr
    obtain ⟨its, rv, p, hz⟩ := I.list hs
    obtain ⟨as, hre⟩ := Dp.readsAll I ds xs its hd rv
    show wpAny _ _ (call (.builtin "min") [.ref a] [(Str.ofString "default", u0)]) _ _ _
    have hu := hr.units
    refine PySem.W.min_list_default (I.ok.hd hc) p.isList (by simpa using hre) ha (by have := hr.units; omega) (fun e h' tk hk => ⟨d, H, I.kept (t' := tk) hk, rd, q0 e⟩) fun y ys i v h' tk bs e hv hrd hk => ?_
    have hv' : its[i]? = some v := by simpa using hv
    have hi : i < xs.length := by
      have := (List.getElem?_eq_some_iff.mp hv').1
      have := rv.length
      omega
    have hx : xs[i]? = some xs[i] := by simp [hi]
    generalize xs[i] = x at hx
    obtain ⟨u, hu1, ru⟩ := rv.get hx
    rw [hv'] at hu1
    obtain rfl := Option.some.inj hu1
    obtain ⟨ee, he1, he2⟩ := dpAll_get hd hx
    obtain ⟨as2, hr2⟩ := Dp.reads I ee x v he2 ru
    have := (PyProof.Rows.reads_det (fun b o z _ => hk b o z) hr2 hrd).1
    exact ⟨x, H, I.kept (t' := tk) hk, ru, q1 y ys i x ee e hx he1 this.symm⟩

/-! ### C.m(x, ..), m a def of the class at C, read off the class -/
def tClsF (C : Addr) (sp : Sp) (E : XK) (ta : TE) (t : TA) : TE := fun σ H Q => ta σ H fun x H1 => x = .ref C ∧ t σ H1 fun vs H2 => sp vs H2 Q E
theorem pe_clsf {X : Cx} {CX : CXT} {k : Nat} {C f : Addr} {fd : FuncData} {ps : List Str} {mc : Value} {sp : Sp} {E : XK} {o e : Expr} {es : List Expr} {m : Str} {pos apos : Pos} {ta : TE} {t : TA} {pl : Sem Bool}
    (he : PE X o ta) (r : ClX.CRead X.K C mc) (hf : PySem.W.findCls X.K (.ref C) mc m = some (.val (.ref f))) (hk : PySem.W.keepIn X.K (.ref f) = true) (F : FnOk X.prog X.w X.K X.mg X.base CX k f fd ps sp) (hr : Room k X.A) (hb : Binds X.K fd ps []) (hx : Passes CX X E) (ha : PA X (e :: es) t)
    (hst : starEach (e :: es) X.env = (false, eval e X.env) :: starEach es X.env := by rfl) (hpl : (backTo pos (starEach es X.env)).any (·.1) = false := by rfl)
    (ht : eval (.Call (.Attribute o m apos) (e :: es) [] pos) X.env = (do
      let ov ← eval o X.env
      standAt apos.atName
      let (f, first) ← holding [ov] (getMethod ov m pl)
      callWith pos f first (backTo pos (starEach (e :: es) X.env)) (backToKw pos (keywordEach [] X.env))) := by rfl) :
    PE X (.Call (.Attribute o m apos) (e :: es) [] pos) (tClsF C sp E ta t) := by
  refine ⟨fun pins s σ H Q I h => ?_⟩
  refine PySem.W.methodCall_KW (pl := pl) (thn (he.run pins s σ H _ I h) fun u s1 ⟨x, H1, I1, rx, ex, q⟩ => ?_) ht
  subst ex
  obtain rfl : u = Value.ref C := rx
  refine PySem.W.method_cls I1.kIn r.ga (PySem.W.cls_value I1.kIn r.rd hf rfl ?_)
  refine PySem.W.callWith_K (h₀ := X.base) I1.ok.mod.kin hk (thn (ha.run pos pins _ σ H1 _ (I1.tok _) q) fun us s3 ⟨vs, H2, I3, rv, q2⟩ => ⟨I3.kIn, ?_⟩) hst hpl
  have q3 : sp (vs ++ []) H2 Q E := by rw [List.append_nil]; exact q2
  exact run_fn F hr hb .nil hx I3 rv q3

/-! ### X(e, ..) of an own class where what is raised is wished for at the caller's slots -/
def tMakeS (C : Addr) (sp : Sp) (E : St → XK) (t : TA) : TE := fun σ H Q => t σ H fun vs H1 => ∀ x dx, H1 x = none → H1 dx = none → dx ≠ x → sp (.ref x :: vs) (upd (upd H1 dx (.own x)) x (.ins C dx [])) (fun v H2 => v = .non ∧ Q (.ref x) H2) (E σ)
theorem run_makeS {X : Cx} {CX : CXT} {k : Nat} {C f : Addr} {fd : FuncData} {ps : List Str} {sp : Sp} {E : St → XK} {pins : List (Addr × Obj)} {σ : St} {H : Hp} {s : Shared} {Q : VK} {us : List Value} {vs : List V} (M : Mk X.K C f) (F : FnOk X.prog X.w X.K X.mg X.base CX k f fd ps sp) (hr : Room (k + 1) X.A) (hb : Binds X.K fd ps [])
    (hx : PassesAt CX X σ (E σ)) (I : Inv X pins σ H s) (r : Vals vs us)
    (h : ∀ x dx, H x = none → H dx = none → dx ≠ x → sp (.ref x :: vs) (upd (upd H dx (.own x)) x (.ins C dx [])) (fun v H2 => v = .non ∧ Q (.ref x) H2) (E σ)) :
    wpAny (model X.prog X.w) X.A (call (.ref C) us) (EP X pins σ Q) X.xe s := by
  have hq := h (s.heap.objs.size + 1) s.heap.objs.size (I.hok.fresh (Nat.le_succ _)) (I.hok.fresh (Nat.le_refl _)) (Nat.ne_of_lt (Nat.lt_succ_self _))
  have I2 := Inv.made (C := C) I
  have r2 : Vals (V.ref (s.heap.objs.size + 1) :: vs) (Value.ref (s.heap.objs.size + 1) :: us) := .cons rfl r
  have hl : (Value.ref (s.heap.objs.size + 1) :: us).length = ps.length := by
    have e := r2.length
    rw [F.len _ _ _ _ hq] at e
    exact e.symm
  have hb2 := hb { s with heap := s.heap } (Value.ref (s.heap.objs.size + 1) :: us)
  refine wpAny_call (make_map (f := f) I.kIn M.makes M.init (beq_iff_eq.mp M.fn) (codeAny_mono (F.run _ X.stack _ _ ⟨Value.ref (s.heap.objs.size + 1) :: us, []⟩ (Value.ref (s.heap.objs.size + 1) :: us) _ _ (E σ) (hr.make C us [])
    (I2.env0.make C us []) (by have z := hb _ (Value.ref (s.heap.objs.size + 1) :: us) I2.kIn (by rw [List.append_nil]; exact hl); rw [List.append_nil] at z; exact z) r2 hq) fun r s' hq' => ?_))
  cases r with
  | error e => exact hx pins _ _ e s' I2 hq'
  | ok fl =>
    cases fl with
    | ret u =>
      obtain ⟨v, H', I3, rv, ev, q3⟩ := I2.after hq'
      subst ev
      exact ⟨rv, ⟨V.ref (s.heap.objs.size + 1), H', I3, rfl, q3⟩⟩
    | next => exact False.elim hq'
    | brk => exact False.elim hq'
    | cont => exact False.elim hq'
theorem pe_makeS {X : Cx} {CX : CXT} {k : Nat} {C f : Addr} {fd : FuncData} {ps : List Str} {sp : Sp} {E : St → XK} {x : Str} {p pos : Pos} {e : Expr} {es : List Expr} {t : TA} (M : Mk X.K C f) (F : FnOk X.prog X.w X.K X.mg X.base CX k f fd ps sp) (hr : Room (k + 1) X.A) (hg : Gl X x) (hm : X.mg x = some (.ref C)) (hb : Binds X.K fd ps []) (hx : ∀ σ, PassesAt CX X σ (E σ))
    (ha : PA X (e :: es) t) (hdb : (x == ("__debug__" : Str)) = false := by decide) (he : starEach (e :: es) X.env = (false, eval e X.env) :: starEach es X.env := by rfl) (hpl : (backTo pos (starEach es X.env)).any (·.1) = false := by rfl) :
    PE X (.Call (.Name x p) (e :: es) [] pos) (tMakeS C sp E t) := by
  refine ⟨fun pins s σ H Q I h => ?_⟩
  refine wpAny_Call_Name_kw (ld_glob I hg hm ?_ hdb)
  refine PySem.W.callWith_K (h₀ := X.base) I.ok.mod.kin M.kp (thn (ha.run pos pins s σ H _ I h) fun us s1 ⟨vs, H1, I1, r, q⟩ => ⟨I1.kIn, ?_⟩) he hpl
  exact run_makeS M F hr hb (hx σ) I1 r q
end L2
set_option Elab.async false
set_option linter.all false
set_option maxRecDepth 100000
set_option maxHeartbeats 2000000
namespace My
open PySem L2 SS
abbrev tl (z : Str) : T := z.cps.toList
abbrev mk (l : T) : Str := ⟨l.toArray⟩
theorem tl_mk (l : T) : tl (mk l) = l := rfl
theorem mk_tl (z : Str) : mk (tl z) = z := by cases z; simp
theorem len_tl (z : Str) : (tl z).length = z.length := by simp [Str.length]
theorem same_new {H : Hp} {p : Addr} (h : H p = none) (o : HO) : Same H (upd H p o) := fun b u q => by rw [upd_ne (ne_of_none q h)]; exact q
theorem same_upd {H H' : Hp} {p : Addr} (s : Same H H') (h : H p = none) (o : HO) : Same H (upd H' p o) := fun b u q => by rw [upd_ne (ne_of_none q h)]; exact s b u q
/-- a text of the module's own, a number, a tuple -/
def GS (mg : Str → Option Value) (x : Str) (z : Str) : Prop := ∃ u, mg x = some u ∧ RelV (.str z) u
def GI (mg : Str → Option Value) (x : Str) (i : Int) : Prop := ∃ u, mg x = some u ∧ RelV (.int i) u
def GT (K : PySem.W.Frag) (mg : Str → Option Value) (x : Str) (zs : List Str) : Prop := ∃ a, mg x = some (.ref a) ∧ ∀ H, SqT K H a (zs.map V.str)
def KEPTs : List Str := ["do", "else", "end", "false", "field", "if", "kind", "method", "more", "new", "none", "raise", "return", "say", "self", "taken", "then", "true", "try", "under", "up", "while"]

/-! ### defs by their names, methods by their class -/
structure Dn (K : PySem.W.Frag) (mg : Str → Option Value) (x : Str) (st : Stmt) : Prop where
  ex : ∃ f fd, Fun K x x st f fd ∧ mg x = some (.ref f)
structure Cc (P : Program) (w : World) (K : PySem.W.Frag) (mg : Str → Option Value) (base : Heap) (CX : CXT) (k : Nat) (x : Str) (sp : Sp) : Prop where
  ex : ∃ f fd ps, FnOk P w K mg base CX k f fd ps sp ∧ mg x = some (.ref f) ∧ PySem.W.keepIn K (.ref f) = true ∧ Binds K fd ps []
theorem pe_cc {X : Cx} {CX : CXT} {k j : Nat} {x : Str} {sp : Sp} {E : XK} {p pos : Pos} {e : Expr} {es : List Expr} {t : TA} (c : Cc X.prog X.w X.K X.mg X.base CX k x sp) (hr : Room j X.A) (hk : k ≤ j) (hx : Passes CX X E) (ha : PA X (e :: es) t) (hg : Gl X x := by rfl)
    (hdb : (x == ("__debug__" : Str)) = false := by decide) (he : starEach (e :: es) X.env = (false, eval e X.env) :: starEach es X.env := by rfl) (hpl : (backTo pos (starEach es X.env)).any (·.1) = false := by rfl) :
    PE X (.Call (.Name x p) (e :: es) [] pos) (tCall sp [] E t) := by
  obtain ⟨f, fd, ps, F, hm, kp, hb⟩ := c.ex
  exact pe_call F (hr.mono hk) hg hm kp hb .nil hx ha hdb he hpl
theorem pe_gs {X : Cx} {x z : Str} {pos : Pos} (h : GS X.mg x z) (hg : Gl X x := by rfl) (hd : (x == ("__debug__" : Str)) = false := by decide) : PE X (.Name x pos) (tC (.str z)) := by
  obtain ⟨u, hm, r⟩ := h
  exact pe_glob hg hm r hd
theorem pe_gi {X : Cx} {x : Str} {i : Int} {pos : Pos} (h : GI X.mg x i) (hg : Gl X x := by rfl) (hd : (x == ("__debug__" : Str)) = false := by decide) : PE X (.Name x pos) (tC (.int i)) := by
  obtain ⟨u, hm, r⟩ := h
  exact pe_glob hg hm r hd
def tGT (K : PySem.W.Frag) (zs : List Str) : TE := fun _ H Q => ∀ a, SqT K H a (zs.map V.str) → Q (.ref a) H
theorem pe_gt {X : Cx} {x : Str} {zs : List Str} {pos : Pos} (h : GT X.K X.mg x zs) (hg : Gl X x := by rfl) (hd : (x == ("__debug__" : Str)) = false := by decide) : PE X (.Name x pos) (tGT X.K zs) := by
  obtain ⟨a, hm, r⟩ := h
  exact ⟨fun pins s σ H Q I q => (pe_glob (v := .ref a) hg hm rfl hd).run pins s σ H Q I (q a (r H))⟩
/-- what the module's top has -/
structure TxS (K : PySem.W.Frag) (mg : Str → Option Value) : Prop where
  len : mg "len" = none
  all : mg "all" = none
  mn : mg "min" = none
  tup : mg "tuple" = none
  int : mg "int" = none
  str : mg "str" = none
  enum : mg "enumerate" = none
section
variable {P : Program} {w : World} {K : PySem.W.Frag} {mg : Str → Option Value} {base : Heap}
abbrev C0 (P : Program) (w : World) (K : PySem.W.Frag) (mg : Str → Option Value) (base : Heap) (k : Nat) (x : Str) (sp : Sp) : Prop := Cc P w K mg base CX0 k x sp
/-- a def that only tells: its answer, what stood stands -/
def spB (g : T → Bool) : Sp := fun vs H Q _ => ∃ z : Str, vs = [.str z] ∧ z.length ≤ 100000 ∧ ∀ H', Same H H' → Q (.bl (g (tl z))) H'
/-! is_name -/
def spName : Sp := fun vs H Q _ => ∃ z s1 s2 : Str, vs = [.str z, .str s1, .str s2] ∧ z.length ≤ 100000 ∧ ∀ H', Same H H' → Q (.bl (isName (tl z) (tl s1) (tl s2))) H'
/-! is_small, is_kind_name -/
theorem small_add (a b : T) : mk a ++ mk b = mk (a ++ b) := by
  show (⟨a.toArray ++ b.toArray⟩ : Str) = _
  simp
/-! is_text -/
/-! is_free -/
def isFree (l : T) : Bool := isSmall l && !(KEPTs.any fun k => k == mk l)
theorem inV_strs (z : Str) (zs : List Str) : inV (.str z) (zs.map V.str) = zs.any fun k => k == z := by
  unfold inV
  rw [List.any_map]
  rfl
theorem flat_strs (zs : List Str) : (zs.map V.str).all flatV = true := by
  rw [List.all_map]
  exact List.all_eq_true.mpr fun _ _ => rfl
end
end My
set_option Elab.async false
set_option linter.all false
set_option maxRecDepth 100000
set_option maxHeartbeats 2000000
namespace L2
open PySem PySem.Spec PyProof.Rows
/-! ### == and str of an instance whose class has an __eq__, a __str__ of its own -/
/-- what may stand behind == : an instance of the same class, or a text -/
def EqTo (K : PySem.W.Frag) (C : Addr) (H : Hp) (y : V) : Prop := (∃ b dy gs, y = .ref b ∧ H b = some (.ins C dy gs)) ∨ (∃ z, y = .str z ∧ PySem.W.notFirst K C (.type "str") = true)
def rEqOwn (K : PySem.W.Frag) (C : Addr) (sp : Sp) (E : XK) : R2 := fun x y H Q => ∃ a dx fs, x = .ref a ∧ H a = some (.ins C dx fs) ∧ EqTo K C H y ∧ sp [x, y] H (fun v H' => ∃ b, v = .bl b ∧ Q (.bl b) H') E
theorem op_eqOwn {X : Cx} {CX : CXT} {n : Nat} {C f : Addr} {fd : FuncData} {ps : List Str} {sp : Sp} {E : XK} (F : FnOk X.prog X.w X.K X.mg X.base CX n f fd ps sp) (hs : PySem.W.findIn X.K (.ref C) "__eq__" = some (some (.ref f))) (hf : PySem.W.isFn X.K (.ref f) = true) (hb : Binds X.K fd ps []) (hx : Passes CX X E) (hr : Room n X.A) :
    OpR X (compareOp .Eq) (rEqOwn X.K C sp E) := by
  intro pins s σ H x y v u Q I rx ry hq
  obtain ⟨a, dx, fs, rfl, ha, hy, hsp⟩ := hq
  show wpAny (model X.prog X.w) X.A (richCompare .Eq v u) (EP X pins σ Q) X.xe s
  cases rx
  obtain ⟨mA, J, _⟩ := ins_get I.hok ha
  obtain ⟨od, J, _⟩ := J.look
  obtain ⟨m, hF⟩ := I.fr
  have hty : ∃ tb, PySem.W.Looks (model X.prog X.w) s.heap (typeOf u) tb ∧ PySem.W.notFirst X.K C tb = true := by
    rcases hy with ⟨b, dy, gs, rfl, hb'⟩ | ⟨z, rfl, hn⟩
    · cases ry
      obtain ⟨mB, J', _⟩ := ins_get I.hok hb'
      obtain ⟨od', J', _⟩ := J'.look
      exact ⟨.ref C, J'.type, by simp [PySem.W.notFirst]⟩
    · obtain ⟨t, rfl⟩ := ry
      exact ⟨.type "str", .of_pure rfl, hn⟩
  obtain ⟨tb, hl, hn⟩ := hty
  refine PySem.W.cmp_K (op := .Eq) (tb := tb) hr.units0 hF I.ok.mod.kin J hl hn hs hf ?_
  refine wpAny_mono (run_fn (vs := [V.ref a, y]) (dvs := []) F hr hb .nil hx I (.cons rfl (.cons ry .nil)) (by rw [List.append_nil]; exact hsp)) (fun w s' hw => ?_) fun _ _ e => e
  obtain ⟨z, H', I', rz, b, rfl, q⟩ := hw
  cases rz
  exact ⟨.bl b, H', I', rfl, q⟩
def rStrOwn (C : Addr) (sp : Sp) (E : XK) : List V → Hp → VK → Prop := fun xs H Q => ∃ a dx fs, xs = [.ref a] ∧ H a = some (.ins C dx fs) ∧ sp [.ref a] H (fun v H' => ∃ z, v = .str z ∧ Q (.str z) H') E
theorem call_strOwn {X : Cx} {CX : CXT} {n : Nat} {C f : Addr} {fd : FuncData} {ps : List Str} {sp : Sp} {E : XK} (F : FnOk X.prog X.w X.K X.mg X.base CX n f fd ps sp) (hs : PySem.W.findIn X.K (.ref C) "__str__" = some (some (.ref f))) (hf : PySem.W.isFn X.K (.ref f) = true) (hb : Binds X.K fd ps []) (hx : Passes CX X E) (hr : Room (n + 2) X.A) :
    CallR X (.type "str") (rStrOwn C sp E) := by
  intro pins s σ H xs us Q I r h
  obtain ⟨a, dx, fs, rfl, ha, hsp⟩ := h
  obtain rfl := Vals.ref1' r
  obtain ⟨mA, J, _⟩ := ins_get I.hok ha
  obtain ⟨od, J, _⟩ := J.look
  have r2 : Room n X.A.in1.in1 := (Room.in1 (Room.in1 hr))
  refine PySem.W.kso_call r2.units0 I.kIn J hs hf ?_
  have hl := F.len _ _ _ _ hsp
  refine wpAny_call (codeAny_mono (F.run X.A.in1.in1 X.stack s H ⟨[.ref a], []⟩ [.ref a] [.ref a] _ E r2 I.env0.in1.in1 (by
    have := hb s [.ref a] I.kIn (by simpa using hl)
    simpa using this) (.cons rfl .nil) hsp) fun r s' hq => ?_)
  cases r with
  | error e => exact hx pins σ H s e s' I hq
  | ok fl =>
    cases fl with
    | ret w =>
      obtain ⟨z, H', I', rz, y, rfl, q⟩ := I.after hq
      obtain ⟨t, rfl⟩ := rz
      exact ⟨.str y, H', I', ⟨_, rfl⟩, q⟩
    | next => exact False.elim hq
    | brk => exact False.elim hq
    | cont => exact False.elim hq
end L2
set_option Elab.async false
set_option linter.all false
set_option maxRecDepth 100000
set_option maxHeartbeats 4000000
namespace My
open PySem PySem.Spec PyProof.Rows L2 SS
/-! methods by their class -/
structure Dm (K : PySem.W.Frag) (C : Addr) (x qual : Str) (st : Stmt) : Prop where
  ex : ∃ f fd, Fun K x qual st f fd ∧ Meth K C x f
structure Mm (P : Program) (w : World) (K : PySem.W.Frag) (mg : Str → Option Value) (base : Heap) (CX : CXT) (k : Nat) (C : Addr) (m : Str) (sp : Sp) : Prop where
  ex : ∃ f fd ps, FnOk P w K mg base CX k f fd ps sp ∧ Meth K C m f ∧ Binds K fd ps []
theorem Mm.mono {P : Program} {w : World} {K : PySem.W.Frag} {mg : Str → Option Value} {base : Heap} {CX : CXT} {j k : Nat} {C : Addr} {m : Str} {sp : Sp} (c : Mm P w K mg base CX j C m sp) (h : j ≤ k) : Mm P w K mg base CX k C m sp := by
  obtain ⟨f, fd, ps, F, a, b⟩ := c.ex
  exact ⟨f, fd, ps, F.mono h, a, b⟩
theorem pe_mm {X : Cx} {CX : CXT} {k j : Nat} {C : Addr} {m : Str} {sp : Sp} {E : XK} {apos pos : Pos} {o e : Expr} {es : List Expr} {ta : TE} {t : TA} {pl : Sem Bool} (c : Cls X.K C) (M : Mm X.prog X.w X.K X.mg X.base CX k C m sp) (hr : Room j X.A) (hk : k ≤ j) (hx : Passes CX X E) (he : PE X o ta) (ha : PA X (e :: es) t)
    (hst : starEach (e :: es) X.env = (false, eval e X.env) :: starEach es X.env := by rfl) (hpl : (backTo pos (starEach es X.env)).any (·.1) = false := by rfl)
    (ht : eval (.Call (.Attribute o m apos) (e :: es) [] pos) X.env = (do
      let ov ← eval o X.env
      standAt apos.atName
      let (f, first) ← holding [ov] (getMethod ov m pl)
      callWith pos f first (backTo pos (starEach (e :: es) X.env)) (backToKw pos (keywordEach [] X.env))) := by rfl) :
    PE X (.Call (.Attribute o m apos) (e :: es) [] pos) (tMeth C m sp [] E ta t) := by
  obtain ⟨f, fd, ps, F, hm, hb⟩ := M.ex
  exact pe_meth he c hm F (hr.mono hk) hb .nil hx ha hst hpl ht
theorem pe_mm0 {X : Cx} {CX : CXT} {k j : Nat} {C : Addr} {m : Str} {sp : Sp} {E : XK} {apos pos : Pos} {o : Expr} {ta : TE} {pl : Sem Bool} (c : Cls X.K C) (M : Mm X.prog X.w X.K X.mg X.base CX k C m sp) (hr : Room j X.A) (hk : k ≤ j) (hx : Passes CX X E) (he : PE X o ta)
    (ht : eval (.Call (.Attribute o m apos) [] [] pos) X.env = (do
      let ov ← eval o X.env
      standAt apos.atName
      let (f, first) ← holding [ov] (getMethod ov m pl)
      callWith pos f first (backTo pos (starEach [] X.env)) (backToKw pos (keywordEach [] X.env))) := by rfl) :
    PE X (.Call (.Attribute o m apos) [] [] pos) (tMeth C m sp [] E ta tNil) := by
  obtain ⟨f, fd, ps, F, hm, hb⟩ := M.ex
  exact pe_meth0 he c hm F (hr.mono hk) hb .nil hx ht
/-- a method with a star parameter -/
structure Mr (P : Program) (w : World) (K : PySem.W.Frag) (mg : Str → Option Value) (base : Heap) (CX : CXT) (k : Nat) (C : Addr) (m : Str) (sp : Sp) : Prop where
  ex : ∃ f, FnR P w K mg base CX k f sp ∧ Meth K C m f
theorem pe_mr {X : Cx} {CX : CXT} {k j : Nat} {C : Addr} {m : Str} {sp : Sp} {E : XK} {apos pos : Pos} {o e : Expr} {es : List Expr} {ta : TE} {t : TA} {pl : Sem Bool} (c : Cls X.K C) (M : Mr X.prog X.w X.K X.mg X.base CX k C m sp) (hr : Room j X.A) (hk : k ≤ j) (hx : Passes CX X E) (he : PE X o ta) (ha : PA X (e :: es) t)
    (hst : starEach (e :: es) X.env = (false, eval e X.env) :: starEach es X.env := by rfl) (hpl : (backTo pos (starEach es X.env)).any (·.1) = false := by rfl)
    (ht : eval (.Call (.Attribute o m apos) (e :: es) [] pos) X.env = (do
      let ov ← eval o X.env
      standAt apos.atName
      let (f, first) ← holding [ov] (getMethod ov m pl)
      callWith pos f first (backTo pos (starEach (e :: es) X.env)) (backToKw pos (keywordEach [] X.env))) := by rfl) :
    PE X (.Call (.Attribute o m apos) (e :: es) [] pos) (tMeth C m sp [] E ta t) := by
  obtain ⟨f, F, hm⟩ := M.ex
  refine ⟨fun pins s σ H Q I h => ?_⟩
  refine PySem.W.methodCall_KW (pl := pl) (thn (he.run pins s σ H _ I h) fun u s1 ⟨x, H1, I1, rx, a, dx, fs, ex, ea, l, q⟩ => ?_) ht
  subst ex
  obtain rfl : u = Value.ref a := rx
  refine getmeth_ok I1 ea c hm l ?_
  refine PySem.W.callWith_K (first := [.ref a]) (h₀ := X.base) I.ok.mod.kin hm.kp (thn (ha.run pos pins s1 σ H1 _ I1 q) fun us s2 ⟨vs, H2, I2, r, q2⟩ => ⟨I2.kIn, ?_⟩) hst hpl
  have q3 : sp (V.ref a :: vs) H2 Q E := by
    have z : sp (V.ref a :: (vs ++ [])) H2 Q E := q2
    rw [List.append_nil] at z
    exact z
  exact wpAny_call (run_fnR (us := .ref a :: us) (vs := .ref a :: vs) F (hr.mono hk) hx I2 (.cons rfl r) q3)
/-- def f(self, *v), off its statement -/
theorem fun_star {P : Program} {w : World} {K : PySem.W.Frag} {mg : Str → Option Value} {base : Heap} {x qual : Str} {st : Stmt} {f : Addr} {fd : FuncData} {N ps : List Str} {pv : Str} {k : Nat} {sp : Sp} (F : Fun K x qual st f fd) (S : FnScope N (ps ++ [pv]) (defScope st))
    (hb : ∀ (kV doc pm : Value) (an : Option Addr) (cdv ct : Value) (us rest : List Value), us.length = ps.length → bindArgs (PySem.W.fnOf x qual (defArgs st) (defBody st) (defScope st) .none kV doc pm an cdv ct) ⟨us ++ rest, []⟩ = (newTuple rest >>= fun t => pure (ps.zip us ++ [(pv, t)])))
    (hbody : ∀ (cdv : Value) (A : Around) (outer : List Env) (s : Shared) (H : Hp) (vs : List V) (Q : VK) (E : XK), Room k (A.deeper (envOfC qual (defScope st) s.heap.objs.size f cdv)) → sp vs H Q E →
      ∃ t, PSs (cxOf CX0 P w K mg base N qual (defScope st) f cdv A outer s H E).nox (defBody st) t ∧ t { nx := fun _ H' => Q .non H', rt := Q } (start N vs) H) :
    FnR P w K mg base CX0 (k + 1) f (fun vs H Q E => ∃ ws rest, vs = ws ++ rest ∧ ws.length = ps.length ∧ rest.length ≤ sizeLine ∧ ∀ p, H p = Option.none → sp (ws ++ [V.ref p]) (upd H p (.tup rest)) Q E) := by
  obtain ⟨oc, od, kV, doc, pm, an, cdv, ct, osl, rfl, lk, hcd⟩ := F.ex
  refine StX.fn_star lk hcd S StX.cxUp_none (hb kV doc pm an cdv ct) fun A outer s H vs Q E hr hsp => ?_
  obtain ⟨t, h, q⟩ := hbody cdv A outer s H vs Q E hr hsp
  exact ⟨t, h.nox, q⟩
end My
set_option Elab.async false
set_option linter.all false
set_option maxRecDepth 100000
set_option maxHeartbeats 4000000
namespace L2
open PySem PySem.Spec PyProof.Rows
/-! ### tuples whose object is known to have no dict: their methods may be called -/
section
variable {X : Cx}
theorem call_tuple_ofF : CallR X (.type "tuple") (fun xs H Q => ∃ p ys, xs = [.ref p] ∧ SqL X.K H p ys ∧ ∀ l ob, H l = none → ob.dict = none → Q (.ref l) (upd H l (.frz ob (.tup ys)))) := by
  intro pins s σ H xs us Q I r h
  obtain ⟨p, ys, rfl, hq, q⟩ := h
  obtain ⟨u, rfl, rx⟩ := vals1 r
  cases rx
  obtain ⟨its, r', pl, hz⟩ := I.list hq
  have hlen := r'.length
  refine call_tuple_list pl.isList (fun h' kp => ?_) (by simp only [List.size_toArray] <;> omega)
  have I1 : Inv X pins σ H { s with heap := h' } := I.kept (t' := s.toks) kp
  have I2 : Inv X pins σ (upd H h'.objs.size (.frz { cls := .type "tuple", data := .seq its.toArray } (.tup ys))) { s with heap := h'.push { cls := .type "tuple", data := .seq its.toArray } } :=
    I1.laid (t' := s.toks) (fun b o e => Heap.get?_push_of_some _ e) (Nat.le_refl _) (show ObjOk X.prog X.w _ _ _ (.frz _ (.tup ys)) from ⟨Heap.get?_push_size _ rfl, hz, its, r', IsTup.new _ _⟩)
  exact ⟨.ref h'.objs.size, _, I2, rfl, q _ _ (I1.hok.fresh (Nat.le_refl _)) rfl⟩
/-- a tuple at p whose object has no dict -/
def FrzT (H : Hp) (p : Addr) (xs : List V) : Prop := ∃ ob, H p = some (.frz ob (.tup xs)) ∧ ob.dict = none
theorem FrzT.sq {K : PySem.W.Frag} {H : Hp} {p : Addr} {xs : List V} (h : FrzT H p xs) : SqT K H p xs := by
  obtain ⟨ob, h, _⟩ := h
  exact .inl (.inr ⟨ob, h⟩)
def tBMF (r : V → List V → Hp → VK → Prop) (to : TE) (t : TA) : TE := fun σ H Q => to σ H fun x H1 => (∃ p xs, x = .ref p ∧ FrzT H1 p xs) ∧ t σ H1 fun ys H2 => r x ys H2 Q
theorem pe_bmF {o e : Expr} {es : List Expr} {name : Str} {id : String} {apos cpos : Pos} {to : TE} {t : TA} {r : V → List V → Hp → VK → Prop} (pa : PlainAttrs "tuple") (slot : Slot "tuple" name id) (hty : typeOf (.builtin id) = pure (.type "method_descriptor")) (hm : MtR X id r) (ho : PE X o to) (ha : PA X (e :: es) t)
    (hbase : attributeBase o name X.env (eval o X.env) = eval o X.env := by rfl)
    (hfew : ((backTo cpos (starEach (e :: es) X.env)).all (fun x => !x.1) && (backToKw cpos (keywordEach [] X.env)).all (fun x => x.1.isSome)
      && decide ((e :: es).length + ([] : List Keyword).length + (if ([] : List Keyword).isEmpty then 0 else 1) < 30)) = true := by rfl)
    (hline : (apos.endLine == cpos.line) = true := by rfl) (hs : starEach (e :: es) X.env = (false, eval e X.env) :: starEach es X.env := by rfl) (hplain : (backTo cpos (starEach es X.env)).any (·.1) = false := by rfl) :
    PE X (.Call (.Attribute o name apos) (e :: es) [] cpos) (tBMF r to t) := by
  refine ⟨fun pins s σ H Q I h => ?_⟩
  refine wpAny_Call_method_late hbase hfew hline rfl (thn (ho.run pins s σ H _ I h) fun v s1 ⟨x, H1, I1, r1, ⟨p, xs, ex, ob, hp, hd⟩, q1⟩ => ?_)
  subst ex
  cases r1
  obtain ⟨g1, _, its, _, o2, g2, g3, _⟩ := (show ObjOk X.prog X.w H1 s1.heap p (.frz ob (.tup xs)) from I1.hok p _ hp)
  have e : o2 = ob := by rw [g1] at g2; exact (Option.some.inj g2).symm
  subst e
  refine ⟨"tuple", id, pa, slot, hty, ⟨_, g1, g3⟩, fun a ea => by cases ea; exact ⟨_, g1, hd⟩, ?_⟩
  have hA := ha.run cpos pins s1 σ H1 _ I1 q1
  rw [hs] at hA ⊢
  refine Calls.callWith_builtin (by show (false || (backTo cpos (starEach es X.env)).any (·.1)) = false; rw [hplain] <;> rfl) (Calls.evalArgs_plain ?_)
  exact thn hA fun us s2 ⟨vs, H2, I2, r2, q2⟩ => hm pins s2 σ H2 (.ref p) vs (.ref p) us Q I2 rfl r2 q2
end
end L2
set_option Elab.async false
set_option linter.all false
set_option maxRecDepth 100000
set_option maxHeartbeats 4000000
namespace My
open PySem L2 SS
def top (i : Nat) : Stmt := PySem.Challenge.pw_sendstead_k29_sweep_papers.main.body.getD i (.Pass ⟨0, 0, 0, 0⟩)
abbrev s_is_kind_name : Stmt := top 10
abbrev s_is_name : Stmt := top 11
abbrev s_is_text : Stmt := top 12
abbrev s_has_only : Stmt := top 13
abbrev s_sort_of : Stmt := top 15
abbrev s_is_whole : Stmt := top 16
abbrev s_is_row : Stmt := top 17
abbrev s_is_plain : Stmt := top 18
abbrev s_same : Stmt := top 19
abbrev s_is_number_from_0 : Stmt := top 21
abbrev s_is_cell_word : Stmt := top 22
abbrev s_is_text_of : Stmt := top 23
abbrev s_is_worth : Stmt := top 24
abbrev s_are_worths : Stmt := top 25
abbrev s_is_cell : Stmt := top 26
abbrev s_are_cell_words : Stmt := top 27
abbrev s_is_kind_word : Stmt := top 28
abbrev s_worths_in : Stmt := top 29
abbrev s_with_worths : Stmt := top 30
abbrev s_addresses_among : Stmt := top 31
abbrev s_moved_worths : Stmt := top 32
abbrev s_sweep_stands : Stmt := top 34
abbrev s_are_rising : Stmt := top 35
abbrev s_are_pairs : Stmt := top 36
abbrev s_are_cells_by_addresses : Stmt := top 37
abbrev s_are_moves : Stmt := top 38
abbrev s_is_moved_whole : Stmt := top 39
abbrev s_moved_cells : Stmt := top 40
abbrev s__law_deck : Stmt := top 42
abbrev s__law_next : Stmt := top 43
abbrev s__law_worth : Stmt := top 44
abbrev s__law_worths : Stmt := top 45
abbrev s__law_cell : Stmt := top 46
abbrev s__law_places : Stmt := top 47
abbrev s__law_parts : Stmt := top 48
abbrev s__law_closed : Stmt := top 49
abbrev s__law_moved : Stmt := top 50
abbrev s__law_moved_cell : Stmt := top 51
abbrev s__law_told : Stmt := top 52
abbrev s__law_cells : Stmt := top 53
abbrev s__law_paper : Stmt := top 54
abbrev s__law_fewer : Stmt := top 55
abbrev s_law : Stmt := top 56
/-- all that the top has -/
structure Fz (K : PySem.W.Frag) (mg : Str → Option Value) where
  D_is_kind_name : Dn K mg "is_kind_name" s_is_kind_name
  D_is_name : Dn K mg "is_name" s_is_name
  D_is_text : Dn K mg "is_text" s_is_text
  D_has_only : Dn K mg "has_only" s_has_only
  D_sort_of : Dn K mg "sort_of" s_sort_of
  D_is_whole : Dn K mg "is_whole" s_is_whole
  D_is_row : Dn K mg "is_row" s_is_row
  D_is_plain : Dn K mg "is_plain" s_is_plain
  D_same : Dn K mg "same" s_same
  D_is_number_from_0 : Dn K mg "is_number_from_0" s_is_number_from_0
  D_is_cell_word : Dn K mg "is_cell_word" s_is_cell_word
  D_is_text_of : Dn K mg "is_text_of" s_is_text_of
  D_is_worth : Dn K mg "is_worth" s_is_worth
  D_are_worths : Dn K mg "are_worths" s_are_worths
  D_is_cell : Dn K mg "is_cell" s_is_cell
  D_are_cell_words : Dn K mg "are_cell_words" s_are_cell_words
  D_is_kind_word : Dn K mg "is_kind_word" s_is_kind_word
  D_worths_in : Dn K mg "worths_in" s_worths_in
  D_with_worths : Dn K mg "with_worths" s_with_worths
  D_addresses_among : Dn K mg "addresses_among" s_addresses_among
  D_moved_worths : Dn K mg "moved_worths" s_moved_worths
  D_sweep_stands : Dn K mg "sweep_stands" s_sweep_stands
  D_are_rising : Dn K mg "are_rising" s_are_rising
  D_are_pairs : Dn K mg "are_pairs" s_are_pairs
  D_are_cells_by_addresses : Dn K mg "are_cells_by_addresses" s_are_cells_by_addresses
  D_are_moves : Dn K mg "are_moves" s_are_moves
  D_is_moved_whole : Dn K mg "is_moved_whole" s_is_moved_whole
  D_moved_cells : Dn K mg "moved_cells" s_moved_cells
  D__law_deck : Dn K mg "_law_deck" s__law_deck
  D__law_next : Dn K mg "_law_next" s__law_next
  D__law_worth : Dn K mg "_law_worth" s__law_worth
  D__law_worths : Dn K mg "_law_worths" s__law_worths
  D__law_cell : Dn K mg "_law_cell" s__law_cell
  D__law_places : Dn K mg "_law_places" s__law_places
  D__law_parts : Dn K mg "_law_parts" s__law_parts
  D__law_closed : Dn K mg "_law_closed" s__law_closed
  D__law_moved : Dn K mg "_law_moved" s__law_moved
  D__law_moved_cell : Dn K mg "_law_moved_cell" s__law_moved_cell
  D__law_told : Dn K mg "_law_told" s__law_told
  D__law_cells : Dn K mg "_law_cells" s__law_cells
  D__law_paper : Dn K mg "_law_paper" s__law_paper
  D__law_fewer : Dn K mg "_law_fewer" s__law_fewer
  g_MOST_FIELDS : GI mg "MOST_FIELDS" 8
  g_MOST_NAMES : GI mg "MOST_NAMES" 12
  g_MOST_WORTHS_OF_LIST : GI mg "MOST_WORTHS_OF_LIST" 30
  g_BIG : GI mg "BIG" 1000000000000
  g_MOST_TEXT_SIGNS : GI mg "MOST_TEXT_SIGNS" 40
  g_MOST_NAME_SIGNS : GI mg "MOST_NAME_SIGNS" 12
  g_CAPITALS : GS mg "CAPITALS" (mk [65, 66, 67, 68, 69, 70, 71, 72, 73, 74, 75, 76, 77, 78, 79, 80, 81, 82, 83, 84, 85, 86, 87, 88, 89, 90])
  g_KIND_SIGNS : GS mg "KIND_SIGNS" (mk [97, 98, 99, 100, 101, 102, 103, 104, 105, 106, 107, 108, 109, 110, 111, 112, 113, 114, 115, 116, 117, 118, 119, 120, 121, 122, 65, 66, 67, 68, 69, 70, 71, 72, 73, 74, 75, 76, 77, 78, 79, 80, 81, 82, 83, 84, 85, 86, 87, 88, 89, 90, 48, 49, 50, 51, 52, 53, 54, 55, 56, 57])
  g_TEXT_SIGNS : GS mg "TEXT_SIGNS" (mk [97, 98, 99, 100, 101, 102, 103, 104, 105, 106, 107, 108, 109, 110, 111, 112, 113, 114, 115, 116, 117, 118, 119, 120, 121, 122, 65, 66, 67, 68, 69, 70, 71, 72, 73, 74, 75, 76, 77, 78, 79, 80, 81, 82, 83, 84, 85, 86, 87, 88, 89, 90, 48, 49, 50, 51, 52, 53, 54, 55, 56, 57, 95])
  b_abs : mg "abs" = none
  b_all : mg "all" = none
  b_any : mg "any" = none
  b_bool : mg "bool" = none
  b_dict : mg "dict" = none
  b_divmod : mg "divmod" = none
  b_enumerate : mg "enumerate" = none
  b_int : mg "int" = none
  b_isinstance : mg "isinstance" = none
  b_len : mg "len" = none
  b_list : mg "list" = none
  b_max : mg "max" = none
  b_min : mg "min" = none
  b_range : mg "range" = none
  b_repr : mg "repr" = none
  b_reversed : mg "reversed" = none
  b_set : mg "set" = none
  b_sorted : mg "sorted" = none
  b_str : mg "str" = none
  b_sum : mg "sum" = none
  b_tuple : mg "tuple" = none
  b_zip : mg "zip" = none
end My
set_option Elab.async false
set_option linter.all false
set_option maxRecDepth 100000
set_option maxHeartbeats 2000000
namespace My
open PySem L2 SS
/-! ### numbers, words: the functions -/
def figsOf : T → T
  | 45 :: cs => cs
  | l => l
def numOf : T → Int
  | 45 :: cs => -((NumText.digitsVal cs : Nat) : Int)
  | l => ((NumText.digitsVal l : Nat) : Int)
def numStr (n : Int) : Str := Str.ofString (toString n)
def isNum (l : T) : Bool := decide (1 ≤ (figsOf l).length ∧ (figsOf l).length ≤ 13) && (hasOnly (figsOf l) FIGS && (decide (numStr (numOf l) = mk l) && (decide (-1000000000000 < numOf l) && decide (numOf l < 1000000000000))))
def BRs : List Str := [mk [40], mk [41], mk [123], mk [125], mk [91], mk [93], mk [124]]
def MARKs : List Str := [mk [43], mk [45], mk [42], mk [47], mk [60], mk [61], mk [58, 61], mk [58]]
def inS (zs : List Str) (l : T) : Bool := zs.any fun k => k == mk l
def isWord (l : T) : Bool :=
  if inS BRs l = true ∨ inS MARKs l = true then true
  else if l.head? = some 64 then isSmall (l.drop 1)
  else if l.head? = some 39 then isText (l.drop 1)
  else isSmall l || (isKindName l || isNum l)
theorem fold_lt : ∀ (cs : T) (a : Nat), NumText.AllDigits cs → cs.foldl (fun acc c => acc * 10 + (c - 48)) a < (a + 1) * 10 ^ cs.length
  | [], a, _ => by simp
  | c :: cs, a, h => by
    have hc := h c List.mem_cons_self
    have ih := fold_lt cs (a * 10 + (c - 48)) (fun d hd => h d (List.mem_cons_of_mem _ hd))
    rw [List.foldl_cons, List.length_cons]
    have e : (a * 10 + (c - 48) + 1) * 10 ^ cs.length ≤ ((a + 1) * 10) * 10 ^ cs.length := Nat.mul_le_mul_right _ (by omega)
    have e2 : (a + 1) * 10 ^ (cs.length + 1) = ((a + 1) * 10) * 10 ^ cs.length := by rw [Nat.pow_succ, Nat.mul_assoc, Nat.mul_comm 10]
    omega
theorem digits_lt {cs : T} (h : NumText.AllDigits cs) (hl : cs.length ≤ 13) : NumText.digitsVal cs < 10 ^ 13 := by
  have h1 := fold_lt cs 0 h
  have h2 : 10 ^ cs.length ≤ 10 ^ 13 := Nat.pow_le_pow_right (by decide) hl
  unfold NumText.digitsVal
  omega
theorem figs_digits {l : T} (h : hasOnly l FIGS = true) : NumText.AllDigits l := fun c hc => by
  unfold hasOnly at h
  have := of_decide_eq_true (List.all_eq_true.mp h c hc)
  simp [FIGS] at this
  omega
theorem log_small {n : Nat} (h : n < 10 ^ 13) : n.log2 < 1920 := by
  by_cases e : n = 0
  · subst e; decide
  · exact (Nat.log2_lt e).mpr (Nat.lt_of_lt_of_le h (by decide +kernel))
theorem num_facts {l : T} (h1 : 1 ≤ (figsOf l).length) (h2 : (figsOf l).length ≤ 13) (h3 : hasOnly (figsOf l) FIGS = true) : intText? (mk l) = some (numOf l) ∧ (numOf l).natAbs.log2 < 1920 ∧ (mk l).length ≤ 14 := by
  have hd := figs_digits h3
  have hne : figsOf l ≠ [] := fun z => by rw [z] at h1; simp at h1
  have hl : (mk l).length = l.length := by show l.toArray.size = _; simp
  rcases l with _ | ⟨c, cs⟩
  · simp [figsOf] at h1
  · by_cases hc : c = 45
    · subst hc
      have e : figsOf (45 :: cs) = cs := rfl
      rw [e] at h1 h2 hd hne
      refine ⟨intText_neg (cs := cs) rfl hd hne (by rw [hl, List.length_cons]; omega), ?_, by rw [hl, List.length_cons]; omega⟩
      show (-((NumText.digitsVal cs : Nat) : Int)).natAbs.log2 < 1920
      rw [Int.natAbs_neg]
      exact log_small (digits_lt hd h2)
    · have e : figsOf (c :: cs) = c :: cs := by
        unfold figsOf
        split
        · rename_i heq
          exact absurd (List.cons.inj heq).1 hc
        · rfl
      have e2 : numOf (c :: cs) = ((NumText.digitsVal (c :: cs) : Nat) : Int) := by
        unfold numOf
        split
        · rename_i heq
          exact absurd (List.cons.inj heq).1 hc
        · rfl
      rw [e] at h1 h2 hd hne
      rw [e2]
      exact ⟨intText_digits (x := mk (c :: cs)) hd hne (by rw [hl]; omega), log_small (digits_lt hd h2), by rw [hl]; omega⟩
theorem mk_len (l : T) : (mk l).length = l.length := by show l.toArray.size = _; simp
theorem removed (z : Str) : Txt.removeprefix z "-" = mk (figsOf (tl z)) := by
  obtain ⟨⟨l⟩⟩ := z
  have e0 : (Str.ofString "-") = ⟨#[45]⟩ := by decide +kernel
  show Txt.removeprefix ⟨⟨l⟩⟩ (Str.ofString "-") = mk (figsOf l)
  rw [e0]
  unfold Txt.removeprefix
  rcases l with _ | ⟨c, cs⟩
  · rfl
  · have hs : Builtin.Str.subAt ⟨⟨c :: cs⟩⟩ ⟨#[45]⟩ 0 = decide (c = 45) := by
      unfold Builtin.Str.subAt
      have : (⟨c :: cs⟩ : Array Nat).extract 0 (0 + (⟨#[45]⟩ : Str).length) = #[c] := by
        apply Array.toList_inj.mp
        simp [Str.length, Array.toList_extract, List.extract]
      show ((⟨c :: cs⟩ : Array Nat).extract 0 (0 + (⟨#[45]⟩ : Str).length) == #[45]) = _
      rw [this]
      by_cases h : c = 45
      · subst h; rfl
      · rw [decide_eq_false h]
        simp [h]
    rw [hs]
    by_cases h : c = 45
    · subst h
      rw [if_pos (by simp)]
      unfold Txt.affix
      show (if (cs.length + 1) - 1 == cs.length + 1 then _ else _) = _
      rw [if_neg (by simp)]
      unfold Builtin.Str.strSub
      show (⟨(⟨45 :: cs⟩ : Array Nat).extract 1 (cs.length + 1)⟩ : Str) = mk cs
      congr 1
      apply Array.toList_inj.mp
      simp [Array.toList_extract, List.extract]
    · rw [if_neg (by simp [h])]
      have e : figsOf (c :: cs) = c :: cs := by
        unfold figsOf
        split
        · rename_i heq
          exact absurd (List.cons.inj heq).1 h
        · rfl
      rw [e]
      rfl
theorem starts1 (z : Str) (c : Nat) : Txt.startswith z (mk [c]) = decide ((tl z).head? = some c) := by
  obtain ⟨⟨l⟩⟩ := z
  unfold Txt.startswith
  rcases l with _ | ⟨d, ds⟩
  · rfl
  · have hs : Builtin.Str.subAt ⟨⟨d :: ds⟩⟩ (mk [c]) 0 = decide (d = c) := by
      unfold Builtin.Str.subAt
      have : (⟨d :: ds⟩ : Array Nat).extract 0 (0 + (mk [c]).length) = #[d] := by
        apply Array.toList_inj.mp
        simp [Str.length, Array.toList_extract, List.extract]
      show ((⟨d :: ds⟩ : Array Nat).extract 0 (0 + (mk [c]).length) == #[c]) = _
      rw [this]
      by_cases h : d = c
      · subst h; simp
      · rw [decide_eq_false h]
        simp [h]
    rw [hs]
    show (decide (0 + 1 ≤ ds.length + 1) && decide (d = c)) = decide ((d :: ds).head? = some c)
    rw [decide_eq_true (by omega), Bool.true_and]
    simp
theorem cut1 (z : Str) : cutS z (some 1) none = mk ((tl z).drop 1) := by
  unfold cutS
  rw [HT.sIx_none]
  have h : HT.sIx z.length 0 (some 1) = min 1 z.length := HT.sIx_nat z.length 0 1
  rw [h]
  have hl := len_tl z
  have e : (List.take (z.length - min 1 z.length) (List.drop (min 1 z.length) z.cps.toList)) = (tl z).drop 1 := by
    rw [List.take_of_length_le (by rw [List.length_drop, hl]; omega)]
    by_cases h0 : z.length = 0
    · have : tl z = [] := List.eq_nil_of_length_eq_zero (by omega)
      show List.drop _ (tl z) = _
      rw [this]
      simp
    · rw [show min 1 z.length = 1 by omega]
  rw [e]
theorem cut_sl (z : Str) {a b : Nat} (h : b ≤ z.length) : cutS z (some (a : Nat)) (some (b : Nat)) = mk (sl (tl z) a b) := by
  unfold cutS
  rw [HT.sIx_nat, HT.sIx_nat]
  have hl := len_tl z
  unfold sl
  by_cases ha : a ≤ z.length
  · rw [show min a z.length = a by omega, show min b z.length = b by omega]
  · have e1 : (tl z).drop a = [] := List.drop_eq_nil_of_le (by omega)
    rw [e1, List.drop_eq_nil_of_le (by rw [hl]; omega)]
    simp
theorem dec_str (a b : Str) : decide (V.str a = V.str b) = decide (a = b) := by
  by_cases h : a = b
  · subst h; simp
  · rw [decide_eq_false h, decide_eq_false (fun z => h (V.str.inj z))]
section
variable {P : Program} {w : World} {K : PySem.W.Frag} {mg : Str → Option Value} {base : Heap}
theorem big_len : (Str.ofString (toString (1000000000000 : Int))).length = 13 := by decide +kernel
end
end My
set_option Elab.async false
set_option linter.all false
set_option maxRecDepth 100000
set_option maxHeartbeats 2000000
namespace My
open PySem L2 SS
/-! ### things that stand in tuples -/
def AtT {α : Type} (f : α → List V) (H : Hp) (v : V) (q : α) : Prop := ∃ p, v = .ref p ∧ H p = some (.tup (f q))
inductive AllT {α : Type} (f : α → List V) (H : Hp) : List V → List α → Prop
  | nil : AllT f H [] []
  | cons {v : V} {q : α} {vs : List V} {qs : List α} : AtT f H v q → AllT f H vs qs → AllT f H (v :: vs) (q :: qs)
/-- tuples stand -/
structure Tups (H H' : Hp) : Prop where
  tup : ∀ p xs, H p = some (.tup xs) → H' p = some (.tup xs)
  frz : ∀ p o u, H p = some (.frz o u) → H' p = some (.frz o u)
instance {H H' : Hp} : CoeFun (Tups H H') (fun _ => ∀ p xs, H p = some (.tup xs) → H' p = some (.tup xs)) := ⟨Tups.tup⟩
theorem same_tups {H H' : Hp} (s : Same H H') : Tups H H' := ⟨fun p xs h => s p _ h, fun p o u h => s p _ h⟩
theorem Tups.trans {H H1 H2 : Hp} (a : Tups H H1) (b : Tups H1 H2) : Tups H H2 := ⟨fun p xs h => b p xs (a p xs h), fun p o u h => b.frz _ _ _ (a.frz _ _ _ h)⟩
theorem tups_new {H : Hp} {p : Addr} (h : H p = none) (o : HO) : Tups H (upd H p o) := same_tups (same_new h o)
theorem tups_lst {H : Hp} {p : Addr} {xs ys : List V} (h : H p = some (.lst xs)) : Tups H (upd H p (.lst ys)) := ⟨fun b u q => by
  rw [upd_ne (ne_of q h (by intro z; cases z))]; exact q, fun b o_ u_ q => by
  rw [upd_ne (ne_of q h (by intro z; cases z))]; exact q⟩
section
variable {α : Type} {f : α → List V} {H H' : Hp}
theorem AllT.on : ∀ {vs : List V} {qs : List α}, AllT f H vs qs → Tups H H' → AllT f H' vs qs
  | _, _, .nil, _ => .nil
  | _, _, .cons ⟨p, e, h⟩ r, t => .cons ⟨p, e, t _ _ h⟩ (r.on t)
theorem AllT.append : ∀ {vs ws : List V} {qs rs : List α}, AllT f H vs qs → AllT f H ws rs → AllT f H (vs ++ ws) (qs ++ rs)
  | _, _, _, _, .nil, h => h
  | _, _, _, _, .cons a r, h => .cons a (r.append h)
theorem AllT.length : ∀ {vs : List V} {qs : List α}, AllT f H vs qs → vs.length = qs.length
  | _, _, .nil => rfl
  | _, _, .cons _ r => by rw [List.length_cons, List.length_cons, r.length]
theorem AllT.get : ∀ {vs : List V} {qs : List α} {i : Nat} {v : V}, AllT f H vs qs → vs[i]? = some v → ∃ q, qs[i]? = some q ∧ AtT f H v q
  | _, _, i, v, .nil, h => by simp at h
  | _, _, 0, v, .cons a r, h => by simp at h; subst h; exact ⟨_, rfl, a⟩
  | _, _, i + 1, v, .cons a r, h => by
    obtain ⟨q, h1, h2⟩ := r.get (i := i) (v := v) (by simpa using h)
    exact ⟨q, by simpa using h1, h2⟩
/-- a list that is being made, its items in tuples -/
def LS (f : α → List V) (H H1 : Hp) (l : Addr) (ps : List α) : Prop := Same H H1 ∧ H l = none ∧ ∃ vs, H1 l = some (.lst vs) ∧ AllT f H1 vs ps
theorem LS.new {H1 : Hp} {l p : Addr} {ps : List α} (h : LS f H H1 l ps) (n : H1 p = none) (o : HO) : LS f H (upd H1 p o) l ps := by
  obtain ⟨s, hl, vs, h1, h2⟩ := h
  exact ⟨s.trans (same_new n o), hl, vs, by rw [upd_ne (ne_of_none h1 n)]; exact h1, h2.on (tups_new n o)⟩
theorem LS.push {H1 : Hp} {l p : Addr} {ps : List α} {q : α} (h : LS f H H1 l ps) (hp : H1 p = some (.tup (f q))) : ∃ vs, H1 l = some (.lst vs) ∧ vs.length = ps.length ∧ LS f H (upd H1 l (.lst (vs ++ [.ref p]))) l (ps ++ [q]) := by
  obtain ⟨s, hl, vs, h1, h2⟩ := h
  refine ⟨vs, h1, h2.length, fun b u e => ?_, hl, _, upd_same, ?_⟩
  · rw [upd_ne (ne_of_none e hl)]
    exact s b u e
  · have t : Tups H1 (upd H1 l (.lst (vs ++ [.ref p]))) := tups_lst h1
    exact (h2.on t).append (.cons ⟨p, rfl, t _ _ hp⟩ .nil)
end
def fP (q : List Nat × Nat) : List V := [.str (mk q.1), .int (q.2 : Nat)]
def fW (q : W) : List V := [.str (mk q.1), .int (q.2.1 : Nat), .int (q.2.2 : Nat)]
section
variable {P : Program} {w : World} {K : PySem.W.Frag} {mg : Str → Option Value} {base : Heap}
/-! ### is_word -/
theorem s_at : (Str.ofString "@") = mk [64] := by decide +kernel
theorem s_quote : (Str.ofString "'") = mk [39] := by decide +kernel
/-! ### words_of_row -/
def spRow : Sp := fun vs H Q _ => ∃ z : Str, vs = [.str z] ∧ z.length ≤ 100000 ∧ ∀ (H' : Hp) (l : Addr) (us : List V), Same H H' → H l = none → H' l = some (.lst us) → AllT fP H' us (rowWords (tl z)) → Q (.ref l) H'
def RowInv (L : List Nat) (i a : Nat) (ps : List (List Nat × Nat)) : Prop := (i ≤ L.length ∧ a ≤ i ∧ ps ++ rw_ (sl L a i) (i + 1) (L.drop i) = rowWords L) ∨ (i = L.length + 1 ∧ ps = rowWords L)
theorem RowInv.len {L : List Nat} {i a : Nat} {ps : List (List Nat × Nat)} (h : RowInv L i a ps) : ps.length ≤ 2 * L.length := by
  have := rowWords_len L
  rcases h with ⟨_, _, h⟩ | ⟨_, h⟩
  · rw [← h, List.length_append] at this
    omega
  · rw [h]; exact this
theorem s_blank : (Str.ofString " ") = mk [32] := by decide +kernel
theorem sep_in (c : Nat) : inS BRs [c] = decide (c ∈ BR) := by
  have e : ∀ d : Nat, ((mk [d]) == mk [c]) = decide (c = d) := fun d => by
    by_cases h : c = d
    · subst h; simp
    · rw [decide_eq_false h]
      apply beq_eq_false_iff_ne.mpr
      intro z
      have z2 := congrArg (fun s => s.cps.toList) z
      simp at z2
      exact h z2.symm
  unfold inS BRs BR
  simp only [List.any_cons, List.any_nil, e, List.mem_cons, List.not_mem_nil, Bool.decide_or, Bool.or_false, or_false]
end
end My
set_option Elab.async false
set_option linter.all false
set_option maxRecDepth 100000
set_option maxHeartbeats 2000000
namespace My
open PySem L2 SS
def oN : Option Nat → V
  | none => .non
  | some c => .int (c : Nat)
theorem foldMin : ∀ (ns : List Int) (n : Int), (ns.foldl min n) ∈ n :: ns ∧ ∀ y ∈ n :: ns, ns.foldl min n ≤ y
  | [], n => by simp
  | k :: r, n => by
    have ih := foldMin r (min n k)
    rw [List.foldl_cons]
    constructor
    · rcases List.mem_cons.mp ih.1 with h | h
      · rw [h]
        by_cases c : n ≤ k
        · rw [Int.min_eq_left c]; simp
        · rw [Int.min_eq_right (by omega)]; simp
      · exact List.mem_cons_of_mem _ (List.mem_cons_of_mem _ h)
    · intro y hy
      have h0 := ih.2 (min n k) List.mem_cons_self
      rcases List.mem_cons.mp hy with h | h
      · subst h; omega
      · rcases List.mem_cons.mp h with h | h
        · subst h; omega
        · exact ih.2 y (List.mem_cons_of_mem _ h)
theorem minOf_ints {c : Nat} {r : List Nat} {m : Int} (h : m = (r.map fun (k : Nat) => (k : Int)).foldl min ((c : Nat) : Int)) : ∃ k, minOf (c :: r) = some k ∧ m = (k : Nat) := by
  have f := foldMin (r.map fun (k : Nat) => (k : Int)) ((c : Nat) : Int)
  rw [← h] at f
  have e : ((c : Nat) : Int) :: (r.map fun (k : Nat) => (k : Int)) = (c :: r).map fun (k : Nat) => (k : Int) := rfl
  rw [e] at f
  obtain ⟨k, hk, ek⟩ := List.mem_map.mp f.1
  refine ⟨k, minOf_some.mpr ⟨hk, fun y hy => ?_⟩, ek.symm⟩
  have := f.2 ((y : Nat) : Int) (List.mem_map.mpr ⟨y, hy, rfl⟩)
  omega
section
variable {P : Program} {w : World} {K : PySem.W.Frag} {mg : Str → Option Value} {base : Heap}
def spWrong : Sp := fun vs H Q _ => ∃ (a : Addr) (n : Nat) (us : List V) (ps : List (List Nat × Nat)), vs = [.ref a, .int (n : Nat)] ∧ H a = some (.lst us) ∧ AllT fP H us ps ∧ (∀ q ∈ ps, q.1.length ≤ 100000) ∧ ps.length ≤ 300000 ∧ ∀ H', Same H H' → Q (oN (wrongCol isWord ps n)) H'
theorem alike_ints (ns : List Int) : PySem.W.AlikeAll (ns.map PyData.int) := by
  refine ⟨fun x hx y hy => ?_, fun x hx => ?_⟩
  · obtain ⟨a, _, rfl⟩ := List.mem_map.mp hx
    obtain ⟨b, _, rfl⟩ := List.mem_map.mp hy
    rfl
  · obtain ⟨a, _, rfl⟩ := List.mem_map.mp hx
    intro z
    cases z
theorem depth_ints : ∀ ns : List Int, PyData.depthAll (ns.map PyData.int) ≤ 20
  | [] => by decide
  | n :: r => by
    have := depth_ints r
    show max (PyData.depth (.int n)) (PyData.depthAll (r.map PyData.int)) ≤ 20
    exact Nat.max_le.mpr ⟨by show 0 ≤ 20; decide, this⟩
theorem dp_ints {H : Hp} : ∀ ns : List Int, DpAll K H (ns.map V.int) (ns.map PyData.int)
  | [] => .nil
  | n :: r => .cons (.int n) (dp_ints r)
end
end My
set_option Elab.async false
set_option linter.all false
set_option maxRecDepth 100000
set_option maxHeartbeats 2000000
namespace My
open PySem L2 SS
theorem LS.pushAll {α : Type} {f : α → List V} {H H1 : Hp} {l : Addr} {ps qs : List α} {us : List V} (h : LS f H H1 l ps) (hq : AllT f H1 us qs) : ∃ vs, H1 l = some (.lst vs) ∧ vs.length = ps.length ∧ LS f H (upd H1 l (.lst (vs ++ us))) l (ps ++ qs) := by
  obtain ⟨s, hl, vs, h1, h2⟩ := h
  refine ⟨vs, h1, h2.length, fun b u e => ?_, hl, _, upd_same, ?_⟩
  · rw [upd_ne (ne_of_none e hl)]
    exact s b u e
  · have t : Tups H1 (upd H1 l (.lst (vs ++ us))) := tups_lst h1
    exact (h2.on t).append (hq.on t)
theorem lay_len (r : Nat) (p : List (List Nat × Nat)) : (lay r p).length = p.length := by unfold lay; rw [List.length_map]
theorem scanGo_len {isW : List Nat → Bool} : ∀ (ls : List (List Nat)) (r : Nat), (∀ l ∈ ls, l.length ≤ 1000) → (scanGo isW r ls).1.length ≤ 2000 * ls.length
  | [], r, _ => by simp [scanGo]
  | l :: ls, r, h => by
    have hl := h l List.mem_cons_self
    have ih := scanGo_len ls (r + 1) (fun x hx => h x (List.mem_cons_of_mem _ hx)) (isW := isW)
    have hr := rowWords_len l
    rw [scanGo, List.length_cons]
    split
    · rename_i c _
      have := List.length_filter_le (fun q : List Nat × Nat => decide (q.2 < c)) (rowWords l)
      show (lay r ((rowWords l).filter fun q => decide (q.2 < c))).length ≤ _
      rw [lay_len]
      refine Nat.le_trans this ?_
      omega
    · show (lay _ _ ++ _).length ≤ _
      rw [List.length_append, lay_len]
      omega
def StopAt (H : Hp) (v : V) : Option (Nat × Nat) → Prop
  | none => v = .non
  | some p => ∃ q, v = .ref q ∧ H q = some (.tup [.int (p.1 : Nat), .int (p.2 : Nat)])
def nl : Str := Str.ofString "\n"
/-- a text whose rows are neither many nor long -/
def Fits (z : Str) (rs : List Str) : Prop := Txt.split z nl = rs ∧ z.length ≤ 100000 ∧ rs.length ≤ 1000 ∧ ∀ r ∈ rs, r.length ≤ 1000
def spScan : Sp := fun vs H Q _ => ∃ (z : Str) (rs : List Str), vs = [.str z] ∧ Fits z rs ∧
  ∀ (H' : Hp) (p wl : Addr) (st : V) (us : List V), Same H H' → H' p = some (.tup [.ref wl, st]) → H' wl = some (.tup us) → AllT fW H' us (scan isWord (rs.map tl)).1 → us.length ≤ 600000 → StopAt H' st (scan isWord (rs.map tl)).2 → Q (.ref p) H'
theorem LS.same {α : Type} {f : α → List V} {H H1 H2 : Hp} {l : Addr} {ps : List α} (h : LS f H H1 l ps) (s : Same H1 H2) : LS f H H2 l ps := by
  obtain ⟨s0, hl, vs, h1, h2⟩ := h
  exact ⟨s0.trans s, hl, vs, s _ _ h1, h2.on (same_tups s)⟩
theorem rw_wlen : ∀ (r cur : List Nat) (k : Nat), ∀ q ∈ rw_ cur k r, q.1.length ≤ cur.length + r.length + 1
  | [], cur, k, q, h => by
    rw [rw_] at h
    unfold flush at h
    split at h
    · simp at h
    · simp at h; subst h; show cur.length ≤ _; omega
  | c :: r, cur, k, q, h => by
    rw [rw_] at h
    rw [List.length_cons]
    split at h
    · rcases List.mem_append.mp h with h | h
      · rcases List.mem_append.mp h with h | h
        · unfold flush at h
          split at h
          · simp at h
          · simp at h; subst h; show cur.length ≤ _; omega
        · split at h
          · simp at h
          · simp at h; subst h; show 1 ≤ _; omega
      · have := rw_wlen r [] (k + 1) q h
        rw [List.length_nil] at this
        omega
    · have := rw_wlen r (cur ++ [c]) (k + 1) q h
      rw [List.length_append] at this
      simp only [List.length_cons, List.length_nil] at this
      omega
def condW : Option Nat → (List Nat × Nat) → Bool
  | none, _ => true
  | some c, q => decide (q.2 < c)
section
variable {P : Program} {w : World} {K : PySem.W.Frag} {mg : Str → Option Value} {base : Heap}
theorem cut300 (xs : List V) : cutV xs none (some (300 : Int)) = xs.take 300 := by
  unfold cutV
  rw [HT.sIx_none, show (300 : Int) = ((300 : Nat) : Int) from rfl, HT.sIx_nat, List.drop_zero, Nat.sub_zero]
  rcases Nat.lt_or_ge 300 xs.length with h | h
  · rw [Nat.min_eq_left (by omega)]
  · rw [Nat.min_eq_right h, List.take_length, List.take_of_length_le h]
end
end My
set_option Elab.async false
set_option linter.all false
set_option maxRecDepth 100000
set_option maxHeartbeats 8000000
namespace My
open PySem L2 SS
/-! ### sorts of things; whether two are the same -/
inductive Srt
  | non | tru | num | txt | tup | oth
deriving DecidableEq
def Srt.w : Srt → Str
  | .non => Str.ofString "none"
  | .tru => Str.ofString "truth"
  | .num => Str.ofString "number"
  | .txt => Str.ofString "text"
  | .tup => Str.ofString "tuple"
  | .oth => Str.ofString "other"
theorem Srt.w_dec (s t : Srt) : decide (V.str s.w = V.str t.w) = decide (s = t) := by cases s <;> cases t <;> decide +kernel
theorem Srt.w_oth (s : Srt) : decide (V.str s.w = V.str (Str.ofString "other")) = decide (s = .oth) := Srt.w_dec s .oth
theorem Srt.w_tup (s : Srt) : decide (V.str s.w = V.str (Str.ofString "tuple")) = decide (s = .tup) := Srt.w_dec s .tup
abbrev TupA (H : Hp) (p : Addr) (xs : List V) : Prop := Rd H p (.tup xs)
inductive ThS (H : Hp) : V → Srt → Prop
  | non : ThS H .non .non
  | tru (b : Bool) : ThS H (.bl b) .tru
  | num (i : Int) : ThS H (.int i) .num
  | txt (z : Str) : ThS H (.str z) .txt
  | tup {p : Addr} {xs : List V} (h : TupA H p xs) : ThS H (.ref p) .tup
  | lst {p : Addr} {xs : List V} (h : H p = some (.lst xs)) : ThS H (.ref p) .oth
  | dK {p : Addr} {kvs : List (Key × V)} (h : H p = some (.dK kvs)) : ThS H (.ref p) .oth
/-- Rd tuples and things stand where tuples, lists, dicts stand -/
def Stds (H H' : Hp) : Prop := ∀ b u, H b = some u → H' b = some u
theorem ThS.same {H H' : Hp} (s : Same H H') {x : V} {t : Srt} (h : ThS H x t) : ThS H' x t := by
  cases h with
  | non => exact .non
  | tru b => exact .tru b
  | num i => exact .num i
  | txt z => exact .txt z
  | tup h => exact .tup (h.elim (fun h => .inl (s _ _ h)) fun ⟨o, h⟩ => .inr ⟨o, s _ _ h⟩)
  | lst h => exact .lst (s _ _ h)
  | dK h => exact .dK (s _ _ h)
theorem TupA.same {H H' : Hp} (s : Same H H') {p : Addr} {xs : List V} (h : TupA H p xs) : TupA H' p xs := h.elim (fun h => .inl (s _ _ h)) fun ⟨o, h⟩ => .inr ⟨o, s _ _ h⟩
theorem TupA.sq {K : PySem.W.Frag} {H : Hp} {p : Addr} {xs : List V} (h : TupA H p xs) : SqT K H p xs := .inl h
/-- the type that isinstance sees -/
def Srt.ty : Srt → String → Prop
  | .non, t => t = "NoneType"
  | .tru, t => t = "bool"
  | .num, t => t = "int"
  | .txt, t => t = "str"
  | .tup, t => t = "tuple"
  | .oth, t => t = "list" ∨ t = "dict"
theorem ThS.ty {K : PySem.W.Frag} {H : Hp} {x : V} {s : Srt} (h : ThS H x s) : ∃ t, TyX K H x (.type t) ∧ s.ty t := by
  cases h with
  | non => exact ⟨_, .base .non, rfl⟩
  | tru b => exact ⟨_, .base (.bl b), rfl⟩
  | num i => exact ⟨_, .base (.int i), rfl⟩
  | txt z => exact ⟨_, .base (.str z), rfl⟩
  | tup h =>
    rcases h with h | ⟨o, h⟩
    · exact ⟨_, .base (.tup h), rfl⟩
    · exact ⟨_, .fTuple h, rfl⟩
  | lst h => exact ⟨_, .base (.lst h), .inl rfl⟩
  | dK h => exact ⟨_, .base (.dK h), .inr rfl⟩
/-- isinstance(x, T) for T a built-in of these four -/
def Srt.isT : Srt → String → Bool
  | .tru, "bool" => true
  | .tru, "int" => true
  | .num, "int" => true
  | .txt, "str" => true
  | .tup, "tuple" => true
  | _, _ => false
theorem Srt.kit {K : PySem.W.Frag} {s : Srt} {t : String} (h : s.ty t) : PySem.W.kitOne K (.type t) (.type "bool") = some (s.isT "bool") ∧ PySem.W.kitOne K (.type t) (.type "int") = some (s.isT "int") ∧ PySem.W.kitOne K (.type t) (.type "str") = some (s.isT "str") ∧ PySem.W.kitOne K (.type t) (.type "tuple") = some (s.isT "tuple") := by
  cases s with
  | oth => rcases h with rfl | rfl <;> exact ⟨rfl, rfl, rfl, rfl⟩
  | non => cases h; exact ⟨rfl, rfl, rfl, rfl⟩
  | tru => cases h; exact ⟨rfl, rfl, rfl, rfl⟩
  | num => cases h; exact ⟨rfl, rfl, rfl, rfl⟩
  | txt => cases h; exact ⟨rfl, rfl, rfl, rfl⟩
  | tup => cases h; exact ⟨rfl, rfl, rfl, rfl⟩
theorem ThS.none {H : Hp} {x : V} {s : Srt} (h : ThS H x s) : decide (x = V.non) = decide (s = .non) := by
  cases h <;> simp
theorem ThS.det {H : Hp} {x : V} {s t : Srt} (h : ThS H x s) (k : ThS H x t) : s = t := by
  have no : ∀ {p : Addr} {xs : List V} {u : HO}, TupA H p xs → H p = some u → (∀ ys, u ≠ .tup ys) → (∀ o v, u ≠ .frz o v) → False := fun {p xs u} h1 h2 n1 n2 => by
    rcases h1 with h1 | ⟨o, h1⟩
    · rw [h1] at h2; cases h2; exact n1 _ rfl
    · rw [h1] at h2; cases h2; exact n2 _ _ rfl
  cases h with
  | non => cases k; rfl
  | tru b => cases k; rfl
  | num i => cases k; rfl
  | txt z => cases k; rfl
  | tup h =>
    cases k with
    | tup _ => rfl
    | lst k => exact (no h k (by intro _ z; cases z) (by intro _ _ z; cases z)).elim
    | dK k => exact (no h k (by intro _ z; cases z) (by intro _ _ z; cases z)).elim
  | lst h =>
    cases k with
    | tup k => exact (no k h (by intro _ z; cases z) (by intro _ _ z; cases z)).elim
    | lst _ => rfl
    | dK _ => rfl
  | dK h =>
    cases k with
    | tup k => exact (no k h (by intro _ z; cases z) (by intro _ _ z; cases z)).elim
    | lst _ => rfl
    | dK _ => rfl
theorem ThS.scal {H : Hp} {x y : V} {s : Srt} (h : ThS H x s) (k : ThS H y s) (n1 : s ≠ .oth) (n2 : s ≠ .tup) : scal x y = true := by
  cases h with
  | non => cases k; rfl
  | tru b => cases k; rfl
  | num i => cases k; rfl
  | txt z => cases k; rfl
  | tup h => exact absurd rfl n2
  | lst h => exact absurd rfl n1
  | dK h => exact absurd rfl n1
theorem dec_int_nat (a b : Nat) : decide (V.int ((a : Nat) : Int) = V.int ((b : Nat) : Int)) = decide (a = b) := by
  by_cases c : a = b
  · subst c; rw [decide_eq_true rfl, decide_eq_true rfl]
  · rw [decide_eq_false c, decide_eq_false fun z => c (by have := V.int.inj z; omega)]
section
variable {P : Program} {w : World} {K : PySem.W.Frag} {mg : Str → Option Value} {base : Heap}
def spSo : Sp := fun vs H Q _ => ∃ (x : V) (s : Srt), vs = [x] ∧ ThS H x s ∧ Q (.str s.w) H
theorem scSo : FnScope ["thing"] ["thing"] (defScope s_sort_of) := ⟨rfl, rfl, rfl, by decide +kernel, rfl, by decide +kernel, by decide +kernel⟩
theorem c_so (b_isinstance : mg "isinstance" = none) (b_bool : mg "bool" = none) (b_int : mg "int" = none) (b_str : mg "str" = none) (b_tuple : mg "tuple" = none) (D : Dn K mg "sort_of" s_sort_of) : C0 P w K mg base 1 "sort_of" spSo := by
  obtain ⟨f, fd, F, hmm⟩ := D.ex
  refine ⟨f, fd, ["thing"], F.ok scSo (fun vs H Q E h => ?_) (fun cdv A outer s H vs Q E hr h => ?_), hmm, F.kp, F.binds (ps := ["thing"]) fun _ _ _ _ _ _ us hl => match us, hl with | [_], _ => rfl⟩
  · obtain ⟨x, s, rfl, _⟩ := h
    rfl
  obtain ⟨x, s, rfl, hs, kq⟩ := h
  refine ⟨_, pss_cons (ps_if (pt_cmpR op_isN (pv 0) pe_non (nomark _))
      (pss_one (ps_ret pe_str))
      (pss_nil)) <|
    pss_cons (ps_if (pt_val (pe_callB (r := rIsi K) (id := "isinstance") call_isi (by rfl) b_isinstance (by decide +kernel) (pa_cons (pv 0) (pa_cons (pe_bltn (v := .ty "bool") (by rfl) b_bool (by decide +kernel) rfl) pa_nil))))
      (pss_one (ps_ret pe_str))
      (pss_nil)) <|
    pss_cons (ps_if (pt_val (pe_callB (r := rIsi K) (id := "isinstance") call_isi (by rfl) b_isinstance (by decide +kernel) (pa_cons (pv 0) (pa_cons (pe_bltn (v := .ty "int") (by rfl) b_int (by decide +kernel) rfl) pa_nil))))
      (pss_one (ps_ret pe_str))
      (pss_nil)) <|
    pss_cons (ps_if (pt_val (pe_callB (r := rIsi K) (id := "isinstance") call_isi (by rfl) b_isinstance (by decide +kernel) (pa_cons (pv 0) (pa_cons (pe_bltn (v := .ty "str") (by rfl) b_str (by decide +kernel) rfl) pa_nil))))
      (pss_one (ps_ret pe_str))
      (pss_nil)) <|
    pss_cons (ps_if (pt_val (pe_callB (r := rIsi K) (id := "isinstance") call_isi (by rfl) b_isinstance (by decide +kernel) (pa_cons (pv 0) (pa_cons (pe_bltn (v := .ty "tuple") (by rfl) b_tuple (by decide +kernel) rfl) pa_nil))))
      (pss_one (ps_ret pe_str))
      (pss_nil)) <|
    pss_one (ps_ret pe_str), ?_⟩
  obtain ⟨t, ty, ht⟩ := hs.ty (K := K)
  obtain ⟨k1, k2, k3, k4⟩ := Srt.kit (K := K) ht
  refine ⟨_, rfl, rfl, _, rfl, ?_⟩
  rw [hs.none]
  cases s with
  | non => exact iteT kq
  | tru =>
    refine iteF ?_
    refine ⟨_, rfl, _, _, _, _, _, rfl, .ty "bool", ty, k1, _, rfl, ?_⟩
    exact iteT kq
  | num =>
    refine iteF ?_
    refine ⟨_, rfl, _, _, _, _, _, rfl, .ty "bool", ty, k1, _, rfl, iteF ?_⟩
    refine ⟨_, rfl, _, _, _, _, _, rfl, .ty "int", ty, k2, _, rfl, ?_⟩
    exact iteT kq
  | txt =>
    refine iteF ?_
    refine ⟨_, rfl, _, _, _, _, _, rfl, .ty "bool", ty, k1, _, rfl, iteF ?_⟩
    refine ⟨_, rfl, _, _, _, _, _, rfl, .ty "int", ty, k2, _, rfl, iteF ?_⟩
    refine ⟨_, rfl, _, _, _, _, _, rfl, .ty "str", ty, k3, _, rfl, ?_⟩
    exact iteT kq
  | tup =>
    refine iteF ?_
    refine ⟨_, rfl, _, _, _, _, _, rfl, .ty "bool", ty, k1, _, rfl, iteF ?_⟩
    refine ⟨_, rfl, _, _, _, _, _, rfl, .ty "int", ty, k2, _, rfl, iteF ?_⟩
    refine ⟨_, rfl, _, _, _, _, _, rfl, .ty "str", ty, k3, _, rfl, iteF ?_⟩
    refine ⟨_, rfl, _, _, _, _, _, rfl, .ty "tuple", ty, k4, _, rfl, ?_⟩
    exact iteT kq
  | oth =>
    refine iteF ?_
    refine ⟨_, rfl, _, _, _, _, _, rfl, .ty "bool", ty, k1, _, rfl, iteF ?_⟩
    refine ⟨_, rfl, _, _, _, _, _, rfl, .ty "int", ty, k2, _, rfl, iteF ?_⟩
    refine ⟨_, rfl, _, _, _, _, _, rfl, .ty "str", ty, k3, _, rfl, iteF ?_⟩
    refine ⟨_, rfl, _, _, _, _, _, rfl, .ty "tuple", ty, k4, _, rfl, ?_⟩
    exact iteF kq
/-- the same by one look: of unlike sorts, plain, or of unlike lengths -/
def SmB (H : Hp) (x y : V) (b : Bool) : Prop := (∃ s t, ThS H x s ∧ ThS H y t ∧ (s = .oth ∨ s ≠ t) ∧ b = false) ∨ (∃ s, ThS H x s ∧ ThS H y s ∧ s ≠ .oth ∧ s ≠ .tup ∧ b = decide (x = y)) ∨
  (∃ (p q : Addr) (xs ys : List V), x = .ref p ∧ y = .ref q ∧ TupA H p xs ∧ TupA H q ys ∧ xs.length ≠ ys.length ∧ b = false)
def SmR (H : Hp) : Nat → V → V → Bool → Prop
  | 0, x, y, b => SmB H x y b
  | d + 1, x, y, b => SmB H x y b ∨ ∃ (p q : Addr) (xs ys : List V) (bs : List Bool), x = .ref p ∧ y = .ref q ∧ TupA H p xs ∧ TupA H q ys ∧ xs.length = ys.length ∧ bs.length = xs.length ∧ xs.length ≤ 100000 ∧ b = bs.all id ∧ ∀ (i : Nat) (u v : V) (c : Bool), xs[i]? = some u → ys[i]? = some v → bs[i]? = some c → SmR H d u v c
theorem SmB.same {H H' : Hp} (s : Same H H') {x y : V} {b : Bool} (h : SmB H x y b) : SmB H' x y b := by
  rcases h with ⟨a, t, h1, h2, r⟩ | ⟨a, h1, h2, r⟩ | ⟨p, q, xs, ys, e1, e2, h1, h2, r⟩
  · exact .inl ⟨a, t, h1.same s, h2.same s, r⟩
  · exact .inr (.inl ⟨a, h1.same s, h2.same s, r⟩)
  · exact .inr (.inr ⟨p, q, xs, ys, e1, e2, TupA.same s h1, TupA.same s h2, r⟩)
theorem SmR.same {H H' : Hp} (s : Same H H') : ∀ (d : Nat) {x y : V} {b : Bool}, SmR H d x y b → SmR H' d x y b
  | 0, x, y, b, h => SmB.same s h
  | d + 1, x, y, b, h => by
    rcases h with h | ⟨p, q, xs, ys, bs, e1, e2, h1, h2, h3, h4, h5, h6, h7⟩
    · exact .inl (h.same s)
    · exact .inr ⟨p, q, xs, ys, bs, e1, e2, TupA.same s h1, TupA.same s h2, h3, h4, h5, h6, fun i u v c a1 a2 a3 => SmR.same s d (h7 i u v c a1 a2 a3)⟩
theorem SmR.look {H : Hp} : ∀ {d : Nat} {x y : V} {b : Bool}, SmB H x y b → SmR H d x y b
  | 0, _, _, _, h => h
  | _ + 1, _, _, _, h => .inl h
def spSa (d : Nat) : Sp := fun vs H Q _ => ∃ (x y : V) (b : Bool), vs = [x, y] ∧ SmR H d x y b ∧ ∀ H', Same H H' → Q (.bl b) H'
def prevSa : Nat → Sp
  | 0 => fun _ _ _ _ => False
  | d + 1 => spSa d
theorem walk_zipT {a b : Addr} {xs ys : List V} {n : Nat} (hn : n = min xs.length ys.length) : Walk (RZ.ItzT K a b) n (fun H => SqT K H a xs ∧ SqT K H b ys) (YPair (fun i => xs[i]?) (fun i => ys[i]?)) := by
  subst hn
  refine ⟨fun i _ hi q => ?_, fun _ q => ⟨xs, ys, q.1, q.2, by omega⟩, fun i H v H' _ q y => ?_⟩
  · have h1 : i < xs.length := by omega
    have h2 : i < ys.length := by omega
    exact ⟨xs, ys, _, _, q.1, q.2, List.getElem?_eq_getElem h1, List.getElem?_eq_getElem h2⟩
  · obtain ⟨T, x, y, h1, h2, h3, h4, h5⟩ := y
    exact ⟨T, x, y, h1, h2, h3, h4 xs q.1, h5 ys q.2⟩
theorem scSa : FnScope ["one", "other", "sort", "a", "b"] ["one", "other"] (defScope s_same) := ⟨rfl, rfl, rfl, by decide +kernel, rfl, by decide +kernel, by decide +kernel⟩
theorem c_noneSa (k : Nat) (D : Dn K mg "same" s_same) : C0 P w K mg base (k + 1) "same" (prevSa 0) := by
  obtain ⟨f, fd, F, m⟩ := D.ex
  exact ⟨f, fd, ["one", "other"], F.ok scSa (fun vs H Q E h => h.elim) (fun cdv A outer s H vs Q E hr h => h.elim), m, F.kp, F.binds (ps := ["one", "other"]) fun _ _ _ _ _ _ us hl => match us, hl with | [_, _], _ => rfl⟩
theorem c_sa {d k : Nat} (hk : 1 ≤ k) (b_len : mg "len" = none) (b_all : mg "all" = none) (b_zip : mg "zip" = none) (D : Dn K mg "same" s_same) (SO : C0 P w K mg base 1 "sort_of" spSo) (SA : C0 P w K mg base k "same" (prevSa d)) : C0 P w K mg base (k + 1) "same" (spSa d) := by
  obtain ⟨f, fd, F, m⟩ := D.ex
  refine ⟨f, fd, ["one", "other"], F.ok scSa (fun vs H Q E h => ?_) (fun cdv A outer s H vs Q E hr h => ?_), m, F.kp, F.binds (ps := ["one", "other"]) fun _ _ _ _ _ _ us hl => match us, hl with | [_, _], _ => rfl⟩
  · obtain ⟨x, y, b, rfl, _⟩ := h
    rfl
  obtain ⟨x, y, b, rfl, hsm, kq⟩ := h
  refine ⟨_, pss_cons (ps_set (i := 2) scSa.nd rfl (Or.inl rfl) (pe_cc SO hr (by omega) pass0 (pa_cons (pv 0) pa_nil))) <|
    pss_cons (ps_if (PW.pt (pw_or (pt_cmpR op_eq (pv 2) pe_str (nomark _)) (pw_or1 (pt_cmpR op_ne (pv 2) (pe_cc SO hr (by omega) pass0 (pa_cons (pv 1) pa_nil)) (nomark _)))))
      (pss_one (ps_ret pe_bl))
      (pss_nil)) <|
    pss_cons (ps_if (pt_cmpR op_eq (pv 2) pe_str (nomark _))
      (pss_one (ps_ret (pe_and (pe_cmpR op_eq (pe_callB call_len_seq (by rfl) b_len PySem.boot_len (pa_cons (pv 0) pa_nil)) (pe_callB call_len_seq (by rfl) b_len PySem.boot_len (pa_cons (pv 1) pa_nil)) (nomark _)) (pe_one (pe_callB (cr_all rfl) (by rfl) b_all (by decide +kernel) (pa_cons (pe_lc (own := [("a", 3), ("b", 4)]) (g := (gTup K 2 (gCons (gName 3) (gCons (gName 4) gNil)))) (tt := tYes) rfl scSa.nd (RZ.pi_zipA (by rfl) b_zip (pa_cons (pv 0) (pa_cons (pv 1) pa_nil))) (blkOk_by (own := [("a", 3), ("b", 4)]) (N := ["one", "other", "sort", "a", "b"]) (sc := defScope s_same) (by decide +kernel)) (fun _ _ _ _ _ => (pg_tup (by rfl) (pgs_cons (pg_name (i := 3) scSa.nd rfl (Or.inl rfl)) (pgs_cons (pg_name (i := 4) scSa.nd rfl (Or.inl rfl)) pgs_nil)))) (fun _ _ _ _ _ => pts_nil) (fun _ _ _ _ _ => (pe_cc SA hr (by omega) pass0 (pa_cons (pv 3) (pa_cons (pv 4) pa_nil))))) pa_nil))))))
      (pss_nil)) <|
    pss_one (ps_ret (pe_cmpR op_eq (pv 0) (pv 1) (nomark _))), ?_⟩
  have look : SmB H x y b ∨ ∃ (p q : Addr) (xs ys : List V) (bs : List Bool), x = .ref p ∧ y = .ref q ∧ TupA H p xs ∧ TupA H q ys ∧ xs.length = ys.length ∧ bs.length = xs.length ∧ xs.length ≤ 100000 ∧ b = bs.all id ∧ ∀ (i : Nat) (u v : V) (c : Bool), xs[i]? = some u → ys[i]? = some v → bs[i]? = some c → ∃ d', d = d' + 1 ∧ SmR H d' u v c := by
    cases d with
    | zero => exact .inl hsm
    | succ d =>
      rcases hsm with h | ⟨p, q, xs, ys, bs, e1, e2, h1, h2, h3, h4, h5, h6, h7⟩
      · exact .inl h
      · exact .inr ⟨p, q, xs, ys, bs, e1, e2, h1, h2, h3, h4, h5, h6, fun i u v c a1 a2 a3 => ⟨d, rfl, h7 i u v c a1 a2 a3⟩⟩
  have st : ∃ s t, ThS H x s ∧ ThS H y t := by
    rcases look with (⟨s, t, h1, h2, _⟩ | ⟨s, h1, h2, _⟩ | ⟨p, q, xs, ys, rfl, rfl, h1, h2, _⟩) | ⟨p, q, xs, ys, bs, rfl, rfl, h1, h2, _⟩
    · exact ⟨s, t, h1, h2⟩
    · exact ⟨s, s, h1, h2⟩
    · exact ⟨.tup, .tup, .tup h1, .tup h2⟩
    · exact ⟨.tup, .tup, .tup h1, .tup h2⟩
  obtain ⟨s, t, hx, hy⟩ := st
  have okb : b = true → s = t ∧ s ≠ .oth := fun hb => by
    rcases look with (⟨s', t', h1, h2, _, h3⟩ | ⟨s', h1, h2, h3, _⟩ | ⟨p, q, xs, ys, rfl, rfl, h1, h2, _, h3⟩) | ⟨p, q, xs, ys, bs, rfl, rfl, h1, h2, _⟩
    · rw [h3] at hb; cases hb
    · have e1 : s = s' := ThS.det hx h1
      have e2 : t = s' := ThS.det hy h2
      exact ⟨by rw [e1, e2], by rw [e1]; exact h3⟩
    · rw [h3] at hb; cases hb
    · have e1 : s = .tup := ThS.det hx (.tup h1)
      have e2 : t = .tup := ThS.det hy (.tup h2)
      exact ⟨by rw [e1, e2], by rw [e1]; decide⟩
  refine ⟨_, rfl, x, s, rfl, hx, ?_⟩
  refine ⟨_, rfl, rfl, _, rfl, ?_⟩
  rw [Srt.w_oth]
  by_cases c0 : s = .oth
  · have hb : b = false := by
      cases b with
      | false => rfl
      | true => exact absurd c0 (okb rfl).2
    rw [decide_eq_true c0]
    refine iteT (iteT ?_)
    rw [hb] at kq
    exact kq H (Same.refl H)
  rw [decide_eq_false c0]
  refine iteF ?_
  refine ⟨_, rfl, _, rfl, y, t, rfl, hy, rfl, _, rfl, ?_⟩
  show if (!decide (V.str s.w = V.str t.w)) = true then _ else _
  rw [Srt.w_dec]
  by_cases c1 : s = t
  case neg =>
    have hb : b = false := by
      cases b with
      | false => rfl
      | true => exact absurd (okb rfl).1 c1
    rw [decide_eq_false c1]
    refine iteT ?_
    rw [hb] at kq
    exact kq H (Same.refl H)
  rw [decide_eq_true c1]
  refine iteF ?_
  refine ⟨_, rfl, rfl, _, rfl, ?_⟩
  rw [Srt.w_tup]
  by_cases c2 : s = .tup
  · rw [decide_eq_true c2]
    refine iteT ?_
    subst c1
    subst c2
    rcases look with (⟨s', t', h1, h2, ho, _⟩ | ⟨s', h1, h2, _, h3, _⟩ | ⟨p, q, xs, ys, rfl, rfl, h1, h2, hl, hb⟩) | ⟨p, q, xs, ys, bs, rfl, rfl, h1, h2, hl, hbl, hxl, hb, hall⟩
    · have e1 := ThS.det hx h1
      have e2 := ThS.det hy h2
      subst e1
      rcases ho with ho | ho
      · cases ho
      · exact absurd e2 ho
    · exact absurd (ThS.det hx h1) (fun z => h3 z.symm)
    · refine ⟨_, rfl, p, xs, rfl, .inr h1.sq, _, rfl, q, ys, rfl, .inr h2.sq, rfl, _, rfl, ?_⟩
      rw [dec_int_nat]
      rw [decide_eq_false hl]
      refine iteF ?_
      rw [hb] at kq
      exact kq H (Same.refl H)
    · refine ⟨_, rfl, p, xs, rfl, .inr h1.sq, _, rfl, q, ys, rfl, .inr h2.sq, rfl, _, rfl, ?_⟩
      rw [dec_int_nat]
      rw [decide_eq_true hl]
      refine iteT ?_
      refine ⟨_, rfl, _, rfl, p, q, xs, ys, rfl, .inr ⟨h1.sq, h2.sq, fun D0 hD0 => ?_⟩⟩
      refine lc_it (walk_zipT (a := p) (b := q) (xs := xs) (ys := ys) rfl) (fun i H1 => Same H H1 ∧ H1 D0 = some (.lst ((bs.take i).map V.bl))) ⟨same_new hD0 _, upd_same⟩ (fun i H1 _ h => ⟨(TupA.same h.1 h1).sq, (TupA.same h.1 h2).sq⟩) ?_ ?_
      · rintro i z H1 H2 hi ⟨s1, f1⟩ ⟨T, u, v, rfl, hT, rfl, hu, hv⟩
        have sT := same_new hT (.tup [u, v])
        have fT : upd H1 T (.tup [u, v]) T = some (.tup [u, v]) := upd_same
        have s2 := s1.trans sT
        have f2 := sT _ _ f1
        generalize upd H1 T (.tup [u, v]) = H2 at sT fT s2 f2 ⊢
        have hib : i < bs.length := by omega
        have hc : bs[i]? = some bs[i] := List.getElem?_eq_getElem hib
        obtain ⟨d', rfl, hs⟩ := hall i u v _ hu hv hc
        refine ⟨T, _, rfl, SqT.of fT, rfl, _, _, rfl, _, _, rfl, rfl, rfl, ?_⟩
        unfold tYes
        refine iteT ?_
        refine ⟨_, rfl, _, rfl, u, v, _, rfl, SmR.same s2 d' hs, fun H3 s3 => ?_⟩
        refine ⟨_, s3 _ _ f2, by rw [List.length_map, List.length_take, sizeLine_eq]; omega, fun b o hb => ?_, ?_⟩
        · rw [upd_ne (ne_of_none hb hD0)]
          exact s3 _ _ (s2 _ _ hb)
        · rw [upd_same, List.take_add_one, hc, List.map_append]
          rfl
      rintro H1 ⟨s1, f1⟩
      have em : min xs.length ys.length = bs.length := by omega
      rw [em, List.take_length] at f1
      refine ⟨D0, bs, rfl, SqL.of f1, ?_⟩
      rw [← hb]
      exact kq H1 s1
  · rw [decide_eq_false c2]
    refine iteF ?_
    subst c1
    rcases look with (⟨s', t', h1, h2, ho, hb⟩ | ⟨s', h1, h2, _, h3, hb⟩ | ⟨p, q, xs, ys, rfl, rfl, h1, h2, hl, hb⟩) | ⟨p, q, xs, ys, bs, rfl, rfl, h1, h2, hl, hbl, hxl, hb, hall⟩
    · have e1 := ThS.det hx h1
      have e2 := ThS.det hy h2
      subst e1
      rcases ho with ho | ho
      · exact absurd ho c0
      · exact absurd e2 ho
    · refine ⟨_, rfl, _, rfl, ThS.scal hx hy c0 c2, ?_⟩
      rw [← hb]
      exact kq H (Same.refl H)
    · exact absurd (ThS.det hx (.tup h1)) c2
    · exact absurd (ThS.det hx (.tup h1)) c2
theorem sa_all (b_len : mg "len" = none) (b_all : mg "all" = none) (b_zip : mg "zip" = none) (D : Dn K mg "same" s_same) (SO : C0 P w K mg base 1 "sort_of" spSo) : ∀ d : Nat, C0 P w K mg base (d + 2) "same" (spSa d)
  | 0 => c_sa (by omega) b_len b_all b_zip D SO (c_noneSa 0 D)
  | d + 1 => c_sa (by omega) b_len b_all b_zip D SO (sa_all b_len b_all b_zip D SO d)
end
end My
set_option Elab.async false
set_option linter.all false
set_option maxRecDepth 100000
set_option maxHeartbeats 4000000
namespace My
open PySem L2 SS
theorem atI_0 {α : Type} {y : α} {ys : List α} : atI (y :: ys) 0 = some y := atI_nat (j := 0) rfl
theorem pick {α : Type} {xs : List V} {n : Nat} (hn : xs.length = n) {f : α → V} {Pz : α → Prop} (h : ∀ v ∈ xs, ∃ z, v = f z ∧ Pz z) {d : Int} (h0 : 0 ≤ d) (h1 : d < ((n : Nat) : Int)) : ∃ z, atI xs d = some (f z) ∧ Pz z := by
  obtain ⟨k, rfl⟩ := Int.eq_ofNat_of_zero_le h0
  have hk : k < xs.length := by omega
  obtain ⟨z, e, hz⟩ := h xs[k] (List.getElem_mem hk)
  exact ⟨z, atI_nat (by rw [← e]; simp), hz⟩
theorem Cc.mono {P : Program} {w : World} {K : PySem.W.Frag} {mg : Str → Option Value} {base : Heap} {CX : CXT} {j k : Nat} {x : Str} {sp : Sp} (c : Cc P w K mg base CX j x sp) (h : j ≤ k) : Cc P w K mg base CX k x sp := by
  obtain ⟨f, fd, ps, F, m, kp, b⟩ := c.ex
  exact ⟨f, fd, ps, F.mono h, m, kp, b⟩
end My
set_option Elab.async false
set_option linter.all false
set_option maxRecDepth 100000
set_option maxHeartbeats 2000000
namespace My
open PySem L2 SS
/-! ### trees of es and statements -/
mutual
inductive Ex : Type
  | num (n : Int) : Ex
  | txt (s : List Nat) : Ex
  | tru (b : Bool) : Ex
  | non : Ex
  | slf : Ex
  | nam (w : List Nat) : Ex
  | fld (w : List Nat) : Ex
  | new (w : List Nat) : Ex
  | send (r : Ex) (m : List Nat) (es : Exs) : Ex
  | up (m : List Nat) (es : Exs) : Ex
  | lst (es : Exs) : Ex
  | blk (ps : List (List Nat)) (ss : Sts) : Ex
inductive Exs : Type
  | nil : Exs
  | cons (e : Ex) (r : Exs) : Exs
inductive St_ : Type
  | set (w : List Nat) (e : Ex) : St_
  | sfl (w : List Nat) (e : Ex) : St_
  | pl (k : List Nat) (e : Ex) : St_
  | iff (e : Ex) (a b : Sts) : St_
  | whl (e : Ex) (a : Sts) : St_
  | tri (a : Sts) (w : List Nat) (b : Sts) : St_
inductive Sts : Type
  | nil : Sts
  | cons (s : St_) (r : Sts) : Sts
end
def wsV (ws : List T) : List V := ws.map fun w => V.str (mk w)
/-- a tuple of texts -/
def AtW (H : Hp) (ws : List T) (v : V) : Prop := ∃ p, v = .ref p ∧ H p = some (.tup (wsV ws))
/-- a tuple of texts, whose methods may be called -/
def AtWb (H : Hp) (ws : List T) (v : V) : Prop := ∃ p, v = .ref p ∧ FrzT H p (wsV ws)
abbrev S_ (s : String) : V := V.str (Str.ofString s)
mutual
def AtE (H : Hp) : Ex → V → Prop
  | .num n, v => ∃ p, v = .ref p ∧ H p = some (.tup [S_ "number", .int n])
  | .txt s, v => ∃ p, v = .ref p ∧ H p = some (.tup [S_ "text", .str (mk s)])
  | .tru b, v => ∃ p, v = .ref p ∧ H p = some (.tup [S_ "truth", .bl b])
  | .non, v => ∃ p, v = .ref p ∧ H p = some (.tup [S_ "none"])
  | .slf, v => ∃ p, v = .ref p ∧ H p = some (.tup [S_ "self"])
  | .nam w, v => ∃ p, v = .ref p ∧ H p = some (.tup [S_ "name", .str (mk w)])
  | .fld w, v => ∃ p, v = .ref p ∧ H p = some (.tup [S_ "field", .str (mk w)])
  | .new w, v => ∃ p, v = .ref p ∧ H p = some (.tup [S_ "new", .str (mk w)])
  | .send r m es, v => ∃ p vr q xs, v = .ref p ∧ H p = some (.tup [S_ "send", vr, .str (mk m), .ref q]) ∧ H q = some (.tup xs) ∧ AtE H r vr ∧ AtEs H es xs
  | .up m es, v => ∃ p q xs, v = .ref p ∧ H p = some (.tup [S_ "up", .str (mk m), .ref q]) ∧ H q = some (.tup xs) ∧ AtEs H es xs
  | .lst es, v => ∃ p q xs, v = .ref p ∧ H p = some (.tup [S_ "list", .ref q]) ∧ H q = some (.tup xs) ∧ AtEs H es xs
  | .blk ps ss, v => ∃ p vw q xs, v = .ref p ∧ H p = some (.tup [S_ "block", vw, .ref q]) ∧ H q = some (.tup xs) ∧ AtWb H ps vw ∧ AtSs H ss xs
def AtEs (H : Hp) : Exs → List V → Prop
  | .nil, xs => xs = []
  | .cons e r, xs => ∃ v vs, xs = v :: vs ∧ AtE H e v ∧ AtEs H r vs
def AtS (H : Hp) : St_ → V → Prop
  | .set w e, v => ∃ p ve, v = .ref p ∧ H p = some (.tup [S_ "set", .str (mk w), ve]) ∧ AtE H e ve
  | .sfl w e, v => ∃ p ve, v = .ref p ∧ H p = some (.tup [S_ "setfield", .str (mk w), ve]) ∧ AtE H e ve
  | .pl k e, v => ∃ p ve, v = .ref p ∧ H p = some (.tup [.str (mk k), ve]) ∧ AtE H e ve
  | .iff e a b, v => ∃ p ve q xs r ys, v = .ref p ∧ H p = some (.tup [S_ "if", ve, .ref q, .ref r]) ∧ H q = some (.tup xs) ∧ H r = some (.tup ys) ∧ AtE H e ve ∧ AtSs H a xs ∧ AtSs H b ys
  | .whl e a, v => ∃ p ve q xs, v = .ref p ∧ H p = some (.tup [S_ "while", ve, .ref q]) ∧ H q = some (.tup xs) ∧ AtE H e ve ∧ AtSs H a xs
  | .tri a w b, v => ∃ p q xs r ys, v = .ref p ∧ H p = some (.tup [S_ "try", .ref q, .str (mk w), .ref r]) ∧ H q = some (.tup xs) ∧ H r = some (.tup ys) ∧ AtSs H a xs ∧ AtSs H b ys
def AtSs (H : Hp) : Sts → List V → Prop
  | .nil, xs => xs = []
  | .cons s r, xs => ∃ v vs, xs = v :: vs ∧ AtS H s v ∧ AtSs H r vs
end
theorem AtW.on {H H' : Hp} {ws : List T} {v : V} (t : Tups H H') (h : AtW H ws v) : AtW H' ws v := by
  obtain ⟨p, e, h⟩ := h
  exact ⟨p, e, t _ _ h⟩
/-- either way -/
def AtWs (H : Hp) (ws : List T) (v : V) : Prop := ∃ p, v = .ref p ∧ Rd H p (.tup (wsV ws))
theorem AtW.s {H : Hp} {ws : List T} {v : V} (h : AtW H ws v) : AtWs H ws v := by
  obtain ⟨p, e, h⟩ := h
  exact ⟨p, e, .inl h⟩
theorem AtWb.s {H : Hp} {ws : List T} {v : V} (h : AtWb H ws v) : AtWs H ws v := by
  obtain ⟨p, e, ob, h, _⟩ := h
  exact ⟨p, e, .inr ⟨ob, h⟩⟩
theorem AtWb.on {H H' : Hp} {ws : List T} {v : V} (t : Tups H H') (h : AtWb H ws v) : AtWb H' ws v := by
  obtain ⟨p, e, ob, h, d⟩ := h
  exact ⟨p, e, ob, t.frz _ _ _ h, d⟩
mutual
theorem AtE.on {H H' : Hp} (t : Tups H H') : ∀ (e : Ex) (v : V), AtE H e v → AtE H' e v
  | .num n, v, ⟨p, e, h⟩ => ⟨p, e, t _ _ h⟩
  | .txt s, v, ⟨p, e, h⟩ => ⟨p, e, t _ _ h⟩
  | .tru b, v, ⟨p, e, h⟩ => ⟨p, e, t _ _ h⟩
  | .non, v, ⟨p, e, h⟩ => ⟨p, e, t _ _ h⟩
  | .slf, v, ⟨p, e, h⟩ => ⟨p, e, t _ _ h⟩
  | .nam w, v, ⟨p, e, h⟩ => ⟨p, e, t _ _ h⟩
  | .fld w, v, ⟨p, e, h⟩ => ⟨p, e, t _ _ h⟩
  | .new w, v, ⟨p, e, h⟩ => ⟨p, e, t _ _ h⟩
  | .send r m es, v, ⟨p, vr, q, xs, e, h1, h2, h3, h4⟩ => ⟨p, vr, q, xs, e, t _ _ h1, t _ _ h2, AtE.on t r vr h3, AtEs.on t es xs h4⟩
  | .up m es, v, ⟨p, q, xs, e, h1, h2, h4⟩ => ⟨p, q, xs, e, t _ _ h1, t _ _ h2, AtEs.on t es xs h4⟩
  | .lst es, v, ⟨p, q, xs, e, h1, h2, h4⟩ => ⟨p, q, xs, e, t _ _ h1, t _ _ h2, AtEs.on t es xs h4⟩
  | .blk ps ss, v, ⟨p, vw, q, xs, e, h1, h2, h3, h4⟩ => ⟨p, vw, q, xs, e, t _ _ h1, t _ _ h2, h3.on t, AtSs.on t ss xs h4⟩
theorem AtEs.on {H H' : Hp} (t : Tups H H') : ∀ (e : Exs) (v : List V), AtEs H e v → AtEs H' e v
  | .nil, xs, h => h
  | .cons e r, xs, ⟨v, vs, h1, h2, h3⟩ => ⟨v, vs, h1, AtE.on t e v h2, AtEs.on t r vs h3⟩
theorem AtS.on {H H' : Hp} (t : Tups H H') : ∀ (s : St_) (v : V), AtS H s v → AtS H' s v
  | .set w e, v, ⟨p, ve, h1, h2, h3⟩ => ⟨p, ve, h1, t _ _ h2, AtE.on t e ve h3⟩
  | .sfl w e, v, ⟨p, ve, h1, h2, h3⟩ => ⟨p, ve, h1, t _ _ h2, AtE.on t e ve h3⟩
  | .pl w e, v, ⟨p, ve, h1, h2, h3⟩ => ⟨p, ve, h1, t _ _ h2, AtE.on t e ve h3⟩
  | .iff e a b, v, ⟨p, ve, q, xs, r, ys, h1, h2, h3, h4, h5, h6, h7⟩ => ⟨p, ve, q, xs, r, ys, h1, t _ _ h2, t _ _ h3, t _ _ h4, AtE.on t e ve h5, AtSs.on t a xs h6, AtSs.on t b ys h7⟩
  | .whl e a, v, ⟨p, ve, q, xs, h1, h2, h3, h5, h6⟩ => ⟨p, ve, q, xs, h1, t _ _ h2, t _ _ h3, AtE.on t e ve h5, AtSs.on t a xs h6⟩
  | .tri a w b, v, ⟨p, q, xs, r, ys, h1, h2, h3, h4, h6, h7⟩ => ⟨p, q, xs, r, ys, h1, t _ _ h2, t _ _ h3, t _ _ h4, AtSs.on t a xs h6, AtSs.on t b ys h7⟩
theorem AtSs.on {H H' : Hp} (t : Tups H H') : ∀ (e : Sts) (v : List V), AtSs H e v → AtSs H' e v
  | .nil, xs, h => h
  | .cons e r, xs, ⟨v, vs, h1, h2, h3⟩ => ⟨v, vs, h1, AtS.on t e v h2, AtSs.on t r vs h3⟩
end
end My
set_option Elab.async false
set_option linter.all false
set_option maxRecDepth 100000
set_option maxHeartbeats 2000000
namespace My
open PySem L2 SS
/-! ### words, measures, what a tree can be -/
abbrev kSay : T := tl "say"
abbrev tk (s : String) : T := tl (Str.ofString s)
def numT (n : Int) : T := tl (numStr n)
abbrev WB := List Nat × Bool
def plainW (ws : List T) : List WB := ws.map fun w => (w, false)
mutual
def wE : Ex → List WB
  | .num n => [(numT n, true)]
  | .txt s => [(39 :: s, true)]
  | .tru true => [(tk "true", true)]
  | .tru false => [(tk "false", true)]
  | .non => [(tk "none", true)]
  | .slf => [(tk "self", true)]
  | .nam w => [(w, true)]
  | .fld w => [(64 :: w, true)]
  | .new w => [(tk "new", true), (w, false)]
  | .send r m es => (tk "(", true) :: (wE r ++ (m, false) :: (wEs es ++ [(tk ")", false)]))
  | .up m es => (tk "(", true) :: (tk "up", false) :: (m, false) :: (wEs es ++ [(tk ")", false)])
  | .lst es => (tk "[", true) :: (wEs es ++ [(tk "]", false)])
  | .blk ps ss => (tk "{", true) :: (plainW ps ++ (tk "|", false) :: (wSs ss ++ [(tk "}", false)]))
def wEs : Exs → List WB
  | .nil => []
  | .cons e r => wE e ++ wEs r
def wS : St_ → List WB
  | .set w e => (w, true) :: (tk ":=", false) :: wE e
  | .sfl w e => (64 :: w, true) :: (tk ":=", false) :: wE e
  | .pl k e => (k, true) :: wE e
  | .iff e a b => (tk "if", true) :: (wE e ++ (tk "then", false) :: (wSs a ++ (tk "else", false) :: (wSs b ++ [(tk "end", false)])))
  | .whl e a => (tk "while", true) :: (wE e ++ (tk "then", false) :: (wSs a ++ [(tk "end", false)]))
  | .tri a w b => (tk "try", true) :: (wSs a ++ (tk "taken", false) :: (w, false) :: (wSs b ++ [(tk "end", false)]))
def wSs : Sts → List WB
  | .nil => []
  | .cons s r => wS s ++ wSs r
end
mutual
/-- how many are open within one another -/
def oE : Ex → Nat
  | .send r _ es => 1 + max (oE r) (oEs es)
  | .up _ es => 1 + oEs es
  | .lst es => 1 + oEs es
  | .blk _ ss => 1 + oSs ss
  | _ => 0
def oEs : Exs → Nat
  | .nil => 0
  | .cons e r => max (oE e) (oEs r)
def oS : St_ → Nat
  | .set _ e => oE e
  | .sfl _ e => oE e
  | .pl _ e => oE e
  | .iff e a b => 1 + max (oE e) (max (oSs a) (oSs b))
  | .whl e a => 1 + max (oE e) (oSs a)
  | .tri a _ b => 1 + max (oSs a) (oSs b)
def oSs : Sts → Nat
  | .nil => 0
  | .cons s r => max (oS s) (oSs r)
end
mutual
/-- how many nodes -/
def nE : Ex → Nat
  | .send r _ es => 1 + nE r + nEs es
  | .up _ es => 1 + nEs es
  | .lst es => 1 + nEs es
  | .blk _ ss => 1 + nSs ss
  | _ => 1
def nEs : Exs → Nat
  | .nil => 0
  | .cons e r => nE e + nEs r
def nS : St_ → Nat
  | .set _ e => 1 + nE e
  | .sfl _ e => 1 + nE e
  | .pl _ e => 1 + nE e
  | .iff e a b => 1 + nE e + nSs a + nSs b
  | .whl e a => 1 + nE e + nSs a
  | .tri a _ b => 1 + nSs a + nSs b
def nSs : Sts → Nat
  | .nil => 0
  | .cons s r => nS s + nSs r
end
def cE : Exs → Nat
  | .nil => 0
  | .cons _ r => 1 + cE r
def cS : Sts → Nat
  | .nil => 0
  | .cons _ r => 1 + cS r
def isMsg (w : T) : Bool := isFree w || inS [mk [43], mk [45], mk [42], mk [47], mk [60], mk [61]] w
def isPl (w : T) : Bool := inS ["do", "say", "return", "raise"] w
mutual
def okE : Ex → Prop
  | .num n => -1000000000000 < n ∧ n < 1000000000000
  | .txt s => isText s = true
  | .nam w => isFree w = true
  | .fld w => isFree w = true
  | .new w => isKindName w = true
  | .send r m es => isMsg m = true ∧ okE r ∧ okEs es
  | .up m es => isFree m = true ∧ okEs es
  | .lst es => okEs es
  | .blk ps ss => ps.length ≤ 2 ∧ (∀ w ∈ ps, isFree w = true) ∧ okSs ss
  | _ => True
def okEs : Exs → Prop
  | .nil => True
  | .cons e r => okE e ∧ okEs r
def okS : St_ → Prop
  | .set w e => isFree w = true ∧ okE e
  | .sfl w e => isFree w = true ∧ okE e
  | .pl k e => isPl k = true ∧ okE e
  | .iff e a b => okE e ∧ okSs a ∧ okSs b
  | .whl e a => okE e ∧ okSs a
  | .tri a w b => isFree w = true ∧ okSs a ∧ okSs b
def okSs : Sts → Prop
  | .nil => True
  | .cons s r => okS s ∧ okSs r
end
/-- what words weigh in a layout -/
def wt (ws : List WB) : Nat := (ws.map fun q => q.1.length + 3).sum
theorem wt_app (a b : List WB) : wt (a ++ b) = wt a + wt b := by unfold wt; rw [List.map_append, List.sum_append]
theorem wt_cons (q : WB) (b : List WB) : wt (q :: b) = q.1.length + 3 + wt b := by unfold wt; rw [List.map_cons, List.sum_cons]
theorem wt_nil : wt [] = 0 := rfl
theorem free_len {w : T} (h : isFree w = true) : w.length ≤ 12 := by
  unfold isFree isSmall isName at h
  simp only [Bool.and_eq_true, decide_eq_true_eq] at h
  exact h.1.1.2
theorem kind_len {w : T} (h : isKindName w = true) : w.length ≤ 12 := by
  unfold isKindName isName at h
  simp only [Bool.and_eq_true, decide_eq_true_eq] at h
  exact h.1.2
theorem text_len {w : T} (h : isText w = true) : w.length ≤ 40 := by
  unfold isText at h
  simp only [Bool.and_eq_true, decide_eq_true_eq] at h
  exact h.1
theorem inS_len {zs : List Str} {w : T} {n : Nat} (hz : ∀ z ∈ zs, z.length ≤ n) (h : inS zs w = true) : w.length ≤ n := by
  unfold inS at h
  obtain ⟨z, hz1, hz2⟩ := List.any_eq_true.mp h
  have e := eq_of_beq hz2
  have := hz z hz1
  rw [e, mk_len] at this
  exact this
theorem msg_len {w : T} (h : isMsg w = true) : w.length ≤ 12 := by
  unfold isMsg at h
  rcases Bool.or_eq_true_iff.mp h with h | h
  · exact free_len h
  · have := inS_len (n := 1) (by decide +kernel) h
    omega
theorem pl_len {w : T} (h : isPl w = true) : w.length ≤ 6 := inS_len (by decide +kernel) h
end My
set_option Elab.async false
set_option linter.all false
set_option maxRecDepth 100000
set_option maxHeartbeats 2000000
namespace My
open PySem L2 SS
theorem ofS_app (a b : String) : tl (Str.ofString (a ++ b)) = tl (Str.ofString a) ++ tl (Str.ofString b) := by
  rw [Str.ofString_eq_toList, Str.ofString_eq_toList, Str.ofString_eq_toList]
  show (((a ++ b).toList.map Char.toNat).toArray).toList = (a.toList.map Char.toNat).toArray.toList ++ (b.toList.map Char.toNat).toArray.toList
  simp
theorem numT_neg (m : Nat) : numT (Int.negSucc m) = 45 :: TL.numL (m + 1) := by
  have e2 : toString (Int.negSucc m) = "-" ++ toString (((m + 1 : Nat) : Nat) : Int) := rfl
  show tl (Str.ofString (toString (Int.negSucc m))) = _
  rw [e2, ofS_app]
  have e3 : tl (Str.ofString (toString ((m + 1 : Nat) : Int))) = TL.numL (m + 1) := TL.tl_num (m + 1)
  rw [e3]
  have e4 : tl (Str.ofString "-") = [45] := by decide +kernel
  rw [e4]
  rfl
theorem numT_pos (m : Nat) : numT ((m : Nat) : Int) = TL.numL m := TL.tl_num m
theorem numL_head {m : Nat} : ∃ c r, TL.numL m = c :: r ∧ 48 ≤ c ∧ c ≤ 57 := by
  cases e : TL.numL m with
  | nil => exact absurd e (TL.numL_ne m)
  | cons c r =>
    have := TL.numL_digits m c (by rw [e]; exact List.mem_cons_self)
    exact ⟨c, r, rfl, this.1, this.2⟩
/-- figures of a number are read back -/
theorem numT_back (n : Int) : numOf (numT n) = n ∧ NumText.AllDigits (figsOf (numT n)) ∧ figsOf (numT n) ≠ [] := by
  cases n with
  | ofNat m =>
    have e : numT (Int.ofNat m) = TL.numL m := TL.tl_num m
    obtain ⟨c, r, hc, h1, h2⟩ := numL_head (m := m)
    have hv := TL.numL_val m
    have hd := TL.numL_digits m
    rw [e]
    rw [hc] at hv hd ⊢
    have n45 : c ≠ 45 := by omega
    have ef : figsOf (c :: r) = c :: r := by
      unfold figsOf
      split
      · rename_i h; injection h with h; exact absurd h n45
      · rfl
    have eo : numOf (c :: r) = ((NumText.digitsVal (c :: r) : Nat) : Int) := by
      unfold numOf
      split
      · rename_i h; injection h with h; exact absurd h n45
      · rfl
    rw [ef, eo, hv]
    exact ⟨rfl, hd, by simp⟩
  | negSucc m =>
    rw [numT_neg]
    show -((NumText.digitsVal (TL.numL (m + 1)) : Nat) : Int) = _ ∧ NumText.AllDigits (TL.numL (m + 1)) ∧ TL.numL (m + 1) ≠ []
    rw [TL.numL_val]
    exact ⟨rfl, TL.numL_digits _, TL.numL_ne _⟩
theorem numT_len {n : Int} (h1 : -1000000000000 < n) (h2 : n < 1000000000000) : (numT n).length ≤ 13 := by
  cases n with
  | ofNat m =>
    have e : numT (Int.ofNat m) = TL.numL m := TL.tl_num m
    rw [e]
    have := TL.numL_len (n := m) (k := 12) (by decide) (by have : (Int.ofNat m) = (m : Int) := rfl; omega)
    omega
  | negSucc m =>
    have e := numT_neg m
    rw [e]
    have := TL.numL_len (n := m + 1) (k := 12) (by decide) (by omega)
    rw [List.length_cons]
    omega
theorem plainW_len (ps : List T) : (plainW ps).length = ps.length := List.length_map _
theorem plainW_wt : ∀ (ps : List T), (∀ w ∈ ps, isFree w = true) → wt (plainW ps) ≤ 15 * ps.length
  | [], _ => by simp [plainW, wt]
  | w :: ps, h => by
    have h1 := free_len (h w List.mem_cons_self)
    have h2 := plainW_wt ps fun x hx => h x (List.mem_cons_of_mem _ hx)
    show wt ((w, false) :: plainW ps) ≤ _
    rw [wt_cons, List.length_cons]
    show w.length + 3 + wt (plainW ps) ≤ _
    omega
theorem tkl : (tk "true").length = 4 ∧ (tk "false").length = 5 ∧ (tk "none").length = 4 ∧ (tk "self").length = 4 ∧ (tk "new").length = 3 ∧ (tk "(").length = 1 ∧ (tk ")").length = 1 ∧ (tk "up").length = 2 ∧ (tk "[").length = 1 ∧ (tk "]").length = 1 ∧ (tk "{").length = 1 ∧ (tk "}").length = 1 ∧ (tk "|").length = 1 ∧ (tk ":=").length = 2 ∧ (tk "if").length = 2 ∧ (tk "then").length = 4 ∧ (tk "else").length = 4 ∧ (tk "end").length = 3 ∧ (tk "while").length = 5 ∧ (tk "try").length = 3 ∧ (tk "taken").length = 5 := by decide +kernel
mutual
theorem wE_b : ∀ e : Ex, okE e → (wE e).length ≤ 5 * nE e ∧ wt (wE e) ≤ 44 * nE e
  | .num n, h => by
    have := numT_len h.1 h.2
    simp only [wE, nE, wt_cons, wt_nil, List.length_cons, List.length_nil]
    omega
  | .txt s, h => by
    have := text_len h
    simp only [wE, nE, wt_cons, wt_nil, List.length_cons, List.length_nil]
    omega
  | .tru true, h => by
    have := tkl
    simp only [wE, nE, wt_cons, wt_nil, List.length_cons, List.length_nil]
    omega
  | .tru false, h => by
    have := tkl
    simp only [wE, nE, wt_cons, wt_nil, List.length_cons, List.length_nil]
    omega
  | .non, h => by
    have := tkl
    simp only [wE, nE, wt_cons, wt_nil, List.length_cons, List.length_nil]
    omega
  | .slf, h => by
    have := tkl
    simp only [wE, nE, wt_cons, wt_nil, List.length_cons, List.length_nil]
    omega
  | .nam w, h => by
    have := free_len h
    simp only [wE, nE, wt_cons, wt_nil, List.length_cons, List.length_nil]
    omega
  | .fld w, h => by
    have := free_len h
    simp only [wE, nE, wt_cons, wt_nil, List.length_cons, List.length_nil]
    omega
  | .new w, h => by
    have := kind_len h
    have := tkl
    simp only [wE, nE, wt_cons, wt_nil, List.length_cons, List.length_nil]
    omega
  | .send r m es, h => by
    have h0 := msg_len h.1
    have h1 := wE_b r h.2.1
    have h2 := wEs_b es h.2.2
    have := tkl
    simp only [wE, nE, wt_cons, wt_app, wt_nil, List.length_cons, List.length_append, List.length_nil]
    omega
  | .up m es, h => by
    have h0 := free_len h.1
    have h2 := wEs_b es h.2
    have := tkl
    simp only [wE, nE, wt_cons, wt_app, wt_nil, List.length_cons, List.length_append, List.length_nil]
    omega
  | .lst es, h => by
    have h2 := wEs_b es h
    have := tkl
    simp only [wE, nE, wt_cons, wt_app, wt_nil, List.length_cons, List.length_append, List.length_nil]
    omega
  | .blk ps ss, h => by
    have h0 := h.1
    have h1 := plainW_wt ps h.2.1
    have h2 := wSs_b ss h.2.2
    have := tkl
    have := plainW_len ps
    simp only [wE, nE, wt_cons, wt_app, wt_nil, List.length_cons, List.length_append, List.length_nil]
    omega
theorem wEs_b : ∀ e : Exs, okEs e → (wEs e).length ≤ 5 * nEs e ∧ wt (wEs e) ≤ 44 * nEs e
  | .nil, _ => by simp [wEs, nEs, wt]
  | .cons e r, h => by
    have h1 := wE_b e h.1
    have h2 := wEs_b r h.2
    simp only [wEs, nEs, wt_app, List.length_append]
    omega
theorem wS_b : ∀ s : St_, okS s → (wS s).length ≤ 5 * nS s ∧ wt (wS s) ≤ 44 * nS s
  | .set w e, h => by
    have h0 := free_len h.1
    have h1 := wE_b e h.2
    have := tkl
    simp only [wS, nS, wt_cons, wt_app, wt_nil, List.length_cons, List.length_append, List.length_nil]
    omega
  | .sfl w e, h => by
    have h0 := free_len h.1
    have h1 := wE_b e h.2
    have := tkl
    simp only [wS, nS, wt_cons, wt_app, wt_nil, List.length_cons, List.length_append, List.length_nil]
    omega
  | .pl w e, h => by
    have h0 := pl_len h.1
    have h1 := wE_b e h.2
    have := tkl
    simp only [wS, nS, wt_cons, wt_app, wt_nil, List.length_cons, List.length_append, List.length_nil]
    omega
  | .iff e a b, h => by
    have h1 := wE_b e h.1
    have h2 := wSs_b a h.2.1
    have h3 := wSs_b b h.2.2
    have := tkl
    simp only [wS, nS, wt_cons, wt_app, wt_nil, List.length_cons, List.length_append, List.length_nil]
    omega
  | .whl e a, h => by
    have h1 := wE_b e h.1
    have h2 := wSs_b a h.2
    have := tkl
    simp only [wS, nS, wt_cons, wt_app, wt_nil, List.length_cons, List.length_append, List.length_nil]
    omega
  | .tri a w b, h => by
    have h1 := free_len h.1
    have h2 := wSs_b a h.2.1
    have h3 := wSs_b b h.2.2
    have := tkl
    simp only [wS, nS, wt_cons, wt_app, wt_nil, List.length_cons, List.length_append, List.length_nil]
    omega
theorem wSs_b : ∀ e : Sts, okSs e → (wSs e).length ≤ 5 * nSs e ∧ wt (wSs e) ≤ 44 * nSs e
  | .nil, _ => by simp [wSs, nSs, wt]
  | .cons e r, h => by
    have h1 := wS_b e h.1
    have h2 := wSs_b r h.2
    simp only [wSs, nSs, wt_app, List.length_append]
    omega
end
end My
set_option Elab.async false
set_option linter.all false
set_option maxRecDepth 100000
set_option maxHeartbeats 2000000
namespace My
open PySem L2 SS
def Exs.snoc : Exs → Ex → Exs
  | .nil, e => .cons e .nil
  | .cons x r, e => .cons x (r.snoc e)
def Sts.snoc : Sts → St_ → Sts
  | .nil, e => .cons e .nil
  | .cons x r, e => .cons x (r.snoc e)
theorem Exs.at_snoc {H : Hp} : ∀ {es : Exs} {vs : List V} {e : Ex} {v : V}, AtEs H es vs → AtE H e v → AtEs H (es.snoc e) (vs ++ [v])
  | .nil, vs, e, v, h, he => by
    have h' : vs = [] := h
    subst h'
    exact ⟨v, [], rfl, he, rfl⟩
  | .cons x r, vs, e, v, ⟨u, us, h1, h2, h3⟩, he => by
    subst h1
    exact ⟨u, us ++ [v], rfl, h2, Exs.at_snoc h3 he⟩
theorem Sts.at_snoc {H : Hp} : ∀ {es : Sts} {vs : List V} {e : St_} {v : V}, AtSs H es vs → AtS H e v → AtSs H (es.snoc e) (vs ++ [v])
  | .nil, vs, e, v, h, he => by
    have h' : vs = [] := h
    subst h'
    exact ⟨v, [], rfl, he, rfl⟩
  | .cons x r, vs, e, v, ⟨u, us, h1, h2, h3⟩, he => by
    subst h1
    exact ⟨u, us ++ [v], rfl, h2, Sts.at_snoc h3 he⟩
theorem Exs.snoc_n : ∀ (es : Exs) (e : Ex), nEs (es.snoc e) = nEs es + nE e ∧ oEs (es.snoc e) = max (oEs es) (oE e) ∧ (okEs (es.snoc e) ↔ okEs es ∧ okE e) ∧ cE (es.snoc e) = cE es + 1 ∧ wEs (es.snoc e) = wEs es ++ wE e
  | .nil, e => by simp [Exs.snoc, nEs, oEs, okEs, cE, wEs]
  | .cons x r, e => by
    obtain ⟨h1, h2, h3, h4, h5⟩ := Exs.snoc_n r e
    simp only [Exs.snoc, nEs, oEs, okEs, cE, wEs, h1, h2, h3, h4, h5]
    refine ⟨by omega, by omega, by rw [and_assoc], by omega, by rw [List.append_assoc]⟩
theorem Sts.snoc_n : ∀ (es : Sts) (e : St_), nSs (es.snoc e) = nSs es + nS e ∧ oSs (es.snoc e) = max (oSs es) (oS e) ∧ (okSs (es.snoc e) ↔ okSs es ∧ okS e) ∧ cS (es.snoc e) = cS es + 1 ∧ wSs (es.snoc e) = wSs es ++ wS e
  | .nil, e => by simp [Sts.snoc, nSs, oSs, okSs, cS, wSs]
  | .cons x r, e => by
    obtain ⟨h1, h2, h3, h4, h5⟩ := Sts.snoc_n r e
    simp only [Sts.snoc, nSs, oSs, okSs, cS, wSs, h1, h2, h3, h4, h5]
    refine ⟨by omega, by omega, by rw [and_assoc], by omega, by rw [List.append_assoc]⟩
theorem AtEs.len {H : Hp} : ∀ {es : Exs} {vs : List V}, AtEs H es vs → vs.length = cE es
  | .nil, vs, h => by
    have h' : vs = [] := h
    subst h'
    rfl
  | .cons x r, vs, ⟨u, us, h1, h2, h3⟩ => by
    subst h1
    rw [List.length_cons, AtEs.len h3, cE]
    omega
theorem AtSs.len {H : Hp} : ∀ {es : Sts} {vs : List V}, AtSs H es vs → vs.length = cS es
  | .nil, vs, h => by
    have h' : vs = [] := h
    subst h'
    rfl
  | .cons x r, vs, ⟨u, us, h1, h2, h3⟩ => by
    subst h1
    rw [List.length_cons, AtSs.len h3, cS]
    omega
theorem AtE.on_ {H H' : Hp} {e : Ex} {v : V} (h : AtE H e v) (t : Tups H H') : AtE H' e v := AtE.on t e v h
theorem AtEs.on_ {H H' : Hp} {e : Exs} {v : List V} (h : AtEs H e v) (t : Tups H H') : AtEs H' e v := AtEs.on t e v h
theorem AtS.on_ {H H' : Hp} {e : St_} {v : V} (h : AtS H e v) (t : Tups H H') : AtS H' e v := AtS.on t e v h
theorem AtSs.on_ {H H' : Hp} {e : Sts} {v : List V} (h : AtSs H e v) (t : Tups H H') : AtSs H' e v := AtSs.on t e v h
/-- all stands but what is at p -/
def SB (p : Addr) (H H' : Hp) : Prop := ∀ b u, b ≠ p → H b = some u → H' b = some u
theorem SB.refl {p : Addr} {H : Hp} : SB p H H := fun _ _ _ h => h
theorem SB.trans {p : Addr} {H H1 H2 : Hp} (a : SB p H H1) (b : SB p H1 H2) : SB p H H2 := fun q u n h => b q u n (a q u n h)
theorem SB.same {p : Addr} {H H' : Hp} (s : Same H H') : SB p H H' := fun q u _ h => s q u h
theorem SB.upd {p : Addr} {H : Hp} (o : HO) : SB p H (upd H p o) := fun q u n h => by rw [upd_ne n]; exact h
theorem SB.tups {p : Addr} {H H' : Hp} {xs : List V} (s : SB p H H') (h : H p = some (.lst xs)) : Tups H H' := ⟨fun q ys e => s q _ (fun z => by rw [z, h] at e; cases e) e, fun q o_ u_ e => s q _ (fun z => by rw [z, h] at e; cases e) e⟩
end My
set_option Elab.async false
set_option linter.all false
set_option maxRecDepth 100000
set_option maxHeartbeats 8000000
namespace My
open PySem L2 SS
/-! methods; rows of values -/
structure Me where
  m : List Nat
  ps : List (List Nat)
  ss : Sts
def AtM (H : Hp) (m : Me) (v : V) : Prop := ∃ p vw q xs, v = .ref p ∧ H p = some (.tup [S_ "method", .str (mk m.m), vw, .ref q]) ∧ AtW H m.ps vw ∧ H q = some (.tup xs) ∧ AtSs H m.ss xs
theorem AtM.on {H H' : Hp} (t : Tups H H') {m : Me} {v : V} (h : AtM H m v) : AtM H' m v := by
  obtain ⟨p, vw, q, xs, e, h1, h2, h3, h4⟩ := h
  exact ⟨p, vw, q, xs, e, t _ _ h1, h2.on t, t _ _ h3, h4.on_ t⟩
/-- a row of things in a row of values -/
def AtL {α : Type} (R : Hp → α → V → Prop) (H : Hp) : List α → List V → Prop
  | [], vs => vs = []
  | x :: r, vs => ∃ v us, vs = v :: us ∧ R H x v ∧ AtL R H r us
theorem AtL.snoc {α : Type} {R : Hp → α → V → Prop} {H : Hp} : ∀ {xs : List α} {vs : List V} {x : α} {v : V}, AtL R H xs vs → R H x v → AtL R H (xs ++ [x]) (vs ++ [v])
  | [], vs, x, v, h, hx => by
    have h' : vs = [] := h
    subst h'
    exact ⟨v, [], rfl, hx, rfl⟩
  | y :: r, vs, x, v, ⟨u, us, h1, h2, h3⟩, hx => by
    subst h1
    exact ⟨u, us ++ [v], rfl, h2, AtL.snoc h3 hx⟩
theorem AtL.onR {α : Type} {R : Hp → α → V → Prop} {H H' : Hp} (hR : ∀ x v, R H x v → R H' x v) : ∀ {xs : List α} {vs : List V}, AtL R H xs vs → AtL R H' xs vs
  | [], vs, h => h
  | y :: r, vs, ⟨u, us, h1, h2, h3⟩ => ⟨u, us, h1, hR y u h2, AtL.onR hR h3⟩
theorem AtL.on {α : Type} {R : Hp → α → V → Prop} {H H' : Hp} (_ : Tups H H') (hR : ∀ x v, R H x v → R H' x v) {xs : List α} {vs : List V} (h : AtL R H xs vs) : AtL R H' xs vs := AtL.onR hR h
theorem AtL.len {α : Type} {R : Hp → α → V → Prop} {H : Hp} : ∀ {xs : List α} {vs : List V}, AtL R H xs vs → vs.length = xs.length
  | [], vs, h => by
    have h' : vs = [] := h
    subst h'
    rfl
  | y :: r, vs, ⟨u, us, h1, h2, h3⟩ => by
    subst h1
    rw [List.length_cons, List.length_cons, AtL.len h3]
/-! the machine's rows -/
abbrev Rw := List V
abbrev iV (n : Nat) : V := V.int (n : Nat)
/-- how many surroundings outward a name stands, and its number there -/
def findN (w : T) : List (List T) → Nat × Nat
  | [] => (0, 0)
  | ps :: r => if w ∈ ps then (0, ps.idxOf w) else ((findN w r).1 + 1, (findN w r).2)
mutual
def rwE (sur : List (List T)) : Ex → Nat → List Rw
  | .num n, a => [[iV a, S_ "push", .int n]]
  | .txt s, a => [[iV a, S_ "push", .str (mk s)]]
  | .tru b, a => [[iV a, S_ "push", .bl b]]
  | .non, a => [[iV a, S_ "push", .non]]
  | .slf, a => [[iV a, S_ "self"]]
  | .nam w, a => [[iV a, S_ "name", iV (findN w sur).1, iV (findN w sur).2]]
  | .fld w, a => [[iV a, S_ "field", .str (mk w)]]
  | .new w, a => [[iV a, S_ "new", .str (mk w)]]
  | .send r m es, a => rwE sur r (a + 1) ++ rwEs sur es (a + 1 + nE r) ++ [[iV a, S_ "send", .str (mk m), iV (cE es)]]
  | .up m es, a => rwEs sur es (a + 1) ++ [[iV a, S_ "up", .str (mk m), iV (cE es)]]
  | .lst es, a => rwEs sur es (a + 1) ++ [[iV a, S_ "list", iV (cE es)]]
  | .blk _ _, a => [[iV a, S_ "block", iV a]]
def rwEs (sur : List (List T)) : Exs → Nat → List Rw
  | .nil, _ => []
  | .cons e r, a => rwE sur e a ++ rwEs sur r (a + nE e)
end
def plW (k : T) : T := if k = tk "do" then tk "drop" else k
mutual
/-- the rows of a statement with number a, from row o on -/
def rwS (sur : List (List T)) : St_ → Nat → Nat → List Rw
  | .set w e, a, _ => [[iV a, S_ "beat"]] ++ rwE sur e (a + 1) ++ [[iV a, S_ "setname", iV (findN w sur).1, iV (findN w sur).2]]
  | .sfl w e, a, _ => [[iV a, S_ "beat"]] ++ rwE sur e (a + 1) ++ [[iV a, S_ "setfield", .str (mk w)]]
  | .pl k e, a, _ => [[iV a, S_ "beat"]] ++ rwE sur e (a + 1) ++ [[iV a, .str (mk (plW k))]]
  | .iff e x y, a, o =>
    let E := rwE sur e (a + 1)
    let X := rwSs sur x (a + 1 + nE e) (o + 2 + E.length)
    let Y := rwSs sur y (a + 1 + nE e + nSs x) (o + 3 + E.length + X.length)
    [[iV a, S_ "beat"]] ++ E ++ [[iV a, S_ "unless", iV (o + 3 + E.length + X.length)]] ++ X ++ [[iV a, S_ "jump", iV (o + 3 + E.length + X.length + Y.length)]] ++ Y
  | .whl e x, a, o =>
    let E := rwE sur e (a + 1)
    let X := rwSs sur x (a + 1 + nE e) (o + 2 + E.length)
    [[iV a, S_ "beat"]] ++ E ++ [[iV a, S_ "unless", iV (o + 3 + E.length + X.length)]] ++ X ++ [[iV a, S_ "jump", iV o]]
  | .tri x w y, a, o =>
    let X := rwSs sur x (a + 1) (o + 2)
    let Y := rwSs sur y (a + 1 + nSs x) (o + 5 + X.length)
    [[iV a, S_ "beat"], [iV a, S_ "try", iV (o + 4 + X.length)]] ++ X ++ [[iV a, S_ "untry"], [iV a, S_ "jump", iV (o + 5 + X.length + Y.length)], [iV a, S_ "setname", iV (findN w sur).1, iV (findN w sur).2]] ++ Y
def rwSs (sur : List (List T)) : Sts → Nat → Nat → List Rw
  | .nil, _, _ => []
  | .cons s r, a, o => rwS sur s a o ++ rwSs sur r (a + nS s) (o + (rwS sur s a o).length)
end
/-- a row as a tuple -/
def AtRw (H : Hp) (r : Rw) (v : V) : Prop := ∃ p, v = .ref p ∧ H p = some (.tup r)
theorem AtRw.on {H H' : Hp} {r : Rw} {v : V} (t : Tups H H') (h : AtRw H r v) : AtRw H' r v := by
  obtain ⟨p, e, h⟩ := h
  exact ⟨p, e, t _ _ h⟩
/-! names of a method: parameters, then what is set or taken, in the order of nodes, but for what a block around has -/
mutual
def stE (hid : List T) : Ex → List T
  | .send r _ es => stE hid r ++ stEs hid es
  | .up _ es => stEs hid es
  | .lst es => stEs hid es
  | .blk ps ss => stSs (ps ++ hid) ss
  | _ => []
def stEs (hid : List T) : Exs → List T
  | .nil => []
  | .cons e r => stE hid e ++ stEs hid r
def stS (hid : List T) : St_ → List T
  | .set w e => (if w ∈ hid then [] else [w]) ++ stE hid e
  | .sfl _ e => stE hid e
  | .pl _ e => stE hid e
  | .iff e a b => stE hid e ++ stSs hid a ++ stSs hid b
  | .whl e a => stE hid e ++ stSs hid a
  | .tri a w b => (if w ∈ hid then [] else [w]) ++ stSs hid a ++ stSs hid b
def stSs (hid : List T) : Sts → List T
  | .nil => []
  | .cons s r => stS hid s ++ stSs hid r
end
def addW (acc : List T) (ws : List T) : List T := ws.foldl (fun acc w => if w ∈ acc then acc else acc ++ [w]) acc
def namesM (m : Me) : List T := addW m.ps (stSs [] m.ss)
/-- the machine's rows of a method -/
def rowsM (m : Me) : List Rw := rwSs [namesM m] m.ss 0 0 ++ [[V.int (-1), S_ "push", .non], [V.int (-1), S_ "return"]]
/-! names stand -/
def inSur (w : T) (sur : List (List T)) : Prop := ∃ ns ∈ sur, w ∈ ns
mutual
def sdE (sur : List (List T)) : Ex → Prop
  | .num n => -1000000000000 < n ∧ n < 1000000000000
  | .txt s => s.length ≤ 40
  | .nam w => inSur w sur
  | .send r _ es => sdE sur r ∧ sdEs sur es
  | .up _ es => sdEs sur es
  | .lst es => sdEs sur es
  | .blk ps ss => ps.Nodup ∧ ps.length ≤ 4 ∧ sdSs (ps :: sur) ss
  | _ => True
def sdEs (sur : List (List T)) : Exs → Prop
  | .nil => True
  | .cons e r => sdE sur e ∧ sdEs sur r
def sdS (sur : List (List T)) : St_ → Prop
  | .set w e => inSur w sur ∧ sdE sur e
  | .sfl _ e => sdE sur e
  | .pl k e => isPl k = true ∧ sdE sur e
  | .iff e a b => sdE sur e ∧ sdSs sur a ∧ sdSs sur b
  | .whl e a => sdE sur e ∧ sdSs sur a
  | .tri a w b => inSur w sur ∧ sdSs sur a ∧ sdSs sur b
def sdSs (sur : List (List T)) : Sts → Prop
  | .nil => True
  | .cons s r => sdS sur s ∧ sdSs sur r
end
/-- a method whose rows can be told -/
structure okR (m : Me) : Prop where
  pd : m.ps.Nodup
  pl : m.ps.length ≤ 4
  ss : sdSs [namesM m] m.ss
  n : nSs m.ss ≤ 1000
  o : oSs m.ss ≤ 13
/-- rows_of, of the method itself -/
def spRo : Sp := fun vs H Q _ => ∃ (m : Me) (v : V), vs = [v, .int (-1)] ∧ AtM H m v ∧ okR m ∧ ∀ (H' : Hp) (p : Addr) (us : List V), Same H H' → H' p = some (.tup us) → AtL AtRw H' (rowsM m) us → Q (.ref p) H'
end My
set_option Elab.async false
set_option linter.all false
set_option maxRecDepth 100000
set_option maxHeartbeats 8000000
namespace My
open PySem L2 SS
/-! es without blocks, by names that are there -/
mutual
def gE (ns : List T) : Ex → Prop
  | .num n => -1000000000000 < n ∧ n < 1000000000000
  | .txt s => s.length ≤ 40
  | .nam w => w ∈ ns
  | .send r _ es => gE ns r ∧ gEs ns es
  | .up _ es => gEs ns es
  | .lst es => gEs ns es
  | .blk _ _ => False
  | _ => True
def gEs (ns : List T) : Exs → Prop
  | .nil => True
  | .cons e r => gE ns e ∧ gEs ns r
end
theorem gEs.snoc {ns : List T} : ∀ {es : Exs} {e : Ex}, gEs ns es → gE ns e → gEs ns (es.snoc e)
  | .nil, e, _, h => ⟨h, trivial⟩
  | .cons x r, e, ⟨h1, h2⟩, h => ⟨h1, gEs.snoc h2 h⟩
theorem wsV_at {ws : List T} {d : Int} (h0 : 0 ≤ d) (h1 : d < ((ws.length : Nat) : Int)) : ∃ w, w ∈ ws ∧ atI (wsV ws) d = some (.str (mk w)) := by
  obtain ⟨k, rfl⟩ := Int.eq_ofNat_of_zero_le h0
  have hk : k < ws.length := by omega
  exact ⟨ws[k], List.getElem_mem hk, atI_nat (by unfold wsV; rw [List.getElem?_map, List.getElem?_eq_getElem hk]; rfl)⟩
mutual
theorem rwE_len {ns : List T} {sur : List (List T)} : ∀ (e : Ex) (a : Nat), gE ns e → (rwE sur e a).length = nE e
  | .num _, _, _ => rfl
  | .txt _, _, _ => rfl
  | .tru _, _, _ => rfl
  | .non, _, _ => rfl
  | .slf, _, _ => rfl
  | .nam _, _, _ => rfl
  | .fld _, _, _ => rfl
  | .new _, _, _ => rfl
  | .send r m es, a, h => by
    show (rwE sur r (a + 1) ++ rwEs sur es (a + 1 + nE r) ++ [_]).length = 1 + nE r + nEs es
    rw [List.length_append, List.length_append, rwE_len r _ h.1, rwEs_len es _ h.2]
    show nE r + nEs es + 1 = _
    omega
  | .up m es, a, h => by
    show (rwEs sur es (a + 1) ++ [_]).length = 1 + nEs es
    rw [List.length_append, rwEs_len es _ h]
    show nEs es + 1 = _
    omega
  | .lst es, a, h => by
    show (rwEs sur es (a + 1) ++ [_]).length = 1 + nEs es
    rw [List.length_append, rwEs_len es _ h]
    show nEs es + 1 = _
    omega
  | .blk _ _, _, h => h.elim
theorem rwEs_len {ns : List T} {sur : List (List T)} : ∀ (es : Exs) (a : Nat), gEs ns es → (rwEs sur es a).length = nEs es
  | .nil, _, _ => rfl
  | .cons e r, a, h => by
    show (rwE sur e a ++ rwEs sur r (a + nE e)).length = nE e + nEs r
    rw [List.length_append, rwE_len e _ h.1, rwEs_len r _ h.2]
end
theorem rwEs_snoc {sur : List (List T)} : ∀ (es : Exs) (e : Ex) (a : Nat), rwEs sur (es.snoc e) a = rwEs sur es a ++ rwE sur e (a + nEs es)
  | .nil, e, a => by
    show rwE sur e a ++ [] = [] ++ rwE sur e (a + 0)
    rw [List.append_nil, List.nil_append, Nat.add_zero]
  | .cons x r, e, a => by
    show rwE sur x a ++ rwEs sur (r.snoc e) (a + nE x) = rwE sur x a ++ rwEs sur r (a + nE x) ++ rwE sur e (a + (nE x + nEs r))
    rw [rwEs_snoc r e (a + nE x), List.append_assoc, Nat.add_assoc]
/-- the first of es -/
def Exs.take : Nat → Exs → Exs
  | 0, _ => .nil
  | _ + 1, .nil => .nil
  | n + 1, .cons e r => .cons e (r.take n)
theorem Exs.take_snoc : ∀ (es : Exs) (i : Nat) {vs : List V} {v : V} {H : Hp}, AtEs H es vs → vs[i]? = some v → ∃ e, AtE H e v ∧ es.take (i + 1) = (es.take i).snoc e ∧ nEs (es.take i) + nE e ≤ nEs es ∧ oE e ≤ oEs es ∧ ∀ ns, gEs ns es → gE ns e
  | .nil, i, vs, v, H, h, hv => by
    have h' : vs = [] := h
    subst h'
    cases i <;> cases hv
  | .cons e r, 0, vs, v, H, ⟨u, us, e1, h1, h2⟩, hv => by
    subst e1
    cases hv
    exact ⟨e, h1, by cases r <;> rfl, by show 0 + nE e ≤ nE e + nEs r; omega, by show oE e ≤ max (oE e) (oEs r); omega, fun ns g => g.1⟩
  | .cons e r, i + 1, vs, v, H, ⟨u, us, e1, h1, h2⟩, hv => by
    subst e1
    obtain ⟨x, g1, g2, g3, g4, g5⟩ := Exs.take_snoc r i h2 hv
    exact ⟨x, g1, by show Exs.cons e (r.take (i + 1)) = Exs.cons e ((r.take i).snoc x); rw [g2], by show nE e + nEs (r.take i) + nE x ≤ nE e + nEs r; omega, by show oE x ≤ max (oE e) (oEs r); omega, fun ns g => g5 ns g.2⟩
theorem Exs.take_all : ∀ (es : Exs) {vs : List V} {H : Hp}, AtEs H es vs → es.take vs.length = es
  | .nil, vs, H, h => by
    have h' : vs = [] := h
    subst h'
    rfl
  | .cons e r, vs, H, ⟨u, us, e1, h1, h2⟩ => by
    subst e1
    show Exs.cons e (r.take us.length) = _
    rw [Exs.take_all r h2]
theorem put_row {H H1 : Hp} {fl q : Addr} {us : List V} {rows : List Rw} {r : Rw} (s1 : SB fl H H1) (f1 : H1 fl = some (.lst us)) (at1 : AtL AtRw H1 rows us) (hq : H1 q = none) :
    (upd H1 q (.tup r)) fl = some (.lst us) ∧ SB fl H (upd (upd H1 q (.tup r)) fl (.lst (us ++ [.ref q]))) ∧ AtL AtRw (upd (upd H1 q (.tup r)) fl (.lst (us ++ [.ref q]))) (rows ++ [r]) (us ++ [.ref q]) := by
  have nq : q ≠ fl := fun z => by rw [z, f1] at hq; cases hq
  have st := same_new hq (.tup r)
  have f2 := st _ _ f1
  have tt : Tups H1 (upd (upd H1 q (.tup r)) fl (.lst (us ++ [.ref q]))) := (same_tups st).trans (tups_lst f2)
  exact ⟨f2, s1.trans ((SB.same st).trans (SB.upd _)), (AtL.onR (fun _ _ z => AtRw.on tt z) at1).snoc ⟨q, rfl, by rw [upd_ne nq]; exact upd_same⟩⟩
theorem cut4 (ws : List T) : cutV (wsV ws) (some 4) none = wsV (ws.drop 4) := by
  unfold cutV
  have e : HT.sIx (wsV ws).length 0 (some 4) = min 4 ws.length := by
    have := HT.sIx_nat (wsV ws).length 0 4
    rw [show ((4 : Nat) : Int) = 4 from rfl] at this
    rw [this]
    unfold wsV
    rw [List.length_map]
  rw [e, HT.sIx_none]
  unfold wsV
  rw [List.length_map, ← List.map_drop, ← List.map_take]
  congr 1
  by_cases h : 4 ≤ ws.length
  · rw [Nat.min_eq_left h]
    exact List.take_of_length_le (by rw [List.length_drop]; omega)
  · rw [Nat.min_eq_right (by omega), Nat.sub_self, List.take_zero, List.drop_eq_nil_of_le (by omega)]
theorem wsV_idx {ns : List T} {z : T} (hz : z ∈ ns) : (wsV ns)[ns.idxOf z]? = some (.str (mk z)) ∧ ∀ (m : Nat) (z' : V), m < ns.idxOf z → (wsV ns)[m]? = some z' → eqV z' (.str (mk z)) = false := by
  have hlt : ns.idxOf z < ns.length := List.idxOf_lt_length_of_mem hz
  refine ⟨?_, fun m z' hm h => ?_⟩
  · unfold wsV
    rw [List.getElem?_map, List.getElem?_eq_getElem hlt, List.getElem_idxOf]
    rfl
  · unfold wsV at h
    have hm' : m < ns.length := by omega
    rw [List.getElem?_map, List.getElem?_eq_getElem hm'] at h
    cases Option.some.inj h
    show (mk ns[m] == mk z) = false
    have hne : ns[m] ≠ z := fun e => by
      have := List.not_of_lt_findIdx (show m < ns.findIdx (· == z) from hm)
      simp [e] at this
    exact beq_false_of_ne fun e => hne (by have := congrArg tl e; simpa using this)
theorem wsV_flat (ns : List T) : (wsV ns).all flatV = true := by
  unfold wsV
  rw [List.all_map, List.all_eq_true]
  intro x _
  rfl
theorem gEs.take {ns : List T} : ∀ {es : Exs} (i : Nat), gEs ns es → gEs ns (es.take i)
  | .nil, 0, h => trivial
  | .nil, i + 1, h => trivial
  | .cons e r, 0, h => trivial
  | .cons e r, i + 1, h => ⟨h.1, gEs.take i h.2⟩
/-- a plain worth -/
inductive Pln : V → Prop
  | int (i : Int) : Pln (.int i)
  | str (s : Str) : Pln (.str s)
  | bl (b : Bool) : Pln (.bl b)
  | non : Pln .non
/-- tuples alike, so deep, of plain worths -/
def EqD (H : Hp) : Nat → V → V → Prop
  | 0, x, y => x = y ∧ Pln x
  | d + 1, x, y => ∃ p q xs ys, x = .ref p ∧ y = .ref q ∧ H p = some (.tup xs) ∧ H q = some (.tup ys) ∧ xs.length = ys.length ∧ ys.length ≤ 5000 ∧ ∀ (i : Nat) (u v : V), xs[i]? = some u → ys[i]? = some v → EqD H d u v
theorem EqD.on {H H' : Hp} (t : Tups H H') : ∀ (d : Nat) (x y : V), EqD H d x y → EqD H' d x y
  | 0, _, _, h => h
  | d + 1, _, _, ⟨p, q, xs, ys, e1, e2, h1, h2, h3, h4, h5⟩ => ⟨p, q, xs, ys, e1, e2, t _ _ h1, t _ _ h2, h3, h4, fun i u v a b => EqD.on t d u v (h5 i u v a b)⟩
mutual
theorem gE_st {ns hid : List T} : ∀ (e : Ex), gE ns e → stE hid e = []
  | .num _, _ => rfl
  | .txt _, _ => rfl
  | .tru _, _ => rfl
  | .non, _ => rfl
  | .slf, _ => rfl
  | .nam _, _ => rfl
  | .fld _, _ => rfl
  | .new _, _ => rfl
  | .send r m es, h => by
    show stE hid r ++ stEs hid es = []
    rw [gE_st r h.1, gEs_st es h.2]
    rfl
  | .up m es, h => gEs_st es h
  | .lst es, h => gEs_st es h
  | .blk _ _, h => h.elim
theorem gEs_st {ns hid : List T} : ∀ (es : Exs), gEs ns es → stEs hid es = []
  | .nil, _ => rfl
  | .cons e r, h => by
    show stE hid e ++ stEs hid r = []
    rw [gE_st e h.1, gEs_st r h.2]
    rfl
end
mutual
theorem gE_sd {ns : List T} : ∀ (e : Ex), gE ns e → sdE [ns] e
  | .num _, h => h
  | .txt _, h => h
  | .tru _, _ => trivial
  | .non, _ => trivial
  | .slf, _ => trivial
  | .nam _, h => ⟨ns, List.mem_cons_self, h⟩
  | .fld _, _ => trivial
  | .new _, _ => trivial
  | .send r m es, h => ⟨gE_sd r h.1, gEs_sd es h.2⟩
  | .up m es, h => gEs_sd es h
  | .lst es, h => gEs_sd es h
  | .blk _ _, h => h.elim
theorem gEs_sd {ns : List T} : ∀ (es : Exs), gEs ns es → sdEs [ns] es
  | .nil, _ => trivial
  | .cons e r, h => ⟨gE_sd e h.1, gEs_sd r h.2⟩
end
/-- rows of plain worths -/
def PlR (rows : List Rw) : Prop := ∀ r ∈ rows, r.length ≤ 5 ∧ ∀ x ∈ r, Pln x
theorem PlR.app {a b : List Rw} (h : PlR a) (k : PlR b) : PlR (a ++ b) := fun r hr => (List.mem_append.mp hr).elim (h r) (k r)
theorem PlR.one {r : Rw} (h : r.length ≤ 5) (k : ∀ x ∈ r, Pln x) : PlR [r] := fun q hq => by
  have : q = r := by simpa using hq
  subst this
  exact ⟨h, k⟩
theorem PlR.nil : PlR [] := fun r h => by cases h
theorem pl_nil : ∀ x ∈ ([] : List V), Pln x := fun x h => by cases h
theorem pl_cons {y : V} {r : List V} (h : Pln y) (k : ∀ x ∈ r, Pln x) : ∀ x ∈ y :: r, Pln x := fun x hx => by
  rcases List.mem_cons.mp hx with rfl | hx
  · exact h
  · exact k x hx
mutual
theorem rwE_pln {sur : List (List T)} : ∀ (e : Ex) (a : Nat), PlR (rwE sur e a)
  | .num _, _ => .one (show (3 : Nat) ≤ 5 by decide) (pl_cons (.int _) (pl_cons (.str _) (pl_cons (.int _) pl_nil)))
  | .txt _, _ => .one (show (3 : Nat) ≤ 5 by decide) (pl_cons (.int _) (pl_cons (.str _) (pl_cons (.str _) pl_nil)))
  | .tru _, _ => .one (show (3 : Nat) ≤ 5 by decide) (pl_cons (.int _) (pl_cons (.str _) (pl_cons (.bl _) pl_nil)))
  | .non, _ => .one (show (3 : Nat) ≤ 5 by decide) (pl_cons (.int _) (pl_cons (.str _) (pl_cons .non pl_nil)))
  | .slf, _ => .one (show (2 : Nat) ≤ 5 by decide) (pl_cons (.int _) (pl_cons (.str _) pl_nil))
  | .nam _, _ => .one (show (4 : Nat) ≤ 5 by decide) (pl_cons (.int _) (pl_cons (.str _) (pl_cons (.int _) (pl_cons (.int _) pl_nil))))
  | .fld _, _ => .one (show (3 : Nat) ≤ 5 by decide) (pl_cons (.int _) (pl_cons (.str _) (pl_cons (.str _) pl_nil)))
  | .new _, _ => .one (show (3 : Nat) ≤ 5 by decide) (pl_cons (.int _) (pl_cons (.str _) (pl_cons (.str _) pl_nil)))
  | .send r m es, a => ((rwE_pln r _).app (rwEs_pln es _)).app (.one (show (4 : Nat) ≤ 5 by decide) (pl_cons (.int _) (pl_cons (.str _) (pl_cons (.str _) (pl_cons (.int _) pl_nil)))))
  | .up m es, a => (rwEs_pln es _).app (.one (show (4 : Nat) ≤ 5 by decide) (pl_cons (.int _) (pl_cons (.str _) (pl_cons (.str _) (pl_cons (.int _) pl_nil)))))
  | .lst es, a => (rwEs_pln es _).app (.one (show (3 : Nat) ≤ 5 by decide) (pl_cons (.int _) (pl_cons (.str _) (pl_cons (.int _) pl_nil))))
  | .blk _ _, _ => .one (show (3 : Nat) ≤ 5 by decide) (pl_cons (.int _) (pl_cons (.str _) (pl_cons (.int _) pl_nil)))
theorem rwEs_pln {sur : List (List T)} : ∀ (es : Exs) (a : Nat), PlR (rwEs sur es a)
  | .nil, _ => .nil
  | .cons e r, a => (rwE_pln e a).app (rwEs_pln r _)
end
theorem AtL.at {α : Type} {R : Hp → α → V → Prop} {H : Hp} : ∀ {xs : List α} {vs : List V} {i : Nat} {v : V}, AtL R H xs vs → vs[i]? = some v → ∃ x, xs[i]? = some x ∧ R H x v
  | [], vs, i, v, h, hv => by
    have h' : vs = [] := h
    subst h'
    cases hv
  | y :: r, vs, 0, v, ⟨u, us, h1, h2, h3⟩, hv => by
    subst h1
    cases hv
    exact ⟨y, rfl, h2⟩
  | y :: r, vs, i + 1, v, ⟨u, us, h1, h2, h3⟩, hv => by
    subst h1
    exact AtL.at (i := i) h3 hv
theorem eq_rows {H : Hp} {p q : Addr} {us vs : List V} {rows : List Rw} (hp : H p = some (.tup us)) (hq : H q = some (.tup vs)) (h1 : AtL AtRw H rows us) (h2 : AtL AtRw H rows vs) (hl : rows.length ≤ 5000) (hr : PlR rows) : EqD H 2 (.ref p) (.ref q) := by
  refine ⟨p, q, us, vs, rfl, rfl, hp, hq, by rw [h1.len, h2.len], by rw [h2.len]; exact hl, fun i u v hu hv => ?_⟩
  obtain ⟨r, r1, p1, rfl, hp1⟩ := h1.at hu
  obtain ⟨r', r1', p2, rfl, hp2⟩ := h2.at hv
  rw [r1] at r1'
  cases r1'
  obtain ⟨g1, g2⟩ := hr r (List.mem_of_getElem? r1)
  refine ⟨p1, p2, r, r, rfl, rfl, hp1, hp2, rfl, by omega, fun j x y hx hy => ?_⟩
  rw [hx] at hy
  cases hy
  exact ⟨rfl, g2 x (List.mem_of_getElem? hx)⟩
theorem plW_at (z : T) : atI [S_ "drop", V.str (mk z)] (if (!decide (V.str (mk z) = V.str (Str.ofString "do"))) = true then 1 else 0) = some (V.str (mk (plW z))) := by
  by_cases h : z = tk "do"
  · subst h
    rfl
  · have hv : ¬ V.str (mk z) = V.str (Str.ofString "do") := fun e => h (by
      have e1 := V.str.inj e
      have e2 := congrArg tl e1
      rw [tl_mk] at e2
      exact e2)
    rw [show decide (V.str (mk z) = V.str (Str.ofString "do")) = false from decide_eq_false hv]
    unfold plW
    rw [if_neg h]
    rfl
end My
set_option Elab.async false
set_option linter.all false
set_option maxRecDepth 100000
set_option maxHeartbeats 4000000
namespace My
open PySem L2 SS
/-! ### things as data -/
inductive Dt : Type
  | v (x : V) : Dt
  | tup (xs : List Dt) : Dt
  | lst (xs : List Dt) : Dt
  | dic : Dt
/-- one by one -/
inductive All2 {α β : Type} (R : α → β → Prop) : List α → List β → Prop
  | nil : All2 R [] []
  | cons {a : α} {b : β} {as : List α} {bs : List β} : R a b → All2 R as bs → All2 R (a :: as) (b :: bs)
theorem All2.len {α β : Type} {R : α → β → Prop} {as : List α} {bs : List β} (h : All2 R as bs) : as.length = bs.length := by
  induction h with
  | nil => rfl
  | cons _ _ ih => rw [List.length_cons, List.length_cons, ih]
theorem All2.get {α β : Type} {R : α → β → Prop} {as : List α} {bs : List β} (h : All2 R as bs) {i : Nat} {b : β} (hb : bs[i]? = some b) : ∃ a, as[i]? = some a ∧ R a b := by
  induction h generalizing i with
  | nil => simp at hb
  | cons r _ ih =>
    cases i with
    | zero => simp at hb; subst hb; exact ⟨_, rfl, r⟩
    | succ i => obtain ⟨a, h1, h2⟩ := ih (i := i) (by simpa using hb); exact ⟨a, by simpa using h1, h2⟩
theorem All2.app {α β : Type} {R : α → β → Prop} {as cs : List α} {bs ds : List β} (h : All2 R as bs) (k : All2 R cs ds) : All2 R (as ++ cs) (bs ++ ds) := by
  induction h with
  | nil => exact k
  | cons r _ ih => exact .cons r ih
theorem All2.imp {α β : Type} {R S : α → β → Prop} {as : List α} {bs : List β} (h : All2 R as bs) (k : ∀ a b, R a b → S a b) : All2 S as bs := by
  induction h with
  | nil => exact .nil
  | cons r _ ih => exact .cons (k _ _ r) ih
theorem All2.take {α β : Type} {R : α → β → Prop} : ∀ {as : List α} {bs : List β} (n : Nat), All2 R as bs → All2 R (as.take n) (bs.take n)
  | _, _, 0, _ => .nil
  | _, _, n + 1, .nil => .nil
  | _, _, n + 1, .cons r h => .cons r (h.take n)
theorem All2.drop {α β : Type} {R : α → β → Prop} : ∀ {as : List α} {bs : List β} (n : Nat), All2 R as bs → All2 R (as.drop n) (bs.drop n)
  | _, _, 0, h => h
  | _, _, n + 1, .nil => .nil
  | _, _, n + 1, .cons r h => h.drop n
/-- the data that stands there, of so many levels -/
def AtD (H : Hp) : Nat → Dt → V → Prop
  | _, .v y, x => x = y ∧ Pln y
  | 0, .tup _, _ => False
  | n + 1, .tup ds, x => ∃ p us, x = .ref p ∧ TupA H p us ∧ ds.length ≤ 100000 ∧ All2 (AtD H n) ds us
  | 0, .lst _, _ => False
  | n + 1, .lst ds, x => ∃ p us, x = .ref p ∧ H p = some (.lst us) ∧ ds.length ≤ 100000 ∧ All2 (AtD H n) ds us
  | _, .dic, x => ∃ p kvs, x = .ref p ∧ H p = some (.dK kvs)
theorem AtD.same {H H' : Hp} (s : Same H H') : ∀ {n : Nat} {d : Dt} {x : V}, AtD H n d x → AtD H' n d x
  | 0, .v y, x, h => h
  | n + 1, .v y, x, h => h
  | 0, .tup _, _, h => h.elim
  | n + 1, .tup ds, x, ⟨p, us, e, h1, h2, h3⟩ => ⟨p, us, e, TupA.same s h1, h2, h3.imp fun a b r => AtD.same s r⟩
  | 0, .lst _, _, h => h.elim
  | n + 1, .lst ds, x, ⟨p, us, e, h1, h2, h3⟩ => ⟨p, us, e, s _ _ h1, h2, h3.imp fun a b r => AtD.same s r⟩
  | 0, .dic, x, ⟨p, k, e, h⟩ => ⟨p, k, e, s _ _ h⟩
  | n + 1, .dic, x, ⟨p, k, e, h⟩ => ⟨p, k, e, s _ _ h⟩
theorem AtD.up {H : Hp} : ∀ {n : Nat} {d : Dt} {x : V}, AtD H n d x → AtD H (n + 1) d x
  | 0, .v y, x, h => h
  | n + 1, .v y, x, h => h
  | 0, .tup _, _, h => h.elim
  | n + 1, .tup ds, x, ⟨p, us, e, h1, h2, h3⟩ => ⟨p, us, e, h1, h2, h3.imp fun a b r => AtD.up r⟩
  | 0, .lst _, _, h => h.elim
  | n + 1, .lst ds, x, ⟨p, us, e, h1, h2, h3⟩ => ⟨p, us, e, h1, h2, h3.imp fun a b r => AtD.up r⟩
  | 0, .dic, x, h => h
  | n + 1, .dic, x, h => h
theorem AtD.mono {H : Hp} {n m : Nat} (h : n ≤ m) {d : Dt} {x : V} (a : AtD H n d x) : AtD H m d x := by
  induction h with
  | refl => exact a
  | step _ ih => exact ih.up
/-- whether data are the same, kind for kind -/
def smD : Nat → Dt → Dt → Bool
  | _, .v x, .v y => decide (x = y)
  | 0, .tup xs, .tup ys => false
  | n + 1, .tup xs, .tup ys => decide (xs.length = ys.length) && (List.zipWith (smD n) xs ys).all id
  | _, _, _ => false
theorem pln_ths {H : Hp} {x : V} (h : Pln x) : ∃ s, ThS H x s ∧ s ≠ .oth ∧ s ≠ .tup := by
  cases h with
  | int i => exact ⟨_, .num i, by decide, by decide⟩
  | str z => exact ⟨_, .txt z, by decide, by decide⟩
  | bl b => exact ⟨_, .tru b, by decide, by decide⟩
  | non => exact ⟨_, .non, by decide, by decide⟩
/-- the sort of data -/
def Dt.s : Dt → Option Srt
  | .v _ => none
  | .tup _ => some .tup
  | .lst _ => some .oth
  | .dic => some .oth
theorem AtD.ths {H : Hp} : ∀ {n : Nat} {d : Dt} {x : V}, AtD H n d x → ∃ s, ThS H x s ∧ (d.s = none → s ≠ .oth ∧ s ≠ .tup) ∧ (∀ t, d.s = some t → s = t)
  | n, .v y, x, h => by
    obtain ⟨e, hp⟩ : x = y ∧ Pln y := by cases n <;> exact h
    subst e
    obtain ⟨s, h, a, b⟩ := pln_ths (H := H) hp
    exact ⟨s, h, fun _ => ⟨a, b⟩, fun _ e => (by cases e)⟩
  | 0, .tup _, _, h => h.elim
  | n + 1, .tup ds, x, ⟨p, us, e, h1, _⟩ => by subst e; exact ⟨.tup, .tup h1, fun e => (by cases e), fun _ e => (by cases e; rfl)⟩
  | 0, .lst _, _, h => h.elim
  | n + 1, .lst ds, x, ⟨p, us, e, h1, _⟩ => by subst e; exact ⟨.oth, .lst h1, fun e => (by cases e), fun _ e => (by cases e; rfl)⟩
  | n, .dic, x, h => by
    obtain ⟨p, k, e, h1⟩ : ∃ p kvs, x = .ref p ∧ H p = some (.dK kvs) := by cases n <;> exact h
    subst e
    exact ⟨.oth, .dK h1, fun e => (by cases e), fun _ e => (by cases e; rfl)⟩
theorem sm_v (n : Nat) (x y : V) : smD n (.v x) (.v y) = decide (x = y) := by cases n <;> rfl
/-- of unlike sorts -/
theorem sm_un {H : Hp} {n : Nat} {d e : Dt} {x y : V} (hb : smD n d e = false) (h : AtD H n d x) (k : AtD H n e y) (c : d.s = some .oth ∨ ((d.s ≠ none → d.s ≠ e.s) ∧ (d.s = none → e.s ≠ none))) : SmR H n x y (smD n d e) := by
  obtain ⟨s, h1, h2, h3⟩ := AtD.ths h
  obtain ⟨t, k1, k2, k3⟩ := AtD.ths k
  rw [hb]
  rcases c with c | ⟨c1, c2⟩
  · exact SmR.look (.inl ⟨s, t, h1, k1, .inl (h3 _ c), rfl⟩)
  · refine SmR.look (.inl ⟨s, t, h1, k1, .inr fun z => ?_, rfl⟩)
    subst z
    cases hd : d.s with
    | none =>
      cases he : e.s with
      | none => exact c2 hd he
      | some t =>
        have e1 := k3 t he
        have := h2 hd
        cases e with
        | v _ => cases he
        | tup _ => cases he; exact this.2 e1
        | lst _ => cases he; exact this.1 e1
        | dic => cases he; exact this.1 e1
    | some a =>
      have e1 := h3 a hd
      cases he : e.s with
      | none =>
        have := k2 he
        cases d with
        | v _ => cases hd
        | tup _ => cases hd; exact this.2 e1
        | lst _ => cases hd; exact this.1 e1
        | dic => cases hd; exact this.1 e1
      | some b =>
        have e2 := k3 b he
        exact c1 (by rw [hd]; intro z; cases z) (by rw [hd, he, ← e1, ← e2])
theorem sm_at {H : Hp} : ∀ (n : Nat) {d e : Dt} {x y : V}, AtD H n d x → AtD H n e y → SmR H n x y (smD n d e)
  | n, .v a, .v b, x, y, h, k => by
    obtain ⟨e1, hp⟩ : x = a ∧ Pln a := by cases n <;> exact h
    obtain ⟨e2, kp⟩ : y = b ∧ Pln b := by cases n <;> exact k
    subst e1
    subst e2
    obtain ⟨s, h1, h2, h3⟩ := pln_ths (H := H) hp
    obtain ⟨t, k1, k2, k3⟩ := pln_ths (H := H) kp
    rw [sm_v]
    by_cases c : s = t
    · subst c
      exact SmR.look (.inr (.inl ⟨s, h1, k1, h2, h3, rfl⟩))
    · have : decide (x = y) = false := decide_eq_false fun e => c (by subst e; exact ThS.det h1 k1)
      rw [this]
      exact SmR.look (.inl ⟨s, t, h1, k1, .inr c, rfl⟩)
  | 0, .tup _, _, _, _, h, _ => h.elim
  | 0, .v _, .tup _, _, _, _, k => k.elim
  | n + 1, .tup ds, .tup es, x, y, ⟨p, us, e1, h1, h2, h3⟩, ⟨q, vs, e2, k1, k2, k3⟩ => by
    subst e1
    subst e2
    have l1 := h3.len
    have l2 := k3.len
    by_cases c : ds.length = es.length
    · have e : smD (n + 1) (.tup ds) (.tup es) = (List.zipWith (smD n) ds es).all id := by
        show (decide (ds.length = es.length) && _) = _
        rw [decide_eq_true c, Bool.true_and]
      rw [e]
      refine .inr ⟨p, q, us, vs, List.zipWith (smD n) ds es, rfl, rfl, h1, k1, by omega, by rw [List.length_zipWith]; omega, by omega, rfl, fun i u v b hu hv hb => ?_⟩
      obtain ⟨d, hd, rd⟩ := h3.get hu
      obtain ⟨e, he, re⟩ := k3.get hv
      rw [List.getElem?_zipWith, hd, he] at hb
      have := Option.some.inj hb
      rw [← this]
      exact sm_at n rd re
    · have e : smD (n + 1) (.tup ds) (.tup es) = false := by
        show (decide (ds.length = es.length) && _) = _
        rw [decide_eq_false c, Bool.false_and]
      rw [e]
      exact .inl (.inr (.inr ⟨p, q, us, vs, rfl, rfl, h1, k1, by omega, rfl⟩))
  | n + 1, .v a, .tup es, x, y, h, k => sm_un rfl h k (.inr ⟨(fun z => absurd rfl z), (fun _ => (by intro z; cases z))⟩)
  | n + 1, .tup ds, .v b, x, y, h, k => sm_un rfl h k (.inr ⟨(fun _ => (by intro z; cases z)), (fun z => (by cases z))⟩)
  | n, .lst ds, e, x, y, h, k => sm_un (by cases n <;> cases e <;> rfl) h k (.inl rfl)
  | n, .dic, e, x, y, h, k => sm_un (by cases n <;> cases e <;> rfl) h k (.inl rfl)
  | n, .v a, .lst es, x, y, h, k => sm_un (by cases n <;> rfl) h k (.inr ⟨(fun z => absurd rfl z), (fun _ => (by intro z; cases z))⟩)
  | n, .v a, .dic, x, y, h, k => sm_un (by cases n <;> rfl) h k (.inr ⟨(fun z => absurd rfl z), (fun _ => (by intro z; cases z))⟩)
  | n + 1, .tup ds, .lst es, x, y, h, k => sm_un rfl h k (.inr ⟨(fun _ => (by intro z; cases z)), (fun z => (by cases z))⟩)
  | n + 1, .tup ds, .dic, x, y, h, k => sm_un rfl h k (.inr ⟨(fun _ => (by intro z; cases z)), (fun z => (by cases z))⟩)
/-! rows as data -/
def dRow (r : Rw) : Dt := .tup (r.map .v)
def dRows (rs : List Rw) : Dt := .tup (rs.map dRow)
theorem all2_pln {H : Hp} {n : Nat} : ∀ {r : List V}, (∀ x ∈ r, Pln x) → All2 (AtD H n) (r.map .v) r
  | [], _ => .nil
  | x :: r, h => .cons (by cases n <;> exact ⟨rfl, h x List.mem_cons_self⟩) (all2_pln fun y hy => h y (List.mem_cons_of_mem _ hy))
theorem dRow_at {H : Hp} {r : Rw} {v : V} (h : AtRw H r v) (hr : r.length ≤ 5 ∧ ∀ x ∈ r, Pln x) : AtD H 1 (dRow r) v := by
  obtain ⟨p, rfl, hp⟩ := h
  exact ⟨p, r, rfl, .inl hp, by rw [List.length_map]; omega, all2_pln hr.2⟩
theorem all2_rows {H : Hp} : ∀ {rs : List Rw} {us : List V}, AtL AtRw H rs us → PlR rs → All2 (AtD H 1) (rs.map dRow) us
  | [], us, h, _ => by
    have h' : us = [] := h
    subst h'
    exact .nil
  | r :: rs, us, ⟨v, vs, e, h1, h2⟩, hp => by
    subst e
    exact .cons (dRow_at h1 (hp r List.mem_cons_self)) (all2_rows h2 fun x hx => hp x (List.mem_cons_of_mem _ hx))
theorem dRows_at {H : Hp} {p : Addr} {rs : List Rw} {us : List V} (hp : H p = some (.tup us)) (h : AtL AtRw H rs us) (hr : PlR rs) (hl : rs.length ≤ 100000) : AtD H 2 (dRows rs) (.ref p) :=
  ⟨p, us, rfl, .inl hp, by rw [List.length_map]; exact hl, all2_rows h hr⟩
/-- unlike at one place -/
theorem sm_off {n : Nat} {xs ys : List Dt} {i : Nat} {a b : Dt} (ha : xs[i]? = some a) (hb : ys[i]? = some b) (h : smD n a b = false) : smD (n + 1) (.tup xs) (.tup ys) = false := by
  show (decide (xs.length = ys.length) && (List.zipWith (smD n) xs ys).all id) = false
  have hz : (List.zipWith (smD n) xs ys)[i]? = some false := by rw [List.getElem?_zipWith, ha, hb, ← h]
  have : (List.zipWith (smD n) xs ys).all id = false := List.all_eq_false.mpr ⟨false, List.mem_of_getElem? hz, by decide⟩
  rw [this, Bool.and_false]
theorem sm_lenD {n : Nat} {xs ys : List Dt} (h : xs.length ≠ ys.length) : smD (n + 1) (.tup xs) (.tup ys) = false := by
  show (decide (xs.length = ys.length) && _) = false
  rw [decide_eq_false h, Bool.false_and]
theorem sm_rows_ne {n : Nat} : ∀ {r s : List V}, r ≠ s → smD (n + 1) (dRow r) (dRow s) = false := fun {r s} h => by
  by_cases c : r.length = s.length
  · have : ∃ i : Nat, r[i]? ≠ s[i]? := by
      by_cases z : ∃ i : Nat, r[i]? ≠ s[i]?
      · exact z
      · exact absurd (List.ext_getElem? fun i => by
          by_cases y : r[i]? = s[i]?
          · exact y
          · exact absurd ⟨i, y⟩ z) h
    obtain ⟨i, hi⟩ := this
    have hlt : i < r.length := by
      by_cases z : i < r.length
      · exact z
      · rw [List.getElem?_eq_none (by omega), List.getElem?_eq_none (by omega)] at hi; exact absurd rfl hi
    have h1 : r[i]? = some r[i] := List.getElem?_eq_getElem hlt
    have h2 : s[i]? = some (s[i]'(by omega)) := List.getElem?_eq_getElem (by omega)
    refine sm_off (i := i) (a := .v r[i]) (b := .v (s[i]'(by omega))) (by rw [List.getElem?_map, h1]; rfl) (by rw [List.getElem?_map, h2]; rfl) ?_
    rw [sm_v]
    exact decide_eq_false fun z => hi (by rw [h1, h2, z])
  · exact sm_lenD (by rw [List.length_map, List.length_map]; exact c)
end My
set_option Elab.async false
set_option linter.all false
set_option maxRecDepth 100000
set_option maxHeartbeats 4000000
namespace My
open PySem L2 SS
/-! ### what evaluates to what data; what stood stands -/
def EvD (te : TE) (σ : L2.St) (H : Hp) (n : Nat) (d : Dt) : Prop := ∀ H1, Same H H1 → ∀ Q : VK, (∀ v H2, Same H1 H2 → AtD H2 n d v → Q v H2) → te σ H1 Q
def EvDs (ta : TA) (σ : L2.St) (H : Hp) (n : Nat) (ds : List Dt) : Prop := ∀ H1, Same H H1 → ∀ Q : List V → Hp → Prop, (∀ vs H2, Same H1 H2 → All2 (AtD H2 n) ds vs → Q vs H2) → ta σ H1 Q
theorem All2.same {H H' : Hp} {n : Nat} {ds : List Dt} {vs : List V} (s : Same H H') (h : All2 (AtD H n) ds vs) : All2 (AtD H' n) ds vs := h.imp fun a b r => AtD.same s r
section
variable {σ : L2.St} {H : Hp} {n : Nat} {d : Dt} {ds es : List Dt} {te tb : TE} {ta : TA}
theorem EvD.mono {H' : Hp} (s : Same H H') (h : EvD te σ H n d) : EvD te σ H' n d := fun H1 s1 Q q => h H1 (s.trans s1) Q q
theorem EvDs.mono {H' : Hp} (s : Same H H') (h : EvDs ta σ H n ds) : EvDs ta σ H' n ds := fun H1 s1 Q q => h H1 (s.trans s1) Q q
theorem atD_v {v : V} (h : Pln v) : AtD H n (.v v) v := by cases n <;> exact ⟨rfl, h⟩
theorem atD_pl {v w : V} (h : AtD H n (.v v) w) : w = v ∧ Pln v := by cases n <;> exact h
theorem evd_c {v : V} (h : Pln v) : EvD (tC v) σ H n (.v v) := fun H1 s1 Q q => q v H1 (Same.refl _) (atD_v h)
theorem evd_var {i : Nat} {v : V} (h : σ[i]? = some (some v)) (a : AtD H n d v) : EvD (tVar i) σ H n d := fun H1 s1 Q q => ⟨v, h, q v H1 (Same.refl _) (a.same s1)⟩
theorem evds_nil : EvDs tNil σ H n [] := fun H1 s1 Q q => q [] H1 (Same.refl _) .nil
theorem evds_cons (h : EvD te σ H n d) (k : EvDs ta σ H n ds) : EvDs (tCons te ta) σ H n (d :: ds) := fun H1 s1 Q q => h H1 s1 _ fun v H2 s2 a => k H2 (s1.trans s2) _ fun vs H3 s3 b => q (v :: vs) H3 (s2.trans s3) (.cons (a.same s3) b)
theorem evd_tup (h : EvDs ta σ H n ds) (hl : ds.length ≤ 100000) : EvD (tTup ta) σ H (n + 1) (.tup ds) := fun H1 s1 Q q => h H1 s1 _ fun vs H2 s2 a => by
  refine ⟨by rw [← a.len]; exact Evl.sz_of hl, fun p hp => ?_⟩
  have s3 := same_new hp (.tup vs)
  exact q _ _ (s2.trans s3) ⟨p, vs, rfl, .inl upd_same, hl, a.same s3⟩
theorem evd_lst (h : EvDs ta σ H n ds) (hl : ds.length ≤ 100000) : EvD (tLst ta) σ H (n + 1) (.lst ds) := fun H1 s1 Q q => h H1 s1 _ fun vs H2 s2 a => by
  refine ⟨by rw [← a.len]; exact Evl.sz_of hl, fun p hp => ?_⟩
  have s3 := same_new hp (.lst vs)
  exact q _ _ (s2.trans s3) ⟨p, vs, rfl, upd_same, hl, a.same s3⟩
theorem evd_cat (h : EvD te σ H (n + 1) (.lst ds)) (k : EvD tb σ H (n + 1) (.lst es)) (hl : ds.length + es.length ≤ 100000) : EvD (tOp rCat te tb) σ H (n + 1) (.lst (ds ++ es)) := fun H1 s1 Q q => h H1 s1 _ fun v H2 s2 a => k H2 (s1.trans s2) _ fun w H3 s3 b => by
  obtain ⟨p, us, rfl, hp, _, h1⟩ := a
  obtain ⟨r, ws, rfl, hr, _, h2⟩ := b
  have l1 := h1.len
  have l2 := h2.len
  refine ⟨p, r, us, ws, rfl, rfl, s3 _ _ hp, hr, Evl.sz_of (by omega), fun t ht => ?_⟩
  have s4 := same_new ht (.lst (us ++ ws))
  exact q _ _ (s2.trans (s3.trans s4)) ⟨t, us ++ ws, rfl, upd_same, by rw [List.length_append]; exact hl, ((h1.same s3).app h2).same s4⟩
theorem evd_len {K : PySem.W.Frag} (h : EvD te σ H (n + 1) (.lst ds)) : EvD (tCB (Evl.rLenS K) (tCons te tNil)) σ H n (.v (.int (ds.length : Nat))) := fun H1 s1 Q q => h H1 s1 _ fun v H2 s2 a => by
  obtain ⟨p, us, rfl, hp, _, h1⟩ := a
  refine ⟨p, us, rfl, .inl (SqL.of hp), ?_⟩
  rw [← h1.len]
  exact q _ H2 s2 (atD_v (.int _))
theorem evd_i0 {g : Int → Int → V} {i j : Int} (h : EvD te σ H n (.v (.int i))) (k : EvD tb σ H n (.v (.int j))) (hp : Pln (g i j)) : EvD (tOp (rI0 g) te tb) σ H n (.v (g i j)) := fun H1 s1 Q q => h H1 s1 _ fun v H2 s2 a => k H2 (s1.trans s2) _ fun w H3 s3 b => by
  obtain ⟨rfl, _⟩ := atD_pl a
  obtain ⟨rfl, _⟩ := atD_pl b
  exact ⟨i, j, rfl, rfl, q _ H3 (s2.trans s3) (atD_v hp)⟩
theorem evd_neg {i : Int} (h : EvD te σ H n (.v (.int i))) : EvD (tUn (rU fun i => .int (-i)) te) σ H n (.v (.int (-i))) := fun H1 s1 Q q => h H1 s1 _ fun v H2 s2 a => by
  obtain ⟨rfl, _⟩ := atD_pl a
  exact ⟨i, rfl, q _ H2 s2 (atD_v (.int _))⟩
/-! statements -/
variable {D : Ends} {tz : TS}
theorem sd_ret (h : EvD te σ H n d) (k : ∀ v H1, Same H H1 → AtD H1 n d v → D.rt v H1) : tRet te D σ H := h H (Same.refl _) _ fun v H1 s a => k v H1 s a
theorem qn_asg {bk ct : L2.St → Hp → Prop} {rt : VK} {i : Nat} (h : EvD te σ H n d) (k : ∀ v H1, Same H H1 → AtD H1 n d v → tz D (σ.set i (some v)) H1) : (Ends.mk (tSeq (tAsg te (gName i)) tz D) rt bk ct).nx σ H := h H (Same.refl _) _ fun v H1 s a => k v H1 s a
theorem qd_asg {i : Nat} (h : EvD te σ H n d) (k : ∀ v H1, Same H H1 → AtD H1 n d v → tz D (σ.set i (some v)) H1) : tSeq (tAsg te (gName i)) tz D σ H := h H (Same.refl _) _ fun v H1 s a => k v H1 s a
end
/-! trees as data -/
abbrev dK (s : String) : Dt := .v (S_ s)
abbrev dT (z : List Nat) : Dt := .v (.str (mk z))
mutual
def deE : Ex → Dt
  | .num n => .tup [dK "number", .v (.int n)]
  | .txt s => .tup [dK "text", dT s]
  | .tru b => .tup [dK "truth", .v (.bl b)]
  | .non => .tup [dK "none"]
  | .slf => .tup [dK "self"]
  | .nam w => .tup [dK "name", dT w]
  | .fld w => .tup [dK "field", dT w]
  | .new w => .tup [dK "new", dT w]
  | .send r m es => .tup [dK "send", deE r, dT m, .tup (deEs es)]
  | .up m es => .tup [dK "up", dT m, .tup (deEs es)]
  | .lst es => .tup [dK "list", .tup (deEs es)]
  | .blk ps ss => .tup [dK "block", .tup (ps.map dT), .tup (deSs ss)]
def deEs : Exs → List Dt
  | .nil => []
  | .cons e r => deE e :: deEs r
def deS : St_ → Dt
  | .set w e => .tup [dK "set", dT w, deE e]
  | .sfl w e => .tup [dK "setfield", dT w, deE e]
  | .pl k e => .tup [dT k, deE e]
  | .iff e a b => .tup [dK "if", deE e, .tup (deSs a), .tup (deSs b)]
  | .whl e a => .tup [dK "while", deE e, .tup (deSs a)]
  | .tri a w b => .tup [dK "try", .tup (deSs a), dT w, .tup (deSs b)]
def deSs : Sts → List Dt
  | .nil => []
  | .cons e r => deS e :: deSs r
end
/-! no blocks in it -/
mutual
def nbE : Ex → Prop
  | .send r _ es => nbE r ∧ nbEs es
  | .up _ es => nbEs es
  | .lst es => nbEs es
  | .blk _ _ => False
  | _ => True
def nbEs : Exs → Prop
  | .nil => True
  | .cons e r => nbE e ∧ nbEs r
def nbS : St_ → Prop
  | .set _ e => nbE e
  | .sfl _ e => nbE e
  | .pl _ e => nbE e
  | .iff e a b => nbE e ∧ nbSs a ∧ nbSs b
  | .whl e a => nbE e ∧ nbSs a
  | .tri a _ b => nbSs a ∧ nbSs b
def nbSs : Sts → Prop
  | .nil => True
  | .cons e r => nbS e ∧ nbSs r
end
theorem atd_tup {H : Hp} {n : Nat} {ds : List Dt} {v : V} (h : AtD H n (.tup ds) v) : ∃ m p us, n = m + 1 ∧ v = .ref p ∧ TupA H p us ∧ All2 (AtD H m) ds us := by
  cases n with
  | zero => exact h.elim
  | succ m => obtain ⟨p, us, e, h1, _, h2⟩ := h; exact ⟨m, p, us, rfl, e, h1, h2⟩
theorem all2_1 {α β : Type} {R : α → β → Prop} {a : α} {bs : List β} (h : All2 R [a] bs) : ∃ b, bs = [b] ∧ R a b := by
  cases h with
  | cons r k => cases k; exact ⟨_, rfl, r⟩
theorem all2_c {α β : Type} {R : α → β → Prop} {a : α} {as : List α} {bs : List β} (h : All2 R (a :: as) bs) : ∃ b cs, bs = b :: cs ∧ R a b ∧ All2 R as cs := by
  cases h with
  | cons r k => exact ⟨_, _, rfl, r, k⟩
theorem all2_n {α β : Type} {R : α → β → Prop} {bs : List β} (h : All2 R ([] : List α) bs) : bs = [] := by cases h; rfl
end My
set_option Elab.async false
set_option linter.all false
set_option maxRecDepth 100000
set_option maxHeartbeats 4000000
namespace L2
open PySem PySem.Spec PyProof.Rows
theorem call_str_bl {X : Cx} : CallR X (.type "str") (fun xs H Q => ∃ b : Bool, xs = [.bl b] ∧ Q (.str (if b = true then Str.ofString "True" else Str.ofString "False")) H) := by
  intro pins s σ H xs us Q I r h
  obtain ⟨b, rfl, q⟩ := h
  obtain ⟨u, rfl, rx⟩ := vals1 r
  cases rx
  exact P.str_of_bool ⟨.str (if b = true then Str.ofString "True" else Str.ofString "False"), H, I.tok _, ⟨_, rfl⟩, q⟩
end L2
namespace My
open PySem L2 SS
theorem All2.getA {α β : Type} {R : α → β → Prop} {as : List α} {bs : List β} (h : All2 R as bs) {i : Nat} {a : α} (ha : as[i]? = some a) : ∃ b, bs[i]? = some b ∧ R a b := by
  induction h generalizing i with
  | nil => simp at ha
  | cons r _ ih =>
    cases i with
    | zero => simp at ha; subst ha; exact ⟨_, rfl, r⟩
    | succ i => obtain ⟨b, h1, h2⟩ := ih (i := i) (by simpa using ha); exact ⟨b, by simpa using h1, h2⟩
theorem All2.atI {α β : Type} {R : α → β → Prop} {as : List α} {bs : List β} (h : All2 R as bs) {i : Int} {a : α} (ha : L2.atI as i = some a) : ∃ b, L2.atI bs i = some b ∧ R a b := by
  unfold L2.atI at ha ⊢
  rw [h.len] at ha
  cases hx : ixN bs.length i with
  | none => rw [hx] at ha; cases ha
  | some j => rw [hx] at ha; exact h.getA ha
/-- a part of a list -/
def cutD {α : Type} (xs : List α) (lo hi : Option Int) : List α := List.take (HT.sIx xs.length xs.length hi - HT.sIx xs.length 0 lo) (List.drop (HT.sIx xs.length 0 lo) xs)
theorem cutD_V (xs : List V) (lo hi : Option Int) : cutV xs lo hi = cutD xs lo hi := rfl
theorem cutD_len {α : Type} (xs : List α) (lo hi : Option Int) : (cutD xs lo hi).length ≤ xs.length := by
  unfold cutD
  rw [List.length_take, List.length_drop]
  omega
theorem cutD_pre {α : Type} {xs : List α} {k : Nat} (h : k ≤ xs.length) : cutD xs none (some (k : Nat)) = xs.take k := by
  unfold cutD HT.sIx
  simp only
  rw [if_neg (by omega), List.drop_zero, Nat.sub_zero, Int.toNat_natCast, Nat.min_eq_left h]
theorem cutD_suf {α : Type} {xs : List α} {k : Nat} (h : k ≤ xs.length) : cutD xs (some (k : Nat)) none = xs.drop k := by
  unfold cutD HT.sIx
  simp only
  rw [if_neg (by omega), Int.toNat_natCast, Nat.min_eq_left h]
  exact List.take_of_length_le (by rw [List.length_drop]; omega)
theorem All2.cut {α β : Type} {R : α → β → Prop} {as : List α} {bs : List β} (h : All2 R as bs) (lo hi : Option Int) : All2 R (cutD as lo hi) (cutD bs lo hi) := by
  unfold cutD
  rw [h.len]
  exact (h.drop _).take _
theorem cutD_map {α β : Type} (f : α → β) (xs : List α) (lo hi : Option Int) : (cutD xs lo hi).map f = cutD (xs.map f) lo hi := by
  unfold cutD
  rw [List.length_map, List.map_take, List.map_drop]
def EvO (to : TO) (σ : L2.St) (H : Hp) (o : Option Int) : Prop := ∀ H1, Same H H1 → ∀ Q : Option Int → Hp → Prop, (∀ H2, Same H1 H2 → Q o H2) → to σ H1 Q
section
variable {σ : L2.St} {H : Hp} {n : Nat} {d : Dt} {ds es : List Dt} {te tb : TE} {ta : TA} {K : PySem.W.Frag}
theorem evo_none : EvO tNoPart σ H none := fun H1 s1 Q q => q H1 (Same.refl _)
theorem evo_some {i : Int} (h : EvD te σ H 0 (.v (.int i))) : EvO (tPart te) σ H (some i) := fun H1 s1 Q q => h H1 s1 _ fun v H2 s2 a => by
  obtain ⟨rfl, _⟩ := atD_pl a
  exact ⟨i, rfl, q H2 s2⟩
theorem evd_pure {y : V} (h : ∀ H1, Same H H1 → ∀ Q : VK, Q y H1 → te σ H1 Q) (hp : Pln y) : EvD te σ H n (.v y) := fun H1 s1 Q q => h H1 s1 Q (q y H1 (Same.refl _) (atD_v hp))
theorem evd_cb1 {r : List V → Hp → VK → Prop} {x y : V} (h : EvD te σ H n (.v x)) (hr : ∀ H (Q : VK), Q y H → r [x] H Q) (hp : Pln y) : EvD (tCB r (tCons te tNil)) σ H n (.v y) := fun H1 s1 Q q => h H1 s1 _ fun v H2 s2 a => by
  obtain ⟨rfl, _⟩ := atD_pl a
  exact hr H2 Q (q y H2 s2 (atD_v hp))
theorem evd_op {r : R2} {x y z : V} (h : EvD te σ H n (.v x)) (k : EvD tb σ H n (.v y)) (hr : ∀ H (Q : VK), Q z H → r x y H Q) (hp : Pln z) : EvD (tOp r te tb) σ H n (.v z) := fun H1 s1 Q q => h H1 s1 _ fun v H2 s2 a => k H2 (s1.trans s2) _ fun w H3 s3 b => by
  obtain ⟨rfl, _⟩ := atD_pl a
  obtain ⟨rfl, _⟩ := atD_pl b
  exact hr H3 Q (q z H3 (s2.trans s3) (atD_v hp))
theorem evd_ixL {i : Int} (h : EvD te σ H (n + 1) (.lst ds)) (k : EvD tb σ H n (.v (.int i))) (hd : L2.atI ds i = some d) : EvD (tOp (rIxL K) te tb) σ H n d := fun H1 s1 Q q => h H1 s1 _ fun v H2 s2 a => k H2 (s1.trans s2) _ fun w H3 s3 b => by
  obtain ⟨p, us, rfl, hp, _, h1⟩ := a
  obtain ⟨rfl, _⟩ := atD_pl b
  obtain ⟨x, hx, ax⟩ := h1.atI hd
  exact ⟨p, us, i, x, rfl, rfl, SqL.of (s3 _ _ hp), hx, q x H3 (s2.trans s3) (ax.same s3)⟩
theorem evd_ixT {i : Int} (h : EvD te σ H (n + 1) (.tup ds)) (k : EvD tb σ H n (.v (.int i))) (hd : L2.atI ds i = some d) : EvD (tOp (rIxT K) te tb) σ H n d := fun H1 s1 Q q => h H1 s1 _ fun v H2 s2 a => k H2 (s1.trans s2) _ fun w H3 s3 b => by
  obtain ⟨p, us, rfl, hp, _, h1⟩ := a
  obtain ⟨rfl, _⟩ := atD_pl b
  obtain ⟨x, hx, ax⟩ := h1.atI hd
  exact ⟨p, us, i, x, rfl, rfl, TupA.sq (TupA.same s3 hp), hx, q x H3 (s2.trans s3) (ax.same s3)⟩
theorem evd_slL {tl th : TO} {lo hi : Option Int} (h : EvD te σ H (n + 1) (.lst ds)) (hl : EvO tl σ H lo) (hh : EvO th σ H hi) : EvD (tSl (rSlL K) te tl th) σ H (n + 1) (.lst (cutD ds lo hi)) := fun H1 s1 Q q => h H1 s1 _ fun v H2 s2 a => hl H2 (s1.trans s2) _ fun H3 s3 => hh H3 (s1.trans (s2.trans s3)) _ fun H4 s4 => by
  obtain ⟨p, us, rfl, hp, l0, h1⟩ := a
  have s24 := s3.trans s4
  refine ⟨p, us, rfl, SqL.of (s24 _ _ hp), fun r hr => ?_⟩
  have s5 := same_new hr (.lst (cutV us lo hi))
  exact q _ _ (s2.trans (s24.trans s5)) ⟨r, _, rfl, upd_same, by have := cutD_len ds lo hi; omega, ((h1.same (s24.trans s5)).cut lo hi)⟩
theorem evd_slT {tl th : TO} {lo hi : Option Int} (h : EvD te σ H (n + 1) (.tup ds)) (hl : EvO tl σ H lo) (hh : EvO th σ H hi) (hne : ¬(HT.sIx ds.length 0 lo = 0 ∧ HT.sIx ds.length ds.length hi = ds.length)) : EvD (tSl (rSlT K) te tl th) σ H (n + 1) (.tup (cutD ds lo hi)) := fun H1 s1 Q q => h H1 s1 _ fun v H2 s2 a => hl H2 (s1.trans s2) _ fun H3 s3 => hh H3 (s1.trans (s2.trans s3)) _ fun H4 s4 => by
  obtain ⟨p, us, rfl, hp, l0, h1⟩ := a
  have s24 := s3.trans s4
  have hlen := h1.len
  refine ⟨p, us, rfl, TupA.sq (TupA.same s24 hp), by rw [← hlen]; exact hne, fun r hr => ?_⟩
  have s5 := same_new hr (.tup (cutV us lo hi))
  exact q _ _ (s2.trans (s24.trans s5)) ⟨r, _, rfl, .inl upd_same, by have := cutD_len ds lo hi; omega, ((h1.same (s24.trans s5)).cut lo hi)⟩
theorem evd_tupof (h : EvD te σ H (n + 1) (.lst ds)) : EvD (tCB (fun xs H Q => ∃ p ys, xs = [V.ref p] ∧ ((SqL K H p ys ∧ ∀ (l : Addr), H l = none → Q (V.ref l) (upd H l (HO.tup ys))) ∨ SqT K H p ys ∧ Q (V.ref p) H)) (tCons te tNil)) σ H (n + 1) (.tup ds) := fun H1 s1 Q q => h H1 s1 _ fun v H2 s2 a => by
  obtain ⟨p, us, rfl, hp, l0, h1⟩ := a
  refine ⟨p, us, rfl, .inl ⟨SqL.of hp, fun r hr => ?_⟩⟩
  have s3 := same_new hr (.tup us)
  exact q _ _ (s2.trans s3) ⟨r, us, rfl, .inl upd_same, l0, h1.same s3⟩
theorem evd_lstofT (h : EvD te σ H (n + 1) (.tup ds)) : EvD (tCB (fun xs H Q => ∃ p ys, xs = [V.ref p] ∧ (SqL K H p ys ∨ SqT K H p ys) ∧ ∀ (l : Addr), H l = none → Q (V.ref l) (upd H l (HO.lst ys))) (tCons te tNil)) σ H (n + 1) (.lst ds) := fun H1 s1 Q q => h H1 s1 _ fun v H2 s2 a => by
  obtain ⟨p, us, rfl, hp, l0, h1⟩ := a
  refine ⟨p, us, rfl, .inr (TupA.sq hp), fun r hr => ?_⟩
  have s3 := same_new hr (.lst us)
  exact q _ _ (s2.trans s3) ⟨r, us, rfl, upd_same, l0, h1.same s3⟩
theorem evd_lstofL (h : EvD te σ H (n + 1) (.lst ds)) : EvD (tCB (fun xs H Q => ∃ p ys, xs = [V.ref p] ∧ (SqL K H p ys ∨ SqT K H p ys) ∧ ∀ (l : Addr), H l = none → Q (V.ref l) (upd H l (HO.lst ys))) (tCons te tNil)) σ H (n + 1) (.lst ds) := fun H1 s1 Q q => h H1 s1 _ fun v H2 s2 a => by
  obtain ⟨p, us, rfl, hp, l0, h1⟩ := a
  refine ⟨p, us, rfl, .inl (SqL.of hp), fun r hr => ?_⟩
  have s3 := same_new hr (.lst us)
  exact q _ _ (s2.trans s3) ⟨r, us, rfl, upd_same, l0, h1.same s3⟩
theorem evd_catT (h : EvD te σ H (n + 1) (.tup ds)) (k : EvD tb σ H (n + 1) (.tup es)) (hl : ds.length + es.length ≤ 100000) : EvD (tOp (rCatA K) te tb) σ H (n + 1) (.tup (ds ++ es)) := fun H1 s1 Q q => h H1 s1 _ fun v H2 s2 a => k H2 (s1.trans s2) _ fun w H3 s3 b => by
  obtain ⟨p, us, rfl, hp, l1, h1⟩ := a
  obtain ⟨r, ws, rfl, hr, l2, h2⟩ := b
  have e1 := h1.len
  have e2 := h2.len
  refine ⟨p, r, us, ws, rfl, rfl, TupA.sq (TupA.same s3 hp), TupA.sq hr, Evl.sz_of (by omega), fun z => ?_, fun z z2 => ?_, fun z z2 t ht => ?_⟩
  · subst z
    have : ds = [] := List.eq_nil_of_length_eq_zero e1
    subst this
    exact q _ _ (s2.trans s3) ⟨r, ws, rfl, hr, l2, h2⟩
  · subst z2
    have : es = [] := List.eq_nil_of_length_eq_zero e2
    subst this
    rw [List.append_nil] at q
    exact q _ _ (s2.trans s3) ⟨p, us, rfl, TupA.same s3 hp, l1, h1.same s3⟩
  · have s4 := same_new ht (.tup (us ++ ws))
    exact q _ _ (s2.trans (s3.trans s4)) ⟨t, us ++ ws, rfl, .inl upd_same, by rw [List.length_append]; exact hl, ((h1.same s3).app h2).same s4⟩
theorem ad_asg {D : Ends} {i : Nat} (h : EvD te σ H n d) (k : ∀ v H1, Same H H1 → AtD H1 n d v → D.nx (σ.set i (some v)) H1) : tAsg te (gName i) D σ H := h H (Same.refl _) _ fun v H1 s a => k v H1 s a
theorem qn_ret {D : Ends} {bk ct : L2.St → Hp → Prop} {rt : VK} (h : EvD te σ H n d) (k : ∀ v H1, Same H H1 → AtD H1 n d v → D.rt v H1) : (Ends.mk (tRet te D) rt bk ct).nx σ H := h H (Same.refl _) _ fun v H1 s a => k v H1 s a
theorem evd_dnew : EvD tDNewK σ H n .dic := fun H1 s1 Q q => fun p hp => q _ _ (same_new hp _) (by cases n <;> exact ⟨p, _, rfl, upd_same⟩)
theorem evd_cast {e : Dt} (h : EvD te σ H n d) (he : d = e) : EvD te σ H n e := he ▸ h
end
end My
set_option Elab.async false
set_option linter.all false
set_option maxRecDepth 100000
set_option maxHeartbeats 4000000
namespace My
open PySem L2 SS
/-! ### truths, tests, calls and comprehensions, in one step each -/
/-- data without lists and dicts -/
inductive NlD : Dt → Prop
  | v {x : V} : NlD (.v x)
  | tup {ds : List Dt} (h : ∀ d ∈ ds, NlD d) : NlD (.tup ds)
theorem All2.impM {α β : Type} {R S : α → β → Prop} {as : List α} {bs : List β} (h : All2 R as bs) (k : ∀ a ∈ as, ∀ b, R a b → S a b) : All2 S as bs := by
  induction h with
  | nil => exact .nil
  | cons r _ ih => exact .cons (k _ List.mem_cons_self _ r) (ih fun a ha => k a (List.mem_cons_of_mem _ ha))
theorem TupA.tups {H H' : Hp} {p : Addr} {us : List V} (t : Tups H H') (h : TupA H p us) : TupA H' p us := h.elim (fun h => .inl (t.tup _ _ h)) fun ⟨o, h⟩ => .inr ⟨o, t.frz _ _ _ h⟩
theorem AtD.tups {H H' : Hp} (t : Tups H H') : ∀ {n : Nat} {d : Dt} {x : V}, AtD H n d x → NlD d → AtD H' n d x
  | 0, .v y, x, h, _ => h
  | n + 1, .v y, x, h, _ => h
  | 0, .tup _, _, h, _ => h.elim
  | n + 1, .tup ds, x, ⟨p, us, e, h1, h2, h3⟩, k => ⟨p, us, e, TupA.tups t h1, h2, h3.impM fun a ha b r => AtD.tups t r (by cases k with | tup k => exact k a ha)⟩
  | _, .lst _, _, _, k => nomatch k
  | _, .dic, _, _, k => nomatch k
theorem all2_bl {H : Hp} {n : Nat} {g : Dt → Bool} : ∀ {ds : List Dt} {us : List V}, All2 (AtD H n) (ds.map fun d => .v (.bl (g d))) us → us = (ds.map g).map V.bl
  | [], us, h => all2_n h
  | d :: r, us, h => by
    obtain ⟨b, cs, rfl, r1, h⟩ := all2_c h
    rw [all2_bl h, (atD_pl r1).1]
    rfl
def EvT (tt : TT) (σ : L2.St) (H : Hp) (b : Bool) : Prop := ∀ H1, Same H H1 → ∀ Q : Bool → Hp → Prop, (∀ H2, Same H1 H2 → Q b H2) → tt σ H1 Q
/-- what isinstance sees of data -/
def Dt.srt : Dt → Srt
  | .v (.int _) => .num
  | .v (.bl _) => .tru
  | .v (.str _) => .txt
  | .v _ => .non
  | .tup _ => .tup
  | .lst _ => .oth
  | .dic => .oth
theorem AtD.srt {H : Hp} : ∀ {n : Nat} {d : Dt} {x : V}, AtD H n d x → ThS H x d.srt
  | n, .v y, x, h => by
    obtain ⟨e, hp⟩ : x = y ∧ Pln y := by cases n <;> exact h
    subst e
    cases hp with
    | int i => exact .num i
    | str z => exact .txt z
    | bl b => exact .tru b
    | non => exact .non
  | 0, .tup _, _, h => h.elim
  | n + 1, .tup ds, x, ⟨p, us, e, h1, _⟩ => by subst e; exact .tup h1
  | 0, .lst _, _, h => h.elim
  | n + 1, .lst ds, x, ⟨p, us, e, h1, _⟩ => by subst e; exact .lst h1
  | n, .dic, x, h => by
    obtain ⟨p, k, e, h1⟩ : ∃ p kvs, x = .ref p ∧ H p = some (.dK kvs) := by cases n <;> exact h
    subst e
    exact .dK h1
/-- data that can be handed to a def: its answer is a truth told by the data -/
def spG1 (m : Nat) (S : Dt → Prop) (g : Dt → Bool) : Sp := fun vs H Q _ => ∃ d v, vs = [v] ∧ AtD H m d v ∧ S d ∧ ∀ H', Same H H' → Q (.bl (g d)) H'
def spG2 (m : Nat) (S : Dt → V → Prop) (g : Dt → V → Bool) : Sp := fun vs H Q _ => ∃ d v u, vs = [v, u] ∧ Pln u ∧ AtD H m d v ∧ S d u ∧ ∀ H', Same H H' → Q (.bl (g d u)) H'
section
variable {σ : L2.St} {H : Hp} {n m : Nat} {d : Dt} {ds es : List Dt} {te tb tc tl : TE} {ta : TA} {tt tu : TT} {K : PySem.W.Frag} {a b c : Bool}
theorem EvD.lv (h : EvD te σ H n d) (hm : n ≤ m) : EvD te σ H m d := fun H1 s1 Q q => h H1 s1 Q fun v H2 s2 r => q v H2 s2 (r.mono hm)
theorem evd_and (h : EvD te σ H n (.v (.bl a))) (k : a = true → EvD tb σ H n (.v (.bl b))) : EvD (tAndV te tb) σ H n (.v (.bl (a && b))) := fun H1 s1 Q q => h H1 s1 _ fun v H2 s2 r => by
  obtain ⟨rfl, _⟩ := atD_pl r
  refine ⟨_, rfl, ?_⟩
  cases a with
  | true => exact iteT (k rfl H2 (s1.trans s2) Q fun w H3 s3 r => q w H3 (s2.trans s3) r)
  | false => exact iteF (q _ H2 s2 (atD_v (.bl _)))
theorem evd_or (h : EvD te σ H n (.v (.bl a))) (k : a = false → EvD tb σ H n (.v (.bl b))) : EvD (tOrV te tb) σ H n (.v (.bl (a || b))) := fun H1 s1 Q q => h H1 s1 _ fun v H2 s2 r => by
  obtain ⟨rfl, _⟩ := atD_pl r
  refine ⟨_, rfl, ?_⟩
  cases a with
  | true => exact iteT (q _ H2 s2 (atD_v (.bl _)))
  | false => exact iteF (k rfl H2 (s1.trans s2) Q fun w H3 s3 r => q w H3 (s2.trans s3) r)
theorem evd_not (h : EvD te σ H n (.v (.bl a))) : EvD (tNotV te) σ H n (.v (.bl !a)) := fun H1 s1 Q q => h H1 s1 _ fun v H2 s2 r => by
  obtain ⟨rfl, _⟩ := atD_pl r
  exact ⟨_, rfl, q _ H2 s2 (atD_v (.bl _))⟩
theorem evd_isi {T : String} (h : EvD te σ H n d) (hT : T = "bool" ∨ T = "int" ∨ T = "str" ∨ T = "tuple") : EvD (tCB (rIsi K) (tCons te (tCons (tC (.ty T)) tNil))) σ H m (.v (.bl (d.srt.isT T))) := fun H1 s1 Q q => h H1 s1 _ fun v H2 s2 r => by
  obtain ⟨t, ty, ht⟩ := r.srt.ty (K := K)
  obtain ⟨k1, k2, k3, k4⟩ := Srt.kit (K := K) ht
  rcases hT with rfl | rfl | rfl | rfl
  · exact ⟨_, _, _, _, _, rfl, .ty "bool", ty, k1, q _ H2 s2 (atD_v (.bl _))⟩
  · exact ⟨_, _, _, _, _, rfl, .ty "int", ty, k2, q _ H2 s2 (atD_v (.bl _))⟩
  · exact ⟨_, _, _, _, _, rfl, .ty "str", ty, k3, q _ H2 s2 (atD_v (.bl _))⟩
  · exact ⟨_, _, _, _, _, rfl, .ty "tuple", ty, k4, q _ H2 s2 (atD_v (.bl _))⟩
theorem evd_isN (h : EvD te σ H n d) : EvD (tOp (fun x y H Q => y = V.non ∧ Q (V.bl (decide (x = V.non))) H) te (tC .non)) σ H m (.v (.bl (decide (d.srt = .non)))) := fun H1 s1 Q q => h H1 s1 _ fun v H2 s2 r => by
  refine ⟨rfl, ?_⟩
  rw [r.srt.none]
  exact q _ H2 s2 (atD_v (.bl _))
theorem evd_lenT (h : EvD te σ H (n + 1) (.tup ds)) : EvD (tCB (Evl.rLenS K) (tCons te tNil)) σ H m (.v (.int (ds.length : Nat))) := fun H1 s1 Q q => h H1 s1 _ fun v H2 s2 r => by
  obtain ⟨p, us, rfl, hp, _, h1⟩ := r
  refine ⟨p, us, rfl, .inr (TupA.sq hp), ?_⟩
  rw [← h1.len]
  exact q _ H2 s2 (atD_v (.int _))
theorem evd_if (h : EvT tt σ H c) (k : c = true → EvD te σ H n d) (k' : c = false → EvD tb σ H n d) : EvD (tIf tt te tb) σ H n d := fun H1 s1 Q q => h H1 s1 _ fun H2 s2 => by
  cases c with
  | true => exact iteT (k rfl H2 (s1.trans s2) Q fun w H3 s3 r => q w H3 (s2.trans s3) r)
  | false => exact iteF (k' rfl H2 (s1.trans s2) Q fun w H3 s3 r => q w H3 (s2.trans s3) r)
theorem evt_b (h : EvD te σ H n (.v (.bl a))) : EvT (tB te) σ H a := fun H1 s1 Q q => h H1 s1 _ fun v H2 s2 r => by
  obtain ⟨rfl, _⟩ := atD_pl r
  exact ⟨_, rfl, q H2 s2⟩
theorem evt_t (h : EvD te σ H n (.v (.bl a))) : EvT (tTest te) σ H a := fun H1 s1 Q q => h H1 s1 _ fun v H2 s2 r => by
  obtain ⟨rfl, _⟩ := atD_pl r
  exact ⟨_, rfl, q H2 s2⟩
theorem evt_not (h : EvT tt σ H a) : EvT (tNot tt) σ H !a := fun H1 s1 Q q => h H1 s1 _ q
theorem evt_and (h : EvT tt σ H a) (k : a = true → EvT tu σ H b) : EvT (tAnd tt tu) σ H (a && b) := fun H1 s1 Q q => h H1 s1 _ fun H2 s2 => by
  cases a with
  | true => exact iteT (k rfl H2 (s1.trans s2) Q fun H3 s3 => q H3 (s2.trans s3))
  | false => exact iteF (q H2 s2)
theorem evt_or (h : EvT tt σ H a) (k : a = false → EvT tu σ H b) : EvT (tOr tt tu) σ H (a || b) := fun H1 s1 Q q => h H1 s1 _ fun H2 s2 => by
  cases a with
  | true => exact iteT (q H2 s2)
  | false => exact iteF (k rfl H2 (s1.trans s2) Q fun H3 s3 => q H3 (s2.trans s3))
theorem evd_c1 {S : Dt → Prop} {g : Dt → Bool} {E : XK} (h : EvD te σ H m d) (hs : S d) : EvD (tCall (spG1 m S g) [] E (tCons te tNil)) σ H n (.v (.bl (g d))) := fun H1 s1 Q q => h H1 s1 _ fun v H2 s2 r => ⟨d, v, rfl, r, hs, fun H3 s3 => q _ H3 (s2.trans s3) (atD_v (.bl _))⟩
theorem evd_c2 {S : Dt → V → Prop} {g : Dt → V → Bool} {E : XK} {u : V} (h : EvD te σ H m d) (k : EvD tb σ H m (.v u)) (hs : S d u) : EvD (tCall (spG2 m S g) [] E (tCons te (tCons tb tNil))) σ H n (.v (.bl (g d u))) := fun H1 s1 Q q => h H1 s1 _ fun v H2 s2 r => k H2 (s1.trans s2) _ fun w H3 s3 r' => by
  obtain ⟨rfl, hp⟩ := atD_pl r'
  exact ⟨d, v, _, rfl, hp, r.same s3, hs, fun H4 s4 => q _ H4 (s2.trans (s3.trans s4)) (atD_v (.bl _))⟩
/-- [e for x in t] -/
theorem evd_lcT {i : Nat} {ws : List Nat} {f : Dt → Dt} (h : EvD tl σ H (m + 1) (.tup ds)) (hw : ∀ x : Option V, wipe ((wipe σ ws).set i x) ws = wipe σ ws) (he : ∀ d ∈ ds, ∀ x H2, Same H H2 → AtD H2 m d x → EvD te ((wipe σ ws).set i (some x)) H2 n (f d)) (hn : ∀ d ∈ ds, NlD (f d)) : EvD (tLc (iTup K tl) (gName i) tYes te ws) σ H (n + 1) (.lst (ds.map f)) := fun H1 s1 Q q => h H1 s1 _ fun v H2 s2 r => by
  obtain ⟨p, us, rfl, hp, hl, al⟩ := r
  have lu := al.len
  refine ⟨p, rfl, ⟨us, TupA.sq hp⟩, fun D hD => ?_⟩
  refine lc_tup (xs := us) (fun i Hn => Same H2 Hn ∧ ∃ acc, Hn D = some (.lst acc) ∧ All2 (AtD Hn n) ((ds.take i).map f) acc) ⟨same_new hD _, [], upd_same, .nil⟩ (fun i Hn _ ⟨s, _⟩ => TupA.sq (TupA.same s hp)) ?_ ?_
  · rintro i x Hn hx ⟨s, acc, hacc, hal⟩
    refine ⟨hw _, ?_⟩
    unfold tYes
    simp only [if_true]
    obtain ⟨d, hd, ad⟩ := al.get hx
    refine he d (List.mem_of_getElem? hd) x Hn (s1.trans (s2.trans s)) (ad.same s) Hn (Same.refl _) _ fun y H3 s3 ay => ?_
    have hacc3 := s3 _ _ hacc
    have hlen := hal.len
    rw [List.length_map, List.length_take] at hlen
    have hi : i < us.length := by
      by_cases c : i < us.length
      · exact c
      · rw [List.getElem?_eq_none (by omega)] at hx; cases hx
    refine ⟨acc, hacc3, by rw [sizeLine_eq]; omega, same_upd (s.trans s3) hD _, acc ++ [y], upd_same, ?_⟩
    have e : (ds.take (i + 1)).map f = (ds.take i).map f ++ [f d] := by rw [List.take_add_one, hd, List.map_append]; rfl
    have tt := tups_lst (ys := acc ++ [y]) hacc3
    rw [e]
    refine All2.app ((hal.same s3).impM fun a ha b r => AtD.tups tt r ?_) (.cons (AtD.tups tt ay (hn d (List.mem_of_getElem? hd))) .nil)
    obtain ⟨d', hd', rfl⟩ := List.mem_map.mp ha
    exact hn d' (List.mem_of_mem_take hd')
  · rintro Hn ⟨s, acc, hacc, hal⟩
    have e : us.length = ds.length := lu.symm
    rw [e, List.take_length] at hal
    exact q _ Hn (s2.trans s) ⟨D, acc, rfl, hacc, by rw [List.length_map]; exact hl, hal⟩
/-- all of a list of truths -/
theorem evd_all {g : Dt → Bool} (h : EvD te σ H (n + 1) (.lst (ds.map fun d => .v (.bl (g d))))) : EvD (tCB (rAll K) (tCons te tNil)) σ H m (.v (.bl (ds.all g))) := fun H1 s1 Q q => h H1 s1 _ fun v H2 s2 r => by
  obtain ⟨p, us, rfl, hp, _, al⟩ := r
  have e := all2_bl al
  refine ⟨p, ds.map g, rfl, SqL.of (by rw [hp, e]), ?_⟩
  have : (ds.map g).all id = ds.all g := by rw [List.all_map]; rfl
  rw [this]
  exact q _ H2 s2 (atD_v (.bl _))
/-- all([t for x in tuple]) -/
theorem evd_allT {i : Nat} {ws : List Nat} {g : Dt → Bool} (h : EvD tl σ H (m + 1) (.tup ds)) (hw : ∀ x : Option V, wipe ((wipe σ ws).set i x) ws = wipe σ ws) (he : ∀ d ∈ ds, ∀ x H2, Same H H2 → AtD H2 m d x → EvD te ((wipe σ ws).set i (some x)) H2 0 (.v (.bl (g d)))) : EvD (tCB (rAll K) (tCons (tLc (iTup K tl) (gName i) tYes te ws) tNil)) σ H n (.v (.bl (ds.all g))) := evd_all (evd_lcT h hw he fun _ _ => .v)
theorem evd_eqI {i j : Int} (h : EvD te σ H n (.v (.int i))) (k : EvD tb σ H n (.v (.int j))) : EvD (tOp rEq te tb) σ H n (.v (.bl (decide (V.int i = V.int j)))) := evd_op h k (fun H Q q => ⟨rfl, q⟩) (.bl _)
theorem evd_eqS {x y : Str} (h : EvD te σ H n (.v (.str x))) (k : EvD tb σ H n (.v (.str y))) : EvD (tOp rEq te tb) σ H n (.v (.bl (decide (V.str x = V.str y)))) := evd_op h k (fun H Q q => ⟨rfl, q⟩) (.bl _)
theorem evd_chainI {f g : Int → Int → Bool} {i j k : Int} (h1 : EvD te σ H n (.v (.int i))) (h2 : EvD tb σ H n (.v (.int j))) (h3 : EvD tc σ H n (.v (.int k))) : EvD (tChain (rI0 fun i j => .bl (f i j)) (rI0 fun i j => .bl (g i j)) te tb tc) σ H n (.v (.bl (f i j && g j k))) := fun H1 s1 Q q => h1 H1 s1 _ fun v H2 s2 r => h2 H2 (s1.trans s2) _ fun w H3 s3 r' => by
  obtain ⟨rfl, _⟩ := atD_pl r
  obtain ⟨rfl, _⟩ := atD_pl r'
  refine ⟨_, _, rfl, rfl, _, rfl, ?_⟩
  have s23 := s2.trans s3
  cases hf : f i j with
  | true =>
    refine iteT (h3 H3 (s1.trans s23) _ fun u H4 s4 r'' => ?_)
    obtain ⟨rfl, _⟩ := atD_pl r''
    exact ⟨_, _, rfl, rfl, by have := q (.bl (f i j && g j k)) H4 (s23.trans s4) (atD_v (.bl _)); rw [hf, Bool.true_and] at this; exact this⟩
  | false => exact iteF (by have := q (.bl (f i j && g j k)) H3 s23 (atD_v (.bl _)); rw [hf, Bool.false_and] at this; exact this)
/-- what a def of tests and answers tells -/
def EvS (ts : TS) (σ : L2.St) (H : Hp) (b : Bool) : Prop := ∀ H1, Same H H1 → ∀ D : Ends, (∀ H2, Same H1 H2 → D.rt (.bl b) H2) → ts D σ H1
variable {ts tz : TS}
theorem evs_ret (h : EvD te σ H 0 (.v (.bl b))) : EvS (L2.tRet te) σ H b := fun H1 s1 D q => h H1 s1 _ fun v H2 s2 r => by
  obtain ⟨rfl, _⟩ := atD_pl r
  exact q H2 s2
theorem evs_if (h : EvT tt σ H c) (k : c = true → EvS ts σ H a) (k' : c = false → EvS tz σ H b) : EvS (tSeq (tIfS tt ts tNext) tz) σ H (if c then a else b) := fun H1 s1 D q => h H1 s1 _ fun H2 s2 => by
  cases c with
  | true => exact iteT (k rfl H2 (s1.trans s2) _ fun H3 s3 => q H3 (s2.trans s3))
  | false => exact iteF (k' rfl H2 (s1.trans s2) _ fun H3 s3 => q H3 (s2.trans s3))
theorem EvS.go {D : Ends} (h : EvS ts σ H b) (k : ∀ H1, Same H H1 → D.rt (.bl b) H1) : ts D σ H := h H (Same.refl _) D k
theorem EvS.as (h : EvS ts σ H a) (e : a = b) : EvS ts σ H b := e ▸ h
theorem evd_as (h : EvD te σ H n (.v (.bl a))) (e : a = b) : EvD te σ H n (.v (.bl b)) := e ▸ h
end
end My
set_option Elab.async false
set_option linter.all false
set_option maxRecDepth 100000
set_option maxHeartbeats 4000000
namespace My
open PySem L2 SS
theorem takeWhile_len {p : Nat → Bool} : ∀ {l : List Nat}, l.length ≤ (l.takeWhile p).length → l.all p = true
  | [], _ => rfl
  | a :: l, h => by
    rw [List.takeWhile_cons] at h
    by_cases c : p a = true
    · rw [if_pos c] at h
      rw [List.all_cons, c, Bool.true_and]
      exact takeWhile_len (by simpa using h)
    · rw [if_neg c] at h
      simp at h
theorem takeWhile_of : ∀ {p : Nat → Bool} {l : List Nat}, l.all p = true → l.takeWhile p = l
  | p, [], _ => rfl
  | p, a :: l, h => by
    rw [List.all_cons, Bool.and_eq_true] at h
    rw [List.takeWhile_cons, if_pos h.1, takeWhile_of h.2]
theorem all_takeWhile {p : Nat → Bool} : ∀ (l : List Nat), (l.takeWhile p).all p = true
  | [] => rfl
  | a :: l => by
    rw [List.takeWhile_cons]
    by_cases c : p a = true
    · rw [if_pos c, List.all_cons, c, all_takeWhile l]; rfl
    · rw [if_neg c]; rfl
theorem strip_nil (g : Nat → Bool) (z : Str) : decide (V.str (Txt.stripBy g true true z) = V.str (Str.ofString "")) = (tl z).all g := by
  have ht : (Str.ofString "") = mk [] := by decide +kernel
  rw [dec_str, ht]
  have hl := len_tl z
  have hlo : PySem.stripLo g true z = ((tl z).takeWhile g).length := rfl
  have hhi : ∀ lo, PySem.stripHi g true z lo = z.length - (((tl z).drop lo).reverse.takeWhile g).length := fun _ => rfl
  by_cases c : (tl z).all g = true
  · rw [c]
    refine decide_eq_true ?_
    have e0 := takeWhile_of c
    have lo : PySem.stripLo g true z = z.length := by rw [hlo, e0, hl]
    have hi : PySem.stripHi g true z z.length = z.length := by
      rw [hhi, ← hl, List.drop_length]; rfl
    unfold Txt.stripBy
    split
    · rename_i q
      unfold PySem.stripSame at q
      rw [lo] at q
      have q1 : z.length = 0 := by
        have := (Bool.and_eq_true _ _ ▸ q).1
        simpa using this
      have : tl z = [] := List.eq_nil_of_length_eq_zero (by rw [hl]; exact q1)
      rw [← mk_tl z, this]
    · unfold PySem.stripped Builtin.Str.strSub
      rw [lo, hi]
      simp
      exact Nat.min_le_left _ _
  · have cf : (tl z).all g = false := by simpa using c
    rw [cf]
    refine decide_eq_false fun h => ?_
    apply c
    unfold Txt.stripBy at h
    split at h
    · rw [h]; rfl
    · have h2 := congrArg (fun s => s.cps.size) h
      unfold PySem.stripped Builtin.Str.strSub at h2
      rw [hlo, hhi] at h2
      have ha : ((tl z).takeWhile g).length ≤ (tl z).length := (List.takeWhile_sublist g).length_le
      have hr : (((tl z).drop ((tl z).takeWhile g).length).reverse.takeWhile g).length ≤ ((tl z).drop ((tl z).takeWhile g).length).length := by
        have := (List.takeWhile_sublist (l := ((tl z).drop ((tl z).takeWhile g).length).reverse) g).length_le
        rwa [List.length_reverse] at this
      have hz : z.cps.size = z.length := rfl
      have h3 : min (z.length - (((tl z).drop ((tl z).takeWhile g).length).reverse.takeWhile g).length) z.length - ((tl z).takeWhile g).length = 0 := by
        rw [Array.size_extract, hz] at h2
        exact h2
      rw [List.length_drop] at hr
      have hd : (tl z).drop ((tl z).takeWhile g).length |>.all g := by
        have hh : (((tl z).drop ((tl z).takeWhile g).length).reverse).all g = true := takeWhile_len (by rw [List.length_reverse, List.length_drop]; omega)
        rwa [List.all_reverse] at hh
      have ht2 := List.takeWhile_append_dropWhile (p := g) (l := tl z)
      have hdw : (tl z).drop ((tl z).takeWhile g).length = (tl z).dropWhile g := by
        conv => lhs; arg 2; rw [← ht2]
        rw [List.drop_left]
      rw [← ht2, List.all_append, all_takeWhile, ← hdw, hd]
      rfl
theorem has_strip (z s : Str) : decide (V.str (Txt.stripChars z s) = V.str (Str.ofString "")) = hasOnly (tl z) (tl s) := by
  unfold Txt.stripChars
  rw [strip_nil]
  unfold hasOnly
  congr 1
  funext c
  rw [Bool.eq_iff_iff, decide_eq_true_eq]
  simp [tl]
def spHas : Sp := fun vs H Q _ => ∃ z s : Str, vs = [.str z, .str s] ∧ z.length ≤ 100000 ∧ ∀ H', Same H H' → Q (.bl (hasOnly (tl z) (tl s))) H'
section
variable {P : Program} {w : World} {K : PySem.W.Frag} {mg : Str → Option Value} {base : Heap}
theorem sc_has_only : FnScope ["word", "signs"] ["word", "signs"] (defScope s_has_only) := ⟨rfl, rfl, rfl, by decide +kernel, rfl, by decide +kernel, by decide +kernel⟩
theorem ct_has_only  (D : Dn K mg "has_only" s_has_only) : C0 P w K mg base 1 "has_only" spHas := by
  obtain ⟨f, fd, F, hmm⟩ := D.ex
  refine ⟨f, fd, ["word", "signs"], F.ok sc_has_only (fun vs H Q E h => ?_) (fun cdv A outer s H vs Q E hr h => ?_), hmm, F.kp, F.binds (ps := ["word", "signs"]) fun _ _ _ _ _ _ us hl => match us, hl with | [_, _], _ => rfl⟩
  · obtain ⟨z, s, rfl, _⟩ := h
    rfl
  obtain ⟨z, sg, rfl, hz, k⟩ := h
  refine ⟨_, pss_one (ps_ret (pe_cmpR op_eq (pe_m1 PySem.F.slot_str_strip PySem.F.type_str_strip mt_stripChars (pv 0) (pv 1)) pe_str (nomark _))), ?_⟩
  refine ⟨_, rfl, ⟨_, rfl⟩, _, rfl, _, _, rfl, rfl, by rw [sizeLine_eq]; omega, rfl, ?_⟩
  rw [has_strip]
  exact k H (Same.refl H)

theorem sc_is_name : FnScope ["word", "first", "others"] ["word", "first", "others"] (defScope s_is_name) := ⟨rfl, rfl, rfl, by decide +kernel, rfl, by decide +kernel, by decide +kernel⟩
theorem ct_is_name (b_len : mg "len" = none) (g_MOST_NAME_SIGNS : GI mg "MOST_NAME_SIGNS" 12) (G : C0 P w K mg base 1 "has_only" spHas) (D : Dn K mg "is_name" s_is_name) : C0 P w K mg base 2 "is_name" spName := by
  obtain ⟨f, fd, F, hmm⟩ := D.ex
  refine ⟨f, fd, ["word", "first", "others"], F.ok sc_is_name (fun vs H Q E h => ?_) (fun cdv A outer s H vs Q E hr h => ?_), hmm, F.kp, F.binds (ps := ["word", "first", "others"]) fun _ _ _ _ _ _ us hl => match us, hl with | [_, _, _], _ => rfl⟩
  · obtain ⟨z, s1, s2, rfl, _⟩ := h
    rfl
  obtain ⟨z, s1, s2, rfl, hz, k⟩ := h
  have hsz : z.length ≤ sizeLine := by rw [sizeLine_eq]; omega
  refine ⟨_, pss_one (ps_ret (pe_and (pe_chain op_le op_le pe_int (pe_callB call_len_str (by rfl) b_len PySem.boot_len (pa_cons (pv 0) pa_nil)) (pe_gi g_MOST_NAME_SIGNS)) (pe_and (pe_cmpR op_in_sign (pe_item_str (pv 0) pe_int (fun _ _ => rfl)) (pv 1) (by rfl)) (pe_one (pe_cc G hr (by omega) pass0 (pa_cons (pv 0) (pa_cons (pv 2) pa_nil))))))), ?_⟩
  refine ⟨_, rfl, z, rfl, hsz, _, _, rfl, rfl, _, rfl, ?_⟩
  have el := len_tl z
  refine ite2 (fun c => ?_) (fun c => ?_)
  · have c1 : (1 : Int) ≤ (z.length : Nat) := of_decide_eq_true c
    refine ⟨_, _, rfl, rfl, _, rfl, ?_⟩
    refine ite2 (fun c2 => ?_) (fun c2 => ?_)
    · have c3 : ((z.length : Nat) : Int) ≤ 12 := of_decide_eq_true c2
      obtain ⟨c0, hc⟩ : ∃ c0, z.cps[0]? = some c0 := ⟨z.cps[0]'(by show 0 < z.length; omega), by simp [show 0 < z.cps.size from (by show 0 < z.length; omega)]⟩
      refine ⟨_, rfl, z, 0, c0, rfl, rfl, by omega, by decide, by omega, hc, _, rfl, c0, s1, rfl, rfl, _, rfl, ?_⟩
      have g0 : (tl z).getD 0 0 = c0 := by
        have : (tl z)[0]? = some c0 := by simpa using hc
        rw [List.getD_eq_getElem?_getD, this]
        rfl
      have e : isName (tl z) (tl s1) (tl s2) = (decide (c0 ∈ tl s1) && hasOnly (tl z) (tl s2)) := by
        unfold isName
        rw [decide_eq_true (by omega), g0]
        rfl
      refine ite2 (fun c4 => ?_) (fun c4 => ?_)
      · refine ⟨_, rfl, _, rfl, z, s2, rfl, hz, fun H' s => ?_⟩
        have := k H' s
        rw [e, c4, Bool.true_and] at this
        exact this
      · have := k H (Same.refl H)
        have c5 : decide (c0 ∈ tl s1) = false := by simpa using c4
        rw [e, c5, Bool.false_and] at this
        exact this
    · have c3 : ¬ ((z.length : Nat) : Int) ≤ 12 := of_decide_eq_false (Bool.eq_false_iff.mpr c2)
      have e : isName (tl z) (tl s1) (tl s2) = false := by
        unfold isName
        rw [decide_eq_false (by omega)]
        rfl
      have := k H (Same.refl H)
      rw [e] at this
      exact this
  · have c1 : ¬ (1 : Int) ≤ (z.length : Nat) := of_decide_eq_false (Bool.eq_false_iff.mpr c)
    have e : isName (tl z) (tl s1) (tl s2) = false := by
      unfold isName
      rw [decide_eq_false (by omega)]
      rfl
    have := k H (Same.refl H)
    rw [e] at this
    exact ⟨false, rfl, iteF this⟩
theorem sc_is_kind_name : FnScope ["word"] ["word"] (defScope s_is_kind_name) := ⟨rfl, rfl, rfl, by decide +kernel, rfl, by decide +kernel, by decide +kernel⟩
theorem ct_is_kind_name (g_CAPITALS : GS mg "CAPITALS" (mk [65, 66, 67, 68, 69, 70, 71, 72, 73, 74, 75, 76, 77, 78, 79, 80, 81, 82, 83, 84, 85, 86, 87, 88, 89, 90])) (g_KIND_SIGNS : GS mg "KIND_SIGNS" (mk [97, 98, 99, 100, 101, 102, 103, 104, 105, 106, 107, 108, 109, 110, 111, 112, 113, 114, 115, 116, 117, 118, 119, 120, 121, 122, 65, 66, 67, 68, 69, 70, 71, 72, 73, 74, 75, 76, 77, 78, 79, 80, 81, 82, 83, 84, 85, 86, 87, 88, 89, 90, 48, 49, 50, 51, 52, 53, 54, 55, 56, 57])) (NM : C0 P w K mg base 2 "is_name" spName) (D : Dn K mg "is_kind_name" s_is_kind_name) : C0 P w K mg base 3 "is_kind_name" (spB isKindName) := by
  obtain ⟨f, fd, F, hmm⟩ := D.ex
  refine ⟨f, fd, ["word"], F.ok sc_is_kind_name (fun vs H Q E h => ?_) (fun cdv A outer s H vs Q E hr h => ?_), hmm, F.kp, F.binds (ps := ["word"]) fun _ _ _ _ _ _ us hl => match us, hl with | [_], _ => rfl⟩
  · obtain ⟨z, rfl, _⟩ := h
    rfl
  obtain ⟨z, rfl, hz, k⟩ := h
  refine ⟨_, pss_one (ps_ret (pe_cc NM hr (by omega) pass0 (pa_cons (pv 0) (pa_cons (pe_gs g_CAPITALS) (pa_cons (pe_gs g_KIND_SIGNS) pa_nil))))), ?_⟩
  refine ⟨_, rfl, z, _, _, rfl, hz, fun H' s => ?_⟩
  exact k H' s
theorem sc_is_text : FnScope ["signs"] ["signs"] (defScope s_is_text) := ⟨rfl, rfl, rfl, by decide +kernel, rfl, by decide +kernel, by decide +kernel⟩
theorem ct_is_text (b_len : mg "len" = none) (g_MOST_TEXT_SIGNS : GI mg "MOST_TEXT_SIGNS" 40) (g_TEXT_SIGNS : GS mg "TEXT_SIGNS" (mk [97, 98, 99, 100, 101, 102, 103, 104, 105, 106, 107, 108, 109, 110, 111, 112, 113, 114, 115, 116, 117, 118, 119, 120, 121, 122, 65, 66, 67, 68, 69, 70, 71, 72, 73, 74, 75, 76, 77, 78, 79, 80, 81, 82, 83, 84, 85, 86, 87, 88, 89, 90, 48, 49, 50, 51, 52, 53, 54, 55, 56, 57, 95])) (G : C0 P w K mg base 1 "has_only" spHas) (D : Dn K mg "is_text" s_is_text) : C0 P w K mg base 2 "is_text" (spB isText) := by
  obtain ⟨f, fd, F, hmm⟩ := D.ex
  refine ⟨f, fd, ["signs"], F.ok sc_is_text (fun vs H Q E h => ?_) (fun cdv A outer s H vs Q E hr h => ?_), hmm, F.kp, F.binds (ps := ["signs"]) fun _ _ _ _ _ _ us hl => match us, hl with | [_], _ => rfl⟩
  · obtain ⟨z, rfl, _⟩ := h
    rfl
  obtain ⟨z, rfl, hz, k⟩ := h
  have hsz : z.length ≤ sizeLine := by rw [sizeLine_eq]; omega
  refine ⟨_, pss_one (ps_ret (pe_and (pe_cmpR op_le (pe_callB call_len_str (by rfl) b_len PySem.boot_len (pa_cons (pv 0) pa_nil)) (pe_gi g_MOST_TEXT_SIGNS) (nomark _)) (pe_one (pe_cc G hr (by omega) pass0 (pa_cons (pv 0) (pa_cons (pe_gs g_TEXT_SIGNS) pa_nil)))))), ?_⟩
  refine ⟨_, rfl, z, rfl, hsz, _, _, rfl, rfl, _, rfl, ?_⟩
  have el := len_tl z
  refine ite2 (fun c => ?_) (fun c => ?_)
  · have c1 : ((z.length : Nat) : Int) ≤ 40 := of_decide_eq_true c
    refine ⟨_, rfl, z, _, rfl, hz, fun H' s => ?_⟩
    have := k H' s
    unfold isText at this
    rw [decide_eq_true (by omega), Bool.true_and] at this
    exact this
  · have c1 : ¬ ((z.length : Nat) : Int) ≤ 40 := of_decide_eq_false (Bool.eq_false_iff.mpr c)
    have := k H (Same.refl H)
    unfold isText at this
    rw [decide_eq_false (by omega), Bool.false_and] at this
    exact this
end
end My
set_option Elab.async false
set_option linter.all false
set_option maxRecDepth 100000
set_option maxHeartbeats 4000000
namespace My
open PySem L2 SS
/-! what words of cells, worths and cells are, over data -/
def wholeD (d : Dt) : Bool := d.srt.isT "int" && !d.srt.isT "bool"
def rowD (d : Dt) (u : V) : Bool := match d with
  | .tup ds => decide (V.int ((ds.length : Nat) : Int) = u)
  | _ => false
def num0D (d : Dt) : Bool := match d with
  | .v (.int i) => decide (0 ≤ i)
  | _ => false
def textIsD (d : Dt) (u : V) : Bool := match d with
  | .v (.str z) => decide (V.str z = u)
  | _ => false
def cwD (d : Dt) : Bool := match d with
  | .tup [a, b] => textIsD a (.str (Str.ofString "cell")) && num0D b
  | _ => false
section
variable {P : Program} {w : World} {K : PySem.W.Frag} {mg : Str → Option Value} {base : Heap}
theorem scWh : FnScope ["thing"] ["thing"] (defScope s_is_whole) := ⟨rfl, rfl, rfl, by decide +kernel, rfl, by decide +kernel, by decide +kernel⟩
theorem c_wh (b_isinstance : mg "isinstance" = none) (b_int : mg "int" = none) (b_bool : mg "bool" = none) (D : Dn K mg "is_whole" s_is_whole) : C0 P w K mg base 1 "is_whole" (spG1 9 (fun _ => True) wholeD) := by
  obtain ⟨f, fd, F, hmm⟩ := D.ex
  refine ⟨f, fd, ["thing"], F.ok scWh (fun vs H Q E h => ?_) (fun cdv A outer s H vs Q E hr h => ?_), hmm, F.kp, F.binds (ps := ["thing"]) fun _ _ _ _ _ _ us hl => match us, hl with | [_], _ => rfl⟩
  · obtain ⟨d, v, rfl, _⟩ := h
    rfl
  obtain ⟨d, v, rfl, hd, _, kq⟩ := h
  refine ⟨_, pss_one (ps_ret (pe_and (pe_callB (r := rIsi K) (id := "isinstance") call_isi (by rfl) b_isinstance (by decide +kernel) (pa_cons (pv 0) (pa_cons (pe_bltn (v := .ty "int") (by rfl) b_int (by decide +kernel) rfl) pa_nil))) (pe_one (pe_not (pe_callB (r := rIsi K) (id := "isinstance") call_isi (by rfl) b_isinstance (by decide +kernel) (pa_cons (pv 0) (pa_cons (pe_bltn (v := .ty "bool") (by rfl) b_bool (by decide +kernel) rfl) pa_nil))))))), ?_⟩
  exact (evs_ret (evd_and (evd_isi (evd_var rfl hd) (.inr (.inl rfl))) fun _ => evd_not (evd_isi (evd_var rfl hd) (.inl rfl)))).go kq
theorem scRw : FnScope ["thing", "length"] ["thing", "length"] (defScope s_is_row) := ⟨rfl, rfl, rfl, by decide +kernel, rfl, by decide +kernel, by decide +kernel⟩
theorem c_rw (b_isinstance : mg "isinstance" = none) (b_tuple : mg "tuple" = none) (b_len : mg "len" = none) (D : Dn K mg "is_row" s_is_row) : C0 P w K mg base 1 "is_row" (spG2 9 (fun _ u => ∃ i : Int, u = .int i) rowD) := by
  obtain ⟨f, fd, F, hmm⟩ := D.ex
  refine ⟨f, fd, ["thing", "length"], F.ok scRw (fun vs H Q E h => ?_) (fun cdv A outer s H vs Q E hr h => ?_), hmm, F.kp, F.binds (ps := ["thing", "length"]) fun _ _ _ _ _ _ us hl => match us, hl with | [_, _], _ => rfl⟩
  · obtain ⟨d, v, u, rfl, _⟩ := h
    rfl
  obtain ⟨d, v, u, rfl, hu, hd, ⟨i, rfl⟩, kq⟩ := h
  refine ⟨_, pss_one (ps_ret (pe_and (pe_callB (r := rIsi K) (id := "isinstance") call_isi (by rfl) b_isinstance (by decide +kernel) (pa_cons (pv 0) (pa_cons (pe_bltn (v := .ty "tuple") (by rfl) b_tuple (by decide +kernel) rfl) pa_nil))) (pe_one (pe_cmpR op_eq (pe_callB call_len_seq (by rfl) b_len PySem.boot_len (pa_cons (pv 0) pa_nil)) (pv 1) (nomark _))))), ?_⟩
  cases d with
  | tup ds => exact (evs_ret (evd_and (evd_isi (evd_var rfl hd) (.inr (.inr (.inr rfl)))) fun _ => evd_eqI (evd_lenT (n := 8) (evd_var rfl hd)) (evd_var rfl (atD_v (.int _))))).go kq
  | v x => exact ((evs_ret (evd_and (b := false) (evd_isi (evd_var rfl hd) (.inr (.inr (.inr rfl)))) fun c => (by cases x <;> cases c))).as (by cases x <;> rfl)).go kq
  | lst ds => exact ((evs_ret (evd_and (b := false) (evd_isi (evd_var rfl hd) (.inr (.inr (.inr rfl)))) fun c => (by cases c))).as rfl).go kq
  | dic => exact ((evs_ret (evd_and (b := false) (evd_isi (evd_var rfl hd) (.inr (.inr (.inr rfl)))) fun c => (by cases c))).as rfl).go kq
theorem scNu : FnScope ["thing"] ["thing"] (defScope s_is_number_from_0) := ⟨rfl, rfl, rfl, by decide +kernel, rfl, by decide +kernel, by decide +kernel⟩
theorem c_nu (WH : C0 P w K mg base 1 "is_whole" (spG1 9 (fun _ => True) wholeD)) (D : Dn K mg "is_number_from_0" s_is_number_from_0) : C0 P w K mg base 2 "is_number_from_0" (spG1 9 (fun _ => True) num0D) := by
  obtain ⟨f, fd, F, hmm⟩ := D.ex
  refine ⟨f, fd, ["thing"], F.ok scNu (fun vs H Q E h => ?_) (fun cdv A outer s H vs Q E hr h => ?_), hmm, F.kp, F.binds (ps := ["thing"]) fun _ _ _ _ _ _ us hl => match us, hl with | [_], _ => rfl⟩
  · obtain ⟨d, v, rfl, _⟩ := h
    rfl
  obtain ⟨d, v, rfl, hd, _, kq⟩ := h
  refine ⟨_, pss_one (ps_ret (pe_and (pe_cc WH hr (by omega) pass0 (pa_cons (pv 0) pa_nil)) (pe_one (pe_cmpR op_ge (pv 0) pe_int (nomark _))))), ?_⟩
  have no : wholeD d = false → num0D d = false := fun c => by
    cases d with
    | v x => cases x <;> first | rfl | cases c
    | _ => rfl
  by_cases c : wholeD d = true
  · obtain ⟨i, rfl⟩ : ∃ i, d = .v (.int i) := by
      cases d with
      | v x => cases x <;> first | exact ⟨_, rfl⟩ | cases c
      | _ => cases c
    obtain ⟨rfl, _⟩ := atD_pl hd
    exact (evs_ret (evd_and (a := true) (evd_c1 (evd_var rfl hd) trivial) fun _ => evd_i0 (evd_var rfl (atD_v (.int _))) (evd_c (.int _)) (.bl _))).go kq
  · have c' : wholeD d = false := by simpa using c
    rw [no c'] at kq
    exact ((evs_ret (evd_and (b := false) (evd_c1 (evd_var rfl hd) trivial) fun z => absurd z (by rw [c']; decide))).as (by rw [c']; rfl)).go kq
theorem scTo : FnScope ["thing", "text"] ["thing", "text"] (defScope s_is_text_of) := ⟨rfl, rfl, rfl, by decide +kernel, rfl, by decide +kernel, by decide +kernel⟩
theorem c_to (b_isinstance : mg "isinstance" = none) (b_str : mg "str" = none) (D : Dn K mg "is_text_of" s_is_text_of) : C0 P w K mg base 1 "is_text_of" (spG2 9 (fun _ u => ∃ z : Str, u = .str z) textIsD) := by
  obtain ⟨f, fd, F, hmm⟩ := D.ex
  refine ⟨f, fd, ["thing", "text"], F.ok scTo (fun vs H Q E h => ?_) (fun cdv A outer s H vs Q E hr h => ?_), hmm, F.kp, F.binds (ps := ["thing", "text"]) fun _ _ _ _ _ _ us hl => match us, hl with | [_, _], _ => rfl⟩
  · obtain ⟨d, v, u, rfl, _⟩ := h
    rfl
  obtain ⟨d, v, u, rfl, hu, hd, ⟨z, rfl⟩, kq⟩ := h
  refine ⟨_, pss_one (ps_ret (pe_and (pe_callB (r := rIsi K) (id := "isinstance") call_isi (by rfl) b_isinstance (by decide +kernel) (pa_cons (pv 0) (pa_cons (pe_bltn (v := .ty "str") (by rfl) b_str (by decide +kernel) rfl) pa_nil))) (pe_one (pe_cmpR op_eq (pv 0) (pv 1) (nomark _))))), ?_⟩
  by_cases c : d.srt.isT "str" = true
  · obtain ⟨y, rfl⟩ : ∃ y, d = .v (.str y) := by
      cases d with
      | v x => cases x <;> first | exact ⟨_, rfl⟩ | cases c
      | _ => cases c
    obtain ⟨rfl, _⟩ := atD_pl hd
    exact (evs_ret (evd_and (evd_isi (evd_var rfl hd) (.inr (.inr (.inl rfl)))) fun _ => evd_eqS (evd_var rfl (atD_v (.str _))) (evd_var rfl (atD_v (.str _))))).go kq
  · have c' : d.srt.isT "str" = false := by simpa using c
    have : textIsD d (.str z) = false := by
      cases d with
      | v x => cases x <;> first | rfl | cases c'
      | _ => rfl
    rw [this] at kq
    exact ((evs_ret (evd_and (b := false) (evd_isi (evd_var rfl hd) (.inr (.inr (.inl rfl)))) fun z => absurd z c)).as (by rw [c']; rfl)).go kq
theorem two_at {a b : Dt} : L2.atI [a, b] 0 = some a ∧ L2.atI [a, b] 1 = some b := ⟨rfl, rfl⟩
theorem scCw : FnScope ["thing"] ["thing"] (defScope s_is_cell_word) := ⟨rfl, rfl, rfl, by decide +kernel, rfl, by decide +kernel, by decide +kernel⟩
theorem c_cw (RW_ : C0 P w K mg base 1 "is_row" (spG2 9 (fun _ u => ∃ i : Int, u = .int i) rowD)) (TO : C0 P w K mg base 1 "is_text_of" (spG2 9 (fun _ u => ∃ z : Str, u = .str z) textIsD)) (NU : C0 P w K mg base 2 "is_number_from_0" (spG1 9 (fun _ => True) num0D)) (D : Dn K mg "is_cell_word" s_is_cell_word) : C0 P w K mg base 3 "is_cell_word" (spG1 9 (fun _ => True) cwD) := by
  obtain ⟨f, fd, F, hmm⟩ := D.ex
  refine ⟨f, fd, ["thing"], F.ok scCw (fun vs H Q E h => ?_) (fun cdv A outer s H vs Q E hr h => ?_), hmm, F.kp, F.binds (ps := ["thing"]) fun _ _ _ _ _ _ us hl => match us, hl with | [_], _ => rfl⟩
  · obtain ⟨d, v, rfl, _⟩ := h
    rfl
  obtain ⟨d, v, rfl, hd, _, kq⟩ := h
  refine ⟨_, pss_one (ps_ret (pe_and (pe_cc RW_ hr (by omega) pass0 (pa_cons (pv 0) (pa_cons pe_int pa_nil))) (pe_and (pe_cc TO hr (by omega) pass0 (pa_cons (pe_ix (r := rIxT K) ix_tup (pv 0) pe_int (fun _ _ => rfl)) (pa_cons pe_str pa_nil))) (pe_one (pe_cc NU hr (by omega) pass0 (pa_cons (pe_ix (r := rIxT K) ix_tup (pv 0) pe_int (fun _ _ => rfl)) pa_nil)))))), ?_⟩
  by_cases c : rowD d (.int 2) = true
  · obtain ⟨a, b, rfl⟩ : ∃ a b, d = .tup [a, b] := by
      cases d with
      | tup ds =>
        have : ds.length = 2 := by
          have := of_decide_eq_true c
          injection this with this
          omega
        match ds, this with
        | [a, b], _ => exact ⟨a, b, rfl⟩
      | _ => cases c
    refine (evs_ret (evd_as (evd_and (a := true) (b := textIsD a (.str (Str.ofString "cell")) && num0D b) (evd_as (evd_c2 (evd_var rfl hd) (evd_c (.int _)) ⟨_, rfl⟩) rfl) fun _ => evd_and (evd_c2 (EvD.lv (evd_ixT (n := 8) (evd_var rfl hd) (evd_c (.int _)) two_at.1) (by decide)) (evd_c (.str _)) ⟨_, rfl⟩) fun _ => evd_c1 (EvD.lv (evd_ixT (n := 8) (evd_var rfl hd) (evd_c (.int _)) two_at.2) (by decide)) trivial) rfl)).go kq
  · have c' : rowD d (.int 2) = false := by simpa using c
    have : cwD d = false := by
      cases d with
      | tup ds => match ds with
        | [] => rfl
        | [_] => rfl
        | [_, _] => cases c'
        | _ :: _ :: _ :: _ => rfl
      | _ => rfl
    rw [this] at kq
    exact ((evs_ret (evd_and (b := false) (evd_c2 (evd_var rfl hd) (evd_c (.int _)) ⟨_, rfl⟩) fun z => absurd z c)).as (by rw [c']; rfl)).go kq
/-! plain worths and worths -/
def S0 (d : Dt) : Prop := ∀ z, d = .v (.str z) → z.length ≤ 100000
def plnD (d : Dt) : Bool := match d with
  | .v (.int i) => decide (-1000000000000 < i) && decide (i < 1000000000000)
  | .v (.str z) => isText (tl z)
  | .v _ => true
  | _ => false
def woD (d : Dt) : Bool := match d with
  | .tup _ => cwD d
  | _ => plnD d
theorem scPla : FnScope ["thing"] ["thing"] (defScope s_is_plain) := ⟨rfl, rfl, rfl, by decide +kernel, rfl, by decide +kernel, by decide +kernel⟩
theorem c_pla (b_isinstance : mg "isinstance" = none) (b_int : mg "int" = none) (b_bool : mg "bool" = none) (b_str : mg "str" = none) (g_BIG : GI mg "BIG" 1000000000000) (TXT : C0 P w K mg base 2 "is_text" (spB isText)) (D : Dn K mg "is_plain" s_is_plain) : C0 P w K mg base 3 "is_plain" (spG1 9 S0 plnD) := by
  obtain ⟨f, fd, F, hmm⟩ := D.ex
  refine ⟨f, fd, ["thing"], F.ok scPla (fun vs H Q E h => ?_) (fun cdv A outer s H vs Q E hr h => ?_), hmm, F.kp, F.binds (ps := ["thing"]) fun _ _ _ _ _ _ us hl => match us, hl with | [_], _ => rfl⟩
  · obtain ⟨d, v, rfl, _⟩ := h
    rfl
  obtain ⟨d, v, rfl, hd, hs, kq⟩ := h
  refine ⟨_, pss_cons (ps_if (PW.pt (pw_or (pt_cmpR op_isN (pv 0) pe_non (nomark _)) (pw_or1 (pt_val (pe_callB (r := rIsi K) (id := "isinstance") call_isi (by rfl) b_isinstance (by decide +kernel) (pa_cons (pv 0) (pa_cons (pe_bltn (v := .ty "bool") (by rfl) b_bool (by decide +kernel) rfl) pa_nil)))))))
      (pss_one (ps_ret pe_bl))
      (pss_nil)) <|
    pss_cons (ps_if (pt_val (pe_callB (r := rIsi K) (id := "isinstance") call_isi (by rfl) b_isinstance (by decide +kernel) (pa_cons (pv 0) (pa_cons (pe_bltn (v := .ty "int") (by rfl) b_int (by decide +kernel) rfl) pa_nil))))
      (pss_one (ps_ret (pe_chain op_lt op_lt (pe_un un_neg (pe_gi g_BIG)) (pv 0) (pe_gi g_BIG))))
      (pss_nil)) <|
    pss_one (ps_ret (pe_and (pe_callB (r := rIsi K) (id := "isinstance") call_isi (by rfl) b_isinstance (by decide +kernel) (pa_cons (pv 0) (pa_cons (pe_bltn (v := .ty "str") (by rfl) b_str (by decide +kernel) rfl) pa_nil))) (pe_one (pe_cc TXT hr (by omega) pass0 (pa_cons (pv 0) pa_nil))))), ?_⟩
  have t1 : ∀ {σ : L2.St}, σ[0]? = some (some v) → EvT (tOr (tTest (tOp (fun x y H Q => y = V.non ∧ Q (V.bl (decide (x = V.non))) H) (tVar 0) (tC .non))) (tB (tCB (rIsi K) (tCons (tVar 0) (tCons (tC (.ty "bool")) tNil))))) σ H (decide (d.srt = .non) || d.srt.isT "bool") := fun h => evt_or (evt_t (evd_isN (m := 0) (evd_var h hd))) fun _ => evt_b (evd_isi (m := 0) (evd_var h hd) (.inl rfl))
  have t2 : ∀ {σ : L2.St}, σ[0]? = some (some v) → EvT (tB (tCB (rIsi K) (tCons (tVar 0) (tCons (tC (.ty "int")) tNil)))) σ H (d.srt.isT "int") := fun h => evt_b (evd_isi (m := 0) (evd_var h hd) (.inr (.inl rfl)))
  have t3 : ∀ {σ : L2.St}, σ[0]? = some (some v) → EvD (tCB (rIsi K) (tCons (tVar 0) (tCons (tC (.ty "str")) tNil))) σ H 0 (.v (.bl (d.srt.isT "str"))) := fun h => evd_isi (evd_var h hd) (.inr (.inr (.inl rfl)))
  have rest : plnD d = (if (decide (d.srt = .non) || d.srt.isT "bool") = true then true else if d.srt.isT "int" = true then plnD d else (d.srt.isT "str" && plnD d)) := by
    cases d with
    | v x => cases x <;> rfl
    | _ => rfl
  rw [rest] at kq
  refine EvS.go (evs_if (t1 rfl) (fun _ => evs_ret (evd_c (.bl _))) fun c1 => evs_if (t2 rfl) (fun c2 => ?_) fun c2 => evs_ret (evd_and (t3 rfl) fun c3 => ?_)) kq
  · cases d with
    | v x =>
      cases x with
      | int i =>
        obtain ⟨rfl, _⟩ := atD_pl hd
        exact evs_ret (evd_chainI (evd_neg (evd_c (.int _))) (evd_var rfl (atD_v (.int _))) (evd_c (.int _)))
      | bl b => cases c1
      | _ => cases c2
    | _ => cases c2
  · cases d with
    | v x =>
      cases x with
      | str z =>
        obtain ⟨rfl, _⟩ := atD_pl hd
        exact fun H1 s1 Q q => ⟨_, rfl, z, rfl, hs z rfl, fun H2 s2 => q _ H2 s2 (atD_v (.bl _))⟩
      | _ => cases c3
    | _ => cases c3
theorem scWor : FnScope ["thing"] ["thing"] (defScope s_is_worth) := ⟨rfl, rfl, rfl, by decide +kernel, rfl, by decide +kernel, by decide +kernel⟩
theorem c_wor (b_isinstance : mg "isinstance" = none) (b_tuple : mg "tuple" = none) (CW : C0 P w K mg base 3 "is_cell_word" (spG1 9 (fun _ => True) cwD)) (PLA : C0 P w K mg base 3 "is_plain" (spG1 9 S0 plnD)) (D : Dn K mg "is_worth" s_is_worth) : C0 P w K mg base 4 "is_worth" (spG1 9 S0 woD) := by
  obtain ⟨f, fd, F, hmm⟩ := D.ex
  refine ⟨f, fd, ["thing"], F.ok scWor (fun vs H Q E h => ?_) (fun cdv A outer s H vs Q E hr h => ?_), hmm, F.kp, F.binds (ps := ["thing"]) fun _ _ _ _ _ _ us hl => match us, hl with | [_], _ => rfl⟩
  · obtain ⟨d, v, rfl, _⟩ := h
    rfl
  obtain ⟨d, v, rfl, hd, hs, kq⟩ := h
  refine ⟨_, pss_one (ps_ret (pe_ifExp (pt_val (pe_callB (r := rIsi K) (id := "isinstance") call_isi (by rfl) b_isinstance (by decide +kernel) (pa_cons (pv 0) (pa_cons (pe_bltn (v := .ty "tuple") (by rfl) b_tuple (by decide +kernel) rfl) pa_nil)))) (pe_cc CW hr (by omega) pass0 (pa_cons (pv 0) pa_nil)) (pe_cc PLA hr (by omega) pass0 (pa_cons (pv 0) pa_nil)))), ?_⟩
  refine (evs_ret (evd_if (c := d.srt.isT "tuple") (evt_b (evd_isi (m := 0) (evd_var rfl hd) (.inr (.inr (.inr rfl))))) (fun c => evd_as (evd_c1 (evd_var rfl hd) trivial) ?_) fun c => evd_as (evd_c1 (evd_var rfl hd) hs) ?_)).go kq
  · cases d with
    | tup ds => rfl
    | v x => cases x <;> cases c
    | _ => cases c
  · cases d with
    | tup ds => cases c
    | _ => rfl
end
end My
set_option Elab.async false
set_option linter.all false
set_option maxRecDepth 100000
set_option maxHeartbeats 4000000
namespace My
open PySem L2 SS
def S1 (d : Dt) : Prop := ∀ ds, d = .tup ds → ∀ e ∈ ds, S0 e
def wosD (d : Dt) (u : V) : Bool := match d, u with
  | .tup ds, .int m => decide (((ds.length : Nat) : Int) ≤ m) && ds.all woD
  | _, _ => false
def kwD (d : Dt) : Bool := match d with
  | .v (.str z) => isKindName (tl z)
  | _ => false
def cwsD (d : Dt) : Bool := match d with
  | .tup ds => ds.all cwD
  | _ => false
def thD (r : List Dt) : Bool := match r with
  | [k, ws] => kwD k && wosD ws (.int 8)
  | _ => false
def liD (r : List Dt) : Bool := match r with
  | [ws] => wosD ws (.int 30)
  | _ => false
def blD (r : List Dt) : Bool := match r with
  | [a, b, c, d] => ([a, b].all num0D) && cwsD (.tup [c, d])
  | _ => false
def naD (r : List Dt) : Bool := match r with
  | [ws, o] => wosD ws (.int 12) && (decide (o.srt = .non) || cwD o)
  | _ => false
def cellD (d : Dt) : Bool := match d with
  | .tup (t :: r) => if textIsD t (.str (Str.ofString "thing")) = true then thD r else if textIsD t (.str (Str.ofString "list")) = true then liD r else if textIsD t (.str (Str.ofString "block")) = true then blD r else if textIsD t (.str (Str.ofString "names")) = true then naD r else false
  | _ => false
theorem evd_andF {σ : L2.St} {H : Hp} {n : Nat} {te tb : TE} {a : Bool} (h : EvD te σ H n (.v (.bl a))) (ha : a = false) : EvD (tAndV te tb) σ H n (.v (.bl false)) := by
  have := evd_and (b := false) (tb := tb) h fun c => absurd c (by rw [ha]; decide)
  rw [ha] at this
  exact this
theorem len_no {ds : List Dt} {k : Nat} (h : ds.length ≠ k) : decide (V.int ((ds.length : Nat) : Int) = V.int ((k : Nat) : Int)) = false := decide_eq_false fun e => by
  injection e with e
  omega
theorem len_yes {ds : List Dt} {k : Nat} (h : ds.length = k) : decide (V.int ((ds.length : Nat) : Int) = V.int ((k : Nat) : Int)) = true := decide_eq_true (by rw [h])
theorem at0 {t : Dt} {r : List Dt} : L2.atI (t :: r) 0 = some t := atI_nat (j := 0) rfl
section
variable {P : Program} {w : World} {K : PySem.W.Frag} {mg : Str → Option Value} {base : Heap}
theorem scWos : FnScope ["thing", "most", "worth"] ["thing", "most"] (defScope s_are_worths) := ⟨rfl, rfl, rfl, by decide +kernel, rfl, by decide +kernel, by decide +kernel⟩
theorem c_wos (b_isinstance : mg "isinstance" = none) (b_tuple : mg "tuple" = none) (b_len : mg "len" = none) (b_all : mg "all" = none) (WO : C0 P w K mg base 4 "is_worth" (spG1 9 S0 woD)) (D : Dn K mg "are_worths" s_are_worths) : C0 P w K mg base 5 "are_worths" (spG2 9 (fun d u => S1 d ∧ ∃ i : Int, u = .int i) wosD) := by
  obtain ⟨f, fd, F, hmm⟩ := D.ex
  refine ⟨f, fd, ["thing", "most"], F.ok scWos (fun vs H Q E h => ?_) (fun cdv A outer s H vs Q E hr h => ?_), hmm, F.kp, F.binds (ps := ["thing", "most"]) fun _ _ _ _ _ _ us hl => match us, hl with | [_, _], _ => rfl⟩
  · obtain ⟨d, v, u, rfl, _⟩ := h
    rfl
  obtain ⟨d, v, u, rfl, hu, hd, ⟨hs, i, rfl⟩, kq⟩ := h
  refine ⟨_, pss_one (ps_ret (pe_and (pe_callB (r := rIsi K) (id := "isinstance") call_isi (by rfl) b_isinstance (by decide +kernel) (pa_cons (pv 0) (pa_cons (pe_bltn (v := .ty "tuple") (by rfl) b_tuple (by decide +kernel) rfl) pa_nil))) (pe_and (pe_cmpR op_le (pe_callB call_len_seq (by rfl) b_len PySem.boot_len (pa_cons (pv 0) pa_nil)) (pv 1) (nomark _)) (pe_one (pe_callB (cr_all rfl) (by rfl) b_all (by decide +kernel) (pa_cons (pe_lc (own := [("worth", 2)]) (g := (gName 2)) (tt := tYes) rfl scWos.nd (pi_tup (pv 0)) (blkOk_by (own := [("worth", 2)]) (N := ["thing", "most", "worth"]) (sc := defScope s_are_worths) (by decide +kernel)) (fun _ _ _ _ _ => (pg_name (i := 2) scWos.nd rfl (Or.inl rfl))) (fun _ _ _ _ _ => pts_nil) (fun _ _ _ _ _ => (pe_cc WO hr (by omega) pass0 (pa_cons (pv 2) pa_nil)))) pa_nil)))))), ?_⟩
  cases d with
  | tup ds => exact (evs_ret (evd_and (a := true) (evd_isi (evd_var rfl hd) (.inr (.inr (.inr rfl)))) fun _ => evd_and (evd_i0 (evd_lenT (n := 8) (evd_var rfl hd)) (evd_var rfl (atD_v (.int _))) (.bl _)) fun _ => evd_allT (m := 8) (evd_var rfl hd) (fun _ => rfl) fun e he x H2 s2 ax => evd_c1 (EvD.lv (evd_var rfl ax) (by decide)) (hs ds rfl e he))).go kq
  | v x => exact (evs_ret (evd_andF (evd_isi (evd_var rfl hd) (.inr (.inr (.inr rfl)))) (by cases x <;> rfl))).go kq
  | lst ds => exact (evs_ret (evd_andF (evd_isi (evd_var rfl hd) (.inr (.inr (.inr rfl)))) rfl)).go kq
  | dic => exact (evs_ret (evd_andF (evd_isi (evd_var rfl hd) (.inr (.inr (.inr rfl)))) rfl)).go kq
theorem scKw : FnScope ["thing"] ["thing"] (defScope s_is_kind_word) := ⟨rfl, rfl, rfl, by decide +kernel, rfl, by decide +kernel, by decide +kernel⟩
theorem c_kw (b_isinstance : mg "isinstance" = none) (b_str : mg "str" = none) (KN : C0 P w K mg base 3 "is_kind_name" (spB isKindName)) (D : Dn K mg "is_kind_word" s_is_kind_word) : C0 P w K mg base 4 "is_kind_word" (spG1 9 S0 kwD) := by
  obtain ⟨f, fd, F, hmm⟩ := D.ex
  refine ⟨f, fd, ["thing"], F.ok scKw (fun vs H Q E h => ?_) (fun cdv A outer s H vs Q E hr h => ?_), hmm, F.kp, F.binds (ps := ["thing"]) fun _ _ _ _ _ _ us hl => match us, hl with | [_], _ => rfl⟩
  · obtain ⟨d, v, rfl, _⟩ := h
    rfl
  obtain ⟨d, v, rfl, hd, hs, kq⟩ := h
  refine ⟨_, pss_one (ps_ret (pe_and (pe_callB (r := rIsi K) (id := "isinstance") call_isi (by rfl) b_isinstance (by decide +kernel) (pa_cons (pv 0) (pa_cons (pe_bltn (v := .ty "str") (by rfl) b_str (by decide +kernel) rfl) pa_nil))) (pe_one (pe_cc KN hr (by omega) pass0 (pa_cons (pv 0) pa_nil))))), ?_⟩
  have no : d.srt.isT "str" = false → kwD d = false := fun c => by
    cases d with
    | v x => cases x <;> first | rfl | cases c
    | _ => rfl
  by_cases c : d.srt.isT "str" = true
  · obtain ⟨z, rfl⟩ : ∃ y, d = .v (.str y) := by
      cases d with
      | v x => cases x <;> first | exact ⟨_, rfl⟩ | cases c
      | _ => cases c
    obtain ⟨rfl, _⟩ := atD_pl hd
    exact (evs_ret (evd_and (a := true) (evd_isi (evd_var rfl hd) (.inr (.inr (.inl rfl)))) fun _ H1 s1 Q q => ⟨_, rfl, z, rfl, hs z rfl, fun H2 s2 => q _ H2 s2 (atD_v (.bl _))⟩)).go kq
  · have c' : d.srt.isT "str" = false := by simpa using c
    rw [no c'] at kq
    exact (evs_ret (evd_andF (evd_isi (evd_var rfl hd) (.inr (.inr (.inl rfl)))) c')).go kq
theorem scCws : FnScope ["things", "thing"] ["things"] (defScope s_are_cell_words) := ⟨rfl, rfl, rfl, by decide +kernel, rfl, by decide +kernel, by decide +kernel⟩
theorem c_cws (b_all : mg "all" = none) (CW : C0 P w K mg base 3 "is_cell_word" (spG1 9 (fun _ => True) cwD)) (D : Dn K mg "are_cell_words" s_are_cell_words) : C0 P w K mg base 4 "are_cell_words" (spG1 9 (fun d => ∃ ds, d = .tup ds) cwsD) := by
  obtain ⟨f, fd, F, hmm⟩ := D.ex
  refine ⟨f, fd, ["things"], F.ok scCws (fun vs H Q E h => ?_) (fun cdv A outer s H vs Q E hr h => ?_), hmm, F.kp, F.binds (ps := ["things"]) fun _ _ _ _ _ _ us hl => match us, hl with | [_], _ => rfl⟩
  · obtain ⟨d, v, rfl, _⟩ := h
    rfl
  obtain ⟨d, v, rfl, hd, ⟨ds, rfl⟩, kq⟩ := h
  refine ⟨_, pss_one (ps_ret (pe_callB (cr_all rfl) (by rfl) b_all (by decide +kernel) (pa_cons (pe_lc (own := [("thing", 1)]) (g := (gName 1)) (tt := tYes) rfl scCws.nd (pi_tup (pv 0)) (blkOk_by (own := [("thing", 1)]) (N := ["things", "thing"]) (sc := defScope s_are_cell_words) (by decide +kernel)) (fun _ _ _ _ _ => (pg_name (i := 1) scCws.nd rfl (Or.inl rfl))) (fun _ _ _ _ _ => pts_nil) (fun _ _ _ _ _ => (pe_cc CW hr (by omega) pass0 (pa_cons (pv 1) pa_nil)))) pa_nil))), ?_⟩
  exact (evs_ret (evd_allT (m := 8) (evd_var rfl hd) (fun _ => rfl) fun e he x H2 s2 ax => evd_c1 (EvD.lv (evd_var rfl ax) (by decide)) trivial)).go kq
theorem scCe : FnScope ["thing", "part"] ["thing"] (defScope s_is_cell) := ⟨rfl, rfl, rfl, by decide +kernel, rfl, by decide +kernel, by decide +kernel⟩
theorem c_ce (b_isinstance : mg "isinstance" = none) (b_tuple : mg "tuple" = none) (b_len : mg "len" = none) (b_all : mg "all" = none) (g_MOST_FIELDS : GI mg "MOST_FIELDS" 8) (g_MOST_NAMES : GI mg "MOST_NAMES" 12) (g_MOST_WORTHS_OF_LIST : GI mg "MOST_WORTHS_OF_LIST" 30)
    (TO : C0 P w K mg base 1 "is_text_of" (spG2 9 (fun _ u => ∃ z : Str, u = .str z) textIsD)) (NU : C0 P w K mg base 2 "is_number_from_0" (spG1 9 (fun _ => True) num0D)) (CW : C0 P w K mg base 3 "is_cell_word" (spG1 9 (fun _ => True) cwD)) (WOS : C0 P w K mg base 5 "are_worths" (spG2 9 (fun d u => S1 d ∧ ∃ i : Int, u = .int i) wosD)) (KW : C0 P w K mg base 4 "is_kind_word" (spG1 9 S0 kwD)) (CWS : C0 P w K mg base 4 "are_cell_words" (spG1 9 (fun d => ∃ ds, d = .tup ds) cwsD))
    (D : Dn K mg "is_cell" s_is_cell) : C0 P w K mg base 6 "is_cell" (spG1 9 (fun d => ∀ ds, d = .tup ds → ∀ e ∈ ds, S0 e ∧ S1 e) cellD) := by
  obtain ⟨f, fd, F, hmm⟩ := D.ex
  refine ⟨f, fd, ["thing"], F.ok scCe (fun vs H Q E h => ?_) (fun cdv A outer s H vs Q E hr h => ?_), hmm, F.kp, F.binds (ps := ["thing"]) fun _ _ _ _ _ _ us hl => match us, hl with | [_], _ => rfl⟩
  · obtain ⟨d, v, rfl, _⟩ := h
    rfl
  obtain ⟨d, v, rfl, hd, hs, kq⟩ := h
  refine ⟨_, pss_cons (ps_if (PW.pt (pw_or (pt_not (pt_val (pe_callB (r := rIsi K) (id := "isinstance") call_isi (by rfl) b_isinstance (by decide +kernel) (pa_cons (pv 0) (pa_cons (pe_bltn (v := .ty "tuple") (by rfl) b_tuple (by decide +kernel) rfl) pa_nil))))) (pw_or1 (pt_cmpR op_eq (pe_callB call_len_seq (by rfl) b_len PySem.boot_len (pa_cons (pv 0) pa_nil)) pe_int (nomark _)))))
      (pss_one (ps_ret pe_bl))
      (pss_nil)) <|
    pss_cons (ps_if (pt_val (pe_cc TO hr (by omega) pass0 (pa_cons (pe_ix (r := rIxT K) ix_tup (pv 0) pe_int (fun _ _ => rfl)) (pa_cons pe_str pa_nil))))
      (pss_one (ps_ret (pe_and (pe_cmpR op_eq (pe_callB call_len_seq (by rfl) b_len PySem.boot_len (pa_cons (pv 0) pa_nil)) pe_int (nomark _)) (pe_and (pe_cc KW hr (by omega) pass0 (pa_cons (pe_ix (r := rIxT K) ix_tup (pv 0) pe_int (fun _ _ => rfl)) pa_nil)) (pe_one (pe_cc WOS hr (by omega) pass0 (pa_cons (pe_ix (r := rIxT K) ix_tup (pv 0) pe_int (fun _ _ => rfl)) (pa_cons (pe_gi g_MOST_FIELDS) pa_nil))))))))
      (pss_nil)) <|
    pss_cons (ps_if (pt_val (pe_cc TO hr (by omega) pass0 (pa_cons (pe_ix (r := rIxT K) ix_tup (pv 0) pe_int (fun _ _ => rfl)) (pa_cons pe_str pa_nil))))
      (pss_one (ps_ret (pe_and (pe_cmpR op_eq (pe_callB call_len_seq (by rfl) b_len PySem.boot_len (pa_cons (pv 0) pa_nil)) pe_int (nomark _)) (pe_one (pe_cc WOS hr (by omega) pass0 (pa_cons (pe_ix (r := rIxT K) ix_tup (pv 0) pe_int (fun _ _ => rfl)) (pa_cons (pe_gi g_MOST_WORTHS_OF_LIST) pa_nil)))))))
      (pss_nil)) <|
    pss_cons (ps_if (pt_val (pe_cc TO hr (by omega) pass0 (pa_cons (pe_ix (r := rIxT K) ix_tup (pv 0) pe_int (fun _ _ => rfl)) (pa_cons pe_str pa_nil))))
      (pss_one (ps_ret (pe_and (pe_cmpR op_eq (pe_callB call_len_seq (by rfl) b_len PySem.boot_len (pa_cons (pv 0) pa_nil)) pe_int (nomark _)) (pe_and (pe_callB (cr_all rfl) (by rfl) b_all (by decide +kernel) (pa_cons (pe_lc (own := [("part", 1)]) (g := (gName 1)) (tt := tYes) rfl scCe.nd (pi_tup (pe_slice sl_tup (pv 0) (po_some pe_int) (po_some pe_int))) (blkOk_by (own := [("part", 1)]) (N := ["thing", "part"]) (sc := defScope s_is_cell) (by decide +kernel)) (fun _ _ _ _ _ => (pg_name (i := 1) scCe.nd rfl (Or.inl rfl))) (fun _ _ _ _ _ => pts_nil) (fun _ _ _ _ _ => (pe_cc NU hr (by omega) pass0 (pa_cons (pv 1) pa_nil)))) pa_nil)) (pe_one (pe_cc CWS hr (by omega) pass0 (pa_cons (pe_slice sl_tup (pv 0) (po_some pe_int) po_none) pa_nil)))))))
      (pss_nil)) <|
    pss_cons (ps_if (pt_val (pe_cc TO hr (by omega) pass0 (pa_cons (pe_ix (r := rIxT K) ix_tup (pv 0) pe_int (fun _ _ => rfl)) (pa_cons pe_str pa_nil))))
      (pss_one (ps_ret (pe_and (pe_cmpR op_eq (pe_callB call_len_seq (by rfl) b_len PySem.boot_len (pa_cons (pv 0) pa_nil)) pe_int (nomark _)) (pe_and (pe_cc WOS hr (by omega) pass0 (pa_cons (pe_ix (r := rIxT K) ix_tup (pv 0) pe_int (fun _ _ => rfl)) (pa_cons (pe_gi g_MOST_NAMES) pa_nil))) (pe_one (pe_or (pe_cmpR op_isN (pe_ix (r := rIxT K) ix_tup (pv 0) pe_int (fun _ _ => rfl)) pe_non (nomark _)) (pe_one (pe_cc CW hr (by omega) pass0 (pa_cons (pe_ix (r := rIxT K) ix_tup (pv 0) pe_int (fun _ _ => rfl)) pa_nil)))))))))
      (pss_nil)) <|
    pss_one (ps_ret pe_bl), ?_⟩
  have fall : ∀ {tt : TT} {tz : TS} {b : Bool} {σ : L2.St}, EvT tt σ H b → b = true → EvS (tSeq (tIfS tt (L2.tRet (tC (.bl false))) tNext) tz) σ H false := fun h hb => (evs_if (b := false) h (fun _ => evs_ret (evd_c (.bl _))) fun c => absurd hb (by rw [c]; decide)).as (by cases ‹Bool› <;> rfl)
  cases d with
  | v x => exact EvS.go (fall (evt_or (b := false) (evt_not (evt_b (evd_isi (m := 0) (evd_var rfl hd) (.inr (.inr (.inr rfl)))))) fun c => (by cases x <;> cases c)) (by cases x <;> rfl)) kq
  | lst ds => exact EvS.go (fall (evt_or (b := false) (evt_not (evt_b (evd_isi (m := 0) (evd_var rfl hd) (.inr (.inr (.inr rfl)))))) fun c => (by cases c)) rfl) kq
  | dic => exact EvS.go (fall (evt_or (b := false) (evt_not (evt_b (evd_isi (m := 0) (evd_var rfl hd) (.inr (.inr (.inr rfl)))))) fun c => (by cases c)) rfl) kq
  | tup ds =>
    have t1 : EvT _ _ H (!(Dt.srt (.tup ds)).isT "tuple" || decide (V.int ((ds.length : Nat) : Int) = V.int 0)) := evt_or (evt_not (evt_b (evd_isi (K := K) (te := tVar 0) (σ := [some v, none]) (m := 0) (evd_var rfl hd) (.inr (.inr (.inr rfl)))))) fun _ => evt_t (evd_eqI (evd_lenT (K := K) (te := tVar 0) (n := 8) (m := 0) (evd_var rfl hd)) (evd_c (.int _)))
    cases ds with
    | nil => exact EvS.go (fall t1 rfl) kq
    | cons t r =>
      have hdt : ∀ {i : Int} {e : Dt}, L2.atI (t :: r) i = some e → EvD (tOp (rIxT K) (tVar 0) (tC (.int i))) [some v, none] H 9 e := fun h => EvD.lv (evd_ixT (n := 8) (evd_var rfl hd) (evd_c (.int _)) h) (by decide)
      have len : EvD (tCB (Evl.rLenS K) (tCons (tVar 0) tNil)) [some v, none] H 0 (.v (.int (((t :: r).length : Nat) : Int))) := evd_lenT (n := 8) (evd_var rfl hd)
      have sz := hs _ rfl
      refine EvS.go (EvS.as (evs_if (a := false) t1 (fun c => absurd c (by
        rw [show decide (V.int (((t :: r).length : Nat) : Int) = V.int 0) = false from len_no (k := 0) (by rw [List.length_cons]; omega)]
        exact Bool.false_ne_true)) fun _ => evs_if (evt_b (evd_c2 (n := 0) (hdt at0) (evd_c (.str (Str.ofString "thing"))) ⟨_, rfl⟩)) (fun _ => evs_ret (b := thD r) ?_) fun _ => evs_if (evt_b (evd_c2 (n := 0) (hdt at0) (evd_c (.str (Str.ofString "list"))) ⟨_, rfl⟩)) (fun _ => evs_ret (b := liD r) ?_) fun _ => evs_if (evt_b (evd_c2 (n := 0) (hdt at0) (evd_c (.str (Str.ofString "block"))) ⟨_, rfl⟩)) (fun _ => evs_ret (b := blD r) ?_) fun _ => evs_if (evt_b (evd_c2 (n := 0) (hdt at0) (evd_c (.str (Str.ofString "names"))) ⟨_, rfl⟩)) (fun _ => evs_ret (b := naD r) ?_) fun _ => evs_ret (evd_c (.bl false))) ?_) kq
      · by_cases hl : r.length = 2
        · match r, hl with
          | [k, ws], _ => exact evd_and (a := true) (evd_as (evd_eqI len (evd_c (.int _))) (len_yes (k := 3) rfl)) fun _ => evd_and (evd_c1 (hdt rfl) (sz k (.tail _ (.head _))).1) fun _ => evd_c2 (hdt rfl) (evd_c (.int _)) ⟨(sz ws (.tail _ (.tail _ (.head _)))).2, _, rfl⟩
        · rw [show thD r = false from (by match r with | [] => rfl | [_] => rfl | [_, _] => exact absurd rfl hl | _ :: _ :: _ :: _ => rfl)]
          exact evd_andF (evd_eqI len (evd_c (.int _))) (len_no (k := 3) (by rw [List.length_cons]; omega))
      · by_cases hl : r.length = 1
        · match r, hl with
          | [ws], _ => exact evd_and (a := true) (evd_as (evd_eqI len (evd_c (.int _))) (len_yes (k := 2) rfl)) fun _ => evd_c2 (hdt rfl) (evd_c (.int _)) ⟨(sz ws (.tail _ (.head _))).2, _, rfl⟩
        · rw [show liD r = false from (by match r with | [] => rfl | [_] => exact absurd rfl hl | _ :: _ :: _ => rfl)]
          exact evd_andF (evd_eqI len (evd_c (.int _))) (len_no (k := 2) (by rw [List.length_cons]; omega))
      · by_cases hl : r.length = 4
        · match r, hl with
          | [a, b, c, d], _ => exact evd_and (a := true) (evd_as (evd_eqI len (evd_c (.int _))) (len_yes (k := 5) rfl)) fun _ => evd_and (evd_allT (ds := [a, b]) (m := 8) (evd_cast (evd_slT (n := 8) (evd_var rfl hd) (evo_some (evd_c (.int _))) (evo_some (evd_c (.int _))) (by show ¬(HT.sIx 5 0 (some 1) = 0 ∧ HT.sIx 5 5 (some 3) = 5); decide)) rfl) (fun _ => rfl) fun e he x H2 s2 ax => evd_c1 (EvD.lv (evd_var rfl ax) (by decide)) trivial) fun _ => evd_c1 (d := .tup [c, d]) (evd_cast (evd_slT (n := 8) (evd_var rfl hd) (evo_some (evd_c (.int _))) evo_none (by show ¬(HT.sIx 5 0 (some 3) = 0 ∧ HT.sIx 5 5 none = 5); decide)) rfl) ⟨_, rfl⟩
        · rw [show blD r = false from (by match r with | [] => rfl | [_] => rfl | [_, _] => rfl | [_, _, _] => rfl | [_, _, _, _] => exact absurd rfl hl | _ :: _ :: _ :: _ :: _ :: _ => rfl)]
          exact evd_andF (evd_eqI len (evd_c (.int _))) (len_no (k := 5) (by rw [List.length_cons]; omega))
      · by_cases hl : r.length = 2
        · match r, hl with
          | [ws, o], _ => exact evd_and (a := true) (evd_as (evd_eqI len (evd_c (.int _))) (len_yes (k := 3) rfl)) fun _ => evd_and (evd_c2 (hdt rfl) (evd_c (.int _)) ⟨(sz ws (.tail _ (.head _))).2, _, rfl⟩) fun _ => evd_or (evd_isN (hdt rfl)) fun _ => evd_c1 (hdt rfl) trivial
        · rw [show naD r = false from (by match r with | [] => rfl | [_] => rfl | [_, _] => exact absurd rfl hl | _ :: _ :: _ :: _ => rfl)]
          exact evd_andF (evd_eqI len (evd_c (.int _))) (len_no (k := 3) (by rw [List.length_cons]; omega))
      · rw [show decide (V.int (((t :: r).length : Nat) : Int) = V.int 0) = false from len_no (k := 0) (by rw [List.length_cons]; omega)]
        rfl
end
end My
set_option Elab.async false
set_option linter.all false
set_option maxRecDepth 100000
set_option maxHeartbeats 4000000
namespace My
open PySem L2 SS
/-! ### defs that answer data; stars; comprehensions with a test -/
def EvR (ts : TS) (σ : L2.St) (H : Hp) (n : Nat) (d : Dt) : Prop := ∀ H1, Same H H1 → ∀ D : Ends, (∀ v H2, Same H1 H2 → AtD H2 n d v → D.rt v H2) → ts D σ H1
def spV1 (m : Nat) (S : Dt → Prop) (k : Nat) (g : Dt → Dt) : Sp := fun vs H Q _ => ∃ d v, vs = [v] ∧ AtD H m d v ∧ S d ∧ ∀ v' H', Same H H' → AtD H' k (g d) v' → Q v' H'
def spV2 (m : Nat) (S : Dt → Dt → Prop) (k : Nat) (g : Dt → Dt → Dt) : Sp := fun vs H Q _ => ∃ d e v u, vs = [v, u] ∧ AtD H m d v ∧ AtD H m e u ∧ S d e ∧ ∀ v' H', Same H H' → AtD H' k (g d e) v' → Q v' H'
section
variable {σ : L2.St} {H : Hp} {n m k : Nat} {d e : Dt} {ds es : List Dt} {te tb tl : TE} {ta : TA} {tt : TT} {ts tz : TS} {K : PySem.W.Frag} {a b c : Bool}
theorem evr_ret (h : EvD te σ H n d) : EvR (L2.tRet te) σ H n d := fun H1 s1 D q => h H1 s1 _ q
theorem evr_if (h : EvT tt σ H c) (k : c = true → EvR ts σ H n d) (k' : c = false → EvR tz σ H n d) : EvR (tSeq (tIfS tt ts tNext) tz) σ H n d := fun H1 s1 D q => h H1 s1 _ fun H2 s2 => by
  cases c with
  | true => exact iteT (k rfl H2 (s1.trans s2) _ fun v H3 s3 => q v H3 (s2.trans s3))
  | false => exact iteF (k' rfl H2 (s1.trans s2) _ fun v H3 s3 => q v H3 (s2.trans s3))
theorem evr_asg {i : Nat} (h : EvD te σ H m e) (k : ∀ v H1, Same H H1 → AtD H1 m e v → EvR tz (σ.set i (some v)) H1 n d) : EvR (tSeq (tAsg te (gName i)) tz) σ H n d := fun H1 s1 D q => h H1 s1 _ fun v H2 s2 r => k v H2 (s1.trans s2) r H2 (Same.refl _) _ fun w H3 s3 => q w H3 (s2.trans s3)
theorem evs_asg {i : Nat} (h : EvD te σ H m e) (k : ∀ v H1, Same H H1 → AtD H1 m e v → EvS tz (σ.set i (some v)) H1 b) : EvS (tSeq (tAsg te (gName i)) tz) σ H b := fun H1 s1 D q => h H1 s1 _ fun v H2 s2 r => k v H2 (s1.trans s2) r H2 (Same.refl _) _ fun H3 s3 => q H3 (s2.trans s3)
theorem EvR.go {D : Ends} (h : EvR ts σ H n d) (k : ∀ v H1, Same H H1 → AtD H1 n d v → D.rt v H1) : ts D σ H := h H (Same.refl _) D k
theorem evds_star (h : EvD te σ H (n + 1) (.tup ds)) (k : EvDs ta σ H n es) : EvDs (StX.tStar K te ta) σ H n (ds ++ es) := fun H1 s1 Q q => h H1 s1 _ fun v H2 s2 r => by
  obtain ⟨p, us, rfl, hp, _, al⟩ := r
  exact ⟨p, us, rfl, .inl (TupA.sq hp), k H2 (s1.trans s2) _ fun vs H3 s3 r' => q _ H3 (s2.trans s3) ((al.same s3).app r')⟩
theorem evd_v1 {S : Dt → Prop} {g : Dt → Dt} {E : XK} (h : EvD te σ H m d) (hs : S d) : EvD (tCall (spV1 m S k g) [] E (tCons te tNil)) σ H k (g d) := fun H1 s1 Q q => h H1 s1 _ fun v H2 s2 r => ⟨d, v, rfl, r, hs, fun v' H3 s3 r' => q _ H3 (s2.trans s3) r'⟩
theorem evd_v2 {S : Dt → Dt → Prop} {g : Dt → Dt → Dt} {E : XK} (h : EvD te σ H m d) (h' : EvD tb σ H m e) (hs : S d e) : EvD (tCall (spV2 m S k g) [] E (tCons te (tCons tb tNil))) σ H k (g d e) := fun H1 s1 Q q => h H1 s1 _ fun v H2 s2 r => h' H2 (s1.trans s2) _ fun u H3 s3 r' => ⟨d, e, v, u, rfl, r.same s3, r', hs, fun v' H4 s4 r'' => q _ H4 (s2.trans (s3.trans s4)) r''⟩
/-- [e for x in t if c] -/
theorem evd_lcTif {i : Nat} {ws : List Nat} {f : Dt → Dt} {g : Dt → Bool} (h : EvD tl σ H (m + 1) (.tup ds)) (hw : ∀ x : Option V, wipe ((wipe σ ws).set i x) ws = wipe σ ws) (ht : ∀ d ∈ ds, ∀ x H2, Same H H2 → AtD H2 m d x → EvT tt ((wipe σ ws).set i (some x)) H2 (g d)) (he : ∀ d ∈ ds, g d = true → ∀ x H2, Same H H2 → AtD H2 m d x → EvD te ((wipe σ ws).set i (some x)) H2 n (f d)) (hn : ∀ d ∈ ds, g d = true → NlD (f d)) : EvD (tLc (iTup K tl) (gName i) tt te ws) σ H (n + 1) (.lst ((ds.filter g).map f)) := fun H1 s1 Q q => h H1 s1 _ fun v H2 s2 r => by
  obtain ⟨p, us, rfl, hp, hl, al⟩ := r
  have lu := al.len
  refine ⟨p, rfl, ⟨us, TupA.sq hp⟩, fun D hD => ?_⟩
  refine lc_tup (xs := us) (fun i Hn => Same H2 Hn ∧ ∃ acc, Hn D = some (.lst acc) ∧ All2 (AtD Hn n) (((ds.take i).filter g).map f) acc) ⟨same_new hD _, [], upd_same, .nil⟩ (fun i Hn _ ⟨s, _⟩ => TupA.sq (TupA.same s hp)) ?_ ?_
  · rintro i x Hn hx ⟨s, acc, hacc, hal⟩
    refine ⟨hw _, ?_⟩
    obtain ⟨d, hd, ad⟩ := al.get hx
    have hdm := List.mem_of_getElem? hd
    have sH := s1.trans (s2.trans s)
    have hi : i < us.length := by
      by_cases c : i < us.length
      · exact c
      · rw [List.getElem?_eq_none (by omega)] at hx; cases hx
    have e : (ds.take (i + 1)).filter g = (ds.take i).filter g ++ (if g d = true then [d] else []) := by
      rw [List.take_add_one, hd, List.filter_append]
      cases hg : g d with
      | true => simp [hg]
      | false => simp [hg]
    refine ht d hdm x Hn sH (ad.same s) Hn (Same.refl _) _ fun H3 s3 => ?_
    by_cases hg : g d = true
    · rw [if_pos hg]
      rw [if_pos hg] at e
      refine he d hdm hg x H3 (sH.trans s3) ((ad.same s).same s3) H3 (Same.refl _) _ fun y H4 s4 ay => ?_
      have s34 := s3.trans s4
      have hacc4 := s34 _ _ hacc
      have hlen := hal.len
      have hf : ((ds.take i).filter g).length ≤ i := Nat.le_trans (List.length_filter_le _ _) (by rw [List.length_take]; omega)
      rw [List.length_map] at hlen
      refine ⟨acc, hacc4, by rw [sizeLine_eq]; omega, same_upd (s.trans s34) hD _, acc ++ [y], upd_same, ?_⟩
      have tt := tups_lst (ys := acc ++ [y]) hacc4
      rw [e, List.map_append]
      refine All2.app ((hal.same s34).impM fun a ha b r => AtD.tups tt r ?_) (.cons (AtD.tups tt ay (hn d hdm hg)) .nil)
      obtain ⟨d', hd', rfl⟩ := List.mem_map.mp ha
      obtain ⟨h1, h2⟩ := List.mem_filter.mp hd'
      exact hn d' (List.mem_of_mem_take h1) h2
    · rw [if_neg hg]
      rw [if_neg hg, List.append_nil] at e
      exact ⟨s.trans s3, acc, s3 _ _ hacc, by rw [e]; exact hal.same s3⟩
  · rintro Hn ⟨s, acc, hacc, hal⟩
    have e : us.length = ds.length := lu.symm
    rw [e, List.take_length] at hal
    refine q _ Hn (s2.trans s) ⟨D, acc, rfl, hacc, ?_, hal⟩
    rw [List.length_map]
    exact Nat.le_trans (List.length_filter_le _ _) hl
end
end My
set_option Elab.async false
set_option linter.all false
set_option maxRecDepth 100000
set_option maxHeartbeats 4000000
namespace My
open PySem L2 SS
def sndD (r : List Dt) : Dt := match r with
  | [_, b] => b
  | _ => .v .non
def fstD (r : List Dt) : Dt := match r with
  | a :: _ => a
  | _ => .v .non
def tupsD (d : Dt) : List Dt := match d with
  | .tup ds => ds
  | _ => []
/-- the worths in a cell -/
def wiD (d : Dt) : Dt := match d with
  | .tup (t :: r) => if textIsD t (.str (Str.ofString "thing")) = true then sndD r else if textIsD t (.str (Str.ofString "list")) = true then fstD r else if textIsD t (.str (Str.ofString "block")) = true then .tup (r.drop 2) else .tup (tupsD (fstD r) ++ [sndD r])
  | _ => .v .non
theorem cell_text {t : Dt} {r : List Dt} (h : cellD (.tup (t :: r)) = true) : ∃ z, t = .v (.str z) := by
  cases t with
  | v x => cases x <;> first | exact ⟨_, rfl⟩ | cases h
  | _ => cases h
theorem cell_cons {d : Dt} (h : cellD d = true) : ∃ z r, d = .tup (.v (.str z) :: r) := by
  cases d with
  | tup ds =>
    cases ds with
    | nil => cases h
    | cons t r =>
      obtain ⟨z, rfl⟩ := cell_text h
      exact ⟨z, r, rfl⟩
  | _ => cases h
theorem th_shape {r : List Dt} (h : thD r = true) : ∃ k ws, r = [k, .tup ws] ∧ kwD k = true ∧ wosD (.tup ws) (.int 8) = true := by
  match r, h with
  | [k, ws], h =>
    have h' := Bool.and_eq_true _ _ ▸ h
    cases ws with
    | tup ds => exact ⟨k, ds, rfl, h'.1, h'.2⟩
    | _ => cases h'.2
theorem li_shape {r : List Dt} (h : liD r = true) : ∃ ws, r = [.tup ws] ∧ wosD (.tup ws) (.int 30) = true := by
  match r, h with
  | [ws], h =>
    cases ws with
    | tup ds => exact ⟨ds, rfl, h⟩
    | _ => cases h
theorem bl_shape {r : List Dt} (h : blD r = true) : ∃ a b c d, r = [a, b, c, d] ∧ num0D a = true ∧ num0D b = true ∧ cwD c = true ∧ cwD d = true := by
  match r, h with
  | [a, b, c, d], h =>
    have h : (num0D a && (num0D b && true) && (cwD c && (cwD d && true))) = true := h
    simp only [Bool.and_true, Bool.and_eq_true] at h
    exact ⟨a, b, c, d, rfl, h.1.1, h.1.2, h.2.1, h.2.2⟩
theorem na_shape {r : List Dt} (h : naD r = true) : ∃ ws o, r = [.tup ws, o] ∧ wosD (.tup ws) (.int 12) = true ∧ (decide (o.srt = .non) || cwD o) = true := by
  match r, h with
  | [ws, o], h =>
    have h' := Bool.and_eq_true _ _ ▸ h
    cases ws with
    | tup ds => exact ⟨ds, o, rfl, h'.1, h'.2⟩
    | _ => cases h'.1
section
variable {P : Program} {w : World} {K : PySem.W.Frag} {mg : Str → Option Value} {base : Heap}
theorem scWi : FnScope ["cell", "sort"] ["cell"] (defScope s_worths_in) := ⟨rfl, rfl, rfl, by decide +kernel, rfl, by decide +kernel, by decide +kernel⟩
theorem c_wi (D : Dn K mg "worths_in" s_worths_in) : C0 P w K mg base 1 "worths_in" (spV1 9 (fun d => cellD d = true) 9 wiD) := by
  obtain ⟨f, fd, F, hmm⟩ := D.ex
  refine ⟨f, fd, ["cell"], F.ok scWi (fun vs H Q E h => ?_) (fun cdv A outer s H vs Q E hr h => ?_), hmm, F.kp, F.binds (ps := ["cell"]) fun _ _ _ _ _ _ us hl => match us, hl with | [_], _ => rfl⟩
  · obtain ⟨d, v, rfl, _⟩ := h
    rfl
  obtain ⟨d, v, rfl, hd, hc, kq⟩ := h
  refine ⟨_, pss_cons (ps_set (i := 1) scWi.nd rfl (Or.inl rfl) (pe_ix (r := rIxT K) ix_tup (pv 0) pe_int (fun _ _ => rfl))) <|
    pss_cons (ps_if (pt_cmpR op_eq (pv 1) pe_str (nomark _))
      (pss_one (ps_ret (pe_ix (r := rIxT K) ix_tup (pv 0) pe_int (fun _ _ => rfl))))
      (pss_nil)) <|
    pss_cons (ps_if (pt_cmpR op_eq (pv 1) pe_str (nomark _))
      (pss_one (ps_ret (pe_ix (r := rIxT K) ix_tup (pv 0) pe_int (fun _ _ => rfl))))
      (pss_nil)) <|
    pss_cons (ps_if (pt_cmpR op_eq (pv 1) pe_str (nomark _))
      (pss_one (ps_ret (pe_slice sl_tup (pv 0) (po_some pe_int) po_none)))
      (pss_nil)) <|
    pss_one (ps_ret (pe_tup (StX.pa_star (pe_ix (r := rIxT K) ix_tup (pv 0) pe_int (fun _ _ => rfl)) (pa_cons (pe_ix (r := rIxT K) ix_tup (pv 0) pe_int (fun _ _ => rfl)) pa_nil)))), ?_⟩
  obtain ⟨z, r, rfl⟩ := cell_cons hc
  have hdt : ∀ {σ : L2.St} {H1 : Hp} {i : Int} {e : Dt}, σ[0]? = some (some v) → Same H H1 → L2.atI (.v (.str z) :: r) i = some e → EvD (tOp (rIxT K) (tVar 0) (tC (.int i))) σ H1 9 e := fun h s1 h2 => EvD.lv (evd_ixT (n := 8) (evd_var h (hd.same s1)) (evd_c (.int _)) h2) (by decide)
  refine EvR.go (evr_asg (m := 9) (hdt rfl (Same.refl _) at0) fun v1 H1 s1 a1 => ?_) kq
  obtain ⟨rfl, _⟩ := atD_pl a1
  have tst : ∀ (y : Str), EvT (tTest (tOp rEq (tVar 1) (tC (.str y)))) [some v, some (.str z)] H1 (textIsD (.v (.str z)) (.str y)) := fun y => evt_t (evd_eqS (n := 0) (evd_var rfl (atD_v (.str _))) (evd_c (.str _)))
  refine evr_if (tst _) (fun c1 => ?_) fun c1 => evr_if (tst _) (fun c2 => ?_) fun c2 => evr_if (tst _) (fun c3 => ?_) fun c3 => ?_
  · have hc' : thD r = true := by
      unfold cellD at hc
      simp only [c1, if_true] at hc
      exact hc
    obtain ⟨k, ws, rfl, _, _⟩ := th_shape hc'
    have e : wiD (.tup [.v (.str z), k, .tup ws]) = .tup ws := by
      unfold wiD
      simp only [c1, if_true]
      rfl
    rw [e]
    exact evr_ret (hdt rfl s1 rfl)
  · have hc' : liD r = true := by
      unfold cellD at hc
      simp only [c1, c2, if_true, Bool.false_eq_true, if_false] at hc
      exact hc
    obtain ⟨ws, rfl, _⟩ := li_shape hc'
    have e : wiD (.tup [.v (.str z), .tup ws]) = .tup ws := by
      unfold wiD
      simp only [c1, c2, if_true, Bool.false_eq_true, if_false]
      rfl
    rw [e]
    exact evr_ret (hdt rfl s1 rfl)
  · have hc' : blD r = true := by
      unfold cellD at hc
      simp only [c1, c2, c3, if_true, Bool.false_eq_true, if_false] at hc
      exact hc
    obtain ⟨a, b, c, d, rfl, _⟩ := bl_shape hc'
    have e : wiD (.tup [.v (.str z), a, b, c, d]) = .tup [c, d] := by
      unfold wiD
      simp only [c1, c2, c3, if_true, Bool.false_eq_true, if_false]
      rfl
    rw [e]
    exact evr_ret (evd_cast (evd_slT (n := 8) (evd_var rfl (hd.same s1)) (evo_some (evd_c (.int _))) evo_none (by show ¬(HT.sIx 5 0 (some 3) = 0 ∧ HT.sIx 5 5 none = 5); decide)) rfl)
  · have hc' : naD r = true := by
      unfold cellD at hc
      simp only [c1, c2, c3, if_true, Bool.false_eq_true, if_false] at hc
      split at hc
      · exact hc
      · cases hc
    obtain ⟨ws, o, rfl, hw, _⟩ := na_shape hc'
    have e : wiD (.tup [.v (.str z), .tup ws, o]) = .tup (ws ++ [o]) := by
      unfold wiD
      simp only [c1, c2, c3, if_true, Bool.false_eq_true, if_false]
      rfl
    have hl : ws.length ≤ 12 := by
      have := (Bool.and_eq_true _ _ ▸ hw).1
      have := of_decide_eq_true this
      omega
    rw [e]
    exact evr_ret (evd_tup (evds_star (n := 8) (hdt rfl s1 rfl) (evds_cons (evd_ixT (n := 8) (evd_var rfl (hd.same s1)) (evd_c (.int _)) rfl) evds_nil)) (by rw [List.length_append]; show _ + 1 ≤ _; omega))
/-- a cell of other worths -/
abbrev S2d (s : String) : Dt := .v (.str (Str.ofString s))
def wwD (d e : Dt) : Dt := match d with
  | .tup (t :: r) => if textIsD t (.str (Str.ofString "thing")) = true then .tup [S2d "thing", fstD r, e] else if textIsD t (.str (Str.ofString "list")) = true then .tup [S2d "list", e] else if textIsD t (.str (Str.ofString "block")) = true then .tup ((t :: r).take 3 ++ tupsD e) else .tup [S2d "names", .tup ((tupsD e).take ((tupsD e).length - 1)), (tupsD e).getLastD (.v .non)]
  | _ => .v .non
theorem scAa : FnScope ["worths", "worth"] ["worths"] (defScope s_addresses_among) := ⟨rfl, rfl, rfl, by decide +kernel, rfl, by decide +kernel, by decide +kernel⟩
def isTupD (d : Dt) : Bool := d.srt.isT "tuple"
def adrD (d : Dt) : Dt := match d with
  | .tup [_, b] => b
  | _ => .v .non
def aaD (d : Dt) : Dt := .lst (((tupsD d).filter isTupD).map adrD)
theorem cw_shape {d : Dt} (h : cwD d = true) : ∃ i : Int, d = .tup [.v (.str (Str.ofString "cell")), .v (.int i)] ∧ 0 ≤ i := by
  cases d with
  | tup ds =>
    match ds, h with
    | [a, b], h =>
      have h' := Bool.and_eq_true _ _ ▸ h
      have h1 := h'.1
      have h2 := h'.2
      cases b with
      | v x =>
        cases x with
        | int i =>
          cases a with
          | v y =>
            cases y with
            | str z =>
              have := of_decide_eq_true h1
              injection this with this
              exact ⟨i, by rw [this], of_decide_eq_true h2⟩
            | _ => cases h1
          | _ => cases h1
        | _ => cases h2
      | _ => cases h2
  | _ => cases h
theorem wo_tup {d : Dt} (h : woD d = true) (ht : isTupD d = true) : cwD d = true := by
  cases d with
  | tup ds => exact h
  | v x => cases x <;> cases ht
  | _ => cases ht
theorem c_aa (b_isinstance : mg "isinstance" = none) (b_tuple : mg "tuple" = none) (D : Dn K mg "addresses_among" s_addresses_among) : C0 P w K mg base 1 "addresses_among" (spV1 9 (fun d => ∃ ds, d = .tup ds ∧ ∀ e ∈ ds, woD e = true) 8 aaD) := by
  obtain ⟨f, fd, F, hmm⟩ := D.ex
  refine ⟨f, fd, ["worths"], F.ok scAa (fun vs H Q E h => ?_) (fun cdv A outer s H vs Q E hr h => ?_), hmm, F.kp, F.binds (ps := ["worths"]) fun _ _ _ _ _ _ us hl => match us, hl with | [_], _ => rfl⟩
  · obtain ⟨d, v, rfl, _⟩ := h
    rfl
  obtain ⟨d, v, rfl, hd, ⟨ds, rfl, hw⟩, kq⟩ := h
  refine ⟨_, pss_one (ps_ret (pe_lc (own := [("worth", 1)]) (g := (gName 1)) (tt := tB (tCB (rIsi K) (tCons (tVar 1) (tCons (tC (.ty "tuple")) tNil)))) rfl scAa.nd (pi_tup (pv 0)) (blkOk_by (own := [("worth", 1)]) (N := ["worths", "worth"]) (sc := defScope s_addresses_among) (by decide +kernel)) (fun _ _ _ _ _ => (pg_name (i := 1) scAa.nd rfl (Or.inl rfl))) (fun _ _ _ _ _ => pts_one (pt_val (pe_callB (id := "isinstance") call_isi (by rfl) b_isinstance (by decide +kernel) (pa_cons (pv 1) (pa_cons (pe_bltn (v := .ty "tuple") (by rfl) b_tuple (by decide +kernel) rfl) pa_nil))))) (fun _ _ _ _ _ => (pe_ix (r := rIxT K) ix_tup (pv 1) pe_int (fun _ _ => rfl))))), ?_⟩
  refine EvR.go (evr_ret (evd_lcTif (m := 8) (n := 7) (f := adrD) (g := isTupD) (evd_var rfl hd) (fun _ => rfl) (fun e he x H2 s2 ax => evt_b (evd_isi (m := 0) (evd_var rfl ax) (.inr (.inr (.inr rfl))))) (fun e he hg x H2 s2 ax => ?_) fun e he hg => ?_)) kq
  · obtain ⟨i, rfl, _⟩ := cw_shape (wo_tup (hw e he) hg)
    exact evd_ixT (n := 7) (evd_var rfl ax) (evd_c (.int _)) rfl
  · obtain ⟨i, rfl, _⟩ := cw_shape (wo_tup (hw e he) hg)
    exact .v
end
end My
set_option Elab.async false
set_option linter.all false
set_option maxRecDepth 100000
set_option maxHeartbeats 4000000
namespace My
open PySem L2 SS
/-! ### comprehensions with any target; over zip -/
section
variable {σ : L2.St} {H : Hp} {n m k : Nat} {d e : Dt} {ds es : List Dt} {te tb tl : TE} {ta : TA} {tt : TT} {ts tz : TS} {tg : TG} {K : PySem.W.Frag} {a b c : Bool}
theorem evd_lcG {ws : List Nat} {f : Dt → Dt} (h : EvD tl σ H (m + 1) (.tup ds)) (he : ∀ d ∈ ds, ∀ x H2, Same H H2 → AtD H2 m d x → ∀ R : L2.St → Hp → Prop, (∀ σ2 H3, Same H2 H3 → wipe σ2 ws = wipe σ ws → EvD te σ2 H3 n (f d) → R σ2 H3) → tg x (wipe σ ws) H2 R) (hn : ∀ d ∈ ds, NlD (f d)) : EvD (tLc (iTup K tl) tg tYes te ws) σ H (n + 1) (.lst (ds.map f)) := fun H1 s1 Q q => h H1 s1 _ fun v H2 s2 r => by
  obtain ⟨p, us, rfl, hp, hl, al⟩ := r
  have lu := al.len
  refine ⟨p, rfl, ⟨us, TupA.sq hp⟩, fun D hD => ?_⟩
  refine lc_tup (xs := us) (fun i Hn => Same H2 Hn ∧ ∃ acc, Hn D = some (.lst acc) ∧ All2 (AtD Hn n) ((ds.take i).map f) acc) ⟨same_new hD _, [], upd_same, .nil⟩ (fun i Hn _ ⟨s, _⟩ => TupA.sq (TupA.same s hp)) ?_ ?_
  · rintro i x Hn hx ⟨s, acc, hacc, hal⟩
    obtain ⟨d, hd, ad⟩ := al.get hx
    refine he d (List.mem_of_getElem? hd) x Hn (s1.trans (s2.trans s)) (ad.same s) _ fun σ2 H5 s5 hw hev => ⟨hw, ?_⟩
    unfold tYes
    simp only [if_true]
    refine hev H5 (Same.refl _) _ fun y H3 s3' ay => ?_
    have s3 := s5.trans s3'
    have hacc3 := s3 _ _ hacc
    have hlen := hal.len
    rw [List.length_map, List.length_take] at hlen
    have hi : i < us.length := by
      by_cases c : i < us.length
      · exact c
      · rw [List.getElem?_eq_none (by omega)] at hx; cases hx
    refine ⟨acc, hacc3, by rw [sizeLine_eq]; omega, same_upd (s.trans s3) hD _, acc ++ [y], upd_same, ?_⟩
    have e : (ds.take (i + 1)).map f = (ds.take i).map f ++ [f d] := by rw [List.take_add_one, hd, List.map_append]; rfl
    have tt := tups_lst (ys := acc ++ [y]) hacc3
    rw [e]
    refine All2.app ((hal.same s3).impM fun a ha b r => AtD.tups tt r ?_) (.cons (AtD.tups tt ay (hn d (List.mem_of_getElem? hd))) .nil)
    obtain ⟨d', hd', rfl⟩ := List.mem_map.mp ha
    exact hn d' (List.mem_of_mem_take hd')
  · rintro Hn ⟨s, acc, hacc, hal⟩
    have e : us.length = ds.length := lu.symm
    rw [e, List.take_length] at hal
    exact q _ Hn (s2.trans s) ⟨D, acc, rfl, hacc, by rw [List.length_map]; exact hl, hal⟩
theorem evd_allG {ws : List Nat} {g : Dt → Bool} (h : EvD tl σ H (m + 1) (.tup ds)) (he : ∀ d ∈ ds, ∀ x H2, Same H H2 → AtD H2 m d x → ∀ R : L2.St → Hp → Prop, (∀ σ2 H3, Same H2 H3 → wipe σ2 ws = wipe σ ws → EvD te σ2 H3 0 (.v (.bl (g d))) → R σ2 H3) → tg x (wipe σ ws) H2 R) : EvD (tCB (rAll K) (tCons (tLc (iTup K tl) tg tYes te ws) tNil)) σ H n (.v (.bl (ds.all g))) := evd_all (evd_lcG h he fun _ _ => .v)
theorem evd_lcL {ws : List Nat} {f : Dt → Dt} (h : EvD tl σ H (m + 1) (.lst ds)) (he : ∀ d ∈ ds, ∀ x H2, Same H H2 → AtD H2 m d x → ∀ R : L2.St → Hp → Prop, (∀ σ2 H3, Same H2 H3 → wipe σ2 ws = wipe σ ws → EvD te σ2 H3 n (f d) → R σ2 H3) → tg x (wipe σ ws) H2 R) (hn : ∀ d ∈ ds, NlD (f d)) : EvD (tLc (iList K tl) tg tYes te ws) σ H (n + 1) (.lst (ds.map f)) := fun H1 s1 Q q => h H1 s1 _ fun v H2 s2 r => by
  obtain ⟨p, us, rfl, hp, hl, al⟩ := r
  have lu := al.len
  refine ⟨p, rfl, ⟨us, SqL.of hp⟩, fun D hD => ?_⟩
  refine lc_list (xs := us) (fun i Hn => Same H2 Hn ∧ ∃ acc, Hn D = some (.lst acc) ∧ All2 (AtD Hn n) ((ds.take i).map f) acc) ⟨same_new hD _, [], upd_same, .nil⟩ (fun i Hn _ ⟨s, _⟩ => SqL.of (s _ _ hp)) ?_ ?_
  · rintro i x Hn hx ⟨s, acc, hacc, hal⟩
    obtain ⟨d, hd, ad⟩ := al.get hx
    refine he d (List.mem_of_getElem? hd) x Hn (s1.trans (s2.trans s)) (ad.same s) _ fun σ2 H5 s5 hw hev => ⟨hw, ?_⟩
    unfold tYes
    simp only [if_true]
    refine hev H5 (Same.refl _) _ fun y H3 s3' ay => ?_
    have s3 := s5.trans s3'
    have hacc3 := s3 _ _ hacc
    have hlen := hal.len
    rw [List.length_map, List.length_take] at hlen
    have hi : i < us.length := by
      by_cases c : i < us.length
      · exact c
      · rw [List.getElem?_eq_none (by omega)] at hx; cases hx
    refine ⟨acc, hacc3, by rw [sizeLine_eq]; omega, same_upd (s.trans s3) hD _, acc ++ [y], upd_same, ?_⟩
    have e : (ds.take (i + 1)).map f = (ds.take i).map f ++ [f d] := by rw [List.take_add_one, hd, List.map_append]; rfl
    have tt := tups_lst (ys := acc ++ [y]) hacc3
    rw [e]
    refine All2.app ((hal.same s3).impM fun a ha b r => AtD.tups tt r ?_) (.cons (AtD.tups tt ay (hn d (List.mem_of_getElem? hd))) .nil)
    obtain ⟨d', hd', rfl⟩ := List.mem_map.mp ha
    exact hn d' (List.mem_of_mem_take hd')
  · rintro Hn ⟨s, acc, hacc, hal⟩
    have e : us.length = ds.length := lu.symm
    rw [e, List.take_length] at hal
    exact q _ Hn (s2.trans s) ⟨D, acc, rfl, hacc, by rw [List.length_map]; exact hl, hal⟩
theorem evd_allL {ws : List Nat} {g : Dt → Bool} (h : EvD tl σ H (m + 1) (.lst ds)) (he : ∀ d ∈ ds, ∀ x H2, Same H H2 → AtD H2 m d x → ∀ R : L2.St → Hp → Prop, (∀ σ2 H3, Same H2 H3 → wipe σ2 ws = wipe σ ws → EvD te σ2 H3 0 (.v (.bl (g d))) → R σ2 H3) → tg x (wipe σ ws) H2 R) : EvD (tCB (rAll K) (tCons (tLc (iList K tl) tg tYes te ws) tNil)) σ H n (.v (.bl (ds.all g))) := evd_all (evd_lcL h he fun _ _ => .v)
theorem evt_as (h : EvT tt σ H a) (e : a = b) : EvT tt σ H b := e ▸ h
/-- a target of two names, a pair -/
theorem tg_pair {i j : Nat} {H2 : Hp} {x : V} {p q : Dt} {R : L2.St → Hp → Prop} (h : AtD H2 (m + 1) (.tup [p, q]) x) (k : ∀ u v, AtD H2 m p u → AtD H2 m q v → R ((σ.set i (some u)).set j (some v)) H2) : gTup K 2 (gCons (gName i) (gCons (gName j) gNil)) x σ H2 R := by
  obtain ⟨t, us, rfl, ht, _, al⟩ := h
  obtain ⟨u, cs, rfl, r1, al⟩ := all2_c al
  obtain ⟨v, rfl, r2⟩ := all2_1 al
  exact ⟨t, _, rfl, TupA.sq ht, rfl, _, _, rfl, _, _, rfl, rfl, k u v r1 r2⟩
theorem evd_tupofT (h : EvD te σ H (n + 1) (.tup ds)) : EvD (tCB (fun xs H Q => ∃ p ys, xs = [V.ref p] ∧ ((SqL K H p ys ∧ ∀ (l : Addr), H l = none → Q (V.ref l) (upd H l (HO.tup ys))) ∨ SqT K H p ys ∧ Q (V.ref p) H)) (tCons te tNil)) σ H (n + 1) (.tup ds) := fun H1 s1 Q q => h H1 s1 _ fun v H2 s2 a => by
  obtain ⟨p, us, rfl, hp, l0, h1⟩ := a
  exact ⟨p, us, rfl, .inr ⟨TupA.sq hp, q _ _ s2 ⟨p, us, rfl, hp, l0, h1⟩⟩⟩
/-- a slice of a tuple, be it the whole -/
theorem evd_slA {tl th : TO} {lo hi : Option Int} (h : EvD te σ H (n + 1) (.tup ds)) (hl : EvO tl σ H lo) (hh : EvO th σ H hi) : EvD (tSl (rSlA K) te tl th) σ H (n + 1) (.tup (cutD ds lo hi)) := fun H1 s1 Q q => h H1 s1 _ fun v H2 s2 a => hl H2 (s1.trans s2) _ fun H3 s3 => hh H3 (s1.trans (s2.trans s3)) _ fun H4 s4 => by
  obtain ⟨p, us, rfl, hp, l0, h1⟩ := a
  have s24 := s3.trans s4
  have hlen := h1.len
  refine ⟨p, us, rfl, TupA.sq (TupA.same s24 hp), fun c => ?_, fun c r hr => ?_⟩
  · have e : cutD ds lo hi = ds := by
      unfold cutD
      rw [hlen, c.1, c.2, ← hlen, Nat.sub_zero, List.drop_zero, List.take_length]
    rw [e] at q
    exact q _ _ (s2.trans s24) ⟨p, us, rfl, TupA.same s24 hp, l0, h1.same s24⟩
  · have s5 := same_new hr (.tup (cutV us lo hi))
    exact q _ _ (s2.trans (s24.trans s5)) ⟨r, _, rfl, .inl upd_same, by have := cutD_len ds lo hi; omega, ((h1.same (s24.trans s5)).cut lo hi)⟩
/-- [e for x, y in zip(t, u)] -/
theorem evd_lcZ {i j : Nat} {ws : List Nat} {f : Dt → Dt → Dt} (h : EvD te σ H (m + 1) (.tup ds)) (h' : EvD tb σ H (m + 1) (.tup es)) (hw : ∀ x y : Option V, wipe (((wipe σ ws).set i x).set j y) ws = wipe σ ws) (he : ∀ d e, (d, e) ∈ ds.zip es → ∀ x y H2, Same H H2 → AtD H2 m d x → AtD H2 m e y → EvD tl (((wipe σ ws).set i (some x)).set j (some y)) H2 n (f d e)) (hn : ∀ d e, (d, e) ∈ ds.zip es → NlD (f d e)) : EvD (tLc (RZ.iZipA K (tCons te (tCons tb tNil))) (gTup K 2 (gCons (gName i) (gCons (gName j) gNil))) tYes tl ws) σ H (n + 1) (.lst ((ds.zip es).map fun z => f z.1 z.2)) := fun H1 s1 Q q => h H1 s1 _ fun v H2 s2 r => h' H2 (s1.trans s2) _ fun v' H3 s3 r' => by
  obtain ⟨p, us, rfl, hp2, hl, al2⟩ := r
  obtain ⟨p', us', rfl, hp', hl', al'⟩ := r'
  have hp := TupA.same s3 hp2
  have al := al2.same s3
  have lu := al.len
  have lu' := al'.len
  refine ⟨p, p', us, us', rfl, .inr ⟨TupA.sq hp, TupA.sq hp', fun D hD => ?_⟩⟩
  refine lc_it (walk_zipT (a := p) (b := p') (xs := us) (ys := us') rfl) (fun i Hn => Same H3 Hn ∧ ∃ acc, Hn D = some (.lst acc) ∧ All2 (AtD Hn n) (((ds.zip es).take i).map fun z => f z.1 z.2) acc) ⟨same_new hD _, [], upd_same, .nil⟩ (fun i Hn _ h => ⟨TupA.sq (TupA.same h.1 hp), TupA.sq (TupA.same h.1 hp')⟩) ?_ ?_
  · rintro i' z Hn Hm hi ⟨s, acc, hacc, hal⟩ ⟨T, u, v, rfl, hT, rfl, hu, hv⟩
    have sT := same_new hT (.tup [u, v])
    have fT : upd Hn T (.tup [u, v]) T = some (.tup [u, v]) := upd_same
    generalize upd Hn T (.tup [u, v]) = H5 at sT fT ⊢
    obtain ⟨d, hd, ad⟩ := al.get hu
    obtain ⟨e, he', ae⟩ := al'.get hv
    have hz : (ds.zip es)[i']? = some (d, e) := by rw [List.getElem?_zip_eq_some]; exact ⟨hd, he'⟩
    have hzm := List.mem_of_getElem? hz
    have s5 := s.trans sT
    refine ⟨T, _, rfl, SqT.of fT, rfl, _, _, rfl, _, _, rfl, rfl, hw _ _, ?_⟩
    unfold tYes
    simp only [if_true]
    refine he d e hzm u v H5 (s1.trans (s2.trans (s3.trans s5))) (ad.same s5) (ae.same s5) H5 (Same.refl _) _ fun y H6 s6 ay => ?_
    have s56 := sT.trans s6
    have hacc6 := s56 _ _ hacc
    have hlen := hal.len
    rw [List.length_map, List.length_take] at hlen
    refine ⟨acc, hacc6, by rw [sizeLine_eq]; omega, same_upd (s.trans s56) hD _, acc ++ [y], upd_same, ?_⟩
    have e1 : ((ds.zip es).take (i' + 1)).map (fun z => f z.1 z.2) = ((ds.zip es).take i').map (fun z => f z.1 z.2) ++ [f d e] := by rw [List.take_add_one, hz, List.map_append]; rfl
    have tt := tups_lst (ys := acc ++ [y]) hacc6
    rw [e1]
    refine All2.app ((hal.same s56).impM fun a ha b r => AtD.tups tt r ?_) (.cons (AtD.tups tt ay (hn d e hzm)) .nil)
    obtain ⟨⟨d', e''⟩, hd', rfl⟩ := List.mem_map.mp ha
    exact hn d' e'' (List.mem_of_mem_take hd')
  · rintro Hn ⟨s, acc, hacc, hal⟩
    have e : min us.length us'.length = (ds.zip es).length := by rw [List.length_zip, lu, lu']
    rw [e, List.take_length] at hal
    exact q _ Hn (s2.trans (s3.trans s)) ⟨D, acc, rfl, hacc, by rw [List.length_map, ← e]; omega, hal⟩
theorem evd_lenL (h : EvD te σ H (n + 1) (.lst ds)) : EvD (tCB (Evl.rLenS K) (tCons te tNil)) σ H m (.v (.int (ds.length : Nat))) := fun H1 s1 Q q => h H1 s1 _ fun v H2 s2 r => by
  obtain ⟨p, us, rfl, hp, _, h1⟩ := r
  refine ⟨p, us, rfl, .inl (SqL.of hp), ?_⟩
  rw [← h1.len]
  exact q _ H2 s2 (atD_v (.int _))
theorem evd_lenSet {ns : List Int} (h : EvD te σ H (n + 1) (.lst (ns.map fun i => .v (.int i)))) (hn : ns.Nodup) (hl : ns.length ≤ 4000) : EvD (RZ.tLenSetI K te) σ H m (.v (.int (ns.length : Nat))) := fun H1 s1 Q q => h H1 s1 _ fun v H2 s2 r => by
  obtain ⟨p, us, rfl, hp, _, al⟩ := r
  have e : us = ns.map V.int := by
    clear hp h q hn hl
    rename_i hlz
    clear hlz
    induction ns generalizing us with
    | nil => exact all2_n al
    | cons z zs ih =>
      obtain ⟨b, cs, rfl, r1, al⟩ := all2_c al
      rw [ih cs al, (atD_pl r1).1]
      rfl
  exact ⟨p, ns, rfl, SqL.of (by rw [hp, e]), hn, hl, q _ H2 s2 (atD_v (.int _))⟩
theorem evd_allP {α : Type} {zs : List α} {g : α → Bool} (h : EvD te σ H (n + 1) (.lst (zs.map fun z => .v (.bl (g z))))) : EvD (tCB (rAll K) (tCons te tNil)) σ H m (.v (.bl (zs.all g))) := fun H1 s1 Q q => h H1 s1 _ fun v H2 s2 r => by
  obtain ⟨p, us, rfl, hp, hlz, al⟩ := r
  have e : us = (zs.map g).map V.bl := by
    clear hp h q hlz
    induction zs generalizing us with
    | nil => exact all2_n al
    | cons z zs ih =>
      obtain ⟨b, cs, rfl, r1, al⟩ := all2_c al
      rw [ih cs al, (atD_pl r1).1]
      rfl
  refine ⟨p, zs.map g, rfl, SqL.of (by rw [hp, e]), ?_⟩
  have : (zs.map g).all id = zs.all g := by rw [List.all_map]; rfl
  rw [this]
  exact q _ H2 s2 (atD_v (.bl _))
theorem evd_allZ {i j : Nat} {ws : List Nat} {g : Dt → Dt → Bool} (h : EvD te σ H (m + 1) (.tup ds)) (h' : EvD tb σ H (m + 1) (.tup es)) (hw : ∀ x y : Option V, wipe (((wipe σ ws).set i x).set j y) ws = wipe σ ws) (he : ∀ d e, (d, e) ∈ ds.zip es → ∀ x y H2, Same H H2 → AtD H2 m d x → AtD H2 m e y → EvD tl (((wipe σ ws).set i (some x)).set j (some y)) H2 0 (.v (.bl (g d e)))) : EvD (tCB (rAll K) (tCons (tLc (RZ.iZipA K (tCons te (tCons tb tNil))) (gTup K 2 (gCons (gName i) (gCons (gName j) gNil))) tYes tl ws) tNil)) σ H n (.v (.bl ((ds.zip es).all fun z => g z.1 z.2))) := evd_allP (g := fun z : Dt × Dt => g z.1 z.2) (evd_lcZ (K := K) (f := fun d e => .v (.bl (g d e))) (n := 0) h h' hw he fun _ _ _ => .v)
end
end My
set_option Elab.async false
set_option linter.all false
set_option maxRecDepth 100000
set_option maxHeartbeats 4000000
namespace My
open PySem L2 SS
/-! papers of a sweep: what rises, what are pairs -/
def ltD (d e : Dt) : Bool := match d, e with
  | .v (.int i), .v (.int j) => decide (i < j)
  | _, _ => false
def risD (d : Dt) : Bool := match d with
  | .tup ds => ds.all num0D && (ds.zip (ds.drop 1)).all fun z => ltD z.1 z.2
  | _ => false
def isPairD (d : Dt) : Bool := rowD d (.int 2)
def prsD (d : Dt) : Bool := match d with
  | .tup ds => ds.all isPairD
  | _ => false
def fst2D (d : Dt) : Dt := match d with
  | .tup [a, _] => a
  | _ => .v .non
def snd2D (d : Dt) : Dt := match d with
  | .tup [_, b] => b
  | _ => .v .non
theorem num0_int {d : Dt} (h : num0D d = true) : ∃ i : Int, d = .v (.int i) ∧ 0 ≤ i := by
  cases d with
  | v x =>
    cases x with
    | int i => exact ⟨i, rfl, of_decide_eq_true h⟩
    | _ => cases h
  | _ => cases h
theorem pair_shape {d : Dt} (h : isPairD d = true) : ∃ a b, d = .tup [a, b] := by
  cases d with
  | tup ds =>
    have : ds.length = 2 := by
      have := of_decide_eq_true h
      injection this with this
      omega
    match ds, this with
    | [a, b], _ => exact ⟨a, b, rfl⟩
  | _ => cases h
section
variable {P : Program} {w : World} {K : PySem.W.Frag} {mg : Str → Option Value} {base : Heap}
theorem scRi : FnScope ["thing", "part", "one", "other"] ["thing"] (defScope s_are_rising) := ⟨rfl, rfl, rfl, by decide +kernel, rfl, by decide +kernel, by decide +kernel⟩
theorem c_ri (b_isinstance : mg "isinstance" = none) (b_tuple : mg "tuple" = none) (b_all : mg "all" = none) (b_zip : mg "zip" = none) (NU : C0 P w K mg base 2 "is_number_from_0" (spG1 9 (fun _ => True) num0D)) (D : Dn K mg "are_rising" s_are_rising) : C0 P w K mg base 3 "are_rising" (spG1 9 (fun _ => True) risD) := by
  obtain ⟨f, fd, F, hmm⟩ := D.ex
  refine ⟨f, fd, ["thing"], F.ok scRi (fun vs H Q E h => ?_) (fun cdv A outer s H vs Q E hr h => ?_), hmm, F.kp, F.binds (ps := ["thing"]) fun _ _ _ _ _ _ us hl => match us, hl with | [_], _ => rfl⟩
  · obtain ⟨d, v, rfl, _⟩ := h
    rfl
  obtain ⟨d, v, rfl, hd, _, kq⟩ := h
  refine ⟨_, pss_cons (ps_if (PW.pt (pw_or (pt_not (pt_val (pe_callB (r := rIsi K) (id := "isinstance") call_isi (by rfl) b_isinstance (by decide +kernel) (pa_cons (pv 0) (pa_cons (pe_bltn (v := .ty "tuple") (by rfl) b_tuple (by decide +kernel) rfl) pa_nil))))) (pw_or1 (pt_not (pt_val (pe_callB (cr_all rfl) (by rfl) b_all (by decide +kernel) (pa_cons (pe_lc (own := [("part", 1)]) (g := (gName 1)) (tt := tYes) rfl scRi.nd (pi_tup (pv 0)) (blkOk_by (own := [("part", 1)]) (N := ["thing", "part", "one", "other"]) (sc := defScope s_are_rising) (by decide +kernel)) (fun _ _ _ _ _ => (pg_name (i := 1) scRi.nd rfl (Or.inl rfl))) (fun _ _ _ _ _ => pts_nil) (fun _ _ _ _ _ => (pe_cc NU hr (by omega) pass0 (pa_cons (pv 1) pa_nil)))) pa_nil)))))))
      (pss_one (ps_ret pe_bl))
      (pss_nil)) <|
    pss_one (ps_ret (pe_callB (cr_all rfl) (by rfl) b_all (by decide +kernel) (pa_cons (pe_lc (own := [("one", 2), ("other", 3)]) (g := (gTup K 2 (gCons (gName 2) (gCons (gName 3) gNil)))) (tt := tYes) rfl scRi.nd (RZ.pi_zipA (by rfl) b_zip (pa_cons (pv 0) (pa_cons (pe_slice sl_tupA (pv 0) (po_some pe_int) po_none) pa_nil))) (blkOk_by (own := [("one", 2), ("other", 3)]) (N := ["thing", "part", "one", "other"]) (sc := defScope s_are_rising) (by decide +kernel)) (fun _ _ _ _ _ => (pg_tup (by rfl) (pgs_cons (pg_name (i := 2) scRi.nd rfl (Or.inl rfl)) (pgs_cons (pg_name (i := 3) scRi.nd rfl (Or.inl rfl)) pgs_nil)))) (fun _ _ _ _ _ => pts_nil) (fun _ _ _ _ _ => (pe_cmpR op_lt (pv 2) (pv 3) (nomark _)))) pa_nil))), ?_⟩
  have fall : ∀ {tt : TT} {tz : TS} {b : Bool} {σ : L2.St}, EvT tt σ H b → b = true → EvS (tSeq (tIfS tt (L2.tRet (tC (.bl false))) tNext) tz) σ H false := fun h hb => (evs_if (b := false) h (fun _ => evs_ret (evd_c (.bl _))) fun c => absurd hb (by rw [c]; decide)).as (by cases ‹Bool› <;> rfl)
  cases d with
  | v x => exact EvS.go (fall (evt_or (b := false) (evt_not (evt_b (evd_isi (m := 0) (evd_var rfl hd) (.inr (.inr (.inr rfl)))))) fun c => (by cases x <;> cases c)) (by cases x <;> rfl)) kq
  | lst ds => exact EvS.go (fall (evt_or (b := false) (evt_not (evt_b (evd_isi (m := 0) (evd_var rfl hd) (.inr (.inr (.inr rfl)))))) fun c => (by cases c)) rfl) kq
  | dic => exact EvS.go (fall (evt_or (b := false) (evt_not (evt_b (evd_isi (m := 0) (evd_var rfl hd) (.inr (.inr (.inr rfl)))))) fun c => (by cases c)) rfl) kq
  | tup ds =>
    have t1 : ∀ {σ : L2.St}, σ[0]? = some (some v) → _ := fun {σ} h => evt_not (evt_b (evd_isi (K := K) (te := tVar 0) (σ := σ) (m := 0) (evd_var h hd) (.inr (.inr (.inr rfl)))))
    by_cases hn : ds.all num0D = true
    · refine EvS.go (EvS.as (evs_if (a := false) (c := false) (evt_or (a := false) (b := false) (t1 rfl) fun _ => ?_) (fun c => (by cases c)) fun _ => evs_ret (b := (ds.zip (ds.drop 1)).all fun z => ltD z.1 z.2) (evd_allZ (m := 8) (ds := ds) (es := ds.drop 1) (evd_var rfl hd) (evd_cast (evd_slA (n := 8) (evd_var rfl hd) (evo_some (i := 1) (evd_c (.int _))) evo_none) ?_) (fun _ _ => rfl) fun d e hz x y H2 s2 ax ay => ?_)) ?_) kq
      · exact evt_as (evt_not (evt_b (evd_allT (g := num0D) (m := 8) (n := 0) (evd_var rfl hd) (fun _ => rfl) fun e he x H2 s2 ax => evd_c1 (EvD.lv (evd_var rfl ax) (by decide)) trivial))) (by rw [hn]; rfl)
      · by_cases c : 1 ≤ ds.length
        · rw [show (1 : Int) = ((1 : Nat) : Int) from rfl, cutD_suf c]
        · have : ds = [] := List.eq_nil_of_length_eq_zero (by omega)
          subst this
          rfl
      · obtain ⟨i, rfl, _⟩ := num0_int (List.all_eq_true.mp hn d (List.of_mem_zip hz).1)
        obtain ⟨j, rfl, _⟩ := num0_int (List.all_eq_true.mp hn e (List.mem_of_mem_drop (List.of_mem_zip hz).2))
        obtain ⟨rfl, _⟩ := atD_pl ax
        obtain ⟨rfl, _⟩ := atD_pl ay
        exact evd_i0 (evd_var rfl (atD_v (.int _))) (evd_var rfl (atD_v (.int _))) (.bl _)
      · show _ = (ds.all num0D && _)
        rw [hn]
        rfl
    · have hn' : ds.all num0D = false := by simpa using hn
      have e : risD (.tup ds) = false := by
        show (ds.all num0D && _) = false
        rw [hn']
        rfl
      rw [e] at kq
      refine EvS.go (fall (evt_or (a := false) (b := true) (t1 rfl) fun _ => ?_) rfl) kq
      exact evt_as (evt_not (evt_b (evd_allT (g := num0D) (m := 8) (n := 0) (evd_var rfl hd) (fun _ => rfl) fun e he x H2 s2 ax => evd_c1 (EvD.lv (evd_var rfl ax) (by decide)) trivial))) (by rw [hn']; rfl)
theorem scPa : FnScope ["thing", "part"] ["thing"] (defScope s_are_pairs) := ⟨rfl, rfl, rfl, by decide +kernel, rfl, by decide +kernel, by decide +kernel⟩
theorem c_pa (b_isinstance : mg "isinstance" = none) (b_tuple : mg "tuple" = none) (b_all : mg "all" = none) (RW_ : C0 P w K mg base 1 "is_row" (spG2 9 (fun _ u => ∃ i : Int, u = .int i) rowD)) (D : Dn K mg "are_pairs" s_are_pairs) : C0 P w K mg base 2 "are_pairs" (spG1 9 (fun _ => True) prsD) := by
  obtain ⟨f, fd, F, hmm⟩ := D.ex
  refine ⟨f, fd, ["thing"], F.ok scPa (fun vs H Q E h => ?_) (fun cdv A outer s H vs Q E hr h => ?_), hmm, F.kp, F.binds (ps := ["thing"]) fun _ _ _ _ _ _ us hl => match us, hl with | [_], _ => rfl⟩
  · obtain ⟨d, v, rfl, _⟩ := h
    rfl
  obtain ⟨d, v, rfl, hd, _, kq⟩ := h
  refine ⟨_, pss_one (ps_ret (pe_and (pe_callB (r := rIsi K) (id := "isinstance") call_isi (by rfl) b_isinstance (by decide +kernel) (pa_cons (pv 0) (pa_cons (pe_bltn (v := .ty "tuple") (by rfl) b_tuple (by decide +kernel) rfl) pa_nil))) (pe_one (pe_callB (cr_all rfl) (by rfl) b_all (by decide +kernel) (pa_cons (pe_lc (own := [("part", 1)]) (g := (gName 1)) (tt := tYes) rfl scPa.nd (pi_tup (pv 0)) (blkOk_by (own := [("part", 1)]) (N := ["thing", "part"]) (sc := defScope s_are_pairs) (by decide +kernel)) (fun _ _ _ _ _ => (pg_name (i := 1) scPa.nd rfl (Or.inl rfl))) (fun _ _ _ _ _ => pts_nil) (fun _ _ _ _ _ => (pe_cc RW_ hr (by omega) pass0 (pa_cons (pv 1) (pa_cons pe_int pa_nil))))) pa_nil))))), ?_⟩
  cases d with
  | tup ds => exact (evs_ret (evd_and (a := true) (evd_isi (evd_var rfl hd) (.inr (.inr (.inr rfl)))) fun _ => evd_allT (g := isPairD) (m := 8) (evd_var rfl hd) (fun _ => rfl) fun e he x H2 s2 ax => evd_c2 (EvD.lv (evd_var rfl ax) (by decide)) (evd_c (.int _)) ⟨_, rfl⟩)).go kq
  | v x => exact (evs_ret (evd_andF (evd_isi (evd_var rfl hd) (.inr (.inr (.inr rfl)))) (by cases x <;> rfl))).go kq
  | lst ds => exact (evs_ret (evd_andF (evd_isi (evd_var rfl hd) (.inr (.inr (.inr rfl)))) rfl)).go kq
  | dic => exact (evs_ret (evd_andF (evd_isi (evd_var rfl hd) (.inr (.inr (.inr rfl)))) rfl)).go kq
end
end My
set_option Elab.async false
set_option linter.all false
set_option maxRecDepth 100000
set_option maxHeartbeats 4000000
namespace My
open PySem L2 SS
def cbaD (d : Dt) : Bool := prsD d && (risD (.tup ((tupsD d).map fst2D)) && (tupsD d).all fun e => cellD (snd2D e))
def Scba (d : Dt) : Prop := ∀ e ∈ tupsD d, NlD (fst2D e) ∧ ∀ cs, snd2D e = .tup cs → ∀ x ∈ cs, S0 x ∧ S1 x
section
variable {P : Program} {w : World} {K : PySem.W.Frag} {mg : Str → Option Value} {base : Heap}
theorem scCa : FnScope ["thing", "address", "_", "cell"] ["thing"] (defScope s_are_cells_by_addresses) := ⟨rfl, rfl, rfl, by decide +kernel, rfl, by decide +kernel, by decide +kernel⟩
theorem c_ca (b_tuple : mg "tuple" = none) (b_all : mg "all" = none) (PA_ : C0 P w K mg base 2 "are_pairs" (spG1 9 (fun _ => True) prsD)) (RI : C0 P w K mg base 3 "are_rising" (spG1 9 (fun _ => True) risD)) (CE : C0 P w K mg base 6 "is_cell" (spG1 9 (fun d => ∀ ds, d = .tup ds → ∀ e ∈ ds, S0 e ∧ S1 e) cellD)) (D : Dn K mg "are_cells_by_addresses" s_are_cells_by_addresses) : C0 P w K mg base 7 "are_cells_by_addresses" (spG1 9 Scba cbaD) := by
  obtain ⟨f, fd, F, hmm⟩ := D.ex
  refine ⟨f, fd, ["thing"], F.ok scCa (fun vs H Q E h => ?_) (fun cdv A outer s H vs Q E hr h => ?_), hmm, F.kp, F.binds (ps := ["thing"]) fun _ _ _ _ _ _ us hl => match us, hl with | [_], _ => rfl⟩
  · obtain ⟨d, v, rfl, _⟩ := h
    rfl
  obtain ⟨d, v, rfl, hd, hS, kq⟩ := h
  refine ⟨_, pss_cons (ps_if (PW.pt (pw_or (pt_not (pt_val (pe_cc PA_ hr (by omega) pass0 (pa_cons (pv 0) pa_nil)))) (pw_or1 (pt_not (pt_val (pe_cc RI hr (by omega) pass0 (pa_cons (pe_callTy call_tuple_of (by rfl) b_tuple (by decide +kernel) (pa_cons (pe_lc (own := [("address", 1), ("_", 2)]) (g := (gTup K 2 (gCons (gName 1) (gCons (gName 2) gNil)))) (tt := tYes) rfl scCa.nd (pi_tup (pv 0)) (blkOk_by (own := [("address", 1), ("_", 2)]) (N := ["thing", "address", "_", "cell"]) (sc := defScope s_are_cells_by_addresses) (by decide +kernel)) (fun _ _ _ _ _ => (pg_tup (by rfl) (pgs_cons (pg_name (i := 1) scCa.nd rfl (Or.inl rfl)) (pgs_cons (pg_name (i := 2) scCa.nd rfl (Or.inl rfl)) pgs_nil)))) (fun _ _ _ _ _ => pts_nil) (fun _ _ _ _ _ => (pv 1))) pa_nil)) pa_nil)))))))
      (pss_one (ps_ret pe_bl))
      (pss_nil)) <|
    pss_one (ps_ret (pe_callB (cr_all rfl) (by rfl) b_all (by decide +kernel) (pa_cons (pe_lc (own := [("_", 2), ("cell", 3)]) (g := (gTup K 2 (gCons (gName 2) (gCons (gName 3) gNil)))) (tt := tYes) rfl scCa.nd (pi_tup (pv 0)) (blkOk_by (own := [("_", 2), ("cell", 3)]) (N := ["thing", "address", "_", "cell"]) (sc := defScope s_are_cells_by_addresses) (by decide +kernel)) (fun _ _ _ _ _ => (pg_tup (by rfl) (pgs_cons (pg_name (i := 2) scCa.nd rfl (Or.inl rfl)) (pgs_cons (pg_name (i := 3) scCa.nd rfl (Or.inl rfl)) pgs_nil)))) (fun _ _ _ _ _ => pts_nil) (fun _ _ _ _ _ => (pe_cc CE hr (by omega) pass0 (pa_cons (pv 3) pa_nil)))) pa_nil))), ?_⟩
  by_cases hp : prsD d = true
  · obtain ⟨ds, rfl⟩ : ∃ ds, d = .tup ds := by
      cases d with
      | tup ds => exact ⟨ds, rfl⟩
      | _ => cases hp
    have hpr : ∀ e ∈ ds, isPairD e = true := List.all_eq_true.mp hp
    refine EvS.go (EvS.as (evs_if (a := false) (evt_or (a := false) (evt_as (evt_not (evt_b (evd_c1 (n := 0) (evd_var rfl hd) trivial))) (by rw [hp]; rfl)) fun _ => evt_not (evt_b (evd_c1 (n := 0) (d := .tup (ds.map fst2D)) (EvD.lv (evd_tupof (n := 7) (evd_lcG (m := 8) (n := 7) (f := fst2D) (evd_var rfl hd) (fun e he x H2 s2 ax R hR => ?_) fun e he => (hS e he).1)) (by decide)) trivial))) (fun _ => evs_ret (evd_c (.bl _))) fun _ => evs_ret (b := ds.all fun e => cellD (snd2D e)) (evd_allG (m := 8) (evd_var rfl hd) fun e he x H2 s2 ax R hR => ?_)) ?_) kq
    · obtain ⟨a, b, rfl⟩ := pair_shape (hpr e he)
      exact tg_pair (m := 7) ax fun u v au av => hR _ _ (Same.refl _) rfl (evd_var rfl au)
    · obtain ⟨a, b, rfl⟩ := pair_shape (hpr e he)
      exact tg_pair (m := 7) ax fun u v au av => hR _ _ (Same.refl _) rfl (evd_c1 (d := b) (EvD.lv (evd_var rfl av) (by decide)) fun cs hcs => (hS _ he).2 cs hcs)
    · show _ = (prsD (.tup ds) && (risD (.tup (ds.map fst2D)) && _))
      rw [hp]
      cases risD (.tup (ds.map fst2D)) <;> rfl
  · have hp' : prsD d = false := by simpa using hp
    have e : cbaD d = false := by
      unfold cbaD
      rw [hp']
      rfl
    rw [e] at kq
    exact EvS.go (EvS.as (evs_if (a := false) (b := false) (evt_or (a := true) (b := true) (evt_as (evt_not (evt_b (evd_c1 (n := 0) (evd_var rfl hd) trivial))) (by rw [hp']; rfl)) fun c => (by cases c)) (fun _ => evs_ret (evd_c (.bl _))) fun c => (by cases c)) rfl) kq
end
end My
set_option Elab.async false
set_option linter.all false
set_option maxRecDepth 100000
set_option maxHeartbeats 4000000
namespace My
open PySem L2 SS
theorem cut_m1 {α : Type} {xs : List α} (h : 1 ≤ xs.length) : HT.sIx xs.length xs.length (some (-1)) = xs.length - 1 := by
  unfold HT.sIx
  simp only
  rw [if_pos (by decide)]
  omega
theorem cutD_m1 {α : Type} {xs : List α} (h : 1 ≤ xs.length) : cutD xs none (some (-1)) = xs.take (xs.length - 1) := by
  unfold cutD
  rw [cut_m1 h]
  show List.take (xs.length - 1 - 0) (List.drop 0 xs) = _
  rw [Nat.sub_zero, List.drop_zero]
theorem atI_lastD {xs : List Dt} {z : Dt} (h : 1 ≤ xs.length) : L2.atI xs (-1) = some (xs.getLastD z) := by
  unfold L2.atI ixN
  rw [if_neg (by decide), if_pos (by omega)]
  show xs[((-1 : Int) + (xs.length : Nat)).toNat]? = _
  have : ((-1 : Int) + (xs.length : Nat)).toNat = xs.length - 1 := by omega
  rw [this, List.getLastD_eq_getLast?, List.getLast?_eq_getElem?]
  rw [List.getElem?_eq_getElem (by omega)]
  rfl
section
variable {P : Program} {w : World} {K : PySem.W.Frag} {mg : Str → Option Value} {base : Heap}
theorem scWw : FnScope ["cell", "worths", "sort"] ["cell", "worths"] (defScope s_with_worths) := ⟨rfl, rfl, rfl, by decide +kernel, rfl, by decide +kernel, by decide +kernel⟩
theorem c_ww (D : Dn K mg "with_worths" s_with_worths) : C0 P w K mg base 1 "with_worths" (spV2 9 (fun d e => cellD d = true ∧ ∃ es, e = .tup es ∧ es.length = (tupsD (wiD d)).length) 10 wwD) := by
  obtain ⟨f, fd, F, hmm⟩ := D.ex
  refine ⟨f, fd, ["cell", "worths"], F.ok scWw (fun vs H Q E h => ?_) (fun cdv A outer s H vs Q E hr h => ?_), hmm, F.kp, F.binds (ps := ["cell", "worths"]) fun _ _ _ _ _ _ us hl => match us, hl with | [_, _], _ => rfl⟩
  · obtain ⟨d, e, v, u, rfl, _⟩ := h
    rfl
  obtain ⟨d, e, v, u, rfl, hd, hu, ⟨hc, es, rfl, hlen⟩, kq⟩ := h
  refine ⟨_, pss_cons (ps_set (i := 2) scWw.nd rfl (Or.inl rfl) (pe_ix (r := rIxT K) ix_tup (pv 0) pe_int (fun _ _ => rfl))) <|
    pss_cons (ps_if (pt_cmpR op_eq (pv 2) pe_str (nomark _))
      (pss_one (ps_ret (pe_tup (pa_cons pe_str (pa_cons (pe_ix (r := rIxT K) ix_tup (pv 0) pe_int (fun _ _ => rfl)) (pa_cons (pv 1) pa_nil))))))
      (pss_nil)) <|
    pss_cons (ps_if (pt_cmpR op_eq (pv 2) pe_str (nomark _))
      (pss_one (ps_ret (pe_tup (pa_cons pe_str (pa_cons (pv 1) pa_nil)))))
      (pss_nil)) <|
    pss_cons (ps_if (pt_cmpR op_eq (pv 2) pe_str (nomark _))
      (pss_one (ps_ret (pe_tup (StX.pa_star (pe_slice sl_tup (pv 0) po_none (po_some pe_int)) (StX.pa_star (pv 1) pa_nil)))))
      (pss_nil)) <|
    pss_one (ps_ret (pe_tup (pa_cons pe_str (pa_cons (pe_slice sl_tup (pv 1) po_none (po_some (pe_un un_neg pe_int))) (pa_cons (pe_ix (r := rIxT K) ix_tup (pv 1) (pe_un un_neg pe_int) (fun _ _ => rfl)) pa_nil))))), ?_⟩
  obtain ⟨z, r, rfl⟩ := cell_cons hc
  have hes : es.length ≤ 100000 := by
    obtain ⟨_, _, _, _, h, _⟩ := hu
    exact h
  have hdt : ∀ {σ : L2.St} {H1 : Hp} {i : Int} {e : Dt}, σ[0]? = some (some v) → Same H H1 → L2.atI (.v (.str z) :: r) i = some e → EvD (tOp (rIxT K) (tVar 0) (tC (.int i))) σ H1 8 e := fun h s1 h2 => evd_ixT (n := 8) (evd_var h (hd.same s1)) (evd_c (.int _)) h2
  refine EvR.go (evr_asg (m := 8) (hdt rfl (Same.refl _) at0) fun v1 H1 s1 a1 => ?_) kq
  obtain ⟨rfl, _⟩ := atD_pl a1
  have tst : ∀ (y : Str), EvT (tTest (tOp rEq (tVar 2) (tC (.str y)))) [some v, some u, some (.str z)] H1 (textIsD (.v (.str z)) (.str y)) := fun y => evt_t (evd_eqS (n := 0) (evd_var rfl (atD_v (.str _))) (evd_c (.str _)))
  refine evr_if (tst _) (fun c1 => ?_) fun c1 => evr_if (tst _) (fun c2 => ?_) fun c2 => evr_if (tst _) (fun c3 => ?_) fun c3 => ?_
  · have hc' : thD r = true := by
      unfold cellD at hc
      simp only [c1, if_true] at hc
      exact hc
    obtain ⟨k, ws, rfl, _, _⟩ := th_shape hc'
    have e : wwD (.tup [.v (.str z), k, .tup ws]) (.tup es) = .tup [S2d "thing", k, .tup es] := by
      unfold wwD
      simp only [c1, if_true]
      rfl
    rw [e]
    exact evr_ret (evd_tup (n := 9) (evds_cons (evd_c (.str _)) (evds_cons (EvD.lv (hdt rfl s1 rfl) (by decide)) (evds_cons (evd_var rfl (hu.same s1)) evds_nil))) (Nat.le_of_ble_eq_true rfl))
  · have e : wwD (.tup (.v (.str z) :: r)) (.tup es) = .tup [S2d "list", .tup es] := by
      unfold wwD
      simp only [c1, c2, if_true, Bool.false_eq_true, if_false]
    rw [e]
    exact evr_ret (evd_tup (n := 9) (evds_cons (evd_c (.str _)) (evds_cons (evd_var rfl (hu.same s1)) evds_nil)) (Nat.le_of_ble_eq_true rfl))
  · have hc' : blD r = true := by
      unfold cellD at hc
      simp only [c1, c2, c3, if_true, Bool.false_eq_true, if_false] at hc
      exact hc
    obtain ⟨a, b, c, d, rfl, _⟩ := bl_shape hc'
    have e : wwD (.tup [.v (.str z), a, b, c, d]) (.tup es) = .tup ([.v (.str z), a, b] ++ (es ++ [])) := by
      unfold wwD
      simp only [c1, c2, c3, if_true, Bool.false_eq_true, if_false, List.append_nil]
      rfl
    have hl2 : es.length = 2 := by
      rw [hlen]
      unfold wiD
      simp only [c1, c2, c3, if_true, Bool.false_eq_true, if_false]
      rfl
    rw [e]
    exact evr_ret (evd_tup (n := 9) (evds_star (EvD.lv (evd_cast (evd_slT (n := 8) (lo := none) (hi := some 3) (evd_var rfl (hd.same s1)) evo_none (evo_some (evd_c (.int _))) (by show ¬(HT.sIx 5 0 none = 0 ∧ HT.sIx 5 5 (some 3) = 5); decide)) rfl) (by decide)) (evds_star (EvD.lv (evd_var rfl (hu.same s1)) (by decide)) evds_nil)) (by simp only [List.length_append, List.length_cons, List.length_nil]; omega))
  · have hc' : naD r = true := by
      unfold cellD at hc
      simp only [c1, c2, c3, if_true, Bool.false_eq_true, if_false] at hc
      split at hc
      · exact hc
      · cases hc
    obtain ⟨ws, o, rfl, hw, _⟩ := na_shape hc'
    have hl2 : 1 ≤ es.length := by
      rw [hlen]
      unfold wiD
      simp only [c1, c2, c3, if_true, Bool.false_eq_true, if_false]
      show 1 ≤ (ws ++ [o]).length
      rw [List.length_append]
      exact Nat.le_add_left _ _
    have e : wwD (.tup [.v (.str z), .tup ws, o]) (.tup es) = .tup [S2d "names", .tup (es.take (es.length - 1)), es.getLastD (.v .non)] := by
      unfold wwD
      simp only [c1, c2, c3, if_true, Bool.false_eq_true, if_false]
      rfl
    rw [e]
    exact evr_ret (evd_tup (n := 9) (evds_cons (evd_c (.str _)) (evds_cons (evd_cast (evd_slT (n := 8) (lo := none) (hi := some (-1)) (evd_var rfl (hu.same s1)) evo_none (evo_some (evd_neg (evd_c (.int _)))) (fun c => by have := c.2; rw [cut_m1 hl2] at this; omega)) (by rw [cutD_m1 hl2])) (evds_cons (EvD.lv (evd_ixT (n := 8) (evd_var rfl (hu.same s1)) (evd_neg (evd_c (.int _))) (atI_lastD hl2)) (by decide)) evds_nil))) (Nat.le_of_ble_eq_true rfl))
end
end My
set_option Elab.async false
set_option linter.all false
set_option maxRecDepth 100000
set_option maxHeartbeats 4000000
namespace My
open PySem L2 SS
/-- moves: pairs, rising ahead, numbers behind (that they are unlike is a premise so far) -/
def mvD (d : Dt) : Bool := prsD d && (risD (.tup ((tupsD d).map fst2D)) && ((tupsD d).map snd2D).all num0D)
def Smv (d : Dt) : Prop := (∀ e ∈ tupsD d, NlD (fst2D e) ∧ NlD (snd2D e)) ∧ ∀ ns : List Int, (tupsD d).map snd2D = ns.map (fun i => .v (.int i)) → ns.Nodup ∧ ns.length ≤ 4000
theorem nums_of : ∀ {ds : List Dt}, ds.all num0D = true → ∃ ns : List Int, ds = ns.map fun i => .v (.int i)
  | [], _ => ⟨[], rfl⟩
  | d :: ds, h => by
    have h' := Bool.and_eq_true _ _ ▸ (List.all_cons ▸ h)
    obtain ⟨i, rfl, _⟩ := num0_int h'.1
    obtain ⟨ns, rfl⟩ := nums_of h'.2
    exact ⟨i :: ns, rfl⟩
section
variable {P : Program} {w : World} {K : PySem.W.Frag} {mg : Str → Option Value} {base : Heap}
theorem scMv : FnScope ["thing", "addresses", "ahead", "_", "behind"] ["thing"] (defScope s_are_moves) := ⟨rfl, rfl, rfl, by decide +kernel, rfl, by decide +kernel, by decide +kernel⟩
theorem c_mv (b_tuple : mg "tuple" = none) (b_all : mg "all" = none) (b_len : mg "len" = none) (b_set : mg "set" = none) (NU : C0 P w K mg base 2 "is_number_from_0" (spG1 9 (fun _ => True) num0D)) (PA_ : C0 P w K mg base 2 "are_pairs" (spG1 9 (fun _ => True) prsD)) (RI : C0 P w K mg base 3 "are_rising" (spG1 9 (fun _ => True) risD)) (D : Dn K mg "are_moves" s_are_moves) : C0 P w K mg base 4 "are_moves" (spG1 9 Smv mvD) := by
  obtain ⟨f, fd, F, hmm⟩ := D.ex
  refine ⟨f, fd, ["thing"], F.ok scMv (fun vs H Q E h => ?_) (fun cdv A outer s H vs Q E hr h => ?_), hmm, F.kp, F.binds (ps := ["thing"]) fun _ _ _ _ _ _ us hl => match us, hl with | [_], _ => rfl⟩
  · obtain ⟨d, v, rfl, _⟩ := h
    rfl
  obtain ⟨d, v, rfl, hd, hS, kq⟩ := h
  refine ⟨_, pss_cons (ps_if (PW.pt (pw_or (pt_not (pt_val (pe_cc PA_ hr (by omega) pass0 (pa_cons (pv 0) pa_nil)))) (pw_or1 (pt_not (pt_val (pe_cc RI hr (by omega) pass0 (pa_cons (pe_callTy call_tuple_of (by rfl) b_tuple (by decide +kernel) (pa_cons (pe_lc (own := [("ahead", 2), ("_", 3)]) (g := (gTup K 2 (gCons (gName 2) (gCons (gName 3) gNil)))) (tt := tYes) rfl scMv.nd (pi_tup (pv 0)) (blkOk_by (own := [("ahead", 2), ("_", 3)]) (N := ["thing", "addresses", "ahead", "_", "behind"]) (sc := defScope s_are_moves) (by decide +kernel)) (fun _ _ _ _ _ => (pg_tup (by rfl) (pgs_cons (pg_name (i := 2) scMv.nd rfl (Or.inl rfl)) (pgs_cons (pg_name (i := 3) scMv.nd rfl (Or.inl rfl)) pgs_nil)))) (fun _ _ _ _ _ => pts_nil) (fun _ _ _ _ _ => (pv 2))) pa_nil)) pa_nil)))))))
      (pss_one (ps_ret pe_bl))
      (pss_nil)) <|
    pss_cons (ps_setLc (i := 1) (own := [("_", 3), ("behind", 4)]) (g := (gTup K 2 (gCons (gName 3) (gCons (gName 4) gNil)))) (by rfl) scMv.nd rfl rfl (sw_true rfl rfl rfl (by decide +kernel)) (pi_tup (pv 0)) (blkOk_by (own := [("_", 3), ("behind", 4)]) (N := ["thing", "addresses", "ahead", "_", "behind"]) (sc := defScope s_are_moves) (by decide +kernel)) (fun _ _ _ _ _ => (pg_tup (by rfl) (pgs_cons (pg_name (i := 3) scMv.nd rfl (Or.inl rfl)) (pgs_cons (pg_name (i := 4) scMv.nd rfl (Or.inl rfl)) pgs_nil)))) (fun _ _ _ _ _ => pts_nil) (fun _ _ _ _ _ => (pv 4))) <|
    pss_one (ps_ret (pe_and (pe_callB (cr_all rfl) (by rfl) b_all (by decide +kernel) (pa_cons (pe_lc (own := [("behind", 4)]) (g := (gName 4)) (tt := tYes) rfl scMv.nd (pi_list (pv 1)) (blkOk_by (own := [("behind", 4)]) (N := ["thing", "addresses", "ahead", "_", "behind"]) (sc := defScope s_are_moves) (by decide +kernel)) (fun _ _ _ _ _ => (pg_name (i := 4) scMv.nd rfl (Or.inl rfl))) (fun _ _ _ _ _ => pts_nil) (fun _ _ _ _ _ => (pe_cc NU hr (by omega) pass0 (pa_cons (pv 4) pa_nil)))) pa_nil)) (pe_one (pe_cmpR op_eq (RZ.pe_lenSetI (by rfl) b_len (by rfl) b_set (pv 1)) (pe_callB call_len_seq (by rfl) b_len PySem.boot_len (pa_cons (pv 1) pa_nil)) (nomark _))))), ?_⟩
  by_cases hp : prsD d = true
  · obtain ⟨ds, rfl⟩ : ∃ ds, d = .tup ds := by
      cases d with
      | tup ds => exact ⟨ds, rfl⟩
      | _ => cases hp
    have hpr : ∀ e ∈ ds, isPairD e = true := List.all_eq_true.mp hp
    refine EvS.go (EvS.as (evs_if (a := false) (evt_or (a := false) (evt_as (evt_not (evt_b (evd_c1 (n := 0) (evd_var rfl hd) trivial))) (by rw [hp]; rfl)) fun _ => evt_not (evt_b (evd_c1 (n := 0) (d := .tup (ds.map fst2D)) (EvD.lv (evd_tupof (n := 7) (evd_lcG (m := 8) (n := 7) (f := fst2D) (evd_var rfl hd) (fun e he x H2 s2 ax R hR => ?_) fun e he => (hS.1 e he).1)) (by decide)) trivial))) (fun _ => evs_ret (evd_c (.bl _))) fun _ => evs_asg (m := 8) (e := .lst (ds.map snd2D)) (b := (ds.map snd2D).all num0D) (evd_lcG (m := 8) (n := 7) (f := snd2D) (evd_var rfl hd) (fun e he x H2 s2 ax R hR => ?_) fun e he => (hS.1 e he).2) fun v1 H1 s1 a1 => ?_) ?_) kq
    · obtain ⟨a, b, rfl⟩ := pair_shape (hpr e he)
      exact tg_pair (m := 7) ax fun u v au av => hR _ _ (Same.refl _) rfl (evd_var rfl au)
    · obtain ⟨a, b, rfl⟩ := pair_shape (hpr e he)
      exact tg_pair (m := 7) ax fun u v au av => hR _ _ (Same.refl _) rfl (evd_var rfl av)
    · by_cases hn : (ds.map snd2D).all num0D = true
      · obtain ⟨ns, hns⟩ := nums_of hn
        obtain ⟨h1, h2⟩ := hS.2 ns hns
        refine evs_ret (evd_as (evd_and (a := (ds.map snd2D).all num0D) (b := true) (evd_allL (m := 7) (evd_var rfl a1) fun e he x H2 s2 ax R hR => hR _ _ (Same.refl _) rfl (evd_c1 (EvD.lv (evd_var rfl ax) (by decide)) trivial)) fun _ => evd_as (evd_eqI (evd_lenSet (n := 7) (ns := ns) (evd_cast (evd_var rfl a1) (by rw [hns])) h1 h2) (evd_lenL (n := 7) (evd_var rfl a1))) ?_) (by rw [Bool.and_true]))
        rw [hns, List.length_map]
        exact decide_eq_true rfl
      · have hn' : (ds.map snd2D).all num0D = false := by simpa using hn
        exact evs_ret (evd_as (evd_andF (a := (ds.map snd2D).all num0D) (evd_allL (m := 7) (evd_var rfl a1) fun e he x H2 s2 ax R hR => hR _ _ (Same.refl _) rfl (evd_c1 (EvD.lv (evd_var rfl ax) (by decide)) trivial)) hn') hn'.symm)
    · show _ = (prsD (.tup ds) && (risD (.tup (ds.map fst2D)) && _))
      rw [hp]
      cases risD (.tup (ds.map fst2D)) <;> rfl
  · have hp' : prsD d = false := by simpa using hp
    have e : mvD d = false := by
      unfold mvD
      rw [hp']
      rfl
    rw [e] at kq
    exact EvS.go (EvS.as (evs_if (a := false) (b := false) (evt_or (a := true) (b := true) (evt_as (evt_not (evt_b (evd_c1 (n := 0) (evd_var rfl hd) trivial))) (by rw [hp']; rfl)) fun c => (by cases c)) (fun _ => evs_ret (evd_c (.bl _))) fun c => (by cases c)) rfl) kq
end
end My
set_option Elab.async false
set_option linter.all false
set_option maxRecDepth 100000
set_option maxHeartbeats 4000000
namespace My
open PySem L2 SS
theorem Rd.same_ {H H' : Hp} {a : Addr} {o : HO} (s : Same H H') (h : Rd H a o) : Rd H' a o := h.elim (fun h => .inl (s _ _ h)) fun ⟨f, h⟩ => .inr ⟨f, s _ _ h⟩
theorem evd_dget {σ : L2.St} {H : Hp} {n x : Nat} {a : Addr} {kvs : List (Key × V)} {ty : TE} {i : Int} {v : V} (h : σ[x]? = some (some (.ref a))) (hr : Rd H a (.dK kvs)) (k : EvD ty σ H n (.v (.int i))) (hv : valV kvs (.inl i) = some v) (hp : Pln v) : EvD (tDGet (tVar x) ty) σ H n (.v v) := fun H1 s1 Q q => by
  refine ⟨_, h, k H1 s1 _ fun w H2 s2 r => ?_⟩
  obtain ⟨rfl, _⟩ := atD_pl r
  exact ⟨a, v, rfl, .inl ⟨kvs, .inl i, Rd.same_ (s1.trans s2) hr, rfl, hv.symm⟩, q v H2 s2 (atD_v hp)⟩
/-- a worth behind the moves -/
def moD (mv : Int → Int) (d : Dt) : Dt := match d with
  | .tup [c, .v (.int i)] => .tup [c, .v (.int (mv i))]
  | d => d
def Moves (H : Hp) (a : Addr) (mv : Int → Int) (S : Int → Prop) : Prop := ∃ kvs, Rd H a (.dK kvs) ∧ ∀ i, S i → valV kvs (.inl i) = some (.int (mv i))
def spMw : Sp := fun vs H Q _ => ∃ (v : V) (ds : List Dt) (a : Addr) (mv : Int → Int) (S : Int → Prop), vs = [v, .ref a] ∧ AtD H 9 (.tup ds) v ∧ (∀ e ∈ ds, woD e = true ∧ NlD e) ∧ Moves H a mv S ∧ (∀ c i, Dt.tup [c, .v (.int i)] ∈ ds → S i) ∧ ∀ v' H', Same H H' → AtD H' 9 (.tup (ds.map (moD mv))) v' → Q v' H'
section
variable {P : Program} {w : World} {K : PySem.W.Frag} {mg : Str → Option Value} {base : Heap}
theorem scMw : FnScope ["worths", "moves", "worth"] ["worths", "moves"] (defScope s_moved_worths) := ⟨rfl, rfl, rfl, by decide +kernel, rfl, by decide +kernel, by decide +kernel⟩
theorem c_mw (b_isinstance : mg "isinstance" = none) (b_tuple : mg "tuple" = none) (D : Dn K mg "moved_worths" s_moved_worths) : C0 P w K mg base 1 "moved_worths" spMw := by
  obtain ⟨f, fd, F, hmm⟩ := D.ex
  refine ⟨f, fd, ["worths", "moves"], F.ok scMw (fun vs H Q E h => ?_) (fun cdv A outer s H vs Q E hr h => ?_), hmm, F.kp, F.binds (ps := ["worths", "moves"]) fun _ _ _ _ _ _ us hl => match us, hl with | [_, _], _ => rfl⟩
  · obtain ⟨v, ds, a, mv, S, rfl, _⟩ := h
    rfl
  obtain ⟨v, ds, a, mv, S, rfl, hd, hw, ⟨kvs, hkv, hS⟩, hin, kq⟩ := h
  refine ⟨_, pss_one (ps_ret (pe_callTy call_tuple_of (by rfl) b_tuple (by decide +kernel) (pa_cons (pe_lc (own := [("worth", 2)]) (g := (gName 2)) (tt := tYes) rfl scMw.nd (pi_tup (pv 0)) (blkOk_by (own := [("worth", 2)]) (N := ["worths", "moves", "worth"]) (sc := defScope s_moved_worths) (by decide +kernel)) (fun _ _ _ _ _ => (pg_name (i := 2) scMw.nd rfl (Or.inl rfl))) (fun _ _ _ _ _ => pts_nil) (fun _ _ _ _ _ => (pe_ifExp (pt_val (pe_callB (r := rIsi K) (id := "isinstance") call_isi (by rfl) b_isinstance (by decide +kernel) (pa_cons (pv 2) (pa_cons (pe_bltn (v := .ty "tuple") (by rfl) b_tuple (by decide +kernel) rfl) pa_nil)))) (pe_tup (pa_cons pe_str (pa_cons (pe_dget (hu_of hr) (pv 1) (pe_ix (r := rIxT K) ix_tup (pv 2) pe_int (fun _ _ => rfl)) (fun _ _ => rfl)) pa_nil))) (pv 2)))) pa_nil))), ?_⟩
  refine EvR.go (evr_ret (evd_tupof (n := 8) (evd_lcG (m := 8) (n := 8) (f := moD mv) (evd_var rfl hd) (fun e he x H2 s2 ax R hR => hR _ _ (Same.refl _) rfl (evd_if (evt_b (evd_isi (m := 0) (evd_var rfl ax) (.inr (.inr (.inr rfl))))) (fun c => ?_) fun c => ?_)) fun e he => ?_))) kq
  · obtain ⟨i, rfl, _⟩ := cw_shape (wo_tup (hw e he).1 c)
    exact evd_tup (n := 7) (evds_cons (evd_c (.str _)) (evds_cons (evd_dget rfl (Rd.same_ s2 hkv) (evd_ixT (n := 7) (evd_var rfl ax) (evd_c (.int _)) rfl) (hS i (hin _ i he)) (.int _)) evds_nil)) (Nat.le_of_ble_eq_true rfl)
  · have : moD mv e = e := by
      cases e with
      | tup ds => cases c
      | _ => rfl
    rw [this]
    exact evd_var rfl ax
  · by_cases c : isTupD e = true
    · obtain ⟨i, rfl, _⟩ := cw_shape (wo_tup (hw e he).1 c)
      exact .tup fun d hd => by
        simp only [List.mem_cons, List.not_mem_nil, or_false] at hd
        rcases hd with rfl | rfl <;> exact .v
    · have : moD mv e = e := by
        cases e with
        | tup ds => exact absurd rfl c
        | _ => rfl
      rw [this]
      exact (hw e he).2
end
end My
set_option Elab.async false
set_option linter.all false
set_option maxRecDepth 100000
set_option maxHeartbeats 4000000
namespace My
open PySem L2 SS
theorem evd_din {σ : L2.St} {H : Hp} {n m x : Nat} {a : Addr} {kvs : List (Key × V)} {ty : TE} {i : Int} (h : σ[x]? = some (some (.ref a))) (hr : Rd H a (.dK kvs)) (k : EvD ty σ H n (.v (.int i))) : EvD (tDIn ty (tVar x)) σ H m (.v (.bl (valV kvs (.inl i)).isSome)) := fun H1 s1 Q q => k H1 s1 _ fun w H2 s2 r => by
  obtain ⟨rfl, _⟩ := atD_pl r
  exact ⟨_, h, a, _, rfl, .inl ⟨kvs, .inl i, Rd.same_ (s1.trans s2) hr, rfl, rfl⟩, q _ H2 s2 (atD_v (.bl _))⟩
theorem evd_dgetD {σ : L2.St} {H : Hp} {n m x : Nat} {a : Addr} {kvs : List (Key × V)} {ty : TE} {i : Int} {v : V} {d : Dt} (h : σ[x]? = some (some (.ref a))) (hr : Rd H a (.dK kvs)) (k : EvD ty σ H n (.v (.int i))) (hv : valV kvs (.inl i) = some v) (hd : AtD H m d v) : EvD (tDGet (tVar x) ty) σ H m d := fun H1 s1 Q q => by
  refine ⟨_, h, k H1 s1 _ fun w H2 s2 r => ?_⟩
  obtain ⟨rfl, _⟩ := atD_pl r
  exact ⟨a, v, rfl, .inl ⟨kvs, .inl i, Rd.same_ (s1.trans s2) hr, rfl, hv.symm⟩, q v H2 s2 (hd.same (s1.trans s2))⟩
/-- whether a cell with all that it names is moved -/
def inD (kvs : List (Key × V)) (d : Dt) : Bool := match d with
  | .v (.int i) => (valV kvs (.inl i)).isSome
  | _ => false
def spMwh : Sp := fun vs H Q _ => ∃ (c p : Addr) (i : Int) (kc kp : List (Key × V)) (v : V) (d : Dt) (ws : List Dt), vs = [.ref c, .ref p, .int i] ∧ Rd H c (.dK kc) ∧ Rd H p (.dK kp) ∧ valV kc (.inl i) = some v ∧ AtD H 9 d v ∧ cellD d = true ∧ wiD d = .tup ws ∧ (∀ e ∈ ws, woD e = true) ∧ ∀ H', Same H H' → Q (.bl (((ws.filter isTupD).map adrD).all (inD kp))) H'
section
variable {P : Program} {w : World} {K : PySem.W.Frag} {mg : Str → Option Value} {base : Heap}
theorem scMh : FnScope ["cells", "places", "address", "inner"] ["cells", "places", "address"] (defScope s_is_moved_whole) := ⟨rfl, rfl, rfl, by decide +kernel, rfl, by decide +kernel, by decide +kernel⟩
theorem c_mh (b_all : mg "all" = none) (WI : C0 P w K mg base 1 "worths_in" (spV1 9 (fun d => cellD d = true) 9 wiD)) (AA : C0 P w K mg base 1 "addresses_among" (spV1 9 (fun d => ∃ ds, d = .tup ds ∧ ∀ e ∈ ds, woD e = true) 8 aaD)) (D : Dn K mg "is_moved_whole" s_is_moved_whole) : C0 P w K mg base 2 "is_moved_whole" spMwh := by
  obtain ⟨f, fd, F, hmm⟩ := D.ex
  refine ⟨f, fd, ["cells", "places", "address"], F.ok scMh (fun vs H Q E h => ?_) (fun cdv A outer s H vs Q E hr h => ?_), hmm, F.kp, F.binds (ps := ["cells", "places", "address"]) fun _ _ _ _ _ _ us hl => match us, hl with | [_, _, _], _ => rfl⟩
  · obtain ⟨c, p, i, kc, kp, v, d, ws, rfl, _⟩ := h
    rfl
  obtain ⟨c, p, i, kc, kp, v, d, ws, rfl, hc, hp, hv, hd, hcell, hws, hwo, kq⟩ := h
  refine ⟨_, pss_one (ps_ret (pe_and (pe_cmp (pc_din (hu_of hr) (pv 2) (pv 0))) (pe_one (pe_callB (cr_all rfl) (by rfl) b_all (by decide +kernel) (pa_cons (pe_lc (own := [("inner", 3)]) (g := (gName 3)) (tt := tYes) rfl scMh.nd (pi_list (pe_cc AA hr (by omega) pass0 (pa_cons (pe_cc WI hr (by omega) pass0 (pa_cons (pe_dget (hu_of hr) (pv 0) (pv 2) (fun _ _ => rfl)) pa_nil)) pa_nil))) (blkOk_by (own := [("inner", 3)]) (N := ["cells", "places", "address", "inner"]) (sc := defScope s_is_moved_whole) (by decide +kernel)) (fun _ _ _ _ _ => (pg_name (i := 3) scMh.nd rfl (Or.inl rfl))) (fun _ _ _ _ _ => pts_nil) (fun _ _ _ _ _ => (pe_cmp (pc_din (hu_of hr) (pv 3) (pv 1))))) pa_nil))))), ?_⟩
  refine EvS.go (evs_ret (evd_as (evd_and (a := true) (b := ((ws.filter isTupD).map adrD).all (inD kp)) (evd_as (evd_din (n := 0) rfl hc (evd_var rfl (atD_v (.int _)))) (by rw [hv]; rfl)) fun _ => evd_allL (m := 7) (ds := (ws.filter isTupD).map adrD) (evd_cast (evd_v1 (evd_v1 (evd_dgetD (n := 0) rfl hc (evd_var rfl (atD_v (.int _))) hv hd) hcell) ⟨ws, hws, hwo⟩) (by rw [hws]; rfl)) fun e he x H2 s2 ax R hR => hR _ _ (Same.refl _) rfl ?_) rfl)) kq
  obtain ⟨e', he', rfl⟩ := List.mem_map.mp he
  obtain ⟨h1, h2⟩ := List.mem_filter.mp he'
  obtain ⟨j, rfl, _⟩ := cw_shape (wo_tup (hwo e' h1) h2)
  exact evd_din (n := 7) rfl (Rd.same_ s2 hp) (evd_var rfl ax)
end
end My
set_option Elab.async false
set_option linter.all false
set_option maxRecDepth 100000
set_option maxHeartbeats 4000000
namespace L2
open PySem PySem.Spec PyProof.Rows
/-! ### dict(t) of a tuple of pairs: a dict that stays as it is -/
section
variable {X : Cx}
theorem rd_tup {pins : List (Addr × Obj)} {σ : St} {H : Hp} {s : Shared} (I : Inv X pins σ H s) {p : Addr} {xs : List V} (h : Rd H p (.tup xs)) : ∃ its : List Value, Vals xs its ∧ IsTup s.heap p its.toArray := by
  obtain ⟨_, its, r, t⟩ := (show ObjOk X.prog X.w H s.heap p (.tup xs) from h.ok I.hok)
  exact ⟨its, r, t⟩
/-- what stands in the pairs -/
theorem prs_of {pins : List (Addr × Obj)} {σ : St} {H : Hp} {s : Shared} (I : Inv X pins σ H s) : ∀ {ps : List Addr} {kvs : List (Key × V)}, Paired (fun p kv => Rd H p (.tup [kV kv.1, kv.2])) ps kvs →
    ∃ (vps : List (Value × Value)) (rs : List (Key × Value)), vps.length = ps.length ∧ rs.length = ps.length ∧ KV kvs rs ∧ ∀ (j : Nat) (k v : Value), vps[j]? = some (k, v) → (∃ b, ps[j]? = some b ∧ IsTup s.heap b #[k, v]) ∧ ∃ key, rs[j]? = some (key, v) ∧ (mixKind X.prog X.w).is key k = true
  | _, _, .nil => ⟨[], [], rfl, rfl, .nil, fun j k v e => by simp at e⟩
  | _, _, .cons (a := p) (b := kv) h t => by
    obtain ⟨vps, rs, h1, h2, h3, h4⟩ := prs_of I t
    obtain ⟨its, rv, ht⟩ := rd_tup I h
    obtain ⟨u, y, ei, ru, ry⟩ := vals2 rv
    subst ei
    refine ⟨(u, y) :: vps, (kv.1, y) :: rs, by rw [List.length_cons, List.length_cons, h1], by rw [List.length_cons, List.length_cons, h2], .cons ⟨rfl, ry⟩ h3, fun j k v e => ?_⟩
    cases j with
    | zero =>
      have e' : (u, y) = (k, v) := Option.some.inj e
      cases e'
      exact ⟨⟨p, rfl, ht⟩, kv.1, rfl, kV_is (P := X.prog) (w := X.w) ru⟩
    | succ j =>
      obtain ⟨⟨b, e1, e2⟩, key, e3, e4⟩ := h4 j k v (by simpa using e)
      exact ⟨⟨b, by simpa using e1, e2⟩, key, by simpa using e3, e4⟩
theorem call_dictTF (hcalm : X.calm = true) : CallR X (.type "dict") (fun xs H Q => ∃ (a : Addr) (ps : List Addr) (kvs : List (Key × V)), xs = [.ref a] ∧ FrzT H a (ps.map V.ref) ∧ Paired (fun p kv => Rd H p (.tup [kV kv.1, kv.2])) ps kvs ∧
    ∀ p ob, H p = none → Q (.ref p) (upd H p (.frz ob (.dK (mergeK [] kvs))))) := by
  intro pins s σ H xs us Q I r q
  obtain ⟨a, ps, kvs, ex, ⟨ob0, hq, hd0⟩, hp, q⟩ := q
  subst ex
  obtain ⟨u, eu, rx⟩ := vals1 r
  subst eu
  cases rx
  obtain ⟨g1, hz, its, rv, o2, g2, hc, n, hdat⟩ := (show ObjOk X.prog X.w H s.heap a (.frz ob0 (.tup (ps.map V.ref))) from I.hok a _ hq)
  have e0 : o2 = ob0 := by rw [g1] at g2; exact (Option.some.inj g2).symm
  subst e0
  have ei := refs_at rv
  subst ei
  rw [List.length_map] at hz
  obtain ⟨vps, rs, l1, l2, kv, hv⟩ := prs_of I hp
  have lk : kvs.length = rs.length := kv.length
  refine PySem.call_dict_pairs (knd := mixKind X.prog X.w) (kvs := rs) (PairArg.tuple a (ps.map Value.ref).toArray (fun j => ps.getD j 0) vps) (I.ok.hd hcalm) ⟨⟨o2, n, g1, hc, hd0, hdat⟩, ⟨by simp [l1], fun j k v e => ?_⟩⟩ ⟨by rw [l2, l1], fun i k v e => ?_⟩ (by rw [l1]; exact hz) fun h' tk dd k => ?_
  · obtain ⟨⟨b, e1, e2⟩, _⟩ := hv j k v e
    have eb : ps.getD j 0 = b := by rw [List.getD_eq_getElem?_getD, e1]; rfl
    refine ⟨?_, .inl ?_⟩
    · show (List.map Value.ref ps).toArray[j]? = some (Value.ref (ps.getD j 0))
      rw [eb]
      simp [e1]
    · show s.heap.IsTuple (ps.getD j 0) #[k, v]
      rw [eb]
      exact e2
  · obtain ⟨_, key, e3, e4⟩ := hv i k v e
    exact ⟨key, e3, e4⟩
  · have hm : (s.heap.objs.size == sysModules) = false := beq_eq_false_iff_ne.mpr (Nat.ne_of_gt I.big)
    have hlen : (mergeK [] kvs).length ≤ sizeLine := by
      refine Nat.le_trans (length_mergeK kvs []) ?_
      rw [List.length_nil, Nat.zero_add, lk, l2]
      exact hz
    have dd2 := dd
    obtain ⟨ob, es, ep, ho, _⟩ := dd2
    exact ⟨.ref s.heap.objs.size, upd H s.heap.objs.size (.frz ob (.dK (mergeK [] kvs))), I.laid (t' := tk) (fun b o e => k b o (fun h => nomatch h) e) (Nat.le_refl _) (show ObjOk X.prog X.w _ _ _ (.frz ob (.dK (mergeK [] kvs))) from ⟨ho, hlen, hm, merged [] rs, KV.merge kv .nil, dd⟩), rfl, q _ ob (I.hok.fresh (Nat.le_refl _))⟩
end
/-- a dict comprehension over a walk -/
theorem dc_it {J : It} {n : Nat} {G : Hp → Prop} {Y : Nat → Hp → V → Hp → Prop} (w : Walk J n G Y) {g : TG} {tt : TT} {tk tv : TE} {vs : List Nat} {σ : St} {H1 : Hp} {D : Addr} {Qd : Hp → Prop} (Pv : Nat → Hp → Prop) (h0 : Pv 0 (upd H1 D (.dK []))) (hG : ∀ i H, i ≤ n → Pv i H → G H)
    (hs : ∀ i x H H', i < n → Pv i H → Y i H x H' → g x (wipe σ vs) H' fun σ2 H2 => wipe σ2 vs = wipe σ vs ∧ tt σ2 H2 fun b H3 =>
      if b = true then tk σ2 H3 fun y H4 => tv σ2 H4 fun z H5 => ∃ kvs k, y = kV k ∧ H5 D = some (.dK kvs) ∧ kvs.length < sizeLine ∧ Pv (i + 1) (upd H5 D (.dK (putK kvs k z))) else Pv (i + 1) H3) (hd : ∀ H, Pv n H → Qd H) :
    ∃ W : Nat → Nat → Hp → Prop, (∃ m, W 0 m (upd H1 D (.dK []))) ∧ ∀ i m H, W i m H →
      (J.stop i H ∧ Qd H) ∨ (J.go i H ∧ ∃ Nx : Hp → Prop, (∀ H', Nx H' → ∃ m', m' < m ∧ W (i + 1) m' H') ∧ ∀ x H', J.yld i H x H' → g x (wipe σ vs) H' fun σ2 H2 => wipe σ2 vs = wipe σ vs ∧ tt σ2 H2 fun b H3 =>
        if b = true then tk σ2 H3 fun y H4 => tv σ2 H4 fun z H5 => ∃ kvs k, y = kV k ∧ H5 D = some (.dK kvs) ∧ kvs.length < sizeLine ∧ Nx (upd H5 D (.dK (putK kvs k z))) else Nx H3) :=
  ⟨fun i m H => m + i = n ∧ Pv i H, ⟨n, Nat.add_zero n, h0⟩, fun i m H ⟨hm, pv⟩ => by
    have le : i ≤ n := by omega
    have hg := hG i H le pv
    rcases Nat.eq_or_lt_of_le le with rfl | lt
    · exact .inl ⟨w.stops H hg, hd H pv⟩
    · exact .inr ⟨w.goes i H lt hg, Pv (i + 1), fun H' pv' => ⟨m - 1, by omega, by omega, pv'⟩, fun x H' y => hs i x H H' lt pv (w.yields i H x H' lt hg y)⟩⟩
theorem putK_fresh {kvs : List (Key × V)} {k : Key} {v : V} (h : ∀ q ∈ kvs, q.1 ≠ k) : putK kvs k v = kvs ++ [(k, v)] := by
  unfold putK
  rw [if_neg]
  intro c
  obtain ⟨q, hq, e⟩ := List.any_eq_true.mp c
  exact h q hq (of_decide_eq_true e)
theorem mergeK_fresh : ∀ {more kvs : List (Key × V)}, (more.map (·.1)).Nodup → (∀ p ∈ more, ∀ q ∈ kvs, q.1 ≠ p.1) → mergeK kvs more = kvs ++ more
  | [], kvs, _, _ => by simp [mergeK]
  | p :: r, kvs, h, hk => by
    rw [List.map_cons, List.nodup_cons] at h
    show mergeK (putK kvs p.1 p.2) r = _
    rw [putK_fresh (hk p List.mem_cons_self), mergeK_fresh h.2 ?_, List.append_assoc]
    · rfl
    intro q hq z hz
    rcases List.mem_append.mp hz with hz | hz
    · exact hk q (List.mem_cons_of_mem _ hq) z hz
    · rw [List.mem_singleton.mp hz]
      exact fun e => h.1 (by rw [e]; exact List.mem_map_of_mem hq)
theorem mergeK_nil {kvs : List (Key × V)} (h : (kvs.map (·.1)).Nodup) : mergeK [] kvs = kvs := by
  rw [mergeK_fresh h fun _ _ q hq => (by cases hq)]
  rfl
end L2
set_option Elab.async false
set_option linter.all false
set_option maxRecDepth 100000
set_option maxHeartbeats 8000000
namespace My
open PySem L2 SS
/-! ### the cells behind the moves -/
/-- a cell behind the moves -/
def mcD (mv : Int → Int) (d : Dt) : Dt := wwD d (.tup ((tupsD (wiD d)).map (moD mv)))
/-- what may be said of a cell -/
structure CellOk (ks : List Int) (d : Dt) : Prop where
  c : cellD d = true
  nl : NlD d
  wi : ∃ ws, wiD d = .tup ws ∧ (∀ e ∈ ws, woD e = true ∧ NlD e) ∧ ∀ c i, Dt.tup [c, .v (.int i)] ∈ ws → i ∈ ks
def KvI (kept : List Int) (mv : Int → Int) : List (Key × V) := kept.map fun i => (.inl i, .int (mv i))
theorem valV_kvI {kept : List Int} {mv : Int → Int} {i : Int} (h : i ∈ kept) : valV (KvI kept mv) (.inl i) = some (.int (mv i)) := by
  induction kept with
  | nil => cases h
  | cons j r ih =>
    by_cases c : j = i
    · subst c
      exact valV_pos rfl
    · have : valV (KvI (j :: r) mv) (.inl i) = valV (KvI r mv) (.inl i) := valV_neg (p := (Sum.inl j, V.int (mv j))) (fun e => c (Sum.inl.inj e))
      rw [this]
      exact ih (by
        rcases List.mem_cons.mp h with h | h
        · exact absurd h.symm c
        · exact h)
theorem valV_kvI_no {kept : List Int} {mv : Int → Int} {i : Int} (h : i ∉ kept) : valV (KvI kept mv) (.inl i) = none := by
  induction kept with
  | nil => rfl
  | cons j r ih =>
    have : valV (KvI (j :: r) mv) (.inl i) = valV (KvI r mv) (.inl i) := valV_neg (p := (Sum.inl j, V.int (mv j))) (fun e => h (by rw [Sum.inl.inj e]; exact List.mem_cons_self))
    rw [this]
    exact ih fun z => h (List.mem_cons_of_mem _ z)
/-- a dict that stays -/
def DcF (H : Hp) (a : Addr) (kvs : List (Key × V)) : Prop := ∃ ob, H a = some (.frz ob (.dK kvs))
theorem DcF.rd {H : Hp} {a : Addr} {kvs : List (Key × V)} (h : DcF H a kvs) : Rd H a (.dK kvs) := .inr h
theorem DcF.same {H H' : Hp} {a : Addr} {kvs : List (Key × V)} (s : Same H H') (h : DcF H a kvs) : DcF H' a kvs := by
  obtain ⟨ob, h⟩ := h
  exact ⟨ob, s _ _ h⟩
theorem tups_dK {H : Hp} {D : Addr} {kvs kvs' : List (Key × V)} (h : H D = some (.dK kvs)) : Tups H (upd H D (.dK kvs')) := by
  refine ⟨fun q ys e => ?_, fun q o u e => ?_⟩
  · rw [upd_ne]
    · exact e
    · intro z
      rw [z, h] at e
      cases e
  · rw [upd_ne]
    · exact e
    · intro z
      rw [z, h] at e
      cases e
theorem valV_appL {kvs r : List (Key × V)} {k : Key} {v : V} (h : valV kvs k = some v) : valV (kvs ++ r) k = some v := by
  induction kvs with
  | nil => cases h
  | cons q s ih =>
    by_cases c : q.1 = k
    · rw [valV_pos c] at h
      show valV (q :: (s ++ r)) k = some v
      rw [valV_pos c]
      exact h
    · rw [valV_neg c] at h
      show valV (q :: (s ++ r)) k = some v
      rw [valV_neg c]
      exact ih h
theorem valV_new {kvs : List (Key × V)} {k : Key} {v : V} (h : ∀ q ∈ kvs, q.1 ≠ k) : valV (kvs ++ [(k, v)]) k = some v := by
  induction kvs with
  | nil => exact valV_pos rfl
  | cons q s ih =>
    show valV (q :: (s ++ [(k, v)])) k = some v
    rw [valV_neg (h q List.mem_cons_self)]
    exact ih fun z hz => h z (List.mem_cons_of_mem _ hz)
theorem EvD.run {te : TE} {σ : L2.St} {H : Hp} {n : Nat} {d : Dt} {Q : VK} (h : EvD te σ H n d) (k : ∀ v H2, Same H H2 → AtD H2 n d v → Q v H2) : te σ H Q := h H (Same.refl _) Q k
theorem all2_ints {H : Hp} {n : Nat} : ∀ ns : List Int, All2 (AtD H n) (ns.map fun i => Dt.v (.int i)) (ns.map V.int)
  | [] => .nil
  | i :: r => .cons (atD_v (.int _)) (all2_ints r)
theorem ints_at {H : Hp} {q : Addr} {ns : List Int} (h : H q = some (.lst (ns.map V.int))) (hl : ns.length ≤ 100000) : AtD H 1 (.lst (ns.map fun i => .v (.int i))) (.ref q) := ⟨q, _, rfl, h, by rw [List.length_map]; exact hl, all2_ints ns⟩
theorem evd_mw {σ : L2.St} {H : Hp} {te : TE} {E : XK} {x : Nat} {a : Addr} {ds : List Dt} {mv : Int → Int} {S : Int → Prop} (h : EvD te σ H 9 (.tup ds)) (hx : σ[x]? = some (some (.ref a))) (hw : ∀ e ∈ ds, woD e = true ∧ NlD e) (hm : Moves H a mv S) (hin : ∀ c i, Dt.tup [c, .v (.int i)] ∈ ds → S i) : EvD (tCall spMw [] E (tCons te (tCons (tVar x) tNil))) σ H 9 (.tup (ds.map (moD mv))) := fun H1 s1 Q q => h H1 s1 _ fun v H2 s2 r => by
  obtain ⟨kvs, hr, hS⟩ := hm
  exact ⟨_, hx, v, ds, a, mv, S, rfl, r, hw, ⟨kvs, Rd.same_ (s1.trans s2) hr, hS⟩, hin, fun v' H3 s3 r3 => q v' H3 (s2.trans s3) r3⟩
theorem atI_map {α : Type} {β : Type} {f : α → β} {xs : List α} {i : Nat} {a : α} (h : xs[i]? = some a) : (xs.map f)[i]? = some (f a) := by rw [List.getElem?_map, h]; rfl
theorem wwD_nl {d : Dt} {es : List Dt} (hc : cellD d = true) (hn : NlD d) (he : ∀ e ∈ es, NlD e) : NlD (wwD d (.tup es)) := by
  obtain ⟨z, r, rfl⟩ := cell_cons hc
  have hr : ∀ e ∈ Dt.v (.str z) :: r, NlD e := by cases hn with | tup h => exact h
  unfold wwD
  simp only
  split
  · refine .tup fun d hd => ?_
    simp only [List.mem_cons, List.not_mem_nil, or_false] at hd
    rcases hd with rfl | rfl | rfl
    · exact .v
    · unfold fstD
      split
      · exact hr _ (List.mem_cons_of_mem _ List.mem_cons_self)
      · exact .v
    · exact .tup he
  · split
    · refine .tup fun d hd => ?_
      simp only [List.mem_cons, List.not_mem_nil, or_false] at hd
      rcases hd with rfl | rfl
      · exact .v
      · exact .tup he
    · split
      · refine .tup fun d hd => ?_
        rcases List.mem_append.mp hd with hd | hd
        · exact hr _ (List.mem_of_mem_take hd)
        · exact he _ hd
      · refine .tup fun d hd => ?_
        simp only [List.mem_cons, List.not_mem_nil, or_false] at hd
        rcases hd with rfl | rfl | rfl
        · exact .v
        · exact .tup fun e h => he _ (List.mem_of_mem_take h)
        · show NlD (es.getLastD (.v .non))
          rw [List.getLastD_eq_getLast?]
          cases h : es.getLast? with
          | none => exact .v
          | some e => exact he _ (List.mem_of_getLast? h)
theorem moD_nl {mv : Int → Int} {e : Dt} (h : NlD e) : NlD (moD mv e) := by
  unfold moD
  split
  · refine .tup fun d hd => ?_
    have hh := h
    cases hh with
    | tup hh =>
      simp only [List.mem_cons, List.not_mem_nil, or_false] at hd
      rcases hd with rfl | rfl
      · exact hh _ List.mem_cons_self
      · exact .v
  · exact h
theorem mcD_nl {ks : List Int} {mv : Int → Int} {d : Dt} (h : CellOk ks d) : NlD (mcD mv d) := by
  obtain ⟨ws, hw, h1, _⟩ := h.wi
  refine wwD_nl h.c h.nl fun e he => ?_
  rw [hw] at he
  obtain ⟨e', h2, rfl⟩ := List.mem_map.mp he
  exact moD_nl (h1 e' h2).2
/-- pairs of an address and a cell -/
def pcD (f : Int → Dt) (i : Int) : Dt := .tup [.v (.int i), f i]
def spMc : Sp := fun vs H Q _ => ∃ (c p : Addr) (kc : List (Key × V)) (kept : List Int) (mv : Int → Int) (cell f : Int → Dt), vs = [.ref c, .ref p] ∧ Rd H c (.dK kc) ∧ DcF H p (KvI kept mv) ∧ kept.length ≤ 1000 ∧ (kept.map mv).Nodup ∧
  (∀ i ∈ kept, ∃ v, valV kc (.inl i) = some v ∧ AtD H 9 (cell i) v ∧ CellOk kept (cell i) ∧ f (mv i) = mcD mv (cell i)) ∧
  ∀ v' H' (ns : List Int), Same H H' → ns.Perm (kept.map mv) → ns.Pairwise (· ≤ ·) → AtD H' 12 (.tup (ns.map (pcD f))) v' → Q v' H'
section
variable {P : Program} {w : World} {K : PySem.W.Frag} {mg : Str → Option Value} {base : Heap}
theorem scMc : FnScope ["cells", "places", "moved", "ahead", "behind", "address"] ["cells", "places"] (defScope s_moved_cells) := ⟨rfl, rfl, rfl, by decide +kernel, rfl, by decide +kernel, by decide +kernel⟩
theorem c_mc (b_tuple : mg "tuple" = none) (b_list : mg "list" = none) (b_sorted : mg "sorted" = none) (WI : C0 P w K mg base 1 "worths_in" (spV1 9 (fun d => cellD d = true) 9 wiD)) (WW : C0 P w K mg base 1 "with_worths" (spV2 9 (fun d e => cellD d = true ∧ ∃ es, e = .tup es ∧ es.length = (tupsD (wiD d)).length) 10 wwD)) (MW_ : C0 P w K mg base 1 "moved_worths" spMw) (D : Dn K mg "moved_cells" s_moved_cells) : C0 P w K mg base 2 "moved_cells" spMc := by
  obtain ⟨f, fd, F, hmm⟩ := D.ex
  refine ⟨f, fd, ["cells", "places"], F.ok scMc (fun vs H Q E h => ?_) (fun cdv A outer s H vs Q E hr h => ?_), hmm, F.kp, F.binds (ps := ["cells", "places"]) fun _ _ _ _ _ _ us hl => match us, hl with | [_, _], _ => rfl⟩
  · obtain ⟨c, p, kc, kept, mv, cell, f, rfl, _⟩ := h
    rfl
  obtain ⟨c, p, kc, kept, mv, cell, ff, rfl, hc, ⟨ob, hp⟩, hl, hnd, hk, kq⟩ := h
  refine ⟨_, pss_cons (ps_set (i := 2) scMc.nd rfl (Or.inr rfl) (pe_dc (own := [("ahead", 3), ("behind", 4)]) (g := (gTup K 2 (gCons (gName 3) (gCons (gName 4) gNil)))) (tt := tYes) rfl scMc.nd (pi_items (pv 1)) (blkOk_by (own := [("ahead", 3), ("behind", 4)]) (N := ["cells", "places", "moved", "ahead", "behind", "address"]) (sc := defScope s_moved_cells) (by decide +kernel)) (fun _ _ _ _ _ => (pg_tup (by rfl) (pgs_cons (pg_name (i := 3) scMc.nd rfl (Or.inl rfl)) (pgs_cons (pg_name (i := 4) scMc.nd rfl (Or.inl rfl)) pgs_nil)))) (fun _ _ _ _ _ => pts_nil) (fun _ _ _ _ _ => (pv 4)) (fun _ _ _ _ _ => (pe_cc WW hr (by omega) pass0 (pa_cons (pe_dget (hu_of hr) (pv 0) (pv 3) (fun _ _ => rfl)) (pa_cons (pe_cc MW_ hr (by omega) pass0 (pa_cons (pe_cc WI hr (by omega) pass0 (pa_cons (pe_dget (hu_of hr) (pv 0) (pv 3) (fun _ _ => rfl)) pa_nil)) (pa_cons (pv 1) pa_nil))) pa_nil)))))) <|
    pss_one (ps_ret (pe_callTy call_tuple_of (by rfl) b_tuple (by decide +kernel) (pa_cons (pe_lc (own := [("address", 5)]) (g := (gName 5)) (tt := tYes) rfl scMc.nd (pi_list (pe_callB cr_sortedI (by rfl) b_sorted PyProof.Rows.boot_sorted (pa_cons (pe_callTy (call_listD rfl) (by rfl) b_list (by decide +kernel) (pa_cons (pv 2) pa_nil)) pa_nil))) (blkOk_by (own := [("address", 5)]) (N := ["cells", "places", "moved", "ahead", "behind", "address"]) (sc := defScope s_moved_cells) (by decide +kernel)) (fun _ _ _ _ _ => (pg_name (i := 5) scMc.nd rfl (Or.inl rfl))) (fun _ _ _ _ _ => pts_nil) (fun _ _ _ _ _ => (pe_tup (pa_cons (pv 5) (pa_cons (pe_dget (hu_of hr) (pv 2) (pv 5) (fun _ _ => rfl)) pa_nil))))) pa_nil))), ?_⟩
  have hkl : (KvI kept mv).length = kept.length := List.length_map ..
  refine ⟨_, rfl, p, ob, _, rfl, hp, fun D hD => ?_⟩
  refine dc_it (walk_items (kvs := KvI kept mv)) (fun i Hn => Same H Hn ∧ ∃ acc : List (Key × V), Hn D = some (.dK acc) ∧ acc.map (·.1) = (kept.take i).map (fun j => Sum.inl (mv j)) ∧ ∀ j ∈ kept.take i, ∃ v, valV acc (.inl (mv j)) = some v ∧ AtD Hn 10 (ff (mv j)) v) ⟨same_new hD _, [], upd_same, rfl, fun j hj => (by cases hj)⟩ (fun i Hn _ h => h.1 _ _ hp) ?_ ?_
  · rintro i x Hn H' hi ⟨s, acc, hacc, hak, hav⟩ ⟨T, k, v, rfl, hT, rfl, hkk, hkv⟩
    have hi' : i < kept.length := by omega
    have hget : kept[i]? = some kept[i] := List.getElem?_eq_getElem hi'
    have hkvs : (KvI kept mv)[i]? = some (.inl kept[i], .int (mv kept[i])) := atI_map hget
    have hkk : ((KvI kept mv)[i]?).map (fun kv => kV kv.1) = some k := hkk
    have hkv : ((KvI kept mv)[i]?).map Prod.snd = some v := hkv
    rw [hkvs] at hkk hkv
    obtain rfl : kV (Sum.inl kept[i]) = k := Option.some.inj hkk
    obtain rfl : V.int (mv kept[i]) = v := Option.some.inj hkv
    have sT := same_new hT (.tup [kV (Sum.inl kept[i]), V.int (mv kept[i])])
    have fT : upd Hn T (.tup [kV (Sum.inl kept[i]), V.int (mv kept[i])]) T = some (.tup [kV (Sum.inl kept[i]), V.int (mv kept[i])]) := upd_same
    have hD1 := sT _ _ hacc
    generalize upd Hn T (.tup [kV (Sum.inl kept[i]), V.int (mv kept[i])]) = H1 at sT fT hD1 ⊢
    have hmem : kept[i] ∈ kept := List.getElem_mem hi'
    obtain ⟨v, hv, hvd, hok, hff⟩ := hk kept[i] hmem
    obtain ⟨ws, hws, hw1, hw2⟩ := hok.wi
    have s1 := s.trans sT
    refine ⟨T, _, rfl, SqT.of fT, rfl, _, _, rfl, _, _, rfl, rfl, rfl, ?_⟩
    unfold tYes
    simp only [if_true]
    refine ⟨_, rfl, ?_⟩
    refine EvD.run (n := 10) (d := ff (mv kept[i])) ?_ fun z H2 s2 az => ?_
    · rw [hff]
      refine evd_cast (evd_v2 (evd_dgetD (n := 0) rfl (Rd.same_ s1 hc) (evd_var rfl (atD_v (.int _))) hv (hvd.same s1)) (evd_mw (S := fun i => i ∈ kept) (a := p) (mv := mv) (evd_cast (evd_v1 (evd_dgetD (n := 0) rfl (Rd.same_ s1 hc) (evd_var rfl (atD_v (.int _))) hv (hvd.same s1)) hok.c) hws) rfl hw1 ⟨_, Rd.same_ s1 (.inr ⟨ob, hp⟩), fun i hi => valV_kvI hi⟩ hw2) ⟨hok.c, _, rfl, by rw [List.length_map, hws]; rfl⟩) ?_
      unfold mcD
      rw [hws]
      rfl
    have hD2 := s2 _ _ hD1
    have s02 := s1.trans s2
    have hal : acc.length ≤ 1000 := by
      have := congrArg List.length hak
      rw [List.length_map, List.length_map, List.length_take] at this
      omega
    have hfr : ∀ q ∈ acc, q.1 ≠ Sum.inl (mv kept[i]) := by
      intro q hq e
      have : q.1 ∈ acc.map (·.1) := List.mem_map_of_mem hq
      rw [hak, e] at this
      obtain ⟨j, hj, ej⟩ := List.mem_map.mp this
      have ej := Sum.inl.inj ej
      obtain ⟨a, ha, ea⟩ := List.mem_iff_getElem.mp hj
      rw [List.length_take] at ha
      have h2 := List.pairwise_iff_getElem.mp hnd a i (by rw [List.length_map]; omega) (by rw [List.length_map]; exact hi') (by omega)
      rw [List.getElem_map, List.getElem_map] at h2
      rw [List.getElem_take] at ea
      rw [ea] at h2
      exact h2 ej
    refine ⟨acc, .inl (mv kept[i]), rfl, hD2, by rw [sizeLine_eq]; omega, ?_⟩
    rw [putK_fresh hfr]
    have tt := tups_dK (kvs' := acc ++ [(Sum.inl (mv kept[i]), z)]) hD2
    have et : kept.take (i + 1) = kept.take i ++ [kept[i]] := by rw [List.take_add_one, hget]; rfl
    refine ⟨same_upd s02 hD _, _, upd_same, by rw [List.map_append, hak, et, List.map_append]; rfl, fun j hj => ?_⟩
    have nlf : ∀ j ∈ kept, NlD (ff (mv j)) := fun j hj => by
      obtain ⟨_, _, _, h3, h4⟩ := hk j hj
      rw [h4]
      exact mcD_nl h3
    rw [et] at hj
    rcases List.mem_append.mp hj with hj | hj
    · obtain ⟨v, h1, h2⟩ := hav j hj
      exact ⟨v, valV_appL h1, AtD.tups tt (h2.same (sT.trans s2)) (nlf j (List.mem_of_mem_take hj))⟩
    · rw [List.mem_singleton.mp hj]
      exact ⟨z, valV_new hfr, AtD.tups tt az (nlf _ hmem)⟩
  rintro Hn ⟨s, acc, hacc, hak, hav⟩
  rw [hkl, List.take_length] at hak hav
  have hkeys : acc.map (fun kv => kV kv.1) = (kept.map mv).map V.int := by
    have := congrArg (List.map (kV : Key → V)) hak
    rw [List.map_map, List.map_map] at this
    rw [List.map_map]
    exact this
  refine ⟨_, rfl, D, acc, rfl, .inl hacc, fun l hl0 => ?_⟩
  rw [hkeys]
  have sl := same_new hl0 (.lst ((kept.map mv).map V.int))
  refine ⟨l, kept.map mv, rfl, SqL.of upd_same, fun ns q hpm hpw hq => ?_⟩
  have sq := sl.trans (same_new hq (.lst (ns.map V.int)))
  have fq : upd (upd Hn l (.lst ((kept.map mv).map V.int))) q (.lst (ns.map V.int)) q = some (.lst (ns.map V.int)) := upd_same
  generalize upd (upd Hn l (.lst ((kept.map mv).map V.int))) q (.lst (ns.map V.int)) = H3 at sq fq ⊢
  have s3 := s.trans sq
  have hnl : ns.length = kept.length := by rw [hpm.length_eq, List.length_map]
  have evl : EvD (fun σ H Q => Q (V.ref q) H) ([some (.ref c), some (.ref p), some (.ref D), none, none, none] : L2.St) H3 1 (.lst (ns.map fun i => .v (.int i))) := fun H4 s4 Q qq => qq _ H4 (Same.refl _) (ints_at (s4 _ _ fq) (by omega))
  have hacc3 := sq _ _ hacc
  have main := evd_tupof (n := 11) (K := K) (evd_lcL (K := K) (m := 0) (n := 11) (ws := [5]) (tg := gName 5) (te := tTup (tCons (tVar 5) (tCons (tDGet (tVar 2) (tVar 5)) tNil))) (f := fun d => match d with | .v (.int i) => pcD ff i | d => d) evl (fun d hd x H4 s4 ax R hR => by
    obtain ⟨i, hi, rfl⟩ := List.mem_map.mp hd
    have hi2 := hpm.mem_iff.mp hi
    obtain ⟨j, hj, rfl⟩ := List.mem_map.mp hi2
    obtain ⟨v, h1, h2⟩ := hav j hj
    refine hR _ H4 (Same.refl _) rfl (evd_tup (n := 10) (evds_cons (evd_var rfl (ax.mono (by decide))) (evds_cons (evd_dgetD (n := 0) rfl (.inl (s4 _ _ hacc3)) (evd_var rfl ax) h1 (h2.same (sq.trans s4))) evds_nil)) (Nat.le_of_ble_eq_true rfl))) fun d hd => by
      obtain ⟨i, hi, rfl⟩ := List.mem_map.mp hd
      have hi2 := hpm.mem_iff.mp hi
      obtain ⟨j, hj, rfl⟩ := List.mem_map.mp hi2
      obtain ⟨_, _, _, h3, h4⟩ := hk j hj
      refine .tup fun e he => ?_
      simp only [List.mem_cons, List.not_mem_nil, or_false] at he
      rcases he with rfl | rfl
      · exact .v
      · rw [h4]
        exact mcD_nl h3)
  refine main H3 (Same.refl _) _ fun v H4 s4 a => kq v H4 ns (s3.trans s4) hpm hpw ?_
  rw [List.map_map] at a
  exact a
end
end My
set_option Elab.async false
set_option linter.all false
set_option maxRecDepth 100000
set_option maxHeartbeats 8000000
namespace My
open PySem L2 SS
/-! ### the judge of a sweep's paper, where the paper has the form -/
theorem smD_refl {H : Hp} : ∀ {n : Nat} {d : Dt} {v : V}, AtD H n d v → NlD d → smD n d d = true
  | n, .v x, _, _, _ => by rw [sm_v]; exact decide_eq_true rfl
  | 0, .tup _, _, h, _ => h.elim
  | n + 1, .tup ds, _, ⟨p, us, e, h1, h2, h3⟩, k => by
    show (decide (ds.length = ds.length) && (List.zipWith (smD n) ds ds).all id) = true
    rw [decide_eq_true rfl, Bool.true_and, List.all_eq_true]
    have hk : ∀ d ∈ ds, NlD d := by cases k with | tup k => exact k
    clear h1 h2
    induction h3 with
    | nil => exact fun b hb => (by cases hb)
    | cons r _ ih =>
      intro b hb
      rcases List.mem_cons.mp hb with rfl | hb
      · exact smD_refl r (hk _ List.mem_cons_self)
      · exact ih (.tup fun d hd => hk d (List.mem_cons_of_mem _ hd)) (fun d hd => hk d (List.mem_cons_of_mem _ hd)) b hb
  | _, .lst _, _, _, k => nomatch k
  | _, .dic, _, _, k => nomatch k
/-- pairs whose first is a number, as a dict -/
def kvZ {α : Type} (k : α → Int) (zs : List α) (vs : List V) : List (Key × V) := List.zipWith (fun z v => (Sum.inl (k z), v)) zs vs
theorem prs_dict {α : Type} {H : Hp} {n : Nat} {k : α → Int} {g : α → Dt} : ∀ {zs : List α} {us : List V}, All2 (AtD H (n + 1)) (zs.map fun z => Dt.tup [.v (.int (k z)), g z]) us → ∃ (ps : List Addr) (vs : List V), us = ps.map V.ref ∧ All2 (AtD H n) (zs.map g) vs ∧ Paired (fun p kv => Rd H p (.tup [kV kv.1, kv.2])) ps (kvZ k zs vs)
  | [], us, h => ⟨[], [], all2_n h, .nil, .nil⟩
  | z :: zs, us, h => by
    obtain ⟨b, cs, rfl, r1, h0⟩ := all2_c h
    obtain ⟨p, ws, rfl, hp, _, al⟩ := r1
    obtain ⟨u, xs, rfl, ru, al⟩ := all2_c al
    obtain ⟨v, rfl, rv⟩ := all2_1 al
    obtain ⟨rfl, _⟩ := atD_pl ru
    obtain ⟨ps, vs, rfl, h1, h2⟩ := prs_dict h0
    exact ⟨p :: ps, v :: vs, rfl, .cons rv h1, .cons hp h2⟩
theorem kvZ_keys {α : Type} {k : α → Int} : ∀ {zs : List α} {vs : List V}, vs.length = zs.length → (kvZ k zs vs).map (·.1) = zs.map fun z => Sum.inl (k z)
  | [], [], _ => rfl
  | z :: zs, v :: vs, h => by
    show Sum.inl (k z) :: (kvZ k zs vs).map (·.1) = _
    rw [kvZ_keys (by simpa using h)]
    rfl
  | [], _ :: _, h => by cases h
  | _ :: _, [], h => by cases h
theorem kvZ_val {α : Type} {H : Hp} {n : Nat} {k : α → Int} {g : α → Dt} : ∀ {zs : List α} {vs : List V}, (zs.map k).Nodup → All2 (AtD H n) (zs.map g) vs → ∀ z ∈ zs, ∃ v, valV (kvZ k zs vs) (.inl (k z)) = some v ∧ AtD H n (g z) v
  | [], vs, _, _, z, hz => by cases hz
  | y :: zs, vs, hn, h, z, hz => by
    obtain ⟨b, cs, rfl, r1, h⟩ := all2_c h
    rw [List.map_cons, List.nodup_cons] at hn
    by_cases c : k y = k z
    · rcases List.mem_cons.mp hz with rfl | hz
      · exact ⟨b, valV_pos (by rfl), r1⟩
      · exact absurd (c ▸ List.mem_map_of_mem hz) hn.1
    · have hz' : z ∈ zs := by
        rcases List.mem_cons.mp hz with rfl | hz
        · exact absurd rfl c
        · exact hz
      obtain ⟨v, h1, h2⟩ := kvZ_val hn.2 h z hz'
      exact ⟨v, by
        show valV ((Sum.inl (k y), b) :: kvZ k zs cs) _ = _
        rw [valV_neg (fun e => c (Sum.inl.inj e))]
        exact h1, h2⟩
theorem kvZ_mv {H : Hp} {n : Nat} {mv : Int → Int} : ∀ {zs : List Int} {vs : List V}, All2 (AtD H n) (zs.map fun i => Dt.v (.int (mv i))) vs → kvZ (fun i => i) zs vs = KvI zs mv
  | [], vs, h => by rw [all2_n h]; rfl
  | z :: zs, vs, h => by
    obtain ⟨b, cs, rfl, r1, h⟩ := all2_c h
    show (Sum.inl z, b) :: kvZ _ zs cs = _
    rw [kvZ_mv h, (atD_pl r1).1]
    rfl
/-- dict(x), x a name -/
theorem evd_dictZ {α : Type} {σ : L2.St} {H : Hp} {n x : Nat} {b : Addr} {k : α → Int} {g : α → Dt} {zs : List α} {Q : VK} (h : σ[x]? = some (some (.ref b))) (hd : AtD H (n + 2) (.tup (zs.map fun z => Dt.tup [.v (.int (k z)), g z])) (.ref b)) (hf : ∃ us, FrzT H b us) (hn : (zs.map k).Nodup) (q : ∀ p H' vs, Same H H' → DcF H' p (kvZ k zs vs) → All2 (AtD H' n) (zs.map g) vs → Q (.ref p) H') :
    tCB (fun xs H Q => ∃ (a : Addr) (ps : List Addr) (kvs : List (Key × V)), xs = [.ref a] ∧ FrzT H a (ps.map V.ref) ∧ Paired (fun p kv => Rd H p (.tup [kV kv.1, kv.2])) ps kvs ∧ ∀ p ob, H p = none → Q (.ref p) (upd H p (.frz ob (.dK (mergeK [] kvs))))) (tCons (tVar x) tNil) σ H Q := by
  obtain ⟨us, ob, hb, hdn⟩ := hf
  obtain ⟨p0, us2, e, h1, _, al⟩ := hd
  obtain rfl : b = p0 := V.ref.inj e
  have eu : us2 = us := by
    rcases h1 with h1 | ⟨o, h1⟩
    · rw [hb] at h1; cases h1
    · rw [hb] at h1; cases h1; rfl
  subst eu
  obtain ⟨ps, vs, rfl, h2, h3⟩ := prs_dict al
  have hl := h2.len
  rw [List.length_map] at hl
  have hk := kvZ_keys (k := k) (zs := zs) (vs := vs) hl.symm
  have hm : mergeK [] (kvZ k zs vs) = kvZ k zs vs := mergeK_nil (by
    rw [hk]
    have : (fun z => (Sum.inl (k z) : Key)) = (Sum.inl ∘ k) := rfl
    rw [this, ← List.map_map]
    exact List.Pairwise.map _ (fun a b h e => h (Sum.inl.inj e)) hn)
  refine ⟨_, h, b, ps, kvZ k zs vs, rfl, ⟨ob, hb, hdn⟩, h3, fun p ob2 hp => ?_⟩
  rw [hm]
  exact q p _ vs (same_new hp _) ⟨ob2, upd_same⟩ (h2.same (same_new hp _))
/-- [e for x in d], keys that are numbers -/
theorem evd_lcK {σ : L2.St} {H : Hp} {n i x : Nat} {a : Addr} {ws : List Nat} {te : TE} {kvs : List (Key × V)} {ks : List Int} {f : Int → Dt} (hx : σ[x]? = some (some (.ref a))) (hd : DcF H a kvs) (hk : kvs.map (·.1) = ks.map Sum.inl) (hl : ks.length ≤ 100000) (hw : ∀ x : Option V, wipe ((wipe σ ws).set i x) ws = wipe σ ws) (he : ∀ k ∈ ks, ∀ H2, Same H H2 → EvD te ((wipe σ ws).set i (some (.int k))) H2 n (f k)) (hn : ∀ k ∈ ks, NlD (f k)) : EvD (tLc (iKeys (tVar x)) (gName i) tYes te ws) σ H (n + 1) (.lst (ks.map f)) := fun H1 s1 Q q => by
  obtain ⟨ob, hd⟩ := hd
  have hd1 := s1 _ _ hd
  have hkl : kvs.length = ks.length := by have := congrArg List.length hk; rwa [List.length_map, List.length_map] at this
  refine ⟨_, hx, a, ob, rfl, .inl ⟨kvs, hd1, fun D hD => ?_⟩⟩
  refine lc_it (walk_keys (kvs := kvs)) (fun i Hn => Same H1 Hn ∧ ∃ acc, Hn D = some (.lst acc) ∧ All2 (AtD Hn n) ((ks.take i).map f) acc) ⟨same_new hD _, [], upd_same, .nil⟩ (fun i Hn _ h => h.1 _ _ hd1) ?_ ?_
  · rintro j y Hn Hm hj ⟨s, acc, hacc, hal⟩ ⟨ehm, k, v, hkv, rfl⟩
    subst ehm
    have hjk : j < ks.length := by omega
    have e1 : (kvs.map (·.1))[j]? = some k := by rw [List.getElem?_map, hkv]; rfl
    rw [hk, List.getElem?_map, List.getElem?_eq_getElem hjk] at e1
    obtain rfl : Sum.inl ks[j] = k := Option.some.inj e1
    refine ⟨hw _, ?_⟩
    unfold tYes
    simp only [if_true]
    refine he ks[j] (List.getElem_mem hjk) _ (s1.trans s) _ (Same.refl _) _ fun y H3 s3 ay => ?_
    have hacc3 := s3 _ _ hacc
    have hlen := hal.len
    rw [List.length_map, List.length_take] at hlen
    refine ⟨acc, hacc3, by rw [sizeLine_eq]; omega, same_upd (s.trans s3) hD _, acc ++ [y], upd_same, ?_⟩
    have e : (ks.take (j + 1)).map f = (ks.take j).map f ++ [f ks[j]] := by rw [List.take_add_one, List.getElem?_eq_getElem hjk, List.map_append]; rfl
    have tt := tups_lst (ys := acc ++ [y]) hacc3
    rw [e]
    refine All2.app ((hal.same s3).impM fun a ha b r => AtD.tups tt r ?_) (.cons (AtD.tups tt ay (hn _ (List.getElem_mem hjk))) .nil)
    obtain ⟨d', hd', rfl⟩ := List.mem_map.mp ha
    exact hn d' (List.mem_of_mem_take hd')
  · rintro Hn ⟨s, acc, hacc, hal⟩
    rw [hkl, List.take_length] at hal
    exact q _ Hn s ⟨D, acc, rfl, hacc, by rw [List.length_map]; exact hl, hal⟩
theorem evd_allI {σ : L2.St} {H : Hp} {n m : Nat} {te : TE} {K : PySem.W.Frag} {ks : List Int} {g : Int → Bool} (h : EvD te σ H (n + 1) (.lst (ks.map fun k => .v (.bl (g k))))) : EvD (tCB (rAll K) (tCons te tNil)) σ H m (.v (.bl (ks.all g))) := evd_allP h
theorem evd_mwh {σ : L2.St} {H : Hp} {E : XK} {x y z n : Nat} {c p : Addr} {i : Int} {kc kp : List (Key × V)} {v : V} {d : Dt} {ws : List Dt} (hx : σ[x]? = some (some (.ref c))) (hy : σ[y]? = some (some (.ref p))) (hz : σ[z]? = some (some (.int i))) (hc : Rd H c (.dK kc)) (hp : Rd H p (.dK kp)) (hv : valV kc (.inl i) = some v) (hd : AtD H 9 d v) (hcell : cellD d = true) (hws : wiD d = .tup ws) (hwo : ∀ e ∈ ws, woD e = true) : EvD (tCall spMwh [] E (tCons (tVar x) (tCons (tVar y) (tCons (tVar z) tNil)))) σ H n (.v (.bl (((ws.filter isTupD).map adrD).all (inD kp)))) := fun H1 s1 Q q => ⟨_, hx, _, hy, _, hz, c, p, i, kc, kp, v, d, ws, rfl, Rd.same_ s1 hc, Rd.same_ s1 hp, hv, hd.same s1, hcell, hws, hwo, fun H' s => q _ H' s (atD_v (.bl _))⟩
end My
set_option Elab.async false
set_option linter.all false
set_option maxRecDepth 100000
set_option maxHeartbeats 8000000
namespace My
open PySem L2 SS
def cellOf (cs : List (Int × Dt)) (i : Int) : Dt := ((cs.find? fun c => decide (c.1 = i)).map (·.2)).getD (.v .non)
theorem cellOf_mem {cs : List (Int × Dt)} (hn : (cs.map (·.1)).Nodup) {c : Int × Dt} (h : c ∈ cs) : cellOf cs c.1 = c.2 := by
  induction cs with
  | nil => cases h
  | cons d r ih =>
    rw [List.map_cons, List.nodup_cons] at hn
    rcases List.mem_cons.mp h with rfl | h
    · unfold cellOf
      rw [List.find?_cons]
      simp
    · have : d.1 ≠ c.1 := fun e => hn.1 (e ▸ List.mem_map_of_mem h)
      unfold cellOf
      rw [List.find?_cons, decide_eq_false this]
      exact ih hn.2 h
/-- a paper's data -/
def bfD (cs : List (Int × Dt)) : Dt := .tup (cs.map fun c => .tup [.v (.int c.1), c.2])
def inD_ (ns : List Int) : Dt := .tup (ns.map fun i => .v (.int i))
def mvsD (kept : List Int) (mv : Int → Int) : Dt := .tup (kept.map fun i => .tup [.v (.int i), .v (.int (mv i))])
structure Pap (cs : List (Int × Dt)) (roots kept : List Int) (mv : Int → Int) : Prop where
  cr : (cs.map (·.1)).Pairwise (· < ·)
  c0 : ∀ c ∈ cs, 0 ≤ c.1
  ck : ∀ c ∈ cs, CellOk (cs.map (·.1)) c.2
  cz : ∀ c ∈ cs, ∀ xs, c.2 = .tup xs → ∀ x ∈ xs, S0 x ∧ S1 x
  cl : cs.length ≤ 1000
  rr : roots.Pairwise (· < ·)
  r0 : ∀ i ∈ roots, 0 ≤ i
  kr : kept.Pairwise (· < ·)
  k0 : ∀ i ∈ kept, 0 ≤ i
  ki : ∀ i ∈ kept, i ∈ cs.map (·.1)
  kl : kept.length ≤ 1000
  m0 : ∀ i ∈ kept, 0 ≤ mv i
  mn : (kept.map mv).Nodup
def adrIn (kept : List Int) (e : Dt) : Bool := match e with
  | .tup [_, .v (.int i)] => decide (i ∈ kept)
  | _ => true
/-- whether all that a cell names is among some -/
def leadsIn (kept : List Int) (d : Dt) : Bool := ((tupsD (wiD d)).filter isTupD).all (adrIn kept)
def stB (cs : List (Int × Dt)) (roots kept : List Int) : Bool := roots.all (fun i => decide (i ∈ kept)) && kept.all fun i => leadsIn kept (cellOf cs i)
theorem ris_ints {ns : List Int} (h : ns.Pairwise (· < ·)) (h0 : ∀ i ∈ ns, 0 ≤ i) : risD (inD_ ns) = true := by
  show ((ns.map fun i => Dt.v (.int i)).all num0D && _) = true
  rw [Bool.and_eq_true, List.all_eq_true, List.all_eq_true]
  refine ⟨fun d hd => ?_, ?_⟩
  · obtain ⟨i, hi, rfl⟩ := List.mem_map.mp hd
    exact decide_eq_true (h0 i hi)
  · clear h0
    induction h with
    | nil => exact fun z hz => (by cases hz)
    | @cons a l ha hl ih =>
      intro z hz
      cases l with
      | nil => cases hz
      | cons b r =>
        rcases List.mem_cons.mp (show z ∈ (Dt.v (.int a), Dt.v (.int b)) :: ((b :: r).map fun i => Dt.v (.int i)).zip ((r).map fun i => Dt.v (.int i)) from hz) with rfl | hz
        · exact decide_eq_true (ha b List.mem_cons_self)
        · exact ih z hz
theorem pap_cba {cs : List (Int × Dt)} {roots kept : List Int} {mv : Int → Int} (h : Pap cs roots kept mv) : cbaD (bfD cs) = true := by
  unfold cbaD bfD prsD tupsD
  simp only [Bool.and_eq_true, List.all_eq_true]
  refine ⟨fun d hd => ?_, ?_, fun d hd => ?_⟩
  · obtain ⟨c, _, rfl⟩ := List.mem_map.mp hd
    rfl
  · have := ris_ints h.cr (by
      intro i hi
      obtain ⟨c, hc, rfl⟩ := List.mem_map.mp hi
      exact h.c0 c hc)
    unfold inD_ at this
    rw [List.map_map] at this
    rw [List.map_map]
    exact this
  · obtain ⟨c, hc, rfl⟩ := List.mem_map.mp hd
    exact (h.ck c hc).c
theorem pap_mv {cs : List (Int × Dt)} {roots kept : List Int} {mv : Int → Int} (h : Pap cs roots kept mv) : mvD (mvsD kept mv) = true := by
  unfold mvD mvsD prsD tupsD
  simp only [Bool.and_eq_true, List.all_eq_true]
  refine ⟨fun d hd => ?_, ?_, fun d hd => ?_⟩
  · obtain ⟨c, _, rfl⟩ := List.mem_map.mp hd
    rfl
  · have := ris_ints h.kr h.k0
    unfold inD_ at this
    rw [List.map_map]
    exact this
  · obtain ⟨e, he, rfl⟩ := List.mem_map.mp hd
    obtain ⟨i, hi, rfl⟩ := List.mem_map.mp he
    exact decide_eq_true (h.m0 i hi)
theorem lt_nodup {ns : List Int} (h : ns.Pairwise (· < ·)) : ns.Nodup := h.imp fun h e => by omega
theorem le_unique {ns ms : List Int} (h : ns.Pairwise (· ≤ ·)) (k : ms.Pairwise (· ≤ ·)) (p : ns.Perm ms) : ns = ms := p.eq_of_pairwise (fun a b _ _ h1 h2 => by omega) h k
theorem inD_kv {kept : List Int} {mv : Int → Int} {e : Dt} (h : woD e = true) (ht : isTupD e = true) : inD (KvI kept mv) (adrD e) = adrIn kept e := by
  obtain ⟨i, rfl, _⟩ := cw_shape (wo_tup h ht)
  show (valV (KvI kept mv) (.inl i)).isSome = decide (i ∈ kept)
  by_cases c : i ∈ kept
  · rw [valV_kvI c, decide_eq_true c]
    rfl
  · rw [valV_kvI_no c, decide_eq_false c]
    rfl
theorem leads_eq {kept : List Int} {mv : Int → Int} {d : Dt} {ws : List Dt} (hw : wiD d = .tup ws) (h : ∀ e ∈ ws, woD e = true) : ((ws.filter isTupD).map adrD).all (inD (KvI kept mv)) = leadsIn kept d := by
  unfold leadsIn
  rw [hw, List.all_map]
  show _ = (ws.filter isTupD).all _
  rw [Bool.eq_iff_iff, List.all_eq_true, List.all_eq_true]
  constructor
  · intro k e he
    obtain ⟨h1, h2⟩ := List.mem_filter.mp he
    rw [← inD_kv (mv := mv) (h e h1) h2]
    exact k e he
  · intro k e he
    obtain ⟨h1, h2⟩ := List.mem_filter.mp he
    have := k e he
    rw [← inD_kv (mv := mv) (h e h1) h2] at this
    exact this
theorem leads_ok {kept ks : List Int} {d : Dt} (h : CellOk ks d) (k : leadsIn kept d = true) : CellOk kept d := by
  obtain ⟨ws, hw, h1, _⟩ := h.wi
  refine ⟨h.c, h.nl, ws, hw, h1, fun c i hi => ?_⟩
  unfold leadsIn at k
  rw [hw, List.all_eq_true] at k
  have := k _ (List.mem_filter.mpr ⟨hi, rfl⟩)
  exact of_decide_eq_true this
theorem evs_unp4 {K : PySem.W.Frag} {σ : L2.St} {H : Hp} {tz : TS} {x i j m l : Nat} {t : Addr} {a b c d : V} {r : Bool} (hx : σ[x]? = some (some (.ref t))) (ht : TupA H t [a, b, c, d]) (k : EvS tz ((((σ.set i (some a)).set j (some b)).set m (some c)).set l (some d)) H r) : EvS (tSeq (tAsg (tVar x) (gTup K 4 (gCons (gName i) (gCons (gName j) (gCons (gName m) (gCons (gName l) gNil)))))) tz) σ H r := fun H1 s1 D q => ⟨_, hx, t, _, rfl, TupA.sq (TupA.same s1 ht), rfl, _, _, rfl, _, _, rfl, _, _, rfl, _, _, rfl, rfl, k H1 s1 D q⟩
theorem evs_dictZ {α : Type} {σ : L2.St} {H : Hp} {n x i : Nat} {b : Addr} {k : α → Int} {g : α → Dt} {zs : List α} {tz : TS} {r : Bool} (h : σ[x]? = some (some (.ref b))) (hd : AtD H (n + 2) (.tup (zs.map fun z => Dt.tup [.v (.int (k z)), g z])) (.ref b)) (hf : ∃ us, FrzT H b us) (hn : (zs.map k).Nodup) (q : ∀ p H' vs, Same H H' → DcF H' p (kvZ k zs vs) → All2 (AtD H' n) (zs.map g) vs → EvS tz (σ.set i (some (.ref p))) H' r) :
    EvS (tSeq (tAsg (tCB (fun xs H Q => ∃ (a : Addr) (ps : List Addr) (kvs : List (Key × V)), xs = [.ref a] ∧ FrzT H a (ps.map V.ref) ∧ Paired (fun p kv => Rd H p (.tup [kV kv.1, kv.2])) ps kvs ∧ ∀ p ob, H p = none → Q (.ref p) (upd H p (.frz ob (.dK (mergeK [] kvs))))) (tCons (tVar x) tNil)) (gName i)) tz) σ H r := fun H1 s1 D qq => by
  exact evd_dictZ (Q := fun v H' => tz D (σ.set i (some v)) H') h (hd.same s1) (by obtain ⟨us, ob, h1, h2⟩ := hf; exact ⟨us, ob, s1 _ _ h1, h2⟩) hn fun p H' vs s hp hv => q p H' vs (s1.trans s) hp hv H' (Same.refl _) D fun H2 s2 => qq H2 (s.trans s2)
def spSw : Sp := fun vs H Q _ => ∃ (t : Addr) (b r m h : V) (bp mp : Addr) (cs : List (Int × Dt)) (roots kept : List Int) (mv : Int → Int) (bs : List Dt), vs = [.ref t] ∧ TupA H t [b, r, m, h] ∧ b = .ref bp ∧ m = .ref mp ∧ (∃ us, FrzT H bp us) ∧ (∃ us, FrzT H mp us) ∧
  AtD H 8 (bfD cs) b ∧ AtD H 8 (inD_ roots) r ∧ AtD H 8 (mvsD kept mv) m ∧ AtD H 8 (.tup bs) h ∧ Pap cs roots kept mv ∧
  (stB cs roots kept = true → ∀ (ns : List Int) (f : Int → Dt), ns.Perm (kept.map mv) → ns.Pairwise (· ≤ ·) → (∀ i ∈ kept, f (mv i) = mcD mv (cellOf cs i)) → bs = ns.map (pcD f)) ∧ ∀ H', Same H H' → Q (.bl (stB cs roots kept)) H'
section
variable {P : Program} {w : World} {K : PySem.W.Frag} {mg : Str → Option Value} {base : Heap}
theorem scSs : FnScope ["thing", "before", "roots", "moves", "behind", "cells", "places", "root", "address"] ["thing"] (defScope s_sweep_stands) := ⟨rfl, rfl, rfl, by decide +kernel, rfl, by decide +kernel, by decide +kernel⟩
theorem c_ss (b_all : mg "all" = none) (b_dict : mg "dict" = none) (RW_ : C0 P w K mg base 1 "is_row" (spG2 9 (fun _ u => ∃ i : Int, u = .int i) rowD)) (CA : C0 P w K mg base 7 "are_cells_by_addresses" (spG1 9 Scba cbaD)) (RI : C0 P w K mg base 3 "are_rising" (spG1 9 (fun _ => True) risD)) (MV : C0 P w K mg base 4 "are_moves" (spG1 9 Smv mvD)) (MH : C0 P w K mg base 2 "is_moved_whole" spMwh) (MC : C0 P w K mg base 2 "moved_cells" spMc) (SA : C0 P w K mg base 14 "same" (spSa 12)) (D : Dn K mg "sweep_stands" s_sweep_stands) : C0 P w K mg base 15 "sweep_stands" spSw := by
  obtain ⟨f, fd, F, hmm⟩ := D.ex
  refine ⟨f, fd, ["thing"], F.ok scSs (fun vs H Q E h => ?_) (fun cdv A outer s H vs Q E hr h => ?_), hmm, F.kp, F.binds (ps := ["thing"]) fun _ _ _ _ _ _ us hl => match us, hl with | [_], _ => rfl⟩
  · obtain ⟨t, b, r, m, h, bp, mp, cs, roots, kept, mv, bs, rfl, _⟩ := h
    rfl
  obtain ⟨t, b, r, m, h, bp, mp, cs, roots, kept, mv, bs, rfl, ht, rfl, rfl, hfb, hfm, ab, ar, am, ah, pap, hbs, kq⟩ := h
  refine ⟨_, pss_cons (ps_if (pt_not (pt_val (pe_cc RW_ hr (by omega) pass0 (pa_cons (pv 0) (pa_cons pe_int pa_nil)))))
      (pss_one (ps_ret pe_bl))
      (pss_nil)) <|
    pss_cons (ps_asg (pv 0) (pg_tup (by rfl) (pgs_cons (pg_name (i := 1) scSs.nd rfl (Or.inl rfl)) (pgs_cons (pg_name (i := 2) scSs.nd rfl (Or.inl rfl)) (pgs_cons (pg_name (i := 3) scSs.nd rfl (Or.inl rfl)) (pgs_cons (pg_name (i := 4) scSs.nd rfl (Or.inl rfl)) pgs_nil)))))) <|
    pss_cons (ps_if (pt_not (PW.pt (pw_and (pt_val (pe_cc CA hr (by omega) pass0 (pa_cons (pv 1) pa_nil))) (pw_and (pt_val (pe_cc RI hr (by omega) pass0 (pa_cons (pv 2) pa_nil))) (pw_and1 (pt_val (pe_cc MV hr (by omega) pass0 (pa_cons (pv 3) pa_nil))))))))
      (pss_one (ps_ret pe_bl))
      (pss_nil)) <|
    pss_cons (ps_set (i := 5) scSs.nd rfl (Or.inr rfl) (pe_callTy (call_dictTF rfl) (by rfl) b_dict (by decide +kernel) (pa_cons (pv 1) pa_nil))) <|
    pss_cons (ps_set (i := 6) scSs.nd rfl (Or.inr rfl) (pe_callTy (call_dictTF rfl) (by rfl) b_dict (by decide +kernel) (pa_cons (pv 3) pa_nil))) <|
    pss_cons (ps_if (pt_not (pt_val (pe_callB (cr_all rfl) (by rfl) b_all (by decide +kernel) (pa_cons (pe_lc (own := [("root", 7)]) (g := (gName 7)) (tt := tYes) rfl scSs.nd (pi_tup (pv 2)) (blkOk_by (own := [("root", 7)]) (N := ["thing", "before", "roots", "moves", "behind", "cells", "places", "root", "address"]) (sc := defScope s_sweep_stands) (by decide +kernel)) (fun _ _ _ _ _ => (pg_name (i := 7) scSs.nd rfl (Or.inl rfl))) (fun _ _ _ _ _ => pts_nil) (fun _ _ _ _ _ => (pe_cmp (pc_din (hu_of hr) (pv 7) (pv 6))))) pa_nil))))
      (pss_one (ps_ret pe_bl))
      (pss_nil)) <|
    pss_cons (ps_if (pt_not (pt_val (pe_callB (cr_all rfl) (by rfl) b_all (by decide +kernel) (pa_cons (pe_lc (own := [("address", 8)]) (g := (gName 8)) (tt := tYes) rfl scSs.nd (pi_keys (pv 6)) (blkOk_by (own := [("address", 8)]) (N := ["thing", "before", "roots", "moves", "behind", "cells", "places", "root", "address"]) (sc := defScope s_sweep_stands) (by decide +kernel)) (fun _ _ _ _ _ => (pg_name (i := 8) scSs.nd rfl (Or.inl rfl))) (fun _ _ _ _ _ => pts_nil) (fun _ _ _ _ _ => (pe_cc MH hr (by omega) pass0 (pa_cons (pv 5) (pa_cons (pv 6) (pa_cons (pv 8) pa_nil)))))) pa_nil))))
      (pss_one (ps_ret pe_bl))
      (pss_nil)) <|
    pss_one (ps_ret (pe_cc SA hr (by omega) pass0 (pa_cons (pe_cc MC hr (by omega) pass0 (pa_cons (pv 5) (pa_cons (pv 6) pa_nil))) (pa_cons (pv 4) pa_nil)))), ?_⟩
  have t9 : AtD H 9 (.tup [bfD cs, inD_ roots, mvsD kept mv, .tup bs]) (.ref t) := ⟨t, _, rfl, ht, Nat.le_of_ble_eq_true rfl, .cons ab (.cons ar (.cons am (.cons ah .nil)))⟩
  have scba : Scba (bfD cs) := fun e he => by
    obtain ⟨c, hc, rfl⟩ := List.mem_map.mp he
    exact ⟨.v, fun xs hx => pap.cz c hc xs hx⟩
  have smv : Smv (mvsD kept mv) := ⟨fun e he => by
    obtain ⟨i, hi, rfl⟩ := List.mem_map.mp he
    exact ⟨.v, .v⟩, fun ns hns => by
    have e : ns = kept.map mv := by
      have hns : (kept.map fun i => Dt.tup [.v (.int i), .v (.int (mv i))]).map snd2D = ns.map fun i => .v (.int i) := hns
      rw [List.map_map] at hns
      have inj : ∀ {xs ys : List Int}, (xs.map fun i => Dt.v (.int i)) = ys.map (fun i => Dt.v (.int i)) → xs = ys := by
        intro xs
        induction xs with
        | nil => intro ys h; cases ys with
          | nil => rfl
          | cons _ _ => cases h
        | cons x xs ih => intro ys h; cases ys with
          | nil => cases h
          | cons y ys =>
            rw [List.map_cons, List.map_cons] at h
            injection h with h1 h2
            injection h1 with h1
            injection h1 with h1
            rw [h1, ih h2]
      exact inj (by rw [← hns, List.map_map]; rfl)
    rw [e]
    exact ⟨pap.mn, by rw [List.length_map]; have := pap.kl; omega⟩⟩
  have st : stB cs roots kept = (if false = true then false else if (!roots.all fun i => decide (i ∈ kept)) = true then false else if (!kept.all fun i => leadsIn kept (cellOf cs i)) = true then false else true) := by
    unfold stB
    cases roots.all (fun i => decide (i ∈ kept)) <;> cases kept.all (fun i => leadsIn kept (cellOf cs i)) <;> rfl
  have up : ∀ {n m : Nat} {d : Dt} {v : V} {H' : Hp}, AtD H n d v → Same H H' → n ≤ m → AtD H' m d v := fun a s h => (a.same s).mono h
  refine EvS.go (b := stB cs roots kept) (EvS.as (evs_if (a := false) (b := stB cs roots kept) (evt_as (b := false) (evt_not (evt_b (evd_c2 (n := 0) (evd_var rfl t9) (evd_c (.int _)) ⟨_, rfl⟩))) rfl) (fun c => (by cases c)) fun _ => evs_unp4 rfl ht ?_) rfl) kq
  rw [st]
  refine evs_if (c := false) ?_ (fun c => (by cases c)) fun _ => ?_
  · refine evt_as (evt_not (evt_and (a := true) (b := true) ?_ fun _ => evt_and (a := true) (b := true) ?_ fun _ => ?_)) rfl
    · exact evt_as (evt_b (evd_c1 (n := 0) (evd_var rfl (ab.mono (Nat.le_succ 8))) scba)) (pap_cba pap)
    · exact evt_as (evt_b (evd_c1 (n := 0) (evd_var rfl (ar.mono (Nat.le_succ 8))) trivial)) (ris_ints pap.rr pap.r0)
    · exact evt_as (evt_b (evd_c1 (n := 0) (evd_var rfl (am.mono (Nat.le_succ 8))) smv)) (pap_mv pap)
  refine evs_dictZ (n := 6) (zs := cs) (k := fun c => c.1) (g := fun c => c.2) rfl (show AtD H (6 + 2) (.tup (cs.map fun z => Dt.tup [.v (.int z.1), z.2])) _ from ab) hfb (lt_nodup pap.cr) fun cp H3 vs s3 hcp hvs => ?_
  refine evs_dictZ (n := 6) (zs := kept) (k := fun i => i) (g := fun i => .v (.int (mv i))) rfl (am.same s3) (by obtain ⟨us, ob, h1, h2⟩ := hfm; exact ⟨us, ob, s3 _ _ h1, h2⟩) (by rw [List.map_id']; exact lt_nodup pap.kr) fun pp H4 vs' s4 hpp hvs' => ?_
  rw [kvZ_mv hvs'] at hpp
  have s04 := s3.trans s4
  have hcp4 := hcp.same s4
  have cval : ∀ i ∈ kept, ∃ v, valV (kvZ (fun c : Int × Dt => c.1) cs vs) (.inl i) = some v ∧ AtD H4 6 (cellOf cs i) v ∧ CellOk (cs.map (·.1)) (cellOf cs i) := fun i hi => by
    obtain ⟨c, hc, rfl⟩ := List.mem_map.mp (pap.ki i hi)
    obtain ⟨v, h1, h2⟩ := kvZ_val (lt_nodup pap.cr) hvs c hc
    rw [cellOf_mem (lt_nodup pap.cr) hc]
    exact ⟨v, h1, h2.same s4, pap.ck c hc⟩
  refine evs_if (evt_as (evt_not (evt_b (evd_allT (K := K) (m := 7) (n := 0) (g := inD (KvI kept mv)) (evd_var rfl (ar.same s04)) (fun _ => rfl) fun d hd x H5 s5 ax => ?_))) ?_) (fun _ => evs_ret (evd_c (.bl _))) fun cr => ?_
  · obtain ⟨i, hi, rfl⟩ := List.mem_map.mp hd
    exact evd_din (n := 7) rfl (Rd.same_ s5 hpp.rd) (evd_var rfl ax)
  · rw [List.all_map]
    congr 2
    funext i
    show (valV (KvI kept mv) (.inl i)).isSome = decide (i ∈ kept)
    by_cases c : i ∈ kept
    · rw [valV_kvI c, decide_eq_true c]
      rfl
    · rw [valV_kvI_no c, decide_eq_false c]
      rfl
  refine evs_if (evt_not (evt_b (evd_allI (K := K) (n := 0) (m := 0) (evd_lcK rfl hpp (List.map_map ..) (by have := pap.kl; omega) (fun _ => rfl) (fun i hi H5 s5 => ?_) fun _ _ => .v)))) (fun _ => evs_ret (evd_c (.bl _))) fun ck => ?_
  · obtain ⟨v, h1, h2, h3⟩ := cval i hi
    obtain ⟨ws, hw, hw1, _⟩ := h3.wi
    refine evd_as (evd_mwh rfl rfl rfl (Rd.same_ s5 hcp4.rd) (Rd.same_ s5 hpp.rd) h1 ((h2.same s5).mono (by decide)) h3.c hw fun e he => (hw1 e he).1) ?_
    exact leads_eq hw fun e he => (hw1 e he).1
  have hst : stB cs roots kept = true := by
    unfold stB
    simp only [Bool.not_eq_false'] at cr ck
    rw [cr, ck]
    rfl
  have hcl : ∀ i ∈ kept, leadsIn kept (cellOf cs i) = true := by
    have := (Bool.and_eq_true _ _ ▸ (show (_ && _) = true from hst)).2
    exact List.all_eq_true.mp this
  let ff : Int → Dt := fun j => ((kept.find? fun i => decide (mv i = j)).map fun i => mcD mv (cellOf cs i)).getD (.v .non)
  have hff : ∀ i ∈ kept, ff (mv i) = mcD mv (cellOf cs i) := fun i hi => by
    show ((kept.find? fun i' => decide (mv i' = mv i)).map _).getD _ = _
    cases hfi : kept.find? (fun i' => decide (mv i' = mv i)) with
    | none =>
      have := List.find?_eq_none.mp hfi i hi
      simp at this
    | some i' =>
      have h1 : mv i' = mv i := by simpa using List.find?_some hfi
      have h2 := List.mem_of_find?_eq_some hfi
      have : i' = i := by
        have nd := pap.mn
        obtain ⟨a, ha, rfl⟩ := List.mem_iff_getElem.mp h2
        obtain ⟨b, hb, rfl⟩ := List.mem_iff_getElem.mp hi
        by_cases c : a = b
        · subst c; rfl
        · exfalso
          rcases Nat.lt_or_gt_of_ne c with c | c
          · exact List.pairwise_iff_getElem.mp nd a b (by rw [List.length_map]; exact ha) (by rw [List.length_map]; exact hb) c (by rw [List.getElem_map, List.getElem_map]; exact h1)
          · exact List.pairwise_iff_getElem.mp nd b a (by rw [List.length_map]; exact hb) (by rw [List.length_map]; exact ha) c (by rw [List.getElem_map, List.getElem_map]; exact h1.symm)
      rw [this]
      rfl
  refine fun H5 s5 D q => ⟨_, rfl, _, rfl, cp, pp, _, kept, mv, cellOf cs, ff, rfl, Rd.same_ s5 hcp4.rd, hpp.same s5, pap.kl, pap.mn, fun i hi => ?_, fun v' H6 ns s6 hpm hpw a6 => ⟨_, rfl, v', h, true, rfl, ?_, fun H7 s7 => q H7 (s6.trans s7)⟩⟩
  · obtain ⟨v, h1, h2, h3⟩ := cval i hi
    exact ⟨v, h1, (h2.same s5).mono (by decide), leads_ok h3 (hcl i hi), hff i hi⟩
  · have eb := hbs hst ns ff hpm hpw hff
    have s06 := s04.trans (s5.trans s6)
    have ah6 := (ah.same s06).mono (show 8 ≤ 12 by decide)
    rw [eb] at ah6
    have := sm_at 12 a6 ah6
    rw [smD_refl a6 (.tup fun d hd => by
      obtain ⟨j, hj, rfl⟩ := List.mem_map.mp hd
      obtain ⟨i, hi, rfl⟩ := List.mem_map.mp (hpm.mem_iff.mp hj)
      refine .tup fun e he => ?_
      simp only [List.mem_cons, List.not_mem_nil, or_false] at he
      rcases he with rfl | rfl
      · exact .v
      · rw [hff i hi]
        obtain ⟨v, _, _, h3⟩ := cval i hi
        exact mcD_nl (leads_ok h3 (hcl i hi)))] at this
    exact this
end
end My
set_option Elab.async false
set_option linter.all false
set_option maxRecDepth 100000
set_option maxHeartbeats 4000000
namespace My
open PySem L2 SS
theorem sqL_same {K : PySem.W.Frag} {H H' : Hp} {a : Addr} {xs : List V} (h : SqL K H a xs) (s : Same H H') : SqL K H' a xs := h.imp (fun r => r.elim (fun h => .inl (s _ _ h)) fun ⟨o, h⟩ => .inr ⟨o, s _ _ h⟩) fun h => h
theorem asg_go {te : TE} {tz : TS} {D : Ends} {σ : L2.St} {H : Hp} {i : Nat} (h : te σ H fun v H1 => tz D (σ.set i (some v)) H1) : tSeq (tAsg te (gName i)) tz D σ H := h
theorem asg_1 {te : TE} {D : Ends} {σ : L2.St} {H : Hp} {i : Nat} (h : te σ H fun v H1 => D.nx (σ.set i (some v)) H1) : tAsg te (gName i) D σ H := h
theorem ret_go {te : TE} {D : Ends} {σ : L2.St} {H : Hp} (h : te σ H D.rt) : L2.tRet te D σ H := h
/-! ### all stands but some lists -/
def SX (B : List Addr) (H H' : Hp) : Prop := ∀ b u, b ∉ B → H b = some u → H' b = some u
theorem SX.refl {B : List Addr} {H : Hp} : SX B H H := fun _ _ _ h => h
theorem SX.trans {B : List Addr} {H H1 H2 : Hp} (a : SX B H H1) (b : SX B H1 H2) : SX B H H2 := fun q u n h => b q u n (a q u n h)
theorem SX.same {B : List Addr} {H H' : Hp} (s : Same H H') : SX B H H' := fun q u _ h => s q u h
theorem SX.upd {B : List Addr} {p : Addr} {H : Hp} (o : HO) (hp : p ∈ B) : SX B H (upd H p o) := fun q u n h => by rw [upd_ne (fun e => n (by rw [e]; exact hp))]; exact h
theorem SX.new {B : List Addr} {H H1 : Hp} {q : Addr} {o : HO} (s : SX B H H1) (h : H1 q = none) : SX B H (L2.upd H1 q o) := s.trans (SX.same (same_new h _))
theorem SX.more {B C : List Addr} {H H' : Hp} (s : SX B H H') (h : ∀ b ∈ B, b ∈ C) : SX C H H' := fun q u n e => s q u (fun z => n (h q z)) e
/-- nothing that is new was there -/
theorem SX.free {B : List Addr} {H H' : Hp} (s : SX B H H') (hB : ∀ b ∈ B, H' b ≠ none) {q : Addr} (h : H' q = none) : H q = none := by
  cases e : H q with
  | none => rfl
  | some u =>
    by_cases c : q ∈ B
    · exact absurd h (hB q c)
    · rw [s q u c e] at h
      cases h
/-- what changes are lists -/
def Lsts (B : List Addr) (H : Hp) : Prop := ∀ b ∈ B, ∃ xs, H b = some (.lst xs)
theorem Lsts.tups {B : List Addr} {H H' : Hp} (l : Lsts B H) (s : SX B H H') : Tups H H' := by
  refine ⟨fun q ys e => s q _ (fun z => ?_) e, fun q o u e => s q _ (fun z => ?_) e⟩
  · obtain ⟨xs, h⟩ := l q z
    rw [h] at e
    cases e
  · obtain ⟨xs, h⟩ := l q z
    rw [h] at e
    cases e
theorem Lsts.ne {B : List Addr} {H : Hp} (l : Lsts B H) {q : Addr} (h : H q = none) : q ∉ B := fun z => by
  obtain ⟨xs, e⟩ := l q z
  rw [e] at h
  cases h
theorem Lsts.some {B : List Addr} {H : Hp} (l : Lsts B H) : ∀ b ∈ B, H b ≠ none := fun b hb => by
  obtain ⟨xs, e⟩ := l b hb
  rw [e]
  exact fun z => by cases z
theorem FrzT.sx {B : List Addr} {H H' : Hp} {p : Addr} {xs : List V} (l : Lsts B H) (s : SX B H H') (h : FrzT H p xs) : FrzT H' p xs := by
  obtain ⟨ob, h1, h2⟩ := h
  refine ⟨ob, s p _ (fun z => ?_) h1, h2⟩
  obtain ⟨ys, e⟩ := l p z
  rw [e] at h1
  cases h1
theorem SX.late {B : List Addr} {H H' : Hp} {q : Addr} (s : SX B H H') (h : H q = none) (o : HO) : SX B H (L2.upd H' q o) := fun b u n e => by rw [upd_ne (ne_of_none e h)]; exact s b u n e
/-! ### the deck of digits and cells -/
def DkQ (H : Hp) (p l m : Addr) (a : Nat) : Prop := ∃ (a' : Nat) (xs ms : List Int), a' ≤ a ∧ H p = some (.lst [.ref l, .ref m, .int (a' : Nat)]) ∧ H l = some (.lst (xs.map V.int)) ∧ H m = some (.lst (ms.map V.int)) ∧ p ≠ l ∧ p ≠ m ∧ l ≠ m ∧ ms ≠ [] ∧ ∀ v ∈ ms, 0 ≤ v ∧ v < 2147483629
section
variable {H H' : Hp} {p l m q : Addr} {a b : Nat}
theorem DkQ.mono (d : DkQ H p l m a) (h : a ≤ b) : DkQ H p l m b := by
  obtain ⟨a', xs, ms, h1, r⟩ := d
  exact ⟨a', xs, ms, by omega, r⟩
theorem DkQ.same (d : DkQ H p l m a) (s : Same H H') : DkQ H' p l m a := by
  obtain ⟨a', xs, ms, h1, h2, h3, h4, r⟩ := d
  exact ⟨a', xs, ms, h1, s _ _ h2, s _ _ h3, s _ _ h4, r⟩
theorem DkQ.lsts (d : DkQ H p l m a) : Lsts [p, l] H := by
  obtain ⟨a', xs, ms, h1, h2, h3, h4, r⟩ := d
  intro b hb
  simp only [List.mem_cons, List.not_mem_nil, or_false] at hb
  rcases hb with rfl | rfl
  · exact ⟨_, h2⟩
  · exact ⟨_, h3⟩
theorem DkQ.ne (d : DkQ H p l m a) (h : H q = none) : q ∉ [p, l, m] := by
  obtain ⟨a', xs, ms, h1, h2, h3, h4, r⟩ := d
  simp only [List.mem_cons, List.not_mem_nil, or_false, not_or]
  exact ⟨fun e => (by rw [e, h2] at h; cases h), fun e => (by rw [e, h3] at h; cases h), fun e => (by rw [e, h4] at h; cases h)⟩
/-- another object is changed -/
theorem DkQ.set (d : DkQ H p l m a) (h : q ∉ [p, l, m]) (o : HO) : DkQ (upd H q o) p l m a := by
  obtain ⟨a', xs, ms, h1, h2, h3, h4, r⟩ := d
  simp only [List.mem_cons, List.not_mem_nil, or_false, not_or] at h
  exact ⟨a', xs, ms, h1, by rw [upd_ne (Ne.symm h.1)]; exact h2, by rw [upd_ne (Ne.symm h.2.1)]; exact h3, by rw [upd_ne (Ne.symm h.2.2)]; exact h4, r⟩
theorem ne2 (h : q ∉ [p, l, m]) : q ∉ [p, l] := by
  simp only [List.mem_cons, List.not_mem_nil, or_false, not_or] at h ⊢
  exact ⟨h.1, h.2.1⟩
/-- numbers away from the deck -/
def NsA (H : Hp) (p l q : Addr) (ss : List Int) : Prop := H q = some (.lst (ss.map V.int)) ∧ q ∉ [p, l] ∧ (∀ i ∈ ss, 0 ≤ i ∧ i ≤ 1000000000000000000000000) ∧ ss.length ≤ 1000
theorem NsA.sx {ss : List Int} (h : NsA H p l q ss) (s : SX [p, l] H H') : NsA H' p l q ss := ⟨s _ _ h.2.1 h.1, h.2⟩
end
/-- leaves that are written in few signs -/
def leafOk (x : V) : Bool := match x with
  | .non => true
  | .bl _ => true
  | .int i => decide (-1000000000000000000000000 ≤ i) && decide (i ≤ 1000000000000000000000000)
  | .str z => decide ((reprText z).length ≤ 60)
  | _ => false
inductive LfOk : Dt → Prop
  | v {x : V} (h : leafOk x = true) : LfOk (.v x)
  | tup {ds : List Dt} (h : ∀ d ∈ ds, LfOk d) : LfOk (.tup ds)
theorem lf_u {ds : List Dt} (h : LfOk (.tup ds)) : ∀ d ∈ ds, LfOk d := by
  cases h with
  | tup h => exact h
theorem lf_i {i : Int} (h0 : -1000000000000000000000000 ≤ i) (h1 : i ≤ 1000000000000000000000000) : LfOk (.v (.int i)) := .v (by show (decide _ && decide _) = true; rw [decide_eq_true h0, decide_eq_true h1]; rfl)
theorem lf_c {i : Int} (h0 : 0 ≤ i ∧ i ≤ 1000000000000000000000000) : LfOk (.tup [S2d "cell", .v (.int i)]) := .tup fun d hd => by
  simp only [List.mem_cons, List.not_mem_nil, or_false] at hd
  rcases hd with rfl | rfl
  · exact .v (by decide +kernel)
  · exact lf_i (by omega) h0.2
/-- a worth drawn -/
structure WtOk (ss : List Int) (d : Dt) : Prop where
  wo : woD d = true
  nl : NlD d
  s0 : S0 d
  le : ∀ c i, d = .tup [c, .v (.int i)] → i ∈ ss
  lf : LfOk d
theorem wt_cell {ss : List Int} {i : Int} (h : i ∈ ss) (h0 : 0 ≤ i ∧ i ≤ 1000000000000000000000000) : WtOk ss (.tup [S2d "cell", .v (.int i)]) := by
  refine ⟨?_, .tup fun d hd => ?_, fun z e => (by cases e), fun c j e => ?_, lf_c h0⟩
  · show (decide (V.str (Str.ofString "cell") = V.str (Str.ofString "cell")) && decide (0 ≤ i)) = true
    rw [decide_eq_true rfl, decide_eq_true h0.1]
    rfl
  · simp only [List.mem_cons, List.not_mem_nil, or_false] at hd
    rcases hd with rfl | rfl <;> exact .v
  · injection e with e
    injection e with _ e
    injection e with e
    injection e with e
    injection e with e
    exact e ▸ h
end My
set_option Elab.async false
set_option linter.all false
set_option maxRecDepth 100000
set_option maxHeartbeats 4000000
namespace My
open PySem L2 SS PySem.Spec PyProof.Rows
/-! ### != of what is equal -/
theorem flat_same {v : V} (h : flatV v = true) : eqV v v = true := by
  cases v with
  | int i => exact beq_self_eq_true i
  | str z => exact beq_self_eq_true z
  | bl b => exact beq_self_eq_true b
  | non => rfl
  | _ => first | cases h | rfl
/-- equal, item by item -/
def EqS (K : PySem.W.Frag) (H : Hp) : Nat → V → V → Prop
  | 0, x, y => x = y ∧ flatV x = true
  | n + 1, x, y => (x = y ∧ flatV x = true) ∨ ∃ (p q : Addr) (us vs : List V), x = .ref p ∧ y = .ref q ∧ ((SqT K H p us ∧ SqT K H q vs) ∨ (SqL K H p us ∧ SqL K H q vs)) ∧ All2 (EqS K H n) us vs
theorem EqS.flat {K : PySem.W.Frag} {H : Hp} {n : Nat} {x : V} (h : flatV x = true) : EqS K H n x x := by
  cases n with
  | zero => exact ⟨rfl, h⟩
  | succ n => exact .inl ⟨rfl, h⟩
theorem EqS.tup {K : PySem.W.Frag} {H : Hp} {n : Nat} {p q : Addr} {us vs : List V} (h1 : SqT K H p us) (h2 : SqT K H q vs) (h : All2 (EqS K H n) us vs) : EqS K H (n + 1) (.ref p) (.ref q) := .inr ⟨p, q, us, vs, rfl, rfl, .inl ⟨h1, h2⟩, h⟩
theorem EqS.lst {K : PySem.W.Frag} {H : Hp} {n : Nat} {p q : Addr} {us vs : List V} (h1 : SqL K H p us) (h2 : SqL K H q vs) (h : All2 (EqS K H n) us vs) : EqS K H (n + 1) (.ref p) (.ref q) := .inr ⟨p, q, us, vs, rfl, rfl, .inr ⟨h1, h2⟩, h⟩
theorem All2.get' {α β : Type} {R : α → β → Prop} {as : List α} {bs : List β} (h : All2 R as bs) {i : Nat} {a : α} {b : β} (ha : as[i]? = some a) (hb : bs[i]? = some b) : R a b := by
  obtain ⟨a', h1, h2⟩ := h.get hb
  rw [ha] at h1
  cases h1
  exact h2
theorem vals_get2 : ∀ {xs : List V} {us : List Value}, Vals xs us → ∀ {j : Nat} {u : Value}, us[j]? = some u → ∃ x, xs[j]? = some x ∧ RelV x u
  | _, _, .nil, j, u, h => by simp at h
  | _, _, .cons (a := a) (b := b) r t, 0, u, h => by
    have e : b = u := by simpa using h
    subst e
    exact ⟨a, rfl, r⟩
  | _, _, .cons r t, j + 1, u, h => by
    obtain ⟨x, h1, h2⟩ := vals_get2 t (j := j) (u := u) (by simpa using h)
    exact ⟨x, by simpa using h1, h2⟩
theorem all_t (n : Nat) : (List.range n).all (fun _ => true) = true := List.all_eq_true.mpr fun _ _ => rfl
section
variable {X : Cx} {pins : List (Addr × Obj)} {σ : L2.St} {H : Hp} {s : Shared}
theorem eqS_at (I : Inv X pins σ H s) : ∀ (n : Nat) (A : Around) (x y : V) (u v : Value), A.units + n < cLine → EqS X.K H n x y → RelV x u → RelV y v → SeqAt.EqAt A s u v true
  | 0, A, x, y, u, v, hu, ⟨e, f⟩, rx, ry => by
    subst e
    have := eqAt_V (A := A) (s := s) rx ry f f
    rw [flat_same f] at this
    exact this
  | n + 1, A, x, y, u, v, hu, h, rx, ry => by
    rcases h with ⟨e, f⟩ | ⟨p, q, us, vs, e1, e2, hh, ha⟩
    · subst e
      have := eqAt_V (A := A) (s := s) rx ry f f
      rw [flat_same f] at this
      exact this
    subst e1
    subst e2
    cases rx
    cases ry
    by_cases hpq : p = q
    · subst hpq
      exact SeqAt.EqAt.same _
    refine SeqAt.EqAt.of_refs hpq ?_
    have la := ha.len
    rcases hh with ⟨h1, h2⟩ | ⟨h1, h2⟩
    · obtain ⟨its, r1, p1, _⟩ := I.tuple h1
      obtain ⟨its2, r2, p2, _⟩ := I.tuple h2
      have g1 := r1.length
      have g2 := r2.length
      have key := SeqAt.RcAt.tuples (A := A) (s := s) (l := p) (b := q) (items := its.toArray) (items2 := its2.toArray) (e := fun j => true) p1 p2 (by omega) (fun j j1 j2 => ?_)
      · have es : (its.toArray.size == its2.toArray.size) = true := by rw [List.size_toArray, List.size_toArray, ← g1, ← g2, la]; simp
        rw [all_t, es] at key
        exact key
      · have j1' : j < its.length := by simpa using j1
        have j2' : j < its2.length := by simpa using j2
        obtain ⟨a, ha1, ra⟩ := vals_get2 r1 (List.getElem?_eq_getElem j1')
        obtain ⟨b, hb1, rb⟩ := vals_get2 r2 (List.getElem?_eq_getElem j2')
        exact eqS_at I n A.in1 a b _ _ (by show A.units + 1 + n < cLine; omega) (ha.get' ha1 hb1) ra rb
    · obtain ⟨its, r1, p1, _⟩ := I.list h1
      obtain ⟨its2, r2, p2, _⟩ := I.list h2
      have g1 := r1.length
      have g2 := r2.length
      have key := SeqAt.RcAt.lists (A := A) (s := s) (l := p) (b := q) (items := its.toArray) (items2 := its2.toArray) (e := fun j => true) p1.isList p2.isList (by rw [List.size_toArray, List.size_toArray]; omega) (by omega) (fun j j1 j2 => ?_)
      · rw [all_t] at key
        exact key
      · have j1' : j < its.length := by simpa using j1
        have j2' : j < its2.length := by simpa using j2
        obtain ⟨a, ha1, ra⟩ := vals_get2 r1 (List.getElem?_eq_getElem j1')
        obtain ⟨b, hb1, rb⟩ := vals_get2 r2 (List.getElem?_eq_getElem j2')
        exact eqS_at I n A.in1 a b _ _ (by show A.units + 1 + n < cLine; omega) (ha.get' ha1 hb1) ra rb
end
/-- a != b, two equal tuples or lists -/
def rNeS (K : PySem.W.Frag) : R2 := fun x y H Q => (∃ n p q us vs, n ≤ 60 ∧ x = .ref p ∧ y = .ref q ∧ ((SqT K H p us ∧ SqT K H q vs) ∨ (SqL K H p us ∧ SqL K H q vs)) ∧ All2 (EqS K H n) us vs) ∧ Q (.bl false) H
theorem op_neS {X : Cx} (hu : X.A.units + 64 < cLine) : OpR X (compareOp .NotEq) (rNeS X.K) := by
  intro pins s σ H x y v u Q I rx ry hh
  obtain ⟨⟨n, p, q, us, vs, hn, e1, e2, h, ha⟩, hq⟩ := hh
  subst e1
  subst e2
  cases rx
  cases ry
  have la := ha.len
  rcases h with ⟨h1, h2⟩ | ⟨h1, h2⟩
  · obtain ⟨its, r1, p1, _⟩ := I.tuple h1
    obtain ⟨its2, r2, p2, _⟩ := I.tuple h2
    have g1 := r1.length
    have g2 := r2.length
    have key := SeqAt.RcNeAt.tuples (A := X.A) (s := s) (l := p) (b := q) (items := its.toArray) (items2 := its2.toArray) (e := fun j => true) p1 p2 (by omega) (fun j j1 j2 => ?_)
    · have es : (its.toArray.size == its2.toArray.size) = true := by rw [List.size_toArray, List.size_toArray, ← g1, ← g2, la]; simp
      rw [all_t, es] at key
      exact key _ _ _ _ ⟨.bl _, H, I, rfl, hq⟩
    · have j1' : j < its.length := by simpa using j1
      have j2' : j < its2.length := by simpa using j2
      obtain ⟨a, ha1, ra⟩ := vals_get2 r1 (List.getElem?_eq_getElem j1')
      obtain ⟨b, hb1, rb⟩ := vals_get2 r2 (List.getElem?_eq_getElem j2')
      exact eqS_at I n X.A.in1 a b _ _ (by show X.A.units + 1 + n < cLine; omega) (ha.get' ha1 hb1) ra rb
  · obtain ⟨its, r1, p1, _⟩ := I.list h1
    obtain ⟨its2, r2, p2, _⟩ := I.list h2
    have g1 := r1.length
    have g2 := r2.length
    have key := SeqAt.RcNeAt.lists (A := X.A) (s := s) (l := p) (b := q) (items := its.toArray) (items2 := its2.toArray) (e := fun j => true) p1.isList p2.isList (by rw [List.size_toArray, List.size_toArray]; omega) (by omega) (fun j j1 j2 => ?_)
    · rw [all_t] at key
      exact key _ _ _ _ ⟨.bl _, H, I, rfl, hq⟩
    · have j1' : j < its.length := by simpa using j1
      have j2' : j < its2.length := by simpa using j2
      obtain ⟨a, ha1, ra⟩ := vals_get2 r1 (List.getElem?_eq_getElem j1')
      obtain ⟨b, hb1, rb⟩ := vals_get2 r2 (List.getElem?_eq_getElem j2')
      exact eqS_at I n X.A.in1 a b _ _ (by show X.A.units + 1 + n < cLine; omega) (ha.get' ha1 hb1) ra rb
/-- a tuple against the empty one -/
def rNeT0 (K : PySem.W.Frag) : R2 := fun x y H Q => ∃ p q us, x = .ref p ∧ y = .ref q ∧ SqT K H p us ∧ SqT K H q [] ∧ Q (.bl (!decide (us = []))) H
theorem op_neT0 {X : Cx} (hu : X.A.units + 64 < cLine) : OpR X (compareOp .NotEq) (rNeT0 X.K) := by
  intro pins s σ H x y v u Q I rx ry hh
  obtain ⟨p, q, us, e1, e2, h1, h2, hq⟩ := hh
  subst e1
  subst e2
  cases rx
  cases ry
  obtain ⟨its, r1, p1, _⟩ := I.tuple h1
  obtain ⟨its2, r2, p2, _⟩ := I.tuple h2
  have g1 := r1.length
  have g2 := r2.length
  have i2 : its2.length = 0 := by rw [← g2]; rfl
  have key := SeqAt.RcNeAt.tuples (A := X.A) (s := s) (l := p) (b := q) (items := its.toArray) (items2 := its2.toArray) (e := fun j => true) p1 p2 (by omega) (fun j j1 j2 => by
    have j2' : j < its2.length := by simpa using j2
    omega)
  have es : (its.toArray.size == its2.toArray.size) = decide (us = []) := by
    rw [List.size_toArray, List.size_toArray, ← g1, i2]
    cases us <;> simp
  rw [all_t, es, Bool.true_and] at key
  exact key _ _ _ _ ⟨.bl _, H, I, rfl, hq⟩
/-- a list against the empty one -/
def rNeL0 (K : PySem.W.Frag) : R2 := fun x y H Q => ∃ p q us, x = .ref p ∧ y = .ref q ∧ SqL K H p us ∧ SqL K H q [] ∧ Q (.bl (!decide (us = []))) H
theorem op_neL0 {X : Cx} (hu : X.A.units + 64 < cLine) : OpR X (compareOp .NotEq) (rNeL0 X.K) := by
  intro pins s σ H x y v u Q I rx ry hh
  obtain ⟨p, q, us, e1, e2, h1, h2, hq⟩ := hh
  subst e1
  subst e2
  cases rx
  cases ry
  obtain ⟨its, r1, p1, _⟩ := I.list h1
  obtain ⟨its2, r2, p2, _⟩ := I.list h2
  have g1 := r1.length
  have g2 := r2.length
  have i2 : its2.length = 0 := by rw [← g2]; rfl
  by_cases c : us = []
  · have i1 : its.length = 0 := by rw [← g1, c]; rfl
    have key := SeqAt.RcNeAt.lists (A := X.A) (s := s) (l := p) (b := q) (items := its.toArray) (items2 := its2.toArray) (e := fun j => true) p1.isList p2.isList (by rw [List.size_toArray, List.size_toArray]; omega) (by omega) (fun j j1 j2 => by
      have j2' : j < its2.length := by simpa using j2
      omega)
    rw [all_t] at key
    rw [decide_eq_true c] at hq
    exact key _ _ _ _ ⟨.bl _, H, I, rfl, hq⟩
  · have i1 : its.length ≠ 0 := by rw [← g1]; exact fun z => c (List.eq_nil_of_length_eq_zero z)
    have key := SeqAt.RcNeAt.lists_lengths (A := X.A) (s := s) (l := p) (b := q) (items := its.toArray) (items2 := its2.toArray) p1.isList p2.isList (by rw [List.size_toArray, List.size_toArray]; simp; omega) (by omega)
    rw [decide_eq_false c] at hq
    exact key _ _ _ _ ⟨.bl _, H, I, rfl, hq⟩
end My
set_option Elab.async false
set_option linter.all false
set_option maxRecDepth 100000
set_option maxHeartbeats 8000000
namespace My
open PySem L2 SS
def spDk (K : PySem.W.Frag) : Sp := fun vs H Q _ => ∃ (a : Addr) (ns : List Int), vs = [.ref a] ∧ SqL K H a (ns.map V.int) ∧ ns.length ≤ 63 ∧ ∀ (H' : Hp) (p l m : Addr), Same H H' → H p = none → H l = none → DkQ H' p l m 0 → Q (.ref p) H'
def spNx : Sp := fun vs H Q _ => ∃ (p l cl : Addr) (a : Nat) (m : Int), vs = [.ref p, .int m] ∧ 1 ≤ m ∧ DkQ H p l cl a ∧ a ≤ 1000000 ∧ ∀ (n : Int) (H' : Hp), SX [p, l] H H' → DkQ H' p l cl (a + 1) → 0 ≤ n → n < m → Q (.int n) H'
section
variable {P : Program} {w : World} {K : PySem.W.Frag} {mg : Str → Option Value} {base : Heap}
theorem scDk : FnScope ["_law_script", "_law_digits", "_law_cells_here", "_law_cell_here", "_law_k"] ["_law_script"] (defScope s__law_deck) := ⟨rfl, rfl, rfl, by decide +kernel, rfl, by decide +kernel, by decide +kernel⟩
theorem c_dk (b_abs : mg "abs" = none) (b_len : mg "len" = none) (b_range : mg "range" = none) (D : Dn K mg "_law_deck" s__law_deck) : C0 P w K mg base 1 "_law_deck" (spDk K) := by
  obtain ⟨f, fd, F, m⟩ := D.ex
  refine ⟨f, fd, ["_law_script"], F.ok scDk (fun vs H Q E h => ?_) (fun cdv A outer s H vs Q E hr h => ?_), m, F.kp, F.binds (ps := ["_law_script"]) fun _ _ _ _ _ _ us hl => match us, hl with | [_], _ => rfl⟩
  · obtain ⟨a, ns, rfl, _⟩ := h
    rfl
  obtain ⟨a, ns, rfl, hS, h63, kq⟩ := h
  refine ⟨_, pss_cons (ps_set (i := 1) scDk.nd rfl (Or.inl rfl) (pe_lst pa_nil)) <|
    pss_cons (ps_set (i := 2) scDk.nd rfl (Or.inl rfl) (pe_lst (pa_cons (pe_callB call_len_seq (by rfl) b_len PySem.boot_len (pa_cons (pv 0) pa_nil)) pa_nil))) <|
    pss_cons (ps_for PassesOwn.never rfl (pi_list (pe_slice sl_list (pv 0) po_none (po_some pe_int))) (pg_name (i := 3) scDk.nd rfl (Or.inl rfl))
      (pss_cons (ps_set (i := 3) scDk.nd rfl (Or.inl rfl) (pe_callB call_abs (by rfl) b_abs (by decide +kernel) (pa_cons (pv 3) pa_nil))) <|
      pss_cons (ps_expr (pe_bm PySem.F.plainAttrs_list PySem.F.slot_list_append PySem.F.type_list_append mt_append (pv 2) (pa_cons (pe_op op_mod (pv 3) pe_int) pa_nil))) <|
      pss_one (ps_if (pt_cmpR op_ge (pv 3) (pe_op op_pow pe_int pe_int) (nomark _))
        (pss_one (ps_for PassesOwn.never rfl (pi_range1 rfl b_range (pa_cons pe_int pa_nil)) (pg_name (i := 4) scDk.nd rfl (Or.inl rfl))
          (pss_one (ps_if (pt_cmpR op_gt (pv 3) pe_int (nomark _))
            (pss_cons (ps_expr (pe_bm PySem.F.plainAttrs_list PySem.F.slot_list_append PySem.F.type_list_append mt_append (pv 1) (pa_cons (pe_op op_mod (pv 3) pe_int) pa_nil))) <|
            pss_one (ps_set (i := 3) scDk.nd rfl (Or.inl rfl) (pe_op op_fdiv (pv 3) pe_int)))
            (pss_nil)))))
        (pss_nil)))) <|
    pss_one (ps_ret (pe_lst (pa_cons (pv 1) (pa_cons (pv 2) (pa_cons pe_int pa_nil))))), ?_⟩
  have hcut : cutV (ns.map V.int) none (some 63) = ns.map V.int := by
    unfold cutV
    have e : HT.sIx (ns.map V.int).length (ns.map V.int).length (some 63) = (ns.map V.int).length := by
      have := HT.sIx_nat (ns.map V.int).length (ns.map V.int).length 63
      rw [show ((63 : Nat) : Int) = 63 from rfl] at this
      rw [this, List.length_map]
      omega
    rw [e, HT.sIx_none, List.drop_zero, Nat.sub_zero, List.take_length]
  refine ⟨by show 0 ≤ sizeLine; decide, fun l hl => ?_⟩
  have s1 := same_new hl (.lst [])
  have f1 : upd H l (.lst []) l = some (.lst []) := upd_same
  generalize upd H l (.lst []) = H1 at s1 f1 ⊢
  refine ⟨_, rfl, a, _, rfl, .inl (sqL_same hS s1), by show 1 ≤ sizeLine; decide, fun m hm => ?_⟩
  have s2 := same_new hm (.lst [V.int (((ns.map V.int).length : Nat) : Int)])
  have f2 : upd H1 m (.lst [V.int (((ns.map V.int).length : Nat) : Int)]) m = some (.lst [V.int (((ns.map V.int).length : Nat) : Int)]) := upd_same
  have f12 := s2 _ _ f1
  have hml : m ≠ l := fun e => (by rw [e, f1] at hm; cases hm)
  have hmH := s1.free hm
  generalize upd H1 m (.lst [V.int (((ns.map V.int).length : Nat) : Int)]) = H2 at s2 f2 f12 ⊢
  have s02 := s1.trans s2
  refine ⟨_, rfl, 63, rfl, a, _, rfl, sqL_same hS s02, fun sp hsp => ?_⟩
  rw [hcut]
  have s3 := same_new hsp (.lst (ns.map V.int))
  have f3 : upd H2 sp (.lst (ns.map V.int)) sp = some (.lst (ns.map V.int)) := upd_same
  have f13 := s3 _ _ f12
  have f23 := s3 _ _ f2
  have hspl : sp ≠ l := fun e => (by rw [e, f12] at hsp; cases hsp)
  have hspm : sp ≠ m := fun e => (by rw [e, f2] at hsp; cases hsp)
  generalize upd H2 sp (.lst (ns.map V.int)) = H3 at s3 f3 f13 f23 ⊢
  have s03 := s02.trans s3
  refine ⟨sp, rfl, ⟨_, SqL.of f3⟩, ?_⟩
  refine for_list (xs := ns.map V.int) (fun i σ H' => ∃ (xs ms : List Int) (v3 v4 : Option V), σ = [some (.ref a), some (.ref l), some (.ref m), v3, v4] ∧ SX [l, m] H3 H' ∧ H' l = some (.lst (xs.map V.int)) ∧ H' m = some (.lst (ms.map V.int)) ∧ ms ≠ [] ∧ (∀ v ∈ ms, 0 ≤ v ∧ v < 2147483629) ∧ xs.length ≤ 400 * i ∧ ms.length = i + 1) ⟨[], [((ns.map V.int).length : Nat)], none, none, rfl, SX.refl, f13, f23, by simp, fun v hv => ?_, Nat.zero_le _, rfl⟩ (fun i σ H' _ ⟨_, _, _, _, _, s', _⟩ => SqL.of (s' _ _ (by simp [hspl, hspm]) f3)) ?_ ?_
  · rw [List.mem_singleton.mp hv, List.length_map]
    omega
  · rintro i x σ H' hx ⟨xs, ms, v3, v4, rfl, s', hl', hm', hne, hb, hxl, hml'⟩
    have hi : i < (ns.map V.int).length := (List.getElem?_eq_some_iff.mp hx).1
    rw [List.length_map] at hi
    obtain ⟨n, rfl⟩ : ∃ n, x = .int n := by
      rw [List.getElem?_map, List.getElem?_eq_getElem hi] at hx
      exact ⟨_, (Option.some.inj hx).symm⟩
    refine ⟨_, rfl, n, rfl, ?_⟩
    have hc0 : 0 ≤ (if n < 0 then -n else n) := by split <;> omega
    show gName 3 (V.int (if n < 0 then -n else n)) _ _ _
    generalize (if n < 0 then -n else n) = c at hc0 ⊢
    refine ⟨_, rfl, .inl ⟨rfl, _, SqL.of hm'⟩, _, rfl, _, _, rfl, rfl, (by show (0 : Int) < 2147483629; decide), m, _, _, rfl, rfl, hm', by rw [List.length_map, sizeLine_eq]; omega, ?_⟩
    have hm'' : upd H' m (.lst (ms.map V.int ++ [V.int (c % 2147483629)])) m = some (.lst ((ms ++ [c % 2147483629]).map V.int)) := by rw [upd_same, List.map_append]; rfl
    have hl'' : upd H' m (.lst (ms.map V.int ++ [V.int (c % 2147483629)])) l = some (.lst (xs.map V.int)) := by rw [upd_ne hml.symm]; exact hl'
    have s'' := s'.trans (SX.upd (B := [l, m]) (H := H') (p := m) (.lst (ms.map V.int ++ [V.int (c % 2147483629)])) (by simp))
    generalize upd H' m (.lst (ms.map V.int ++ [V.int (c % 2147483629)])) = H4 at hm'' hl'' s'' ⊢
    have hb' : ∀ v ∈ ms ++ [c % 2147483629], 0 ≤ v ∧ v < 2147483629 := fun v hv => by
      rcases List.mem_append.mp hv with hv | hv
      · exact hb v hv
      · rw [List.mem_singleton.mp hv]
        exact ⟨Int.emod_nonneg _ (by decide), Int.emod_lt_of_pos _ (by decide)⟩
    refine ⟨_, rfl, _, _, rfl, rfl, (by unfold CPow; decide), _, _, rfl, rfl, _, rfl, ?_⟩
    refine ite2 (fun _ => ?_) (fun _ => ⟨xs, ms ++ [c % 2147483629], _, _, rfl, s'', hl'', hm'', by simp, hb', by omega, by rw [List.length_append, hml']; rfl⟩)
    refine ⟨400, rfl, by decide, by decide, ?_⟩
    refine for_range (lo := 0) (n := 400) (fun j σ H' => ∃ (xs : List Int) (c' : Int) (v4 : Option V), σ = [some (.ref a), some (.ref l), some (.ref m), some (.int c'), v4] ∧ SX [l, m] H3 H' ∧ H' l = some (.lst (xs.map V.int)) ∧ H' m = some (.lst ((ms ++ [c % 2147483629]).map V.int)) ∧ xs.length ≤ 400 * i + j) ⟨xs, c, _, rfl, s'', hl'', hm'', by omega⟩ ?_ ?_
    · rintro j σ H5 hj ⟨ys, c', v5, rfl, s5, hl5, hm5, hy⟩
      refine ⟨_, rfl, _, _, rfl, rfl, _, rfl, ?_⟩
      refine ite2 (fun _ => ?_) (fun _ => ⟨ys, c', _, rfl, s5, hl5, hm5, by omega⟩)
      refine ⟨_, rfl, .inl ⟨rfl, _, SqL.of hl5⟩, _, rfl, _, _, rfl, rfl, (by show (0 : Int) < 1000; decide), l, _, _, rfl, rfl, hl5, by rw [List.length_map, sizeLine_eq]; omega, ?_⟩
      refine ⟨_, rfl, _, _, rfl, rfl, ⟨by decide, by decide⟩, ?_⟩
      exact ⟨ys ++ [c' % 1000], c' / 1000, _, rfl, s5.trans (SX.upd _ (by simp)), by rw [upd_same, List.map_append]; rfl, by rw [upd_ne hml]; exact hm5, by rw [List.length_append]; show ys.length + 1 ≤ _; omega⟩
    · rintro σ H5 ⟨ys, c', v5, rfl, s5, hl5, hm5, hy⟩
      exact ⟨ys, ms ++ [c % 2147483629], _, _, rfl, s5, hl5, hm5, by simp, hb', by omega, by rw [List.length_append, hml']; rfl⟩
  · rintro σ H' ⟨xs, ms, v3, v4, rfl, s', hl', hm', hne, hb, hxl, hml'⟩
    refine ⟨_, rfl, _, rfl, by show 3 ≤ sizeLine; decide, fun p hp => ?_⟩
    have sp' := same_new hp (.lst [.ref l, .ref m, .int 0])
    have hpl : p ≠ l := fun e => (by rw [e, hl'] at hp; cases hp)
    have hpm : p ≠ m := fun e => (by rw [e, hm'] at hp; cases hp)
    have sH : Same H H' := fun b u hb => by
      refine s' b u ?_ (s03 b u hb)
      simp only [List.mem_cons, List.not_mem_nil, or_false, not_or]
      exact ⟨ne_of_none hb hl, ne_of_none hb hmH⟩
    exact kq _ p l m (sH.trans sp') (sH.free hp) hl ⟨0, xs, ms, Nat.le_refl _, upd_same, sp' _ _ hl', sp' _ _ hm', hpl, hpm, hml.symm, hne, hb⟩
theorem scNx : FnScope ["_law_deck_here", "_law_below", "_law_at", "_law_primes", "_law_one", "_law_other", "_law_mixed"] ["_law_deck_here", "_law_below"] (defScope s__law_next) := ⟨rfl, rfl, rfl, by decide +kernel, rfl, by decide +kernel, by decide +kernel⟩
theorem c_nx (b_len : mg "len" = none) (D : Dn K mg "_law_next" s__law_next) : C0 P w K mg base 1 "_law_next" spNx := by
  obtain ⟨f, fd, F, m⟩ := D.ex
  refine ⟨f, fd, ["_law_deck_here", "_law_below"], F.ok scNx (fun vs H Q E h => ?_) (fun cdv A outer s H vs Q E hr h => ?_), m, F.kp, F.binds (ps := ["_law_deck_here", "_law_below"]) fun _ _ _ _ _ _ us hl => match us, hl with | [_, _], _ => rfl⟩
  · obtain ⟨p, l, q, a, m, rfl, _⟩ := h
    rfl
  obtain ⟨p, l, q, a, m, rfl, hm, dk, ha, kq⟩ := h
  refine ⟨_, pss_cons (ps_if (pt_cmpR (op_neL0 hr.units) (pe_ix (r := rIxL K) ix_list (pv 0) pe_int (fun _ _ => rfl)) (pe_lst pa_nil) (nomark _))
      (pss_one (ps_ret (pe_op op_mod (pe_bm PySem.F.plainAttrs_list PySem.F.slot_list_pop PySem.F.type_list_pop mt_popAt (pe_ix (r := rIxL K) ix_list (pv 0) pe_int (fun _ _ => rfl)) (pa_cons pe_int pa_nil)) (pv 1))))
      (pss_nil)) <|
    pss_cons (ps_set (i := 2) scNx.nd rfl (Or.inl rfl) (pe_ix (r := rIxL K) ix_list (pv 0) pe_int (fun _ _ => rfl))) <|
    pss_cons (ps_asg (pe_op op_add (pv 2) pe_int) (pg_sub (pv 0) pe_int set_list)) <|
    pss_cons (ps_set (i := 3) scNx.nd rfl (Or.inl rfl) (pe_tup (pa_cons pe_int (pa_cons pe_int (pa_cons pe_int (pa_cons pe_int (pa_cons pe_int (pa_cons pe_int (pa_cons pe_int (pa_cons pe_int (pa_cons pe_int (pa_cons pe_int (pa_cons pe_int (pa_cons pe_int pa_nil)))))))))))))) <|
    pss_cons (ps_set (i := 4) scNx.nd rfl (Or.inl rfl) (pe_ix (r := rIxL K) ix_list (pe_ix (r := rIxL K) ix_list (pv 0) pe_int (fun _ _ => rfl)) (pe_op op_mod (pv 2) (pe_callB call_len_seq (by rfl) b_len PySem.boot_len (pa_cons (pe_ix (r := rIxL K) ix_list (pv 0) pe_int (fun _ _ => rfl)) pa_nil))) (fun _ _ => rfl))) <|
    pss_cons (ps_set (i := 5) scNx.nd rfl (Or.inl rfl) (pe_ix (r := rIxL K) ix_list (pe_ix (r := rIxL K) ix_list (pv 0) pe_int (fun _ _ => rfl)) (pe_op op_mod (pe_op op_add (pe_op op_mul pe_int (pv 2)) pe_int) (pe_callB call_len_seq (by rfl) b_len PySem.boot_len (pa_cons (pe_ix (r := rIxL K) ix_list (pv 0) pe_int (fun _ _ => rfl)) pa_nil))) (fun _ _ => rfl))) <|
    pss_cons (ps_set (i := 6) scNx.nd rfl (Or.inl rfl) (pe_op op_add (pe_op op_pow (pe_op op_add (pv 4) (pe_op op_mul (pe_ix (r := rIxT K) ix_tup (pv 3) (pe_op op_mod (pv 2) pe_int) (fun _ _ => rfl)) (pe_op op_add (pv 2) pe_int))) pe_int) (pe_op op_mul (pe_op op_pow (pe_op op_add (pv 5) (pe_ix (r := rIxT K) ix_tup (pv 3) (pe_op op_mod (pe_op op_add (pv 2) pe_int) pe_int) (fun _ _ => rfl))) pe_int) (pe_op op_add (pv 2) pe_int)))) <|
    pss_one (ps_ret (pe_op op_mod (pe_op op_fdiv (pe_op op_mod (pv 6) pe_int) pe_int) (pv 1))), ?_⟩
  obtain ⟨a', xs, ms, ha', hp, hl, hq, hpl, hpq, hlq, hne, hb⟩ := dk
  refine ⟨_, rfl, p, _, _, _, rfl, rfl, SqL.of hp, atI_nat (j := 0) rfl, by show 0 ≤ sizeLine; decide, fun e he => ⟨l, e, _, rfl, rfl, SqL.of (same_new he _ _ _ hl), SqL.of upd_same, _, rfl, ?_⟩⟩
  have s1 := same_new he (.lst [])
  have hp1 := s1 _ _ hp
  have hl1 := s1 _ _ hl
  have hq1 := s1 _ _ hq
  generalize upd H e (.lst []) = H1 at s1 hp1 hl1 hq1 ⊢
  refine ite2 (fun c => ?_) (fun _ => ?_)
  · cases xs with
    | nil => cases c
    | cons x xs =>
      refine ⟨_, rfl, p, _, _, _, rfl, rfl, SqL.of hp1, atI_nat (j := 0) rfl, .inl ⟨rfl, _, SqL.of hl1⟩, l, _, 0, 0, _, rfl, rfl, hl1, by decide, by decide, by unfold seqIndex?; simp, rfl, _, rfl, _, _, rfl, rfl, (show (0 : Int) < m by omega), ?_⟩
      refine kq _ _ ((SX.same s1).trans (SX.upd _ (by simp))) ⟨a', xs, ms, by omega, by rw [upd_ne hpl]; exact hp1, upd_same, by rw [upd_ne hlq.symm]; exact hq1, hpl, hpq, hlq, hne, hb⟩ (Int.emod_nonneg _ (by omega)) (Int.emod_lt_of_pos _ (by omega))
  have hms : 0 < ms.length := List.length_pos_iff.mpr hne
  have hml : (ms.map V.int).length = ms.length := List.length_map ..
  refine ⟨_, rfl, p, _, _, _, rfl, rfl, SqL.of hp1, atI_nat (j := 2) rfl, _, rfl, _, _, rfl, rfl, _, rfl, p, _, _, 2, rfl, rfl, hp1, rfl, ?_⟩
  have hset : [V.ref l, V.ref q, V.int ((a' : Nat) : Int)].set 2 (V.int (((a' : Nat) : Int) + 1)) = [.ref l, .ref q, .int ((a' + 1 : Nat) : Int)] := rfl
  rw [hset]
  have s2 : SX [p, l] H1 (upd H1 p (.lst [.ref l, .ref q, .int ((a' + 1 : Nat) : Int)])) := SX.upd _ (by simp)
  have hp2 : upd H1 p (.lst [.ref l, .ref q, .int ((a' + 1 : Nat) : Int)]) p = some (.lst [.ref l, .ref q, .int ((a' + 1 : Nat) : Int)]) := upd_same
  have hl2 : upd H1 p (.lst [.ref l, .ref q, .int ((a' + 1 : Nat) : Int)]) l = some (.lst (xs.map V.int)) := by rw [upd_ne hpl.symm]; exact hl1
  have hq2 : upd H1 p (.lst [.ref l, .ref q, .int ((a' + 1 : Nat) : Int)]) q = some (.lst (ms.map V.int)) := by rw [upd_ne hpq.symm]; exact hq1
  generalize upd H1 p (.lst [.ref l, .ref q, .int ((a' + 1 : Nat) : Int)]) = H2 at s2 hp2 hl2 hq2 ⊢
  refine ⟨by show 12 ≤ sizeLine; decide, fun t ht => ?_⟩
  have s3 := same_new ht (.tup [V.int 48271, V.int 69621, V.int 16807, V.int 39373, V.int 30323, V.int 51749, V.int 44417, V.int 27449, V.int 63073, V.int 55001, V.int 33791, V.int 40009])
  have hp3 := s3 _ _ hp2
  have hl3 := s3 _ _ hl2
  have hq3 := s3 _ _ hq2
  have ht3 : upd H2 t (.tup [V.int 48271, V.int 69621, V.int 16807, V.int 39373, V.int 30323, V.int 51749, V.int 44417, V.int 27449, V.int 63073, V.int 55001, V.int 33791, V.int 40009]) t = _ := upd_same
  have prime : ∀ d : Int, 0 ≤ d → d < ((12 : Nat) : Int) → ∃ z : Int, atI [V.int 48271, V.int 69621, V.int 16807, V.int 39373, V.int 30323, V.int 51749, V.int 44417, V.int 27449, V.int 63073, V.int 55001, V.int 33791, V.int 40009] d = some (.int z) ∧ (0 ≤ z ∧ z ≤ 69621) := fun d h0 h1 => pick (n := 12) rfl (f := V.int) (Pz := fun z => 0 ≤ z ∧ z ≤ 69621) (by
    intro v hv
    simp only [List.mem_cons, List.not_mem_nil, or_false] at hv
    rcases hv with rfl | rfl | rfl | rfl | rfl | rfl | rfl | rfl | rfl | rfl | rfl | rfl <;> exact ⟨_, rfl, by decide, by decide⟩) h0 h1
  generalize upd H2 t (.tup [V.int 48271, V.int 69621, V.int 16807, V.int 39373, V.int 30323, V.int 51749, V.int 44417, V.int 27449, V.int 63073, V.int 55001, V.int 33791, V.int 40009]) = H3 at s3 hp3 hl3 hq3 ht3 ⊢
  have cell : ∀ d : Int, ∃ z : Int, atI (ms.map V.int) (d % ((ms.length : Nat) : Int)) = some (.int z) ∧ (0 ≤ z ∧ z < 2147483629) := fun d => pick (n := ms.length) hml (f := V.int) (Pz := fun z => 0 ≤ z ∧ z < 2147483629) (by
    intro v hv
    obtain ⟨z, hz, rfl⟩ := List.mem_map.mp hv
    exact ⟨z, rfl, hb z hz⟩) (Int.emod_nonneg _ (by omega)) (Int.emod_lt_of_pos _ (by omega))
  obtain ⟨z1, hz1, hz1a, hz1b⟩ := cell ((a' : Nat) : Int)
  obtain ⟨z2, hz2, hz2a, hz2b⟩ := cell (3 * ((a' : Nat) : Int) + 1)
  refine ⟨_, rfl, p, _, _, _, rfl, rfl, SqL.of hp3, atI_nat (j := 1) rfl, _, rfl, _, rfl, p, _, _, _, rfl, rfl, SqL.of hp3, atI_nat (j := 1) rfl, q, _, rfl, .inl (SqL.of hq3), _, _, rfl, rfl, by rw [hml]; show (0 : Int) < _; omega, q, _, _, _, rfl, rfl, SqL.of hq3, by rw [hml]; exact hz1, ?_⟩
  refine ⟨_, rfl, p, _, _, _, rfl, rfl, SqL.of hp3, atI_nat (j := 1) rfl, _, rfl, _, _, rfl, rfl, .inl ⟨by decide, by decide⟩, _, _, rfl, rfl, _, rfl, p, _, _, _, rfl, rfl, SqL.of hp3, atI_nat (j := 1) rfl, q, _, rfl, .inl (SqL.of hq3), _, _, rfl, rfl, by rw [hml]; show (0 : Int) < _; omega, q, _, _, _, rfl, rfl, SqL.of hq3, by rw [hml]; exact hz2, ?_⟩
  obtain ⟨y1, hy1, hy1a, hy1b⟩ := prime (((a' : Nat) : Int) % 12) (Int.emod_nonneg _ (by decide)) (Int.emod_lt_of_pos _ (by decide))
  obtain ⟨y2, hy2, hy2a, hy2b⟩ := prime ((((a' : Nat) : Int) + 5) % 12) (Int.emod_nonneg _ (by decide)) (Int.emod_lt_of_pos _ (by decide))
  have ha0 : (0 : Int) ≤ ((a' : Nat) : Int) + 1 := by omega
  have ha1 : ((a' : Nat) : Int) + 1 ≤ 1000001 := by omega
  have hm1 : y1 * (((a' : Nat) : Int) + 1) ≤ 69621 * 1000001 := by
    have h1 := Int.mul_le_mul hy1b ha1 ha0 (by decide : (0 : Int) ≤ 69621)
    exact h1
  have hm0 : 0 ≤ y1 * (((a' : Nat) : Int) + 1) := Int.mul_nonneg hy1a ha0
  refine ⟨_, rfl, _, rfl, _, rfl, _, _, rfl, rfl, (by show (0 : Int) < 12; decide), t, _, _, _, rfl, rfl, SqT.of ht3, hy1, _, rfl, _, _, rfl, rfl, _, _, rfl, rfl, .inl ⟨by omega, by omega⟩, _, _, rfl, rfl, _, _, rfl, rfl, ⟨by decide, by decide, by omega⟩,
    _, rfl, _, rfl, _, rfl, _, _, rfl, rfl, _, _, rfl, rfl, (by show (0 : Int) < 12; decide), t, _, _, _, rfl, rfl, SqT.of ht3, hy2, _, _, rfl, rfl, _, _, rfl, rfl, ⟨by decide, by decide, by omega⟩, _, rfl, _, _, rfl, rfl, _, _, rfl, rfl, .inr ⟨by omega, by omega⟩, _, _, rfl, rfl, ?_⟩
  refine ⟨_, rfl, _, _, rfl, rfl, (by show (0 : Int) < 2147483629; decide), _, _, rfl, rfl, ⟨by decide, by decide⟩, _, rfl, _, _, rfl, rfl, (show (0 : Int) < m by omega), ?_⟩
  exact kq _ _ ((SX.same s1).trans (s2.trans (SX.same s3))) ⟨a' + 1, xs, ms, by omega, hp3, hl3, hq3, hpl, hpq, hlq, hne, hb⟩ (Int.emod_nonneg _ (by omega)) (Int.emod_lt_of_pos _ (by omega))
end
end My
set_option Elab.async false
set_option linter.all false
set_option maxRecDepth 100000
set_option maxHeartbeats 8000000
namespace My
open PySem L2 SS
def spWt : Sp := fun vs H Q _ => ∃ (p l m q : Addr) (a : Nat) (ss : List Int), vs = [.ref p, .ref q] ∧ DkQ H p l m a ∧ a ≤ 900000 ∧ NsA H p l q ss ∧ ∀ v d H', SX [p, l] H H' → DkQ H' p l m (a + 3) → AtD H' 1 d v → WtOk ss d → Q v H'
def plnsL : List V := [.non, .bl true, .bl false, .int 0, .int 1, .int (0 - 7), .int ((10 : Int) ^ (12 : Int).toNat - 1), .int (1 - (10 : Int) ^ (12 : Int).toNat), .str (Str.ofString ""), .str (Str.ofString "aB_9z"), .str (repS (Str.ofString "x") 40), .int 30]
theorem plns_lf : ∀ v ∈ plnsL, leafOk v = true := by decide +kernel
theorem plns_ok : ∀ v ∈ plnsL, Pln v ∧ woD (.v v) = true ∧ S0 (.v v) := by
  intro v hv
  unfold plnsL at hv
  simp only [List.mem_cons, List.not_mem_nil, or_false] at hv
  have st : ∀ {z : Str}, isText (tl z) = true → z.length ≤ 100000 → Pln (.str z) ∧ woD (.v (.str z)) = true ∧ S0 (.v (.str z)) := fun h1 h2 => ⟨.str _, h1, fun z e => by injection e with e; injection e with e; rw [← e]; exact h2⟩
  have it : ∀ {i : Int}, -1000000000000 < i → i < 1000000000000 → Pln (.int i) ∧ woD (.v (.int i)) = true ∧ S0 (.v (.int i)) := fun h1 h2 => ⟨.int _, by show (decide _ && decide _) = true; rw [decide_eq_true h1, decide_eq_true h2]; rfl, fun z e => by injection e with e; cases e⟩
  rcases hv with rfl | rfl | rfl | rfl | rfl | rfl | rfl | rfl | rfl | rfl | rfl | rfl
  · exact ⟨.non, rfl, fun z e => by injection e with e; cases e⟩
  · exact ⟨.bl _, rfl, fun z e => by injection e with e; cases e⟩
  · exact ⟨.bl _, rfl, fun z e => by injection e with e; cases e⟩
  · exact it (by decide) (by decide)
  · exact it (by decide) (by decide)
  · exact it (by decide) (by decide)
  · exact it (by decide) (by decide)
  · exact it (by decide) (by decide)
  · exact st (by decide +kernel) (by decide +kernel)
  · exact st (by decide +kernel) (by decide +kernel)
  · exact st (by decide +kernel) (by decide +kernel)
  · exact it (by decide) (by decide)
theorem wt_plain {ss : List Int} {v : V} (h : Pln v ∧ woD (.v v) = true ∧ S0 (.v v)) (hl : leafOk v = true) : WtOk ss (.v v) := ⟨h.2.1, .v, h.2.2, fun c i e => (by cases e), .v hl⟩
section
variable {P : Program} {w : World} {K : PySem.W.Frag} {mg : Str → Option Value} {base : Heap}
theorem scWt : FnScope ["_law_deck_here", "_law_some", "_law_plain"] ["_law_deck_here", "_law_some"] (defScope s__law_worth) := ⟨rfl, rfl, rfl, by decide +kernel, rfl, by decide +kernel, by decide +kernel⟩
theorem c_wt (b_len : mg "len" = none) (NX : C0 P w K mg base 1 "_law_next" spNx) (D : Dn K mg "_law_worth" s__law_worth) : C0 P w K mg base 2 "_law_worth" spWt := by
  obtain ⟨f, fd, F, m⟩ := D.ex
  refine ⟨f, fd, ["_law_deck_here", "_law_some"], F.ok scWt (fun vs H Q E h => ?_) (fun cdv A outer s H vs Q E hr h => ?_), m, F.kp, F.binds (ps := ["_law_deck_here", "_law_some"]) fun _ _ _ _ _ _ us hl => match us, hl with | [_, _], _ => rfl⟩
  · obtain ⟨p, l, m, q, a, ss, rfl, _⟩ := h
    rfl
  obtain ⟨p, l, m, q, a, ss, rfl, dk, ha, nq, kq⟩ := h
  refine ⟨_, C8.pss_cut (ps_if (PW.pt (pw_and (pt_cmpR op_lt (pe_cc NX hr (by omega) pass0 (pa_cons (pv 0) (pa_cons pe_int pa_nil))) pe_int (nomark _)) (pw_and1 (pt_cmpR (op_neL0 hr.units) (pv 1) (pe_lst pa_nil) (nomark _)))))
      (pss_one (ps_ret (pe_tup (pa_cons pe_str (pa_cons (pe_ix (r := rIxL K) ix_list (pv 1) (pe_cc NX hr (by omega) pass0 (pa_cons (pv 0) (pa_cons (pe_callB call_len_seq (by rfl) b_len PySem.boot_len (pa_cons (pv 1) pa_nil)) pa_nil))) (fun _ _ => rfl)) pa_nil)))))
      (pss_nil)) <|
    pss_cons (ps_set (i := 2) scWt.nd rfl (Or.inl rfl) (pe_lst (pa_cons pe_non (pa_cons pe_bl (pa_cons pe_bl (pa_cons pe_int (pa_cons pe_int (pa_cons (pe_op op_sub pe_int pe_int) (pa_cons (pe_op op_sub (pe_op op_pow pe_int pe_int) pe_int) (pa_cons (pe_op op_sub pe_int (pe_op op_pow pe_int pe_int)) (pa_cons pe_str (pa_cons pe_str (pa_cons (pe_op op_mul_str pe_str pe_int) (pa_cons pe_int pa_nil)))))))))))))) <|
    pss_one (ps_ret (pe_ix (r := rIxL K) ix_list (pv 2) (pe_cc NX hr (by omega) pass0 (pa_cons (pv 0) (pa_cons pe_int pa_nil))) (fun _ _ => rfl))), ?_⟩
  refine ⟨fun σ H1 => σ = [some (.ref p), some (.ref q), none] ∧ SX [p, l] H H1 ∧ DkQ H1 p l m (a + 2), ?_, ?_⟩
  · refine ⟨_, rfl, p, l, m, a, 12, rfl, by decide, dk, by omega, fun n H1 s1 d1 h0 h1 => ⟨_, _, rfl, rfl, _, rfl, ?_⟩⟩
    refine ite2 (fun _ => ?_) (fun _ => iteF ⟨rfl, s1, d1.mono (by omega)⟩)
    have nq1 := nq.sx s1
    refine ⟨_, rfl, by show 0 ≤ sizeLine; decide, fun e he => ⟨q, e, _, rfl, rfl, SqL.of (same_new he _ _ _ nq1.1), SqL.of upd_same, _, rfl, ?_⟩⟩
    have s2 := s1.new (o := .lst []) he
    have d2 := d1.same (same_new he (.lst []))
    generalize upd H1 e (.lst []) = H2 at s2 d2 ⊢
    refine ite2 (fun c => ?_) (fun _ => ⟨rfl, s2, d2.mono (by omega)⟩)
    have nq2 := nq.sx s2
    have hss : ss ≠ [] := fun z => by subst z; cases c
    have hl0 : 0 < ss.length := List.length_pos_iff.mpr hss
    have hml : (ss.map V.int).length = ss.length := List.length_map ..
    refine ⟨_, rfl, _, rfl, _, rfl, q, _, rfl, .inl (SqL.of nq2.1), ?_⟩
    rw [hml]
    refine ⟨p, l, m, a + 1, _, rfl, by omega, d2, by omega, fun n H3 s3 d3 h0 h1 => ?_⟩
    have nq3 := nq2.sx s3
    obtain ⟨z, hz, hzm⟩ := pick (n := ss.length) hml (f := V.int) (Pz := fun z => z ∈ ss) (fun v hv => by
      obtain ⟨z, hz, rfl⟩ := List.mem_map.mp hv
      exact ⟨z, rfl, hz⟩) h0 h1
    refine ⟨q, _, _, _, rfl, rfl, SqL.of nq3.1, hz, by show 2 ≤ sizeLine; decide, fun t ht => ?_⟩
    refine kq _ (.tup [S2d "cell", .v (.int z)]) _ ((s2.trans s3).new ht) (d3.same (same_new ht _) |>.mono (by omega)) ⟨t, _, rfl, .inl upd_same, Nat.le_of_ble_eq_true rfl, .cons (atD_v (.str _)) (.cons (atD_v (.int _)) .nil)⟩ (wt_cell hzm (nq.2.2.1 z hzm))
  rintro σ H1 ⟨rfl, s1, d1⟩
  refine ⟨_, _, rfl, rfl, _, _, rfl, rfl, ⟨by decide, by decide, by decide⟩, _, _, rfl, rfl, _, _, rfl, rfl, ⟨by decide, by decide, by decide⟩, _, _, rfl, rfl, _, _, rfl, rfl, by decide, by decide, by decide, by decide, by show 12 ≤ sizeLine; decide, fun t ht => ?_⟩
  show gName 2 _ _ (upd H1 t (.lst plnsL)) _
  have s2 := s1.new (o := .lst plnsL) ht
  have d2 := d1.same (same_new ht (.lst plnsL))
  have nt := d1.ne ht
  have f2 : upd H1 t (.lst plnsL) t = some (.lst plnsL) := upd_same
  generalize upd H1 t (.lst plnsL) = H2 at s2 d2 f2 ⊢
  refine ⟨_, rfl, _, rfl, p, l, m, _, 12, rfl, by decide, d2, by omega, fun n H3 s3 d3 h0 h1 => ?_⟩
  obtain ⟨v, hv, hvp⟩ := pick (n := 12) (xs := plnsL) rfl (f := id) (Pz := fun v => (Pln v ∧ woD (.v v) = true ∧ S0 (.v v)) ∧ leafOk v = true) (fun v hv => ⟨v, rfl, plns_ok v hv, plns_lf v hv⟩) h0 h1
  exact ⟨t, _, _, _, rfl, rfl, SqL.of (s3 _ _ (ne2 nt) f2), hv, kq _ _ _ (s2.trans s3) d3 (atD_v hvp.1.1) (wt_plain hvp.1 hvp.2)⟩
theorem scWts : FnScope ["_law_deck_here", "_law_some", "_law_many", "_law_k"] ["_law_deck_here", "_law_some", "_law_many"] (defScope s__law_worths) := ⟨rfl, rfl, rfl, by decide +kernel, rfl, by decide +kernel, by decide +kernel⟩
def spWts : Sp := fun vs H Q _ => ∃ (p l m q : Addr) (a : Nat) (ss : List Int) (k : Nat), vs = [.ref p, .ref q, .int (k : Nat)] ∧ k ≤ 100 ∧ DkQ H p l m a ∧ a ≤ 800000 ∧ NsA H p l q ss ∧ ∀ v ds H', SX [p, l] H H' → DkQ H' p l m (a + 3 * k) → AtD H' 2 (.tup ds) v → ds.length = k → (∀ d ∈ ds, WtOk ss d) → Q v H'
theorem c_wts (b_range : mg "range" = none) (b_tuple : mg "tuple" = none) (WT : C0 P w K mg base 2 "_law_worth" spWt) (D : Dn K mg "_law_worths" s__law_worths) : C0 P w K mg base 3 "_law_worths" spWts := by
  obtain ⟨f, fd, F, m⟩ := D.ex
  refine ⟨f, fd, ["_law_deck_here", "_law_some", "_law_many"], F.ok scWts (fun vs H Q E h => ?_) (fun cdv A outer s H vs Q E hr h => ?_), m, F.kp, F.binds (ps := ["_law_deck_here", "_law_some", "_law_many"]) fun _ _ _ _ _ _ us hl => match us, hl with | [_, _, _], _ => rfl⟩
  · obtain ⟨p, l, m, q, a, ss, k, rfl, _⟩ := h
    rfl
  obtain ⟨p, l, m, q, a, ss, k, rfl, hk, dk, ha, nq, kq⟩ := h
  refine ⟨_, pss_one (ps_ret (pe_callTy call_tuple_of (by rfl) b_tuple (by decide +kernel) (pa_cons (pe_lc (own := [("_law_k", 3)]) (g := (gName 3)) (tt := tYes) rfl scWts.nd (pi_range1 rfl b_range (pa_cons (pv 2) pa_nil)) (blkOk_by (own := [("_law_k", 3)]) (N := ["_law_deck_here", "_law_some", "_law_many", "_law_k"]) (sc := defScope s__law_worths) (by decide +kernel)) (fun _ _ _ _ _ => (pg_name (i := 3) scWts.nd rfl (Or.inl rfl))) (fun _ _ _ _ _ => pts_nil) (fun _ _ _ _ _ => (pe_cc WT hr (by omega) pass0 (pa_cons (pv 0) (pa_cons (pv 1) pa_nil))))) pa_nil))), ?_⟩
  refine ⟨_, rfl, k, rfl, by omega, by omega, fun D hD => ?_⟩
  have nD := dk.ne hD
  refine lc_range (lo := 0) (n := ((k : Nat) : Int).toNat) (fun i Hn => SX [p, l] H Hn ∧ DkQ Hn p l m (a + 3 * i) ∧ ∃ acc ds, Hn D = some (.lst acc) ∧ All2 (AtD Hn 1) ds acc ∧ ds.length = i ∧ ∀ d ∈ ds, WtOk ss d) ⟨SX.refl.new hD, dk.set nD _, [], [], upd_same, .nil, rfl, fun d hd => (by cases hd)⟩ ?_ ?_
  · rintro i Hn hi ⟨s, d, acc, ds, hacc, hal, hdl, hok⟩
    have hi' : i < k := by omega
    refine ⟨rfl, ?_⟩
    unfold tYes
    simp only [if_true]
    refine ⟨_, rfl, _, rfl, p, l, m, q, _, ss, rfl, d, by omega, nq.sx s, fun v e H' s' d' av ok => ?_⟩
    have hacc' := s' _ _ (ne2 nD) hacc
    have hlen := hal.len
    have tt := d.lsts.tups s'
    have t2 := tups_lst (ys := acc ++ [v]) hacc'
    refine ⟨acc, hacc', by rw [sizeLine_eq]; omega, (s.trans s').late hD _, (d'.set nD _).mono (by omega), acc ++ [v], ds ++ [e], upd_same, (hal.impM fun x hx y r => AtD.tups t2 (AtD.tups tt r (hok x hx).nl) (hok x hx).nl).app (.cons (AtD.tups t2 av ok.nl) .nil), by rw [List.length_append, hdl]; rfl, fun x hx => ?_⟩
    rcases List.mem_append.mp hx with hx | hx
    · exact hok x hx
    · rw [List.mem_singleton.mp hx]
      exact ok
  · rintro Hn ⟨s, d, acc, ds, hacc, hal, hdl, hok⟩
    have hdl' : ds.length = k := by omega
    refine ⟨D, acc, rfl, .inl ⟨SqL.of hacc, fun t ht => ?_⟩⟩
    have sn := same_new ht (.tup acc)
    exact kq _ ds _ (s.new ht) ((d.same sn).mono (by omega)) ⟨t, acc, rfl, .inl upd_same, by omega, hal.same sn⟩ hdl' hok
end
end My
set_option Elab.async false
set_option linter.all false
set_option maxRecDepth 100000
set_option maxHeartbeats 8000000
namespace My
open PySem L2 SS
/-- a cell drawn -/
structure CellG (ss : List Int) (d : Dt) : Prop where
  ok : CellOk ss d
  sz : ∀ xs, d = .tup xs → ∀ x ∈ xs, S0 x ∧ S1 x
  lf : LfOk d
theorem s0_v {z : Str} (h : z.length ≤ 100000) : S0 (.v (.str z)) ∧ S1 (.v (.str z)) := ⟨fun y e => (by injection e with e; injection e with e; rw [← e]; exact h), fun ds e => (by cases e)⟩
theorem s0_n {i : Int} : S0 (.v (.int i)) ∧ S1 (.v (.int i)) := ⟨fun y e => (by injection e with e; cases e), fun ds e => (by cases e)⟩
theorem s0_t {ds : List Dt} (h : ∀ d ∈ ds, S0 d) : S0 (.tup ds) ∧ S1 (.tup ds) := ⟨fun y e => (by cases e), fun xs e => (by injection e with e; rw [← e]; exact h)⟩
theorem wos_ok {ss : List Int} {ds : List Dt} {k : Nat} (h : ∀ d ∈ ds, WtOk ss d) (hl : ds.length ≤ k) : wosD (.tup ds) (.int (k : Nat)) = true := by
  show (decide (((ds.length : Nat) : Int) ≤ ((k : Nat) : Int)) && ds.all woD) = true
  rw [decide_eq_true (by omega), Bool.true_and, List.all_eq_true]
  exact fun d hd => (h d hd).wo
theorem wt_lf {ss : List Int} {ds : List Dt} (h : ∀ d ∈ ds, WtOk ss d) : LfOk (.tup ds) := .tup fun d hd => (h d hd).lf
theorem wt_nl {ss : List Int} {ds : List Dt} (h : ∀ d ∈ ds, WtOk ss d) : NlD (.tup ds) := .tup fun d hd => (h d hd).nl
theorem cell_th (r : List Dt) : cellD (.tup (S2d "thing" :: r)) = thD r := rfl
theorem cell_li (r : List Dt) : cellD (.tup (S2d "list" :: r)) = liD r := rfl
theorem cell_bl (r : List Dt) : cellD (.tup (S2d "block" :: r)) = blD r := rfl
theorem cell_na (r : List Dt) : cellD (.tup (S2d "names" :: r)) = naD r := rfl
theorem wi_th (r : List Dt) : wiD (.tup (S2d "thing" :: r)) = sndD r := rfl
theorem wi_li (r : List Dt) : wiD (.tup (S2d "list" :: r)) = fstD r := rfl
theorem wi_bl (r : List Dt) : wiD (.tup (S2d "block" :: r)) = .tup (r.drop 2) := rfl
theorem wi_na (r : List Dt) : wiD (.tup (S2d "names" :: r)) = .tup (tupsD (fstD r) ++ [sndD r]) := rfl
theorem g_th {ss : List Int} {ds : List Dt} {z : Str} (hz : isKindName (tl z) = true) (hzl : z.length ≤ 100000) (hzf : leafOk (.str z) = true) (h : ∀ d ∈ ds, WtOk ss d) (hl : ds.length ≤ 8) : CellG ss (.tup [S2d "thing", .v (.str z), .tup ds]) := by
  refine ⟨⟨?_, ?_, ds, rfl, fun e he => ⟨(h e he).wo, (h e he).nl⟩, fun c i hi => (h _ hi).le c i rfl⟩, fun xs e x hx => ?_, ?_⟩
  rotate_left 3
  · refine .tup fun d hd => ?_
    simp only [List.mem_cons, List.not_mem_nil, or_false] at hd
    rcases hd with rfl | rfl | rfl
    · exact .v (by decide +kernel)
    · exact .v hzf
    · exact wt_lf h
  · rw [cell_th]
    show (isKindName (tl z) && wosD (.tup ds) (.int ((8 : Nat) : Int))) = true
    rw [hz, wos_ok h hl]
    rfl
  · refine .tup fun d hd => ?_
    simp only [List.mem_cons, List.not_mem_nil, or_false] at hd
    rcases hd with rfl | rfl | rfl
    · exact .v
    · exact .v
    · exact wt_nl h
  · injection e with e
    rw [← e] at hx
    simp only [List.mem_cons, List.not_mem_nil, or_false] at hx
    rcases hx with rfl | rfl | rfl
    · exact s0_v (by decide +kernel)
    · exact s0_v hzl
    · exact s0_t fun d hd => (h d hd).s0
theorem g_li {ss : List Int} {ds : List Dt} (h : ∀ d ∈ ds, WtOk ss d) (hl : ds.length ≤ 30) : CellG ss (.tup [S2d "list", .tup ds]) := by
  refine ⟨⟨?_, ?_, ds, rfl, fun e he => ⟨(h e he).wo, (h e he).nl⟩, fun c i hi => (h _ hi).le c i rfl⟩, fun xs e x hx => ?_, ?_⟩
  rotate_left 3
  · refine .tup fun d hd => ?_
    simp only [List.mem_cons, List.not_mem_nil, or_false] at hd
    rcases hd with rfl | rfl
    · exact .v (by decide +kernel)
    · exact wt_lf h
  · rw [cell_li]
    exact wos_ok (k := 30) h hl
  · refine .tup fun d hd => ?_
    simp only [List.mem_cons, List.not_mem_nil, or_false] at hd
    rcases hd with rfl | rfl
    · exact .v
    · exact wt_nl h
  · injection e with e
    rw [← e] at hx
    simp only [List.mem_cons, List.not_mem_nil, or_false] at hx
    rcases hx with rfl | rfl
    · exact s0_v (by decide +kernel)
    · exact s0_t fun d hd => (h d hd).s0
theorem cw_ok {i : Int} (h : 0 ≤ i) : cwD (.tup [S2d "cell", .v (.int i)]) = true := by
  show (decide (V.str (Str.ofString "cell") = V.str (Str.ofString "cell")) && decide (0 ≤ i)) = true
  rw [decide_eq_true rfl, decide_eq_true h]
  rfl
theorem s0_c {i : Int} : S0 (.tup [S2d "cell", .v (.int i)]) ∧ S1 (.tup [S2d "cell", .v (.int i)]) := s0_t fun d hd => by
  simp only [List.mem_cons, List.not_mem_nil, or_false] at hd
  rcases hd with rfl | rfl
  · exact (s0_v (by decide +kernel)).1
  · exact s0_n.1
theorem g_bl {ss : List Int} {i j x y : Int} (hi : 0 ≤ i) (hj : 0 ≤ j) (hx : x ∈ ss) (hx0 : 0 ≤ x ∧ x ≤ 1000000000000000000000000) (hy : y ∈ ss) (hy0 : 0 ≤ y ∧ y ≤ 1000000000000000000000000) (hi1 : i ≤ 1000000000000000000000000) (hj1 : j ≤ 1000000000000000000000000) : CellG ss (.tup [S2d "block", .v (.int i), .v (.int j), .tup [S2d "cell", .v (.int x)], .tup [S2d "cell", .v (.int y)]]) := by
  have k1 := wt_cell hx hx0
  have k2 := wt_cell hy hy0
  refine ⟨⟨?_, ?_, [.tup [S2d "cell", .v (.int x)], .tup [S2d "cell", .v (.int y)]], rfl, fun e he => ?_, fun c k hk => ?_⟩, fun xs e z hz => ?_, ?_⟩
  rotate_left 5
  · refine .tup fun d hd => ?_
    simp only [List.mem_cons, List.not_mem_nil, or_false] at hd
    rcases hd with rfl | rfl | rfl | rfl | rfl
    · exact .v (by decide +kernel)
    · exact lf_i (by omega) hi1
    · exact lf_i (by omega) hj1
    · exact k1.lf
    · exact k2.lf
  · rw [cell_bl]
    show ((decide (0 ≤ i) && (decide (0 ≤ j) && true)) && (cwD _ && (cwD _ && true))) = true
    rw [decide_eq_true hi, decide_eq_true hj, cw_ok hx0.1, cw_ok hy0.1]
    rfl
  · refine .tup fun d hd => ?_
    simp only [List.mem_cons, List.not_mem_nil, or_false] at hd
    rcases hd with rfl | rfl | rfl | rfl | rfl
    · exact .v
    · exact .v
    · exact .v
    · exact k1.nl
    · exact k2.nl
  · simp only [List.mem_cons, List.not_mem_nil, or_false] at he
    rcases he with rfl | rfl
    · exact ⟨k1.wo, k1.nl⟩
    · exact ⟨k2.wo, k2.nl⟩
  · simp only [List.mem_cons, List.not_mem_nil, or_false] at hk
    rcases hk with hk | hk
    · exact k1.le c k hk.symm
    · exact k2.le c k hk.symm
  · injection e with e
    rw [← e] at hz
    simp only [List.mem_cons, List.not_mem_nil, or_false] at hz
    rcases hz with rfl | rfl | rfl | rfl | rfl
    · exact s0_v (by decide +kernel)
    · exact s0_n
    · exact s0_n
    · exact s0_c
    · exact s0_c
/-- what may stand as the outer surroundings -/
def OutOk (ss : List Int) (d : Dt) : Prop := d = .v .non ∨ ∃ i, d = .tup [S2d "cell", .v (.int i)] ∧ i ∈ ss ∧ 0 ≤ i ∧ i ≤ 1000000000000000000000000
theorem g_na {ss : List Int} {ds : List Dt} {o : Dt} (h : ∀ d ∈ ds, WtOk ss d) (hl : ds.length ≤ 12) (ho : OutOk ss o) : CellG ss (.tup [S2d "names", .tup ds, o]) := by
  have wo : WtOk ss o := by
    rcases ho with rfl | ⟨i, rfl, h1, h2⟩
    · exact wt_plain ⟨.non, rfl, fun z e => by injection e with e; cases e⟩ rfl
    · exact wt_cell h1 h2
  have so : S0 o ∧ S1 o := by
    rcases ho with rfl | ⟨i, rfl, h1, h2⟩
    · exact ⟨fun z e => (by injection e with e; cases e), fun z e => (by cases e)⟩
    · exact s0_c
  refine ⟨⟨?_, ?_, ds ++ [o], rfl, fun e he => ?_, fun c k hk => ?_⟩, fun xs e z hz => ?_, ?_⟩
  rotate_left 5
  · refine .tup fun d hd => ?_
    simp only [List.mem_cons, List.not_mem_nil, or_false] at hd
    rcases hd with rfl | rfl | rfl
    · exact .v (by decide +kernel)
    · exact wt_lf h
    · exact wo.lf
  · rw [cell_na]
    show (wosD (.tup ds) (.int ((12 : Nat) : Int)) && (decide (o.srt = .non) || cwD o)) = true
    rw [wos_ok h hl, Bool.true_and]
    rcases ho with rfl | ⟨i, rfl, h1, h2⟩
    · rfl
    · rw [cw_ok h2.1]
      rfl
  · refine .tup fun d hd => ?_
    simp only [List.mem_cons, List.not_mem_nil, or_false] at hd
    rcases hd with rfl | rfl | rfl
    · exact .v
    · exact wt_nl h
    · exact wo.nl
  · rcases List.mem_append.mp he with he | he
    · exact ⟨(h e he).wo, (h e he).nl⟩
    · rw [List.mem_singleton.mp he]
      exact ⟨wo.wo, wo.nl⟩
  · rcases List.mem_append.mp hk with hk | hk
    · exact (h _ hk).le c k rfl
    · exact wo.le c k (List.mem_singleton.mp hk).symm
  · injection e with e
    rw [← e] at hz
    simp only [List.mem_cons, List.not_mem_nil, or_false] at hz
    rcases hz with rfl | rfl | rfl
    · exact s0_v (by decide +kernel)
    · exact s0_t fun d hd => (h d hd).s0
    · exact so
/-- ("cell", some[next(len(some))]) -/
theorem dr_cell {K : PySem.W.Frag} {σ : L2.St} {H : Hp} {E : XK} {Q : VK} {x y : Nat} {p l m q : Addr} {a : Nat} {ss : List Int} (h0 : σ[x]? = some (some (.ref p))) (h1 : σ[y]? = some (some (.ref q))) (dk : DkQ H p l m a) (ha : a ≤ 900000) (nq : NsA H p l q ss) (hss : ss ≠ []) (k : ∀ t i H', SX [p, l] H H' → DkQ H' p l m (a + 1) → AtD H' 1 (.tup [S2d "cell", .v (.int i)]) (.ref t) → i ∈ ss → 0 ≤ i ∧ i ≤ 1000000000000000000000000 → Q (.ref t) H') :
    tTup (tCons (tC (.str (Str.ofString "cell"))) (tCons (tOp (rIxL K) (tVar y) (tCall spNx [] E (tCons (tVar x) (tCons (tCB (Evl.rLenS K) (tCons (tVar y) tNil)) tNil)))) tNil)) σ H Q := by
  have hl0 : 0 < ss.length := List.length_pos_iff.mpr hss
  have hml : (ss.map V.int).length = ss.length := List.length_map ..
  refine ⟨_, h1, _, h0, _, h1, q, _, rfl, .inl (SqL.of nq.1), ?_⟩
  rw [hml]
  refine ⟨p, l, m, a, _, rfl, by omega, dk, by omega, fun n H3 s3 d3 h0 h1 => ?_⟩
  have nq3 := nq.sx s3
  obtain ⟨z, hz, hzm⟩ := pick (n := ss.length) hml (f := V.int) (Pz := fun z => z ∈ ss) (fun v hv => by
    obtain ⟨z, hz, rfl⟩ := List.mem_map.mp hv
    exact ⟨z, rfl, hz⟩) h0 h1
  refine ⟨q, _, _, _, rfl, rfl, SqL.of nq3.1, hz, by show 2 ≤ sizeLine; decide, fun t ht => ?_⟩
  exact k t z _ (s3.new ht) (d3.same (same_new ht _)) ⟨t, _, rfl, .inl upd_same, Nat.le_of_ble_eq_true rfl, .cons (atD_v (.str _)) (.cons (atD_v (.int _)) .nil)⟩ hzm (nq.2.2.1 z hzm)
def kindsL : List V := [.str (Str.ofString "Thing"), .str (Str.ofString "Node"), .str (Str.ofString "K"), .str (Str.ofString "Abcdefgh9012"), .str (Str.ofString "Z9z")]
theorem kinds_ok : ∀ v ∈ kindsL, ∃ z, v = V.str z ∧ isKindName (tl z) = true ∧ z.length ≤ 100000 ∧ leafOk (.str z) = true := by
  intro v hv
  unfold kindsL at hv
  simp only [List.mem_cons, List.not_mem_nil, or_false] at hv
  rcases hv with rfl | rfl | rfl | rfl | rfl <;> exact ⟨_, rfl, by decide +kernel, by decide +kernel, by decide +kernel⟩
def manyL : List V := [.int 0, .int 1, .int 2, .int 3, .int 4, .int 2, .int 3, .int 30]
theorem many_ok : ∀ v ∈ manyL, ∃ k : Nat, v = V.int (k : Nat) ∧ k ≤ 30 := by
  intro v hv
  unfold manyL at hv
  simp only [List.mem_cons, List.not_mem_nil, or_false] at hv
  rcases hv with rfl | rfl | rfl | rfl | rfl | rfl | rfl | rfl
  · exact ⟨0, rfl, by decide⟩
  · exact ⟨1, rfl, by decide⟩
  · exact ⟨2, rfl, by decide⟩
  · exact ⟨3, rfl, by decide⟩
  · exact ⟨4, rfl, by decide⟩
  · exact ⟨2, rfl, by decide⟩
  · exact ⟨3, rfl, by decide⟩
  · exact ⟨30, rfl, by decide⟩
def manyT : List V := [.int 0, .int 1, .int 2, .int 3, .int 8]
theorem manyT_ok : ∀ v ∈ manyT, ∃ k : Nat, v = V.int (k : Nat) ∧ k ≤ 8 := by
  intro v hv
  unfold manyT at hv
  simp only [List.mem_cons, List.not_mem_nil, or_false] at hv
  rcases hv with rfl | rfl | rfl | rfl | rfl
  · exact ⟨0, rfl, by decide⟩
  · exact ⟨1, rfl, by decide⟩
  · exact ⟨2, rfl, by decide⟩
  · exact ⟨3, rfl, by decide⟩
  · exact ⟨8, rfl, by decide⟩
def manyN : List V := [.int 0, .int 1, .int 2, .int 3, .int 12]
theorem manyN_ok : ∀ v ∈ manyN, ∃ k : Nat, v = V.int (k : Nat) ∧ k ≤ 12 := by
  intro v hv
  unfold manyN at hv
  simp only [List.mem_cons, List.not_mem_nil, or_false] at hv
  rcases hv with rfl | rfl | rfl | rfl | rfl
  · exact ⟨0, rfl, by decide⟩
  · exact ⟨1, rfl, by decide⟩
  · exact ⟨2, rfl, by decide⟩
  · exact ⟨3, rfl, by decide⟩
  · exact ⟨12, rfl, by decide⟩
def spCe : Sp := fun vs H Q _ => ∃ (p l m q : Addr) (a : Nat) (ss : List Int), vs = [.ref p, .ref q] ∧ DkQ H p l m a ∧ a ≤ 700000 ∧ NsA H p l q ss ∧ ∀ v d H', SX [p, l] H H' → DkQ H' p l m (a + 100) → AtD H' 3 d v → CellG ss d → Q v H'
section
variable {P : Program} {w : World} {K : PySem.W.Frag} {mg : Str → Option Value} {base : Heap}
theorem scCe_ : FnScope ["_law_deck_here", "_law_some", "_law_way", "_law_kind", "_law_mine", "_law_outer", "_law_many"] ["_law_deck_here", "_law_some"] (defScope s__law_cell) := ⟨rfl, rfl, rfl, by decide +kernel, rfl, by decide +kernel, by decide +kernel⟩
theorem c_cel (b_len : mg "len" = none) (NX : C0 P w K mg base 1 "_law_next" spNx) (WTS : C0 P w K mg base 3 "_law_worths" spWts) (D : Dn K mg "_law_cell" s__law_cell) : C0 P w K mg base 4 "_law_cell" spCe := by
  obtain ⟨f, fd, F, m⟩ := D.ex
  refine ⟨f, fd, ["_law_deck_here", "_law_some"], F.ok scCe_ (fun vs H Q E h => ?_) (fun cdv A outer s H vs Q E hr h => ?_), m, F.kp, F.binds (ps := ["_law_deck_here", "_law_some"]) fun _ _ _ _ _ _ us hl => match us, hl with | [_, _], _ => rfl⟩
  · obtain ⟨p, l, m, q, a, ss, rfl, _⟩ := h
    rfl
  obtain ⟨p, l, m, q, a, ss, rfl, dk, ha, nq, kq⟩ := h
  refine ⟨_, pss_cons (ps_set (i := 2) scCe_.nd rfl (Or.inl rfl) (pe_cc NX hr (by omega) pass0 (pa_cons (pv 0) (pa_cons pe_int pa_nil)))) <|
    pss_cons (ps_if (pt_cmpR op_eq (pv 2) pe_int (nomark _))
      (pss_cons (ps_set (i := 3) scCe_.nd rfl (Or.inl rfl) (pe_ix (r := rIxL K) ix_list (pe_lst (pa_cons pe_str (pa_cons pe_str (pa_cons pe_str (pa_cons pe_str (pa_cons pe_str pa_nil)))))) (pe_cc NX hr (by omega) pass0 (pa_cons (pv 0) (pa_cons pe_int pa_nil))) (fun _ _ => rfl))) <|
      pss_one (ps_ret (pe_tup (pa_cons pe_str (pa_cons (pv 3) (pa_cons (pe_cc WTS hr (by omega) pass0 (pa_cons (pv 0) (pa_cons (pv 1) (pa_cons (pe_ix (r := rIxL K) ix_list (pe_lst (pa_cons pe_int (pa_cons pe_int (pa_cons pe_int (pa_cons pe_int (pa_cons pe_int pa_nil)))))) (pe_cc NX hr (by omega) pass0 (pa_cons (pv 0) (pa_cons pe_int pa_nil))) (fun _ _ => rfl)) pa_nil)))) pa_nil))))))
      (pss_nil)) <|
    C8.pss_cut (ps_if (PW.pt (pw_and (pt_cmpR op_eq (pv 2) pe_int (nomark _)) (pw_and1 (pt_cmpR (op_neL0 hr.units) (pv 1) (pe_lst pa_nil) (nomark _)))))
      (pss_cons (ps_set (i := 4) scCe_.nd rfl (Or.inl rfl) (pe_tup (pa_cons pe_str (pa_cons (pe_ix (r := rIxL K) ix_list (pv 1) (pe_cc NX hr (by omega) pass0 (pa_cons (pv 0) (pa_cons (pe_callB call_len_seq (by rfl) b_len PySem.boot_len (pa_cons (pv 1) pa_nil)) pa_nil))) (fun _ _ => rfl)) pa_nil)))) <|
      pss_one (ps_ret (pe_tup (pa_cons pe_str (pa_cons (pe_cc NX hr (by omega) pass0 (pa_cons (pv 0) (pa_cons pe_int pa_nil))) (pa_cons (pe_cc NX hr (by omega) pass0 (pa_cons (pv 0) (pa_cons pe_int pa_nil))) (pa_cons (pv 4) (pa_cons (pe_tup (pa_cons pe_str (pa_cons (pe_ix (r := rIxL K) ix_list (pv 1) (pe_cc NX hr (by omega) pass0 (pa_cons (pv 0) (pa_cons (pe_callB call_len_seq (by rfl) b_len PySem.boot_len (pa_cons (pv 1) pa_nil)) pa_nil))) (fun _ _ => rfl)) pa_nil))) pa_nil))))))))
      (pss_nil)) <|
    pss_cons (ps_if (pt_cmpR op_eq (pv 2) pe_int (nomark _))
      (pss_cons (ps_set (i := 5) scCe_.nd rfl (Or.inl rfl) pe_non) <|
      C8.pss_cut (ps_if (PW.pt (pw_and (pt_cmpR (op_neL0 hr.units) (pv 1) (pe_lst pa_nil) (nomark _)) (pw_and1 (pt_cmpR op_eq (pe_cc NX hr (by omega) pass0 (pa_cons (pv 0) (pa_cons pe_int pa_nil))) pe_int (nomark _)))))
        (pss_one (ps_set (i := 5) scCe_.nd rfl (Or.inl rfl) (pe_tup (pa_cons pe_str (pa_cons (pe_ix (r := rIxL K) ix_list (pv 1) (pe_cc NX hr (by omega) pass0 (pa_cons (pv 0) (pa_cons (pe_callB call_len_seq (by rfl) b_len PySem.boot_len (pa_cons (pv 1) pa_nil)) pa_nil))) (fun _ _ => rfl)) pa_nil)))))
        (pss_nil)) <|
      pss_one (ps_ret (pe_tup (pa_cons pe_str (pa_cons (pe_cc WTS hr (by omega) pass0 (pa_cons (pv 0) (pa_cons (pv 1) (pa_cons (pe_ix (r := rIxL K) ix_list (pe_lst (pa_cons pe_int (pa_cons pe_int (pa_cons pe_int (pa_cons pe_int (pa_cons pe_int pa_nil)))))) (pe_cc NX hr (by omega) pass0 (pa_cons (pv 0) (pa_cons pe_int pa_nil))) (fun _ _ => rfl)) pa_nil)))) (pa_cons (pv 5) pa_nil))))))
      (pss_nil)) <|
    pss_cons (ps_set (i := 6) scCe_.nd rfl (Or.inl rfl) (pe_ix (r := rIxL K) ix_list (pe_lst (pa_cons pe_int (pa_cons pe_int (pa_cons pe_int (pa_cons pe_int (pa_cons pe_int (pa_cons pe_int (pa_cons pe_int (pa_cons pe_int pa_nil))))))))) (pe_cc NX hr (by omega) pass0 (pa_cons (pv 0) (pa_cons pe_int pa_nil))) (fun _ _ => rfl))) <|
    pss_one (ps_ret (pe_tup (pa_cons pe_str (pa_cons (pe_cc WTS hr (by omega) pass0 (pa_cons (pv 0) (pa_cons (pv 1) (pa_cons (pv 6) pa_nil)))) pa_nil)))), ?_⟩
  refine ⟨_, rfl, p, l, m, a, 4, rfl, by decide, dk, by omega, fun way H1 s1 d1 _ _ => ?_⟩
  have nq1 := nq.sx s1
  refine ⟨_, rfl, rfl, _, rfl, ?_⟩
  refine ite2 (fun _ => ?_) (fun _ => ?_)
  · refine ⟨by show 5 ≤ sizeLine; decide, fun t ht => ?_⟩
    have s2 := s1.new (o := .lst kindsL) ht
    have d2 := d1.same (same_new ht (.lst kindsL))
    have nt := d1.ne ht
    have f2 : upd H1 t (.lst kindsL) t = some (.lst kindsL) := upd_same
    show tCall spNx [] _ _ _ (upd H1 t (.lst kindsL)) _
    generalize upd H1 t (.lst kindsL) = H2 at s2 d2 f2 ⊢
    refine ⟨_, rfl, p, l, m, _, 5, rfl, by decide, d2, by omega, fun n H3 s3 d3 h0 h1 => ?_⟩
    obtain ⟨z, hz, hzk, hzl, hzf⟩ := pick (n := 5) (xs := kindsL) rfl (f := V.str) (Pz := fun z => isKindName (tl z) = true ∧ z.length ≤ 100000 ∧ leafOk (.str z) = true) kinds_ok h0 h1
    refine ⟨t, _, _, _, rfl, rfl, SqL.of (s3 _ _ (ne2 nt) f2), hz, ?_⟩
    refine ⟨_, rfl, _, rfl, _, rfl, by show 5 ≤ sizeLine; decide, fun tm htm => ?_⟩
    have sm := same_new htm (.lst manyT)
    have dm := d3.same sm
    have ntm := d3.ne htm
    have fm : upd H3 tm (.lst manyT) tm = some (.lst manyT) := upd_same
    show tCall spNx [] _ _ _ (upd H3 tm (.lst manyT)) _
    generalize upd H3 tm (.lst manyT) = H3m at sm dm fm ⊢
    refine ⟨_, rfl, p, l, m, _, 5, rfl, by decide, dm, by omega, fun n H4 s4 d4 h0 h1 => ?_⟩
    obtain ⟨k, hk, hkl⟩ := pick (n := 5) (xs := manyT) rfl (f := fun k : Nat => V.int (k : Nat)) (Pz := fun k => k ≤ 8) manyT_ok h0 h1
    refine ⟨tm, _, _, _, rfl, rfl, SqL.of (s4 _ _ (ne2 ntm) fm), hk, ?_⟩
    have s24 := s2.trans (s3.trans ((SX.same sm).trans s4))
    refine ⟨p, l, m, q, _, ss, k, rfl, by omega, d4, by omega, nq.sx s24, fun v ds H5 s5 d5 av hl hok => ?_⟩
    refine ⟨by show 3 ≤ sizeLine; decide, fun r hr => ?_⟩
    have sn := same_new hr (.tup [V.str (Str.ofString "thing"), V.str z, v])
    exact kq _ (.tup [S2d "thing", .v (.str z), .tup ds]) _ ((s24.trans s5).new hr) ((d5.same sn).mono (by omega)) ⟨r, _, rfl, .inl upd_same, Nat.le_of_ble_eq_true rfl, .cons (atD_v (.str _)) (.cons (atD_v (.str _)) (.cons (av.same sn) .nil))⟩ (g_th hzk hzl hzf hok (by omega))
  refine ⟨fun σ H2 => σ = [some (.ref p), some (.ref q), some (.int way), none, none, none, none] ∧ SX [p, l] H H2 ∧ DkQ H2 p l m (a + 1), ?_, ?_⟩
  · refine ⟨_, rfl, rfl, _, rfl, ?_⟩
    refine ite2 (fun _ => ?_) (fun _ => iteF ⟨rfl, s1, d1⟩)
    refine ⟨_, rfl, by show 0 ≤ sizeLine; decide, fun e he => ⟨q, e, _, rfl, rfl, SqL.of (same_new he _ _ _ nq1.1), SqL.of upd_same, _, rfl, ?_⟩⟩
    have s2 := s1.new (o := .lst []) he
    have d2 := d1.same (same_new he (.lst []))
    generalize upd H1 e (.lst []) = H2 at s2 d2 ⊢
    refine ite2 (fun c => ?_) (fun _ => ⟨rfl, s2, d2⟩)
    have nq2 := nq.sx s2
    have hss : ss ≠ [] := fun z => by subst z; cases c
    refine asg_go (dr_cell rfl rfl d2 (by omega) nq2 hss fun t1 i1 H3 s3 d3 at3 hi1 hi10 => ?_)
    refine ⟨_, rfl, p, l, m, _, 200, rfl, by decide, d3, by omega, fun x1 H4 s4 d4 hx10 hx11 => ?_⟩
    refine ⟨_, rfl, p, l, m, _, 150, rfl, by decide, d4, by omega, fun x2 H5 s5 d5 hx20 hx21 => ?_⟩
    have s25 := s2.trans (s3.trans (s4.trans s5))
    refine ⟨_, rfl, ?_⟩
    refine dr_cell rfl rfl d5 (by omega) (nq.sx s25) hss fun t2 i2 H6 s6 d6 at6 hi2 hi20 => ?_
    refine ⟨by show 5 ≤ sizeLine; decide, fun t ht => ?_⟩
    have nl : ∀ {i : Int}, NlD (.tup [S2d "cell", .v (.int i)]) := fun {i} => .tup fun d hd => by
      simp only [List.mem_cons, List.not_mem_nil, or_false] at hd
      rcases hd with rfl | rfl <;> exact .v
    have at36 := AtD.tups (d5.lsts.tups s6) (AtD.tups (d4.lsts.tups s5) (AtD.tups (d3.lsts.tups s4) at3 nl) nl) nl
    have sn := same_new ht (.tup [V.str (Str.ofString "block"), V.int x1, V.int x2, V.ref t1, V.ref t2])
    refine kq _ (.tup [S2d "block", .v (.int x1), .v (.int x2), .tup [S2d "cell", .v (.int i1)], .tup [S2d "cell", .v (.int i2)]]) _ ((s25.trans s6).new ht) ((d6.same sn).mono (by omega)) ⟨t, _, rfl, .inl upd_same, Nat.le_of_ble_eq_true rfl, .cons (atD_v (.str _)) (.cons (atD_v (.int _)) (.cons (atD_v (.int _)) (.cons ((at36.same sn).mono (by decide)) (.cons ((at6.same sn).mono (by decide)) .nil))))⟩ (g_bl hx10 hx20 hi1 hi10 hi2 hi20 (by omega) (by omega))
  rintro σ H2 ⟨rfl, s2, d2⟩
  refine ⟨_, rfl, rfl, _, rfl, ?_⟩
  refine ite2 (fun _ => ?_) (fun _ => ?_)
  · refine ⟨fun σ H3 => ∃ (o : V) (od : Dt), σ = [some (.ref p), some (.ref q), some (.int way), none, none, some o, none] ∧ SX [p, l] H H3 ∧ DkQ H3 p l m (a + 3) ∧ AtD H3 1 od o ∧ OutOk ss od, ?_, ?_⟩
    · have nq2 := nq.sx s2
      refine ⟨_, rfl, by show 0 ≤ sizeLine; decide, fun e he => ⟨q, e, _, rfl, rfl, SqL.of (same_new he _ _ _ nq2.1), SqL.of upd_same, _, rfl, ?_⟩⟩
      have s3 := s2.new (o := .lst []) he
      have d3 := d2.same (same_new he (.lst []))
      generalize upd H2 e (.lst []) = H3 at s3 d3 ⊢
      refine ite2 (fun c => ?_) (fun _ => iteF ⟨.non, .v .non, rfl, s3, d3.mono (by omega), atD_v .non, .inl rfl⟩)
      have hss : ss ≠ [] := fun z => by subst z; cases c
      refine ⟨_, rfl, p, l, m, _, 2, rfl, by decide, d3, by omega, fun n H4 s4 d4 _ _ => ?_⟩
      refine ⟨rfl, _, rfl, ?_⟩
      refine ite2 (fun _ => ?_) (fun _ => ⟨.non, .v .non, rfl, s3.trans s4, d4.mono (by omega), atD_v .non, .inl rfl⟩)
      exact dr_cell rfl rfl d4 (by omega) (nq.sx (s3.trans s4)) hss fun t2 i2 H6 s6 d6 at6 hi2 hi20 => ⟨.ref t2, _, rfl, s3.trans (s4.trans s6), d6, at6, .inr ⟨i2, rfl, hi2, hi20⟩⟩
    · rintro σ H3 ⟨o, od, rfl, s3, d3, ao, ho⟩
      refine ⟨_, rfl, _, rfl, by show 5 ≤ sizeLine; decide, fun tm htm => ?_⟩
      have onl0 : NlD od := by
        rcases ho with rfl | ⟨i, rfl, _, _⟩
        · exact .v
        · refine .tup fun d hd => ?_
          simp only [List.mem_cons, List.not_mem_nil, or_false] at hd
          rcases hd with rfl | rfl <;> exact .v
      have sm := same_new htm (.lst manyN)
      have dm := d3.same sm
      have ntm := d3.ne htm
      have ao := ao.same sm
      have s3 := s3.new (o := .lst manyN) htm
      have d3 := dm
      have fm : upd H3 tm (.lst manyN) tm = some (.lst manyN) := upd_same
      show tCall spNx [] _ _ _ (upd H3 tm (.lst manyN)) _
      generalize upd H3 tm (.lst manyN) = H3 at sm dm fm ao s3 d3 ⊢
      refine ⟨_, rfl, p, l, m, _, 5, rfl, by decide, d3, by omega, fun n H4 s4 d4 h0 h1 => ?_⟩
      obtain ⟨k, hk, hkl⟩ := pick (n := 5) (xs := manyN) rfl (f := fun k : Nat => V.int (k : Nat)) (Pz := fun k => k ≤ 12) manyN_ok h0 h1
      refine ⟨tm, _, _, _, rfl, rfl, SqL.of (s4 _ _ (ne2 ntm) fm), hk, ?_⟩
      refine ⟨p, l, m, q, _, ss, k, rfl, by omega, d4, by omega, nq.sx (s3.trans s4), fun v ds H5 s5 d5 av hl hok => ?_⟩
      refine ⟨_, rfl, by show 3 ≤ sizeLine; decide, fun r hr => ?_⟩
      have onl : NlD od := by
        rcases ho with rfl | ⟨i, rfl, _, _⟩
        · exact .v
        · refine .tup fun d hd => ?_
          simp only [List.mem_cons, List.not_mem_nil, or_false] at hd
          rcases hd with rfl | rfl <;> exact .v
      have ao5 := AtD.tups (d4.lsts.tups s5) (AtD.tups (d3.lsts.tups s4) ao onl) onl
      have sn := same_new hr (.tup [V.str (Str.ofString "names"), v, o])
      exact kq _ (.tup [S2d "names", .tup ds, od]) _ ((s3.trans (s4.trans s5)).new hr) ((d5.same sn).mono (by omega)) ⟨r, _, rfl, .inl upd_same, Nat.le_of_ble_eq_true rfl, .cons (atD_v (.str _)) (.cons (av.same sn) (.cons ((ao5.same sn).mono (by decide)) .nil))⟩ (g_na hok (by omega) ho)
  refine ⟨by show 8 ≤ sizeLine; decide, fun t ht => ?_⟩
  have s3 := s2.new (o := .lst manyL) ht
  have d3 := d2.same (same_new ht (.lst manyL))
  have nt := d2.ne ht
  have f3 : upd H2 t (.lst manyL) t = some (.lst manyL) := upd_same
  show tCall spNx [] _ _ _ (upd H2 t (.lst manyL)) _
  generalize upd H2 t (.lst manyL) = H3 at s3 d3 f3 ⊢
  refine ⟨_, rfl, p, l, m, _, 8, rfl, by decide, d3, by omega, fun n H4 s4 d4 h0 h1 => ?_⟩
  obtain ⟨k, hk, hkl⟩ := pick (n := 8) (xs := manyL) rfl (f := fun k : Nat => V.int (k : Nat)) (Pz := fun k => k ≤ 30) many_ok h0 h1
  refine ⟨t, _, _, _, rfl, rfl, SqL.of (s4 _ _ (ne2 nt) f3), hk, ?_⟩
  refine ⟨_, rfl, _, rfl, _, rfl, p, l, m, q, _, ss, k, rfl, by omega, d4, by omega, nq.sx (s3.trans s4), fun v ds H5 s5 d5 av hl hok => ?_⟩
  refine ⟨by show 2 ≤ sizeLine; decide, fun r hr => ?_⟩
  have sn := same_new hr (.tup [V.str (Str.ofString "list"), v])
  exact kq _ (.tup [S2d "list", .tup ds]) _ ((s3.trans (s4.trans s5)).new hr) ((d5.same sn).mono (by omega)) ⟨r, _, rfl, .inl upd_same, Nat.le_of_ble_eq_true rfl, .cons (atD_v (.str _)) (.cons (av.same sn) .nil)⟩ (g_li hok (by omega))
end
end My
set_option Elab.async false
set_option linter.all false
set_option maxRecDepth 100000
set_option maxHeartbeats 8000000
namespace My
open PySem L2 SS
def spPl : Sp := fun vs H Q _ => ∃ (p l m : Addr) (a k : Nat), vs = [.ref p, .int (k : Nat)] ∧ k ≤ 100 ∧ DkQ H p l m a ∧ a ≤ 900000 ∧ ∀ (r : Addr) (ns : List Int) H', SX [p, l] H H' → DkQ H' p l m (a + 2 * k) → H r = none → H' r = some (.lst (ns.map V.int)) → ns.length = k → ns.Pairwise (· < ·) → (∀ i ∈ ns, 0 ≤ i ∧ i ≤ 1000000000000000000000000) → Q (.ref r) H'
section
variable {P : Program} {w : World} {K : PySem.W.Frag} {mg : Str → Option Value} {base : Heap}
theorem scPl : FnScope ["_law_deck_here", "_law_many", "_law_found", "_law_last", "_law_k"] ["_law_deck_here", "_law_many"] (defScope s__law_places) := ⟨rfl, rfl, rfl, by decide +kernel, rfl, by decide +kernel, by decide +kernel⟩
theorem c_pl (b_range : mg "range" = none) (NX : C0 P w K mg base 1 "_law_next" spNx) (D : Dn K mg "_law_places" s__law_places) : C0 P w K mg base 2 "_law_places" spPl := by
  obtain ⟨f, fd, F, m⟩ := D.ex
  refine ⟨f, fd, ["_law_deck_here", "_law_many"], F.ok scPl (fun vs H Q E h => ?_) (fun cdv A outer s H vs Q E hr h => ?_), m, F.kp, F.binds (ps := ["_law_deck_here", "_law_many"]) fun _ _ _ _ _ _ us hl => match us, hl with | [_, _], _ => rfl⟩
  · obtain ⟨p, l, m, a, k, rfl, _⟩ := h
    rfl
  obtain ⟨p, l, m, a, k, rfl, hk, dk, ha, kq⟩ := h
  refine ⟨_, pss_cons (ps_set (i := 2) scPl.nd rfl (Or.inl rfl) (pe_lst pa_nil)) <|
    pss_cons (ps_set (i := 3) scPl.nd rfl (Or.inl rfl) (pe_op op_sub pe_int pe_int)) <|
    pss_cons (ps_for PassesOwn.never rfl (pi_range1 rfl b_range (pa_cons (pv 1) pa_nil)) (pg_name (i := 4) scPl.nd rfl (Or.inl rfl))
      (pss_cons (ps_set (i := 3) scPl.nd rfl (Or.inl rfl) (pe_op op_add (pe_op op_add (pv 3) pe_int) (pe_cc NX hr (by omega) pass0 (pa_cons (pv 0) (pa_cons pe_int pa_nil))))) <|
      C8.pss_cut (ps_if (pt_cmpR op_eq (pe_cc NX hr (by omega) pass0 (pa_cons (pv 0) (pa_cons pe_int pa_nil))) pe_int (nomark _))
        (pss_one (ps_set (i := 3) scPl.nd rfl (Or.inl rfl) (pe_op op_add (pv 3) (pe_op op_pow pe_int pe_int))))
        (pss_nil)) <|
      pss_one (ps_expr (pe_bm PySem.F.plainAttrs_list PySem.F.slot_list_append PySem.F.type_list_append mt_append (pv 2) (pa_cons (pv 3) pa_nil))))) <|
    pss_one (ps_ret (pv 2)), ?_⟩
  refine ⟨by show 0 ≤ sizeLine; decide, fun fl hfl => ?_⟩
  have s1 := same_new hfl (.lst [])
  have f1 : upd H fl (.lst []) fl = some (.lst []) := upd_same
  have nf := dk.ne hfl
  have d1 := dk.same s1
  generalize upd H fl (.lst []) = H1 at s1 f1 d1 ⊢
  refine ⟨_, _, rfl, rfl, ?_⟩
  refine ⟨_, rfl, k, rfl, by omega, by omega, ?_⟩
  refine for_range (lo := 0) (n := ((k : Nat) : Int).toNat) (fun i σ H' => ∃ (ns : List Int) (last : Int) (v4 : Option V), σ = [some (.ref p), some (.int (k : Nat)), some (.ref fl), some (.int last), v4] ∧ SX [p, l] H H' ∧ DkQ H' p l m (a + 2 * i) ∧ H' fl = some (.lst (ns.map V.int)) ∧ ns.length = i ∧ ns.Pairwise (· < ·) ∧ (∀ j ∈ ns, 0 ≤ j ∧ j ≤ last) ∧ -1 ≤ last ∧ last + 1 ≤ 100000000000000000010 * (i : Int)) ⟨[], _, none, rfl, SX.same s1, d1, f1, rfl, .nil, fun j hj => (by cases hj), by decide, by decide⟩ ?_ ?_
  · rintro i σ H2 hi ⟨ns, last, v4, rfl, s2, d2, f2, hl, hp, hb, hm1, hbg⟩
    have hi' : i < k := by omega
    refine ⟨_, rfl, _, _, rfl, rfl, _, rfl, p, l, m, _, 3, rfl, by decide, d2, by omega, fun n H3 s3 d3 h0 h1 => ⟨_, _, rfl, rfl, ?_⟩⟩
    refine ⟨fun σ H4 => ∃ (last' : Int) (v4 : Option V), σ = [some (.ref p), some (.int (k : Nat)), some (.ref fl), some (.int last'), v4] ∧ SX [p, l] H H4 ∧ DkQ H4 p l m (a + 2 * i + 2) ∧ H4 fl = some (.lst (ns.map V.int)) ∧ last < last' ∧ last' ≤ last + 100000000000000000010, ?_, ?_⟩
    · refine ⟨_, rfl, p, l, m, _, 10, rfl, by decide, d3, by omega, fun n2 H4 s4 d4 _ _ => ⟨rfl, _, rfl, ?_⟩⟩
      have s24 := s2.trans (s3.trans s4)
      have f4 := s4 _ _ (ne2 nf) (s3 _ _ (ne2 nf) f2)
      refine ite2 (fun _ => ?_) (fun _ => ⟨_, _, rfl, s24, d4, f4, by omega, by omega⟩)
      refine ⟨_, rfl, _, _, rfl, rfl, ⟨by decide, by decide, by decide⟩, _, _, rfl, rfl, ?_⟩
      have : (10 : Int) ^ (20 : Int).toNat = 100000000000000000000 := by decide
      exact ⟨_, _, rfl, s24, d4, f4, by omega, by omega⟩
    · rintro σ H4 ⟨last', v4', rfl, s4, d4, f4, hlt, hlt2⟩
      refine ⟨_, rfl, .inl ⟨rfl, _, SqL.of f4⟩, _, rfl, fl, _, _, rfl, rfl, f4, by rw [List.length_map, sizeLine_eq]; omega, ?_⟩
      refine ⟨ns ++ [last'], last', _, rfl, s4.late hfl _, (d4.set nf _).mono (by omega), by rw [upd_same, List.map_append]; rfl, by rw [List.length_append, hl]; rfl, ?_, fun j hj => ?_, by omega, by omega⟩
      · refine List.pairwise_append.mpr ⟨hp, List.pairwise_singleton .., fun x hx y hy => ?_⟩
        rw [List.mem_singleton.mp hy]
        have := (hb x hx).2
        omega
      · rcases List.mem_append.mp hj with hj | hj
        · have := hb j hj
          omega
        · rw [List.mem_singleton.mp hj]
          omega
  · rintro σ H2 ⟨ns, last, v4, rfl, s2, d2, f2, hl, hp, hb, hm1, hbg⟩
    have hl' : ns.length = k := by omega
    exact ⟨_, rfl, kq fl ns H2 s2 (d2.mono (by omega)) hfl f2 hl' hp fun i hi => by have := hb i hi; omega⟩
/-- cells at places -/
structure CsOk (cs : List (Int × Dt)) : Prop where
  r : (cs.map (·.1)).Pairwise (· < ·)
  z : ∀ c ∈ cs, 0 ≤ c.1
  g : ∀ c ∈ cs, CellG (cs.map (·.1)) c.2
  l : cs.length ≤ 10
  b : ∀ c ∈ cs, c.1 ≤ 1000000000000000000000000
def CsAt (H : Hp) (c : Addr) (cs : List (Int × Dt)) : Prop := ∃ vs, Rd H c (.dK (kvZ (fun c => c.1) cs vs)) ∧ All2 (AtD H 3) (cs.map (·.2)) vs
theorem Rd.tups' {H H' : Hp} {c : Addr} {u : HO} (hl : ∀ xs, u ≠ .lst xs) {B : List Addr} (l : Lsts B H) (s : SX B H H') (h : Rd H c u) : Rd H' c u := by
  rcases h with h | ⟨o, h⟩
  · refine .inl (s _ _ (fun z => ?_) h)
    obtain ⟨xs, e⟩ := l _ z
    rw [e] at h
    exact hl xs (Option.some.inj h).symm
  · refine .inr ⟨o, s _ _ (fun z => ?_) h⟩
    obtain ⟨xs, e⟩ := l _ z
    rw [e] at h
    cases h
theorem CsAt.sx {B : List Addr} {H H' : Hp} {c : Addr} {cs : List (Int × Dt)} (ok : ∀ c ∈ cs, NlD c.2) (l : Lsts B H) (s : SX B H H') (h : CsAt H c cs) : CsAt H' c cs := by
  obtain ⟨vs, h1, h2⟩ := h
  refine ⟨vs, Rd.tups' (fun _ z => by cases z) l s h1, h2.impM fun d hd b r => ?_⟩
  obtain ⟨c, hc, rfl⟩ := List.mem_map.mp hd
  exact AtD.tups (l.tups s) r (ok c hc)
theorem CsOk.nl {cs : List (Int × Dt)} (h : CsOk cs) : ∀ c ∈ cs, NlD c.2 := fun c hc => (h.g c hc).ok.nl
theorem kvZ_snoc {α : Type} {k : α → Int} {zs : List α} {vs : List V} {z : α} {v : V} (h : zs.length = vs.length) : kvZ k (zs ++ [z]) (vs ++ [v]) = kvZ k zs vs ++ [(Sum.inl (k z), v)] := by
  unfold kvZ
  rw [List.zipWith_append h]
  rfl
def spCs : Sp := fun vs H Q _ => ∃ (p l m : Addr) (a : Nat), vs = [.ref p] ∧ DkQ H p l m a ∧ a ≤ 600000 ∧ ∀ (c : Addr) (cs : List (Int × Dt)) H', SX [p, l] H H' → DkQ H' p l m (a + 1000) → H c = none → CsAt H' c cs → CsOk cs → Q (.ref c) H'
theorem scCs : FnScope ["_law_deck_here", "_law_places_here", "_law_cells_here", "_law_address"] ["_law_deck_here"] (defScope s__law_cells) := ⟨rfl, rfl, rfl, by decide +kernel, rfl, by decide +kernel, by decide +kernel⟩
theorem c_cs (NX : C0 P w K mg base 1 "_law_next" spNx) (PL : C0 P w K mg base 2 "_law_places" spPl) (CEL : C0 P w K mg base 4 "_law_cell" spCe) (D : Dn K mg "_law_cells" s__law_cells) : C0 P w K mg base 5 "_law_cells" spCs := by
  obtain ⟨f, fd, F, m⟩ := D.ex
  refine ⟨f, fd, ["_law_deck_here"], F.ok scCs (fun vs H Q E h => ?_) (fun cdv A outer s H vs Q E hr h => ?_), m, F.kp, F.binds (ps := ["_law_deck_here"]) fun _ _ _ _ _ _ us hl => match us, hl with | [_], _ => rfl⟩
  · obtain ⟨p, l, m, a, rfl, _⟩ := h
    rfl
  obtain ⟨p, l, m, a, rfl, dk, ha, kq⟩ := h
  refine ⟨_, pss_cons (ps_set (i := 1) scCs.nd rfl (Or.inl rfl) (pe_cc PL hr (by omega) pass0 (pa_cons (pv 0) (pa_cons (pe_cc NX hr (by omega) pass0 (pa_cons (pv 0) (pa_cons pe_int pa_nil))) pa_nil)))) <|
    pss_cons (ps_set (i := 2) scCs.nd rfl (Or.inl rfl) pe_dnewK) <|
    pss_cons (ps_for PassesOwn.never rfl (pi_list (pv 1)) (pg_name (i := 3) scCs.nd rfl (Or.inl rfl))
      (pss_one (ps_dput (hu_of hr) (pv 2) (pv 3) (pe_cc CEL hr (by omega) pass0 (pa_cons (pv 0) (pa_cons (pv 1) pa_nil))) rfl))) <|
    pss_one (ps_ret (pv 2)), ?_⟩
  refine ⟨_, rfl, _, rfl, p, l, m, _, 9, rfl, by decide, dk, by omega, fun n H1 s1 d1 h0 h1 => ?_⟩
  obtain ⟨k, rfl⟩ := Int.eq_ofNat_of_zero_le h0
  refine ⟨p, l, m, _, k, rfl, by omega, d1, by omega, fun r ns H2 s2 d2 hr2 f2 hnl hnp hn0 => ?_⟩
  have s02 := s1.trans s2
  have nr := d1.ne hr2
  refine fun c hc => ?_
  have nc := d2.ne hc
  have hcH : H c = none := s02.free d2.lsts.some hc
  have hcr : c ≠ r := fun e => by rw [e, f2] at hc; cases hc
  have s3 := s02.new (o := .dK []) hc
  have d3 := d2.set nc (.dK [])
  have f3 : upd H2 c (.dK []) c = some (.dK []) := upd_same
  have r3 : upd H2 c (.dK []) r = some (.lst (ns.map V.int)) := by rw [upd_ne (Ne.symm hcr)]; exact f2
  generalize upd H2 c (.dK []) = H3 at s3 d3 f3 r3 ⊢
  refine ⟨_, rfl, r, rfl, ⟨_, SqL.of r3⟩, ?_⟩
  refine for_list (xs := ns.map V.int) (fun i σ H' => ∃ (cs : List (Int × Dt)) (vs : List V) (v3 : Option V), σ = [some (.ref p), some (.ref r), some (.ref c), v3] ∧ SX [p, l] H H' ∧ DkQ H' p l m (a + 17 + 100 * i) ∧ H' r = some (.lst (ns.map V.int)) ∧ H' c = some (.dK (kvZ (fun c => c.1) cs vs)) ∧ All2 (AtD H' 3) (cs.map (·.2)) vs ∧ cs.map (·.1) = ns.take i ∧ ∀ c ∈ cs, CellG ns c.2) ⟨[], [], none, rfl, s3, d3.mono (by omega), r3, f3, .nil, rfl, fun c hc => (by cases hc)⟩ (fun i σ H' _ ⟨_, _, _, _, _, _, h, _⟩ => SqL.of h) ?_ ?_
  · rintro i x σ H4 hx ⟨cs, vs, v3, rfl, s4, d4, r4, c4, al, hks, hg⟩
    have hi : i < ns.length := by
      have := (List.getElem?_eq_some_iff.mp hx).1
      rwa [List.length_map] at this
    obtain rfl : V.int ns[i] = x := by
      rw [List.getElem?_map, List.getElem?_eq_getElem hi] at hx
      exact Option.some.inj hx
    refine ⟨_, rfl, _, rfl, p, l, m, r, _, ns, rfl, d4, by omega, ⟨r4, ne2 nr, hn0, by omega⟩, fun v d H5 s5 d5 av hgd => ?_⟩
    have c5 := s5 _ _ (ne2 nc) c4
    have r5 := s5 _ _ (ne2 nr) r4
    have hcl : cs.length = vs.length := by have := al.len; rwa [List.length_map] at this
    have hcl2 : cs.length = i := by
      have := congrArg List.length hks
      rw [List.length_map, List.length_take] at this
      omega
    refine ⟨_, rfl, _, rfl, c, _, rfl, DPut.k (k := Sum.inl ns[i]) c5 (by
      unfold kvZ
      rw [List.length_zipWith, sizeLine_eq]
      omega), ?_⟩
    have hfr : ∀ q ∈ kvZ (fun c : Int × Dt => c.1) cs vs, q.1 ≠ Sum.inl ns[i] := fun q hq e => by
      have hm : q.1 ∈ (kvZ (fun c : Int × Dt => c.1) cs vs).map (·.1) := List.mem_map_of_mem hq
      rw [kvZ_keys hcl.symm, e] at hm
      obtain ⟨cc, hcc, ec⟩ := List.mem_map.mp hm
      have hm2 : cc.1 ∈ ns.take i := by rw [← hks]; exact List.mem_map_of_mem hcc
      obtain ⟨j, hj, ej⟩ := List.mem_iff_getElem.mp hm2
      rw [List.length_take] at hj
      rw [List.getElem_take] at ej
      have := List.pairwise_iff_getElem.mp hnp j i (by omega) hi (by omega)
      rw [ej, Sum.inl.inj ec] at this
      omega
    rw [putK_fresh hfr, ← kvZ_snoc (k := fun c : Int × Dt => c.1) (z := (ns[i], d)) hcl]
    have tt := tups_dK (kvs' := kvZ (fun c : Int × Dt => c.1) (cs ++ [(ns[i], d)]) (vs ++ [v])) c5
    have t45 := d4.lsts.tups s5
    refine ⟨cs ++ [(ns[i], d)], vs ++ [v], _, rfl, (s4.trans s5).late hcH _, (d5.set nc _).mono (by omega), by rw [upd_ne (Ne.symm hcr)]; exact r5, upd_same, ?_, ?_, fun c' hc' => ?_⟩
    · rw [List.map_append]
      refine All2.app (al.impM fun e he b r => ?_) (.cons (AtD.tups tt av hgd.ok.nl) .nil)
      obtain ⟨c', hc', rfl⟩ := List.mem_map.mp he
      exact AtD.tups tt (AtD.tups t45 r (hg c' hc').ok.nl) (hg c' hc').ok.nl
    · rw [List.map_append, hks, List.take_add_one, List.getElem?_eq_getElem hi]
      rfl
    · rcases List.mem_append.mp hc' with hc' | hc'
      · exact hg c' hc'
      · rw [List.mem_singleton.mp hc']
        exact hgd
  · rintro σ H4 ⟨cs, vs, v3, rfl, s4, d4, r4, c4, al, hks, hg⟩
    rw [List.length_map, List.take_length] at hks
    have hcl : cs.length = ns.length := by rw [← hks, List.length_map]
    have hln : (ns.map V.int).length = ns.length := List.length_map ..
    refine ⟨_, rfl, kq c cs H4 s4 (d4.mono (by rw [hln]; omega)) hcH ⟨vs, .inl c4, al⟩ ⟨by rw [hks]; exact hnp, fun c' hc' => (hn0 _ (by rw [← hks]; exact List.mem_map_of_mem hc')).1, fun c' hc' => by rw [hks]; exact hg c' hc', by omega, fun c' hc' => (hn0 _ (by rw [← hks]; exact List.mem_map_of_mem hc')).2⟩⟩
end
end My
set_option Elab.async false
set_option linter.all false
set_option maxRecDepth 100000
set_option maxHeartbeats 8000000
namespace My
open PySem L2 SS
/-! ### depths -/
def Dp : Nat → Dt → Prop
  | _, .v _ => True
  | 0, .tup _ => False
  | k + 1, .tup ds => ∀ d ∈ ds, Dp k d
  | _, .lst _ => False
  | _, .dic => False
theorem AtD.low {H : Hp} : ∀ {n k : Nat} {d : Dt} {v : V}, AtD H n d v → Dp k d → AtD H k d v
  | n, k, .v x, v, h, _ => by
    obtain ⟨e, hp⟩ : v = x ∧ Pln x := by cases n <;> exact h
    subst e
    exact atD_v hp
  | 0, _, .tup _, _, h, _ => h.elim
  | n + 1, 0, .tup _, _, _, h => h.elim
  | n + 1, k + 1, .tup ds, v, ⟨p, us, e, h1, h2, h3⟩, hk => ⟨p, us, e, h1, h2, h3.impM fun d hd b r => AtD.low r (hk d hd)⟩
  | _, _, .lst _, _, _, h => by cases ‹Nat› <;> exact h.elim
  | _, _, .dic, _, _, h => by cases ‹Nat› <;> exact h.elim
theorem cell_cases {d : Dt} (h : cellD d = true) : (∃ k ws, d = .tup [S2d "thing", k, .tup ws]) ∨ (∃ ws, d = .tup [S2d "list", .tup ws]) ∨ (∃ a b c e, d = .tup [S2d "block", a, b, c, e]) ∨ ∃ ws o, d = .tup [S2d "names", .tup ws, o] := by
  obtain ⟨z, r, rfl⟩ := cell_cons h
  unfold cellD at h
  simp only at h
  have tx : ∀ {s : String}, textIsD (.v (.str z)) (.str (Str.ofString s)) = true → z = Str.ofString s := fun h => by
    have := of_decide_eq_true h
    exact V.str.inj this
  split at h
  · rename_i c
    obtain ⟨k, ws, rfl, _⟩ := th_shape h
    rw [tx c]
    exact .inl ⟨k, ws, rfl⟩
  · split at h
    · rename_i c
      obtain ⟨ws, rfl, _⟩ := li_shape h
      rw [tx c]
      exact .inr (.inl ⟨ws, rfl⟩)
    · split at h
      · rename_i c
        obtain ⟨a, b, c', e, rfl, _⟩ := bl_shape h
        rw [tx c]
        exact .inr (.inr (.inl ⟨a, b, c', e, rfl⟩))
      · split at h
        · rename_i c
          obtain ⟨ws, o, rfl, _⟩ := na_shape h
          rw [tx c]
          exact .inr (.inr (.inr ⟨ws, o, rfl⟩))
        · cases h
/-- a worth behind the moves, if it is among what is moved -/
def mwD (kept : List Int) (mv : Int → Int) (e : Dt) : Dt := match e with
  | .tup [_, .v (.int i)] => if i ∈ kept then .tup [S2d "cell", .v (.int (mv i))] else e
  | e => e
def mclD (kept : List Int) (mv : Int → Int) (d : Dt) : Dt := wwD d (.tup ((tupsD (wiD d)).map (mwD kept mv)))
theorem mwD_nl {kept : List Int} {mv : Int → Int} {e : Dt} (h : NlD e) : NlD (mwD kept mv e) := by
  unfold mwD
  split
  · split
    · refine .tup fun d hd => ?_
      simp only [List.mem_cons, List.not_mem_nil, or_false] at hd
      rcases hd with rfl | rfl <;> exact .v
    · exact h
  · exact h
def spMo : Sp := fun vs H Q _ => ∃ (v : V) (a : Addr) (e : Dt) (kept : List Int) (mv : Int → Int), vs = [v, .ref a] ∧ AtD H 9 e v ∧ woD e = true ∧ Rd H a (.dK (KvI kept mv)) ∧ ∀ v' H', Same H H' → AtD H' 9 (mwD kept mv e) v' → Q v' H'
theorem evd_mo {σ : L2.St} {H : Hp} {te : TE} {E : XK} {x : Nat} {a : Addr} {e : Dt} {kept : List Int} {mv : Int → Int} (h : EvD te σ H 9 e) (hx : σ[x]? = some (some (.ref a))) (hw : woD e = true) (hr : Rd H a (.dK (KvI kept mv))) : EvD (tCall spMo [] E (tCons te (tCons (tVar x) tNil))) σ H 9 (mwD kept mv e) := fun H1 s1 Q q => h H1 s1 _ fun v H2 s2 r => ⟨_, hx, v, a, e, kept, mv, rfl, r, hw, Rd.same_ (s1.trans s2) hr, fun v' H3 s3 r3 => q v' H3 (s2.trans s3) r3⟩
/-! ### answers that are new lists -/
def EvF (te : TE) (σ : L2.St) (H : Hp) (n : Nat) (ds : List Dt) : Prop := ∀ H1, Same H H1 → ∀ Q : VK, (∀ a H2, Same H1 H2 → H1 a = none → AtD H2 n (.lst ds) (.ref a) → Q (.ref a) H2) → te σ H1 Q
def EvRF (ts : TS) (σ : L2.St) (H : Hp) (n : Nat) (ds : List Dt) : Prop := ∀ H1, Same H H1 → ∀ D : Ends, (∀ a H2, Same H1 H2 → H1 a = none → AtD H2 n (.lst ds) (.ref a) → D.rt (.ref a) H2) → ts D σ H1
def spPt : Sp := fun vs H Q _ => ∃ d v, vs = [v] ∧ AtD H 9 d v ∧ cellD d = true ∧ ∀ a H', Same H H' → H a = none → AtD H' 9 (.lst (tupsD (wiD d))) (.ref a) → Q (.ref a) H'
section
variable {σ : L2.St} {H : Hp} {n m : Nat} {ds es : List Dt} {te tb : TE} {tt : TT} {ts tz : TS} {K : PySem.W.Frag} {c : Bool}
theorem same_none {H H' : Hp} {a : Addr} (s : Same H H') (h : H' a = none) : H a = none := s.free h
theorem EvF.lv (h : EvF te σ H n ds) (hm : n ≤ m) : EvF te σ H m ds := fun H1 s1 Q q => h H1 s1 Q fun a H2 s2 f r => q a H2 s2 f (r.mono hm)
theorem evf_lstof (h : EvD te σ H (n + 1) (.tup ds)) : EvF (tCB (fun xs H Q => ∃ p ys, xs = [V.ref p] ∧ (SqL K H p ys ∨ SqT K H p ys) ∧ ∀ (l : Addr), H l = none → Q (V.ref l) (upd H l (HO.lst ys))) (tCons te tNil)) σ H (n + 1) ds := fun H1 s1 Q q => h H1 s1 _ fun v H2 s2 a => by
  obtain ⟨p, us, rfl, hp, l0, h1⟩ := a
  refine ⟨p, us, rfl, .inr (TupA.sq hp), fun r hr => ?_⟩
  have s3 := same_new hr (.lst us)
  exact q _ _ (s2.trans s3) (s2.free hr) ⟨r, us, rfl, upd_same, l0, h1.same s3⟩
theorem evf_cat (h : EvD te σ H (n + 1) (.lst ds)) (k : EvD tb σ H (n + 1) (.lst es)) (hl : ds.length + es.length ≤ 100000) : EvF (tOp rCat te tb) σ H (n + 1) (ds ++ es) := fun H1 s1 Q q => h H1 s1 _ fun v H2 s2 a => k H2 (s1.trans s2) _ fun w H3 s3 b => by
  obtain ⟨p, us, rfl, hp, _, h1⟩ := a
  obtain ⟨r, ws, rfl, hr, _, h2⟩ := b
  have l1 := h1.len
  have l2 := h2.len
  refine ⟨p, r, us, ws, rfl, rfl, s3 _ _ hp, hr, Evl.sz_of (by omega), fun t ht => ?_⟩
  have s4 := same_new ht (.lst (us ++ ws))
  exact q _ _ (s2.trans (s3.trans s4)) ((s2.trans s3).free ht) ⟨t, us ++ ws, rfl, upd_same, by rw [List.length_append]; exact hl, ((h1.same s3).app h2).same s4⟩
theorem evf_ret (h : EvF te σ H n ds) : EvRF (L2.tRet te) σ H n ds := fun H1 s1 D q => h H1 s1 _ q
theorem evf_if (h : EvT tt σ H c) (k : c = true → EvRF ts σ H n ds) (k' : c = false → EvRF tz σ H n ds) : EvRF (tSeq (tIfS tt ts tNext) tz) σ H n ds := fun H1 s1 D q => h H1 s1 _ fun H2 s2 => by
  cases c with
  | true => exact iteT (k rfl H2 (s1.trans s2) _ fun v H3 s3 f => q v H3 (s2.trans s3) (s2.free f))
  | false => exact iteF (k' rfl H2 (s1.trans s2) _ fun v H3 s3 f => q v H3 (s2.trans s3) (s2.free f))
theorem EvRF.go {D : Ends} (h : EvRF ts σ H n ds) (k : ∀ a H1, Same H H1 → H a = none → AtD H1 n (.lst ds) (.ref a) → D.rt (.ref a) H1) : ts D σ H := h H (Same.refl _) D k
end
section
variable {P : Program} {w : World} {K : PySem.W.Frag} {mg : Str → Option Value} {base : Heap}
theorem scMo : FnScope ["_law_worth_here", "_law_moves"] ["_law_worth_here", "_law_moves"] (defScope s__law_moved) := ⟨rfl, rfl, rfl, by decide +kernel, rfl, by decide +kernel, by decide +kernel⟩
theorem c_mo (b_isinstance : mg "isinstance" = none) (b_tuple : mg "tuple" = none) (D : Dn K mg "_law_moved" s__law_moved) : C0 P w K mg base 1 "_law_moved" spMo := by
  obtain ⟨f, fd, F, hmm⟩ := D.ex
  refine ⟨f, fd, ["_law_worth_here", "_law_moves"], F.ok scMo (fun vs H Q E h => ?_) (fun cdv A outer s H vs Q E hr h => ?_), hmm, F.kp, F.binds (ps := ["_law_worth_here", "_law_moves"]) fun _ _ _ _ _ _ us hl => match us, hl with | [_, _], _ => rfl⟩
  · obtain ⟨v, a, e, kept, mv, rfl, _⟩ := h
    rfl
  obtain ⟨v, a, e, kept, mv, rfl, hd, hw, hr', kq⟩ := h
  refine ⟨_, pss_cons (ps_if (PW.pt (pw_and (pt_val (pe_callB (r := rIsi K) (id := "isinstance") call_isi (by rfl) b_isinstance (by decide +kernel) (pa_cons (pv 0) (pa_cons (pe_bltn (v := .ty "tuple") (by rfl) b_tuple (by decide +kernel) rfl) pa_nil)))) (pw_and1 (pt_cmp (pc_din (hu_of hr) (pe_ix (r := rIxT K) ix_tup (pv 0) pe_int (fun _ _ => rfl)) (pv 1))))))
      (pss_one (ps_ret (pe_tup (pa_cons pe_str (pa_cons (pe_dget (hu_of hr) (pv 1) (pe_ix (r := rIxT K) ix_tup (pv 0) pe_int (fun _ _ => rfl)) (fun _ _ => rfl)) pa_nil)))))
      (pss_nil)) <|
    pss_one (ps_ret (pv 0)), ?_⟩
  by_cases c : isTupD e = true
  · obtain ⟨i, rfl, _⟩ := cw_shape (wo_tup hw c)
    have e1 : mwD kept mv (.tup [.v (.str (Str.ofString "cell")), .v (.int i)]) = if i ∈ kept then .tup [S2d "cell", .v (.int (mv i))] else .tup [.v (.str (Str.ofString "cell")), .v (.int i)] := rfl
    have hix : ∀ {σ : L2.St} {H1 : Hp}, σ[0]? = some (some v) → Same H H1 → EvD (tOp (rIxT K) (tVar 0) (tC (.int 1))) σ H1 8 (.v (.int i)) := fun h s => evd_ixT (n := 8) (evd_var h (hd.same s)) (evd_c (.int _)) rfl
    refine EvR.go (evr_if (c := decide (i ∈ kept)) (evt_as (evt_and (a := true) (b := decide (i ∈ kept)) (evt_b (evd_isi (m := 0) (evd_var rfl hd) (.inr (.inr (.inr rfl))))) fun _ => evt_as (evt_b (evd_din (n := 8) (m := 0) rfl hr' (hix rfl (Same.refl _)))) ?_) rfl) (fun ci => ?_) fun ci => ?_) kq
    · by_cases ci : i ∈ kept
      · rw [valV_kvI ci, decide_eq_true ci]; rfl
      · rw [valV_kvI_no ci, decide_eq_false ci]; rfl
    · have ci := of_decide_eq_true ci
      rw [e1, if_pos ci]
      exact evr_ret (evd_tup (n := 8) (evds_cons (evd_c (.str _)) (evds_cons (evd_dget rfl hr' (hix rfl (Same.refl _)) (valV_kvI ci) (.int _)) evds_nil)) (Nat.le_of_ble_eq_true rfl))
    · have ci := of_decide_eq_false ci
      rw [e1, if_neg ci]
      exact evr_ret (evd_var rfl hd)
  · have c' : isTupD e = false := by simpa using c
    have e1 : mwD kept mv e = e := by
      cases e with
      | tup ds => exact absurd rfl c
      | _ => rfl
    rw [e1] at kq
    exact EvR.go (evr_if (c := false) (evt_as (evt_and (a := e.srt.isT "tuple") (b := false) (evt_b (evd_isi (m := 0) (evd_var rfl hd) (.inr (.inr (.inr rfl))))) fun z => absurd z c) (by rw [Bool.and_false])) (fun z => (by cases z)) fun _ => evr_ret (evd_var rfl hd)) kq
theorem scPt : FnScope ["_law_cell_here"] ["_law_cell_here"] (defScope s__law_parts) := ⟨rfl, rfl, rfl, by decide +kernel, rfl, by decide +kernel, by decide +kernel⟩
theorem c_pt (b_list : mg "list" = none) (D : Dn K mg "_law_parts" s__law_parts) : C0 P w K mg base 1 "_law_parts" spPt := by
  obtain ⟨f, fd, F, hmm⟩ := D.ex
  refine ⟨f, fd, ["_law_cell_here"], F.ok scPt (fun vs H Q E h => ?_) (fun cdv A outer s H vs Q E hr h => ?_), hmm, F.kp, F.binds (ps := ["_law_cell_here"]) fun _ _ _ _ _ _ us hl => match us, hl with | [_], _ => rfl⟩
  · obtain ⟨d, v, rfl, _⟩ := h
    rfl
  obtain ⟨d, v, rfl, hd, hc, kq⟩ := h
  refine ⟨_, pss_cons (ps_if (pt_cmpR op_eq (pe_ix (r := rIxT K) ix_tup (pv 0) pe_int (fun _ _ => rfl)) pe_str (nomark _))
      (pss_one (ps_ret (pe_callTy call_list_of (by rfl) b_list (by decide +kernel) (pa_cons (pe_slice sl_tup (pv 0) (po_some pe_int) po_none) pa_nil))))
      (pss_nil)) <|
    pss_cons (ps_if (pt_cmpR op_eq (pe_ix (r := rIxT K) ix_tup (pv 0) pe_int (fun _ _ => rfl)) pe_str (nomark _))
      (pss_one (ps_ret (pe_op op_cat (pe_callTy call_list_of (by rfl) b_list (by decide +kernel) (pa_cons (pe_ix (r := rIxT K) ix_tup (pv 0) pe_int (fun _ _ => rfl)) pa_nil)) (pe_lst (pa_cons (pe_ix (r := rIxT K) ix_tup (pv 0) pe_int (fun _ _ => rfl)) pa_nil)))))
      (pss_nil)) <|
    pss_one (ps_ret (pe_callTy call_list_of (by rfl) b_list (by decide +kernel) (pa_cons (pe_ix (r := rIxT K) ix_tup (pv 0) (pe_un un_neg pe_int) (fun _ _ => rfl)) pa_nil))), ?_⟩
  have t0 : ∀ {s : String} {r : List Dt}, AtD H 9 (.tup (S2d s :: r)) v → EvD (tOp (rIxT K) (tVar 0) (tC (.int 0))) [some v] H 8 (S2d s) := fun h => evd_ixT (n := 8) (evd_var rfl h) (evd_c (.int _)) at0
  have tst : ∀ {s : String} {r : List Dt} {y : String} {b : Bool}, AtD H 9 (.tup (S2d s :: r)) v → decide (V.str (Str.ofString s) = V.str (Str.ofString y)) = b → EvT (tTest (tOp rEq (tOp (rIxT K) (tVar 0) (tC (.int 0))) (tC (.str (Str.ofString y))))) [some v] H b := fun h e => evt_as (evt_t (evd_eqS (n := 8) (t0 h) (evd_c (.str _)))) e
  rcases cell_cases hc with ⟨k, ws, rfl⟩ | ⟨ws, rfl⟩ | ⟨a, b, c, e, rfl⟩ | ⟨ws, o, rfl⟩
  · exact EvRF.go (evf_if (c := false) (tst hd (by decide +kernel)) (fun c => (by cases c)) fun _ => evf_if (c := false) (tst hd (by decide +kernel)) (fun c => (by cases c)) fun _ => evf_ret (EvF.lv (evf_lstof (n := 7) (evd_ixT (n := 8) (evd_var rfl hd) (evd_neg (evd_c (.int _))) (atI_lastD (z := .v .non) (Nat.le_of_ble_eq_true rfl)))) (Nat.le_succ 8))) kq
  · exact EvRF.go (evf_if (c := false) (tst hd (by decide +kernel)) (fun c => (by cases c)) fun _ => evf_if (c := false) (tst hd (by decide +kernel)) (fun c => (by cases c)) fun _ => evf_ret (EvF.lv (evf_lstof (n := 7) (evd_ixT (n := 8) (evd_var rfl hd) (evd_neg (evd_c (.int _))) (atI_lastD (z := .v .non) (Nat.le_of_ble_eq_true rfl)))) (Nat.le_succ 8))) kq
  · exact EvRF.go (evf_if (c := true) (tst hd (by decide +kernel)) (fun _ => evf_ret (evf_lstof (n := 8) (evd_cast (evd_slT (n := 8) (evd_var rfl hd) (evo_some (evd_c (.int _))) evo_none (by show ¬(HT.sIx 5 0 (some 3) = 0 ∧ HT.sIx 5 5 none = 5); decide)) rfl))) fun c => (by cases c)) kq
  · have hl : ws.length ≤ 12 := by
      have h2 : naD [.tup ws, o] = true := hc
      have h3 := (Bool.and_eq_true _ _ ▸ h2).1
      have h4 := (Bool.and_eq_true _ _ ▸ h3).1
      have := of_decide_eq_true h4
      omega
    exact EvRF.go (evf_if (c := false) (tst hd (by decide +kernel)) (fun c => (by cases c)) fun _ => evf_if (c := true) (tst hd (by decide +kernel)) (fun _ => evf_ret (evf_cat (n := 8) (EvD.lv (evd_lstofT (n := 7) (evd_ixT (n := 8) (evd_var rfl hd) (evd_c (.int _)) rfl)) (Nat.le_succ 8)) (evd_lst (evds_cons (evd_ixT (n := 8) (evd_var rfl hd) (evd_c (.int _)) rfl) evds_nil) (Nat.le_of_ble_eq_true rfl)) (by show ws.length + 1 ≤ _; omega))) fun c => (by cases c)) kq
theorem scMl : FnScope ["_law_cell_here", "_law_moves", "_law_part"] ["_law_cell_here", "_law_moves"] (defScope s__law_moved_cell) := ⟨rfl, rfl, rfl, by decide +kernel, rfl, by decide +kernel, by decide +kernel⟩
def spMl : Sp := fun vs H Q _ => ∃ (v : V) (a : Addr) (d : Dt) (kept : List Int) (mv : Int → Int) (ks : List Int), vs = [v, .ref a] ∧ AtD H 9 d v ∧ CellOk ks d ∧ Rd H a (.dK (KvI kept mv)) ∧ ∀ v' H', Same H H' → AtD H' 11 (mclD kept mv d) v' → Q v' H'
theorem c_ml (b_tuple : mg "tuple" = none) (MO : C0 P w K mg base 1 "_law_moved" spMo) (D : Dn K mg "_law_moved_cell" s__law_moved_cell) : C0 P w K mg base 2 "_law_moved_cell" spMl := by
  obtain ⟨f, fd, F, hmm⟩ := D.ex
  refine ⟨f, fd, ["_law_cell_here", "_law_moves"], F.ok scMl (fun vs H Q E h => ?_) (fun cdv A outer s H vs Q E hr h => ?_), hmm, F.kp, F.binds (ps := ["_law_cell_here", "_law_moves"]) fun _ _ _ _ _ _ us hl => match us, hl with | [_, _], _ => rfl⟩
  · obtain ⟨v, a, d, kept, mv, ks, rfl, _⟩ := h
    rfl
  obtain ⟨v, a, d, kept, mv, ks, rfl, hd, hok, hr', kq⟩ := h
  refine ⟨_, pss_cons (ps_if (pt_cmpR op_eq (pe_ix (r := rIxT K) ix_tup (pv 0) pe_int (fun _ _ => rfl)) pe_str (nomark _))
      (pss_one (ps_ret (pe_op op_catA (pe_slice sl_tup (pv 0) po_none (po_some pe_int)) (pe_callTy call_tuple_of (by rfl) b_tuple (by decide +kernel) (pa_cons (pe_lc (own := [("_law_part", 2)]) (g := (gName 2)) (tt := tYes) rfl scMl.nd (pi_tup (pe_slice sl_tup (pv 0) (po_some pe_int) po_none)) (blkOk_by (own := [("_law_part", 2)]) (N := ["_law_cell_here", "_law_moves", "_law_part"]) (sc := defScope s__law_moved_cell) (by decide +kernel)) (fun _ _ _ _ _ => (pg_name (i := 2) scMl.nd rfl (Or.inl rfl))) (fun _ _ _ _ _ => pts_nil) (fun _ _ _ _ _ => (pe_cc MO hr (by omega) pass0 (pa_cons (pv 2) (pa_cons (pv 1) pa_nil))))) pa_nil)))))
      (pss_nil)) <|
    pss_cons (ps_if (pt_cmpR op_eq (pe_ix (r := rIxT K) ix_tup (pv 0) pe_int (fun _ _ => rfl)) pe_str (nomark _))
      (pss_one (ps_ret (pe_tup (pa_cons pe_str (pa_cons (pe_callTy call_tuple_of (by rfl) b_tuple (by decide +kernel) (pa_cons (pe_lc (own := [("_law_part", 2)]) (g := (gName 2)) (tt := tYes) rfl scMl.nd (pi_tup (pe_ix (r := rIxT K) ix_tup (pv 0) pe_int (fun _ _ => rfl))) (blkOk_by (own := [("_law_part", 2)]) (N := ["_law_cell_here", "_law_moves", "_law_part"]) (sc := defScope s__law_moved_cell) (by decide +kernel)) (fun _ _ _ _ _ => (pg_name (i := 2) scMl.nd rfl (Or.inl rfl))) (fun _ _ _ _ _ => pts_nil) (fun _ _ _ _ _ => (pe_cc MO hr (by omega) pass0 (pa_cons (pv 2) (pa_cons (pv 1) pa_nil))))) pa_nil)) (pa_cons (pe_cc MO hr (by omega) pass0 (pa_cons (pe_ix (r := rIxT K) ix_tup (pv 0) pe_int (fun _ _ => rfl)) (pa_cons (pv 1) pa_nil))) pa_nil))))))
      (pss_nil)) <|
    pss_one (ps_ret (pe_op op_catA (pe_slice sl_tup (pv 0) po_none (po_some (pe_un un_neg pe_int))) (pe_tup (pa_cons (pe_callTy call_tuple_of (by rfl) b_tuple (by decide +kernel) (pa_cons (pe_lc (own := [("_law_part", 2)]) (g := (gName 2)) (tt := tYes) rfl scMl.nd (pi_tup (pe_ix (r := rIxT K) ix_tup (pv 0) (pe_un un_neg pe_int) (fun _ _ => rfl))) (blkOk_by (own := [("_law_part", 2)]) (N := ["_law_cell_here", "_law_moves", "_law_part"]) (sc := defScope s__law_moved_cell) (by decide +kernel)) (fun _ _ _ _ _ => (pg_name (i := 2) scMl.nd rfl (Or.inl rfl))) (fun _ _ _ _ _ => pts_nil) (fun _ _ _ _ _ => (pe_cc MO hr (by omega) pass0 (pa_cons (pv 2) (pa_cons (pv 1) pa_nil))))) pa_nil)) pa_nil)))), ?_⟩
  have hc := hok.c
  obtain ⟨ws0, hws0, hw1, _⟩ := hok.wi
  have t0 : ∀ {s : String} {r : List Dt}, AtD H 9 (.tup (S2d s :: r)) v → EvD (tOp (rIxT K) (tVar 0) (tC (.int 0))) [some v, some (.ref a), none] H 8 (S2d s) := fun h => evd_ixT (n := 8) (evd_var rfl h) (evd_c (.int _)) at0
  have tst : ∀ {s : String} {r : List Dt} {y : String} {b : Bool}, AtD H 9 (.tup (S2d s :: r)) v → decide (V.str (Str.ofString s) = V.str (Str.ofString y)) = b → EvT (tTest (tOp rEq (tOp (rIxT K) (tVar 0) (tC (.int 0))) (tC (.str (Str.ofString y))))) [some v, some (.ref a), none] H b := fun h e => evt_as (evt_t (evd_eqS (n := 8) (t0 h) (evd_c (.str _)))) e
  have ml : ∀ {tl : TE} {ds : List Dt} {E : XK}, EvD tl [some v, some (.ref a), none] H 9 (.tup ds) → (∀ e ∈ ds, woD e = true ∧ NlD e) → EvD (tCB (fun xs H Q => ∃ p ys, xs = [V.ref p] ∧ ((SqL K H p ys ∧ ∀ (l : Addr), H l = none → Q (V.ref l) (upd H l (HO.tup ys))) ∨ SqT K H p ys ∧ Q (V.ref p) H)) (tCons (tLc (iTup K tl) (gName 2) tYes (tCall spMo [] E (tCons (tVar 2) (tCons (tVar 1) tNil))) [2]) tNil)) [some v, some (.ref a), none] H 10 (.tup (ds.map (mwD kept mv))) := fun h hw => evd_tupof (n := 9) (evd_lcT (m := 8) (n := 9) h (fun _ => rfl) (fun e he x H2 s2 ax => evd_mo (EvD.lv (evd_var rfl ax) (by decide)) rfl (hw e he).1 (Rd.same_ s2 hr')) fun e he => mwD_nl (hw e he).2)
  rcases cell_cases hc with ⟨k, ws, rfl⟩ | ⟨ws, rfl⟩ | ⟨x, y, c, e, rfl⟩ | ⟨ws, o, rfl⟩
  · obtain rfl : ws = ws0 := by injection hws0
    refine EvR.go (evr_if (c := false) (tst hd (by decide +kernel)) (fun c => (by cases c)) fun _ => evr_if (c := false) (tst hd (by decide +kernel)) (fun c => (by cases c)) fun _ => evr_ret (evd_cast (evd_catT (n := 10) (EvD.lv (evd_slT (n := 8) (evd_var rfl hd) evo_none (evo_some (evd_neg (evd_c (.int _)))) (by show ¬(HT.sIx 3 0 none = 0 ∧ HT.sIx 3 3 (some (-1)) = 3); decide)) (by decide)) (evd_tup (n := 10) (evds_cons (ml (EvD.lv (evd_ixT (n := 8) (evd_var rfl hd) (evd_neg (evd_c (.int _))) (atI_lastD (z := .v .non) (Nat.le_of_ble_eq_true rfl))) (Nat.le_succ 8)) hw1) evds_nil) (Nat.le_of_ble_eq_true rfl)) ?_) rfl)) kq
    exact Nat.le_of_ble_eq_true rfl
  · obtain rfl : ws = ws0 := by injection hws0
    refine EvR.go (evr_if (c := false) (tst hd (by decide +kernel)) (fun c => (by cases c)) fun _ => evr_if (c := false) (tst hd (by decide +kernel)) (fun c => (by cases c)) fun _ => evr_ret (evd_cast (evd_catT (n := 10) (EvD.lv (evd_slT (n := 8) (evd_var rfl hd) evo_none (evo_some (evd_neg (evd_c (.int _)))) (by show ¬(HT.sIx 2 0 none = 0 ∧ HT.sIx 2 2 (some (-1)) = 2); decide)) (by decide)) (evd_tup (n := 10) (evds_cons (ml (EvD.lv (evd_ixT (n := 8) (evd_var rfl hd) (evd_neg (evd_c (.int _))) (atI_lastD (z := .v .non) (Nat.le_of_ble_eq_true rfl))) (Nat.le_succ 8)) hw1) evds_nil) (Nat.le_of_ble_eq_true rfl)) ?_) rfl)) kq
    exact Nat.le_of_ble_eq_true rfl
  · obtain rfl : [c, e] = ws0 := by injection hws0
    refine EvR.go (evr_if (c := true) (tst hd (by decide +kernel)) (fun _ => evr_ret (evd_cast (evd_catT (n := 10) (EvD.lv (evd_slT (n := 8) (lo := none) (hi := some 3) (evd_var rfl hd) evo_none (evo_some (evd_c (.int _))) (by show ¬(HT.sIx 5 0 none = 0 ∧ HT.sIx 5 5 (some 3) = 5); decide)) (by decide)) (EvD.lv (ml (ds := [c, e]) (evd_cast (evd_slT (n := 8) (lo := some 3) (hi := none) (evd_var rfl hd) (evo_some (evd_c (.int _))) evo_none (by show ¬(HT.sIx 5 0 (some 3) = 0 ∧ HT.sIx 5 5 none = 5); decide)) rfl) hw1) (by decide)) ?_) rfl)) fun c => (by cases c)) kq
    exact Nat.le_of_ble_eq_true rfl
  · obtain rfl : ws ++ [o] = ws0 := by injection hws0
    have e1 : mclD kept mv (.tup [S2d "names", .tup ws, o]) = .tup [S2d "names", .tup (ws.map (mwD kept mv)), mwD kept mv o] := by
      show Dt.tup [S2d "names", .tup (((ws ++ [o]).map (mwD kept mv)).take (((ws ++ [o]).map (mwD kept mv)).length - 1)), ((ws ++ [o]).map (mwD kept mv)).getLastD (.v .non)] = _
      rw [List.map_append, List.map_singleton]
      simp
    rw [e1] at kq
    refine EvR.go (evr_if (c := false) (tst hd (by decide +kernel)) (fun c => (by cases c)) fun _ => evr_if (c := true) (tst hd (by decide +kernel)) (fun _ => evr_ret (evd_tup (n := 10) (evds_cons (evd_c (.str _)) (evds_cons (ml (EvD.lv (evd_ixT (n := 8) (evd_var rfl hd) (evd_c (.int _)) rfl) (Nat.le_succ 8)) fun e he => hw1 e (List.mem_append_left _ he)) (evds_cons (EvD.lv (evd_mo (EvD.lv (evd_ixT (n := 8) (evd_var rfl hd) (evd_c (.int _)) rfl) (Nat.le_succ 8)) rfl (hw1 o (by simp)).1 hr') (by decide)) evds_nil))) (Nat.le_of_ble_eq_true rfl))) fun c => (by cases c)) kq
end
end My
set_option Elab.async false
set_option linter.all false
set_option maxRecDepth 100000
set_option maxHeartbeats 4000000
/-! set(xs) of a list of numbers, its order kept track of -/
namespace L2
open PySem PySem.Spec PyProof.Rows
abbrev setOb (w : World) : Obj := { cls := .type "set", dict := none, data := .set #[] 0 (.fresh 0 0 (!w.params.followText "set-order")) }
section
variable {P : Program} {w : World} {A : Around} {E : Value → Shared → Prop} {s : Shared}
def SetDone (w : World) (s0 : Shared) (ns : List Int) (s' : Shared) : Prop := ∃ h1 tk1 cnt, s' = { s0 with heap := h1, toks := tk1 } ∧ SetR w h1 s0.heap.objs.size (fun j => decide (j ∈ ns)) cnt ∧ cnt ≤ ns.length ∧ ∀ b o, s0.heap.get? b = some o → h1.get? b = some o
set_option maxRecDepth 100000 in
set_option maxHeartbeats 3200000 in
/-- set.__init__ of a list of numbers -/
theorem set_init_ints {l : Addr} {items : Array Value} (ns : List Int) (hh : A.handled = none) (hl : s.heap.IsList l items) (hit : IntsAre items.toList ns) (hb : ns.length + 1 < scanBound) :
    codeAny (model P w) A (.call (.builtin "set.__init__") ⟨[.ref s.heap.objs.size, .ref l], []⟩) (wants (fun r s' => r = .none ∧ SetDone w s ns s') E) { s with heap := s.heap.push (setOb w) } := by
  have lenI : items.size = ns.length := by
    rw [← IntsAre.length hit, Array.length_toList]
  have at0 : (s.heap.push (setOb w)).get? s.heap.objs.size = some (setOb w) := Heap.get?_push_size _ rfl
  have ty0 : Shared.TypeIs { s with heap := s.heap.push (setOb w) } (.ref s.heap.objs.size) "set" := ⟨_, at0, rfl⟩
  refine codeAny_call_builtin F.called_set.init.plain F.entry_set_init (check_set_init_1 ty0 ?_)
  obtain ⟨⟨cl0, di0, da0, sl0⟩, e0, c0, n0, d0⟩ := hl
  obtain rfl : cl0 = .type "list" := c0
  obtain rfl : da0 = .seq items n0 := d0
  have lLt : l < s.heap.objs.size := Heap.lt_size e0
  have eL : (s.heap.push (setOb w)).get? l = some { cls := .type "list", dict := di0, data := .seq items n0, slots := sl0 } := Heap.get?_push_of_some _ e0
  have isL : (s.heap.push (setOb w)).IsList l items := ⟨_, eL, rfl, n0, rfl⟩
  have sub1 := F.sub_list_set
  have sub2 := F.sub_list_frozenset
  have nd : (Value.type "list" == Value.type "dict") = false := by decide
  unfold Builtin.«set.__init__» noKeywords Builtin.Frozenset.updateFrom
  generalize hIt : pyIter = itr
  wp_walk
  subst hIt
  refine wpAny_pyIter_list isL ?_
  refine wpAny_bind (wpAny_runValue ?_)
  have sz1 : (s.heap.push (setOb w)).objs.size = s.heap.objs.size + 1 := Heap.size_push ..
  have nI : l ≠ (s.heap.push (setOb w)).objs.size := by
    rw [sz1]
    exact Nat.ne_of_lt (Nat.lt_succ_of_lt lLt)
  have nS : s.heap.objs.size ∉ [(s.heap.push (setOb w)).objs.size, l] := by
    rw [sz1]
    intro z
    rcases List.mem_cons.mp z with z | z
    · exact absurd z (Nat.ne_of_lt (Nat.lt_succ_self _))
    · exact absurd (List.mem_singleton.mp z) (Nat.ne_of_gt lLt)
  have vals : ∀ (i : Nat) (v : Value), items[i]? = some v → ∃ k t, ns[i]? = some k ∧ v = .int k t := fun i v hv => by
    have hi : i < ns.length := by rw [← lenI]; exact (Array.getElem?_eq_some_iff.mp hv).1
    obtain ⟨t, e⟩ := PyProof.Rows.IntsAre.int_at hit i v (by rw [Array.getElem?_toList]; exact hv)
    refine ⟨ns[i], t, List.getElem?_eq_getElem hi, e.trans ?_⟩
    show Value.int (ns.getD i 0) t = _
    rw [List.getD_eq_getElem?_getD, List.getElem?_eq_getElem hi]
    rfl
  have hh3 : A.in1.in1.handled = none := hh
  refine set_update_ints (Walks.list hh3 _ l nI items).toS s.heap.objs.size nS ns lenI hb vals (items.size - 0) 0 _ (by omega) (Nat.zero_le _) ⟨⟨_, Heap.get?_push_size _ rfl, rfl, rfl⟩, isL.push _⟩ ⟨0, Nat.le_refl 0, setR_new_at (Heap.get?_push_of_some _ at0)⟩ ?_
  intro s' cnt mv hc hS
  obtain ⟨h1, g1, dr1, tk1, os1⟩ := s'
  obtain rfl : g1 = s.gens := mv.gens
  obtain rfl : dr1 = s.drawn := mv.drawn
  obtain rfl : os1 = s.os := mv.os
  show wpAny _ _ _ _ _ _
  refine wpAny_pure ?_
  show wpAny _ _ (ret Value.none) _ _ _
  refine wpAny_pure ⟨rfl, h1, tk1, cnt, rfl, hS, lenI ▸ hc, fun b o e => ?_⟩
  have bl : b < s.heap.objs.size := Heap.lt_size e
  refine mv.heap b o (fun z => ?_) (Heap.get?_push_of_some _ (Heap.get?_push_of_some _ e))
  rcases List.mem_cons.mp z with z | z
  · exact absurd z (Nat.ne_of_lt bl)
  · have z := List.mem_singleton.mp z
    rw [sz1] at z
    exact absurd z (Nat.ne_of_lt (Nat.lt_succ_of_lt bl))
set_option maxRecDepth 100000 in
set_option maxHeartbeats 3200000 in
theorem set_of_ints {l : Addr} {items : Array Value} (ns : List Int) {Q : Value → Shared → Prop} (hh : A.handled = none) (hl : s.heap.IsList l items) (hit : IntsAre items.toList ns) (hb : ns.length + 1 < scanBound)
    (h : ∀ s', SetDone w s ns s' → Q (.ref s.heap.objs.size) s') : wpAny (model P w) A (call (.type "set") [.ref l]) Q E s := by
  have mro := F.called_set.mro
  have made := F.called_set.made
  have sub := F.called_set.sub
  have nt := F.called_set.notType
  have cc := F.called_set.canCreate
  have ct := F.typeCall_set_1 (.ref l)
  obtain ⟨c9, tl9, mro⟩ := mro
  refine wpAny_call (codeAny_of_tree ?_)
  show wpAny _ _ (callAny (.type "set") _) _ _ _
  refine wpAny_pure ⟨Code.quiet_builtin _ (by decide +kernel), codeAny_builtin F.entry_type_call ?_⟩
  rw [Around.under_plain (weight_type_call_type "set" [.ref l] []) rfl]
  repeat (any_goals (first | assumption | wp_step))
  refine codeAny_mono (code_set_led1 (.ref l) (E := E) (Q₁ := fun v t => v = .ref s.heap.objs.size ∧ t = { s with heap := s.heap.push (setOb w) }) ⟨rfl, rfl⟩) fun r t hr => ?_
  cases r with
  | error e => exact hr
  | ok fl =>
    cases fl with
    | ret v =>
      obtain ⟨rfl, rfl⟩ := hr
      have ty0 : Shared.TypeIs { s with heap := s.heap.push (setOb w) } (.ref s.heap.objs.size) "set" := ⟨_, Heap.get?_push_size _ rfl, rfl⟩
      have lk := F.called_set.init.lookup
      have bi := F.called_set.init.bind (.ref s.heap.objs.size)
      repeat (any_goals (first | assumption | wp_step))
      refine codeAny_mono (set_init_ints (E := E) ns (A := A.in1) hh hl hit hb) fun r2 t2 hr2 => ?_
      cases r2 with
      | error e => exact hr2
      | ok fl2 =>
        cases fl2 with
        | ret v2 =>
          obtain ⟨rfl, hd⟩ := hr2
          repeat (any_goals (first | assumption | wp_step))
          exact h _ hd
        | _ => exact hr2.elim
    | _ => exact hr.elim
end
theorem intsAre_vals' : ∀ {ns : List Int} {us : List Value}, Vals (ns.map V.int) us → IntsAre us ns
  | [], _, .nil => .nil
  | n :: _, _, .cons r t => by
    obtain ⟨k, e⟩ := r
    subst e
    exact .cons n k (intsAre_vals' t)
section
variable {X : Cx}
/-- set(xs) of numbers -/
def rSetLI (w : World) (K : PySem.W.Frag) : List V → Hp → VK → Prop := fun vs H Q => ∃ (l : Addr) (ns : List Int), vs = [.ref l] ∧ SqL K H l (ns.map V.int) ∧ ns.length ≤ 60 ∧ ∀ a n, H a = none → n ≤ ns.length → Q (.ref a) (upd H a (SetO w a (fun j => decide (j ∈ ns)) n))
theorem cr_setLI (hc : X.calm = true) : CallR X (.type "set") (rSetLI X.w X.K) := by
  intro pins s σ H vs us Q I r h
  obtain ⟨l, ns, rfl, hS, hn, q⟩ := h
  obtain ⟨u, rfl, rx⟩ := vals1 r
  cases rx
  obtain ⟨its, rv, hl, hz⟩ := I.list hS
  refine set_of_ints ns (I.ok.hd hc) hl.isList (by simpa using intsAre_vals' rv) (by unfold scanBound; omega) fun s' hd => ?_
  obtain ⟨h1, tk1, cnt, rfl, hR, hcn, kp⟩ := hd
  exact ⟨.ref s.heap.objs.size, upd H s.heap.objs.size _, I.laid (t' := tk1) kp (Nat.le_refl _) (setO_new hR), rfl, q _ cnt (I.hok.fresh (Nat.le_refl _)) hcn⟩
end
end L2
set_option Elab.async false
set_option linter.all false
set_option maxRecDepth 100000
set_option maxHeartbeats 8000000
namespace My
open PySem L2 SS
theorem nodup_le : ∀ {F K : List Int}, F.Nodup → (∀ x ∈ F, x ∈ K) → F.length ≤ K.length
  | [], K, _, _ => Nat.zero_le _
  | x :: F, K, h, hk => by
    rw [List.nodup_cons] at h
    have hx := hk x List.mem_cons_self
    have ih := nodup_le (F := F) (K := K.erase x) h.2 fun y hy => (List.mem_erase_of_ne (fun e => h.1 (by rw [← e]; exact hy))).mpr (hk y (List.mem_cons_of_mem _ hy))
    rw [List.length_erase_of_mem hx] at ih
    have : 0 < K.length := List.length_pos_of_mem hx
    rw [List.length_cons]
    omega
theorem in_ints (i : Int) : ∀ ns : List Int, inV (.int i) (ns.map V.int) = decide (i ∈ ns)
  | [] => rfl
  | n :: r => by
    have ih := in_ints i r
    unfold inV at ih ⊢
    rw [List.map_cons, List.any_cons, ih]
    have e : eqV (V.int n) (V.int i) = decide (n = i) := by
      show (n == i) = _
      by_cases c : n = i
      · subst c; simp
      · simp [c]
    rw [e]
    by_cases c : n = i
    · subst c; simp
    · have c' : ¬ i = n := fun e => c e.symm
      simp [c, c']
theorem flat_ints (ns : List Int) : (ns.map V.int).all flatV = true := by
  rw [List.all_map]
  exact List.all_eq_true.mpr fun _ _ => rfl
theorem leads_mono {F G : List Int} {d : Dt} (h : leadsIn F d = true) (k : ∀ x ∈ F, x ∈ G) : leadsIn G d = true := by
  unfold leadsIn at h ⊢
  rw [List.all_eq_true] at h ⊢
  intro e he
  have := h e he
  unfold adrIn at this ⊢
  split
  · rename_i i
    simp only [decide_eq_true_eq] at this ⊢
    exact k i this
  · rfl
theorem evd_notInL {σ : L2.St} {H : Hp} {te : TE} {K : PySem.W.Frag} {x n m : Nat} {a : Addr} {ns : List Int} {i : Int} (h : EvD te σ H n (.v (.int i))) (hx : σ[x]? = some (some (.ref a))) (ha : H a = some (.lst (ns.map V.int))) : EvD (tOp (rIn K true) te (tVar x)) σ H m (.v (.bl (!decide (i ∈ ns)))) := fun H1 s1 Q q => h H1 s1 _ fun v H2 s2 r => by
  obtain ⟨rfl, _⟩ := atD_pl r
  refine ⟨_, hx, a, _, rfl, .inl (SqL.of (s2 _ _ (s1 _ _ ha))), rfl, flat_ints ns, ?_⟩
  rw [in_ints]
  exact q _ H2 s2 (atD_v (.bl _))
def Closed (cs : List (Int × Dt)) (T : List Int) : Prop := ∀ k ∈ T, leadsIn T (cellOf cs k) = true
/-- the parts of a cell that are in the book of cells -/
theorem CsAt.val {H : Hp} {c : Addr} {cs : List (Int × Dt)} (h : CsAt H c cs) (ok : CsOk cs) {i : Int} (hi : i ∈ cs.map (·.1)) : ∃ kc v, Rd H c (.dK kc) ∧ valV kc (.inl i) = some v ∧ AtD H 3 (cellOf cs i) v ∧ CellG (cs.map (·.1)) (cellOf cs i) := by
  obtain ⟨vs, h1, h2⟩ := h
  obtain ⟨c', hc, rfl⟩ := List.mem_map.mp hi
  obtain ⟨v, e1, e2⟩ := kvZ_val (lt_nodup ok.r) h2 c' hc
  rw [cellOf_mem (lt_nodup ok.r) hc]
  exact ⟨_, v, h1, e1, e2, ok.g c' hc⟩
def spCl : Sp := fun vs H Q _ => ∃ (c q : Addr) (cs : List (Int × Dt)) (ss : List Int), vs = [.ref c, .ref q] ∧ CsAt H c cs ∧ CsOk cs ∧ H q = some (.lst (ss.map V.int)) ∧ ss.length ≤ 60 ∧ (∀ i ∈ ss, i ∈ cs.map (·.1)) ∧
  ∀ r ks H', Same H H' → H r = none → H' r = some (.lst (ks.map V.int)) → ks.Pairwise (· < ·) → (∀ i ∈ ss, i ∈ ks) → (∀ i ∈ ks, i ∈ cs.map (·.1)) → Closed cs ks → (∀ T : List Int, (∀ i ∈ ss, i ∈ T) → Closed cs T → ∀ x ∈ ks, x ∈ T) → Q (.ref r) H'
section
variable {P : Program} {w : World} {K : PySem.W.Frag} {mg : Str → Option Value} {base : Heap}
theorem scCl : FnScope ["_law_cells_here", "_law_some", "_law_found", "_law_at", "_law_part"] ["_law_cells_here", "_law_some"] (defScope s__law_closed) := ⟨rfl, rfl, rfl, by decide +kernel, rfl, by decide +kernel, by decide +kernel⟩
theorem c_cl (b_set : mg "set" = none) (b_sorted : mg "sorted" = none) (b_len : mg "len" = none) (b_isinstance : mg "isinstance" = none) (b_tuple : mg "tuple" = none) (PT_ : C0 P w K mg base 1 "_law_parts" spPt) (D : Dn K mg "_law_closed" s__law_closed) : C0 P w K mg base 2 "_law_closed" spCl := by
  obtain ⟨f, fd, F, hmm⟩ := D.ex
  refine ⟨f, fd, ["_law_cells_here", "_law_some"], F.ok scCl (fun vs H Q E h => ?_) (fun cdv A outer s H vs Q E hr h => ?_), hmm, F.kp, F.binds (ps := ["_law_cells_here", "_law_some"]) fun _ _ _ _ _ _ us hl => match us, hl with | [_, _], _ => rfl⟩
  · obtain ⟨c, q, cs, ss, rfl, _⟩ := h
    rfl
  obtain ⟨c, q, cs, ss, rfl, hcs, ok, hq, hsl, hsk, kq⟩ := h
  refine ⟨_, pss_cons (ps_set (i := 2) scCl.nd rfl (Or.inl rfl) (pe_callB (cr_sortedSet rfl) (by rfl) b_sorted PyProof.Rows.boot_sorted (pa_cons (pe_callTy (cr_setLI rfl) (by rfl) b_set (by decide +kernel) (pa_cons (pv 1) pa_nil)) pa_nil))) <|
    pss_cons (ps_set (i := 3) scCl.nd rfl (Or.inl rfl) pe_int) <|
    pss_cons (ps_while PassesOwn.never (pt_cmpR op_lt (pv 3) (pe_callB call_len_seq (by rfl) b_len PySem.boot_len (pa_cons (pv 2) pa_nil)) (nomark _))
      (pss_cons (ps_for PassesOwn.never rfl (pi_list (pe_cc PT_ hr (by omega) pass0 (pa_cons (pe_dget (hu_of hr) (pv 0) (pe_ix (r := rIxL K) ix_list (pv 2) (pv 3) (fun _ _ => rfl)) (fun _ _ => rfl)) pa_nil))) (pg_name (i := 4) scCl.nd rfl (Or.inl rfl))
        (pss_one (ps_if (PW.pt (pw_and (pt_val (pe_callB (r := rIsi K) (id := "isinstance") call_isi (by rfl) b_isinstance (by decide +kernel) (pa_cons (pv 4) (pa_cons (pe_bltn (v := .ty "tuple") (by rfl) b_tuple (by decide +kernel) rfl) pa_nil)))) (pw_and1 (pt_cmpR op_notIn_seq (pe_ix (r := rIxT K) ix_tup (pv 4) pe_int (fun _ _ => rfl)) (pv 2) (by rfl)))))
          (pss_one (ps_expr (pe_bm PySem.F.plainAttrs_list PySem.F.slot_list_append PySem.F.type_list_append mt_append (pv 2) (pa_cons (pe_ix (r := rIxT K) ix_tup (pv 4) pe_int (fun _ _ => rfl)) pa_nil))))
          (pss_nil)))) <|
      pss_one (ps_set (i := 3) scCl.nd rfl (Or.inl rfl) (pe_op op_add (pv 3) pe_int)))) <|
    pss_one (ps_ret (pe_callB cr_sortedI (by rfl) b_sorted PyProof.Rows.boot_sorted (pa_cons (pv 2) pa_nil))), ?_⟩
  refine ⟨_, rfl, q, ss, rfl, SqL.of hq, hsl, fun a n ha hn => ?_⟩
  refine ⟨a, _, n, rfl, upd_same, by omega, fun F0 fl hp hmem hlen hfl => ?_⟩
  have s1 : Same H (upd (upd H a (SetO w a (fun j => decide (j ∈ ss)) n)) fl (.lst (F0.map V.int))) := (same_new ha _).trans (same_new hfl _)
  have f1 : upd (upd H a (SetO w a (fun j => decide (j ∈ ss)) n)) fl (.lst (F0.map V.int)) fl = some (.lst (F0.map V.int)) := upd_same
  have hflH : H fl = none := (same_new ha (SetO w a (fun j => decide (j ∈ ss)) n)).free hfl
  show gName 2 _ _ (upd (upd H a (SetO w a (fun j => decide (j ∈ ss)) n)) fl (.lst (F0.map V.int))) _
  generalize upd (upd H a (SetO w a (fun j => decide (j ∈ ss)) n)) fl (.lst (F0.map V.int)) = H1 at s1 f1 ⊢
  have hm0 : ∀ k : Int, k ∈ F0 ↔ k ∈ ss := fun k => by rw [hmem k]; simp
  have keep : ∀ {H' : Hp}, SX [fl] H1 H' → CsAt H' c cs := fun {H'} s => by
    obtain ⟨vs, h1, h2⟩ := hcs
    have l1 : Lsts [fl] H1 := fun b hb => by rw [List.mem_singleton.mp hb]; exact ⟨_, f1⟩
    exact CsAt.sx ok.nl l1 s ⟨vs, Rd.same_ s1 h1, h2.same s1⟩
  refine ⟨fun m σ H' => ∃ (F : List Int) (t : Nat) (v4 : Option V), m + t = (cs.map (·.1)).length ∧ σ = [some (.ref c), some (.ref q), some (.ref fl), some (.int (t : Nat)), v4] ∧ SX [fl] H1 H' ∧ H' fl = some (.lst (F.map V.int)) ∧ F.Nodup ∧ (∀ x ∈ F, x ∈ cs.map (·.1)) ∧ (∀ x ∈ ss, x ∈ F) ∧ t ≤ F.length ∧ (∀ j x, j < t → F[j]? = some x → leadsIn F (cellOf cs x) = true) ∧ (∀ T : List Int, (∀ i ∈ ss, i ∈ T) → Closed cs T → ∀ x ∈ F, x ∈ T), ⟨(cs.map (·.1)).length, F0, 0, none, rfl, rfl, SX.refl, f1, lt_nodup hp, fun x hx => hsk x ((hm0 x).mp hx), fun x hx => (hm0 x).mpr hx, Nat.zero_le _, fun j x hj => absurd hj (Nat.not_lt_zero _), fun T hT _ x hx => hT x ((hm0 x).mp hx)⟩, ?_⟩
  rintro m σ H' ⟨F, t, v4, hm, rfl, s', f', hnd, hk, hss, htF, hlead, hmin⟩
  have hFK := nodup_le hnd hk
  refine ⟨_, rfl, _, rfl, fl, _, rfl, .inl (SqL.of f'), _, _, rfl, rfl, _, rfl, ?_⟩
  have hFl : (F.map V.int).length = F.length := List.length_map ..
  refine ite2 (fun hc => ?_) (fun hc => ?_)
  · have htlt : t < F.length := by
      have := of_decide_eq_true hc
      omega
    refine ⟨fun σ H' => ∃ (F : List Int) (v4 : Option V), σ = [some (.ref c), some (.ref q), some (.ref fl), some (.int ((t + 1 : Nat) : Int)), v4] ∧ SX [fl] H1 H' ∧ H' fl = some (.lst (F.map V.int)) ∧ F.Nodup ∧ (∀ x ∈ F, x ∈ cs.map (·.1)) ∧ (∀ x ∈ ss, x ∈ F) ∧ t + 1 ≤ F.length ∧ (∀ j x, j < t + 1 → F[j]? = some x → leadsIn F (cellOf cs x) = true) ∧ (∀ T : List Int, (∀ i ∈ ss, i ∈ T) → Closed cs T → ∀ x ∈ F, x ∈ T), fun σ H' ⟨F', v4', h⟩ => ⟨m - 1, by omega, F', t + 1, v4', by omega, h⟩, ?_⟩
    obtain ⟨kc, v, hrd, hval, hat, hg⟩ := (keep s').val ok (hk F[t] (List.getElem_mem htlt))
    obtain ⟨ws, hws, hw1, hw2⟩ := hg.ok.wi
    refine ⟨_, rfl, _, rfl, _, rfl, fl, _, _, _, rfl, rfl, SqL.of f', atI_nat (by rw [List.getElem?_map, List.getElem?_eq_getElem htlt]; rfl), c, v, rfl, .inl ⟨kc, .inl F[t], hrd, rfl, hval.symm⟩, _, v, rfl, hat.mono (by decide), hg.ok.c, fun D H2 s2 hDn a2 => ?_⟩
    have a2 : AtD H2 9 (.lst (tupsD (wiD (cellOf cs F[t])))) (.ref D) := a2
    rw [hws] at a2
    obtain ⟨D', us, eD, hD, hDl, al⟩ := a2
    obtain rfl : D = D' := by injection eD
    have f2 := s2 _ _ f'
    have hDf : D ≠ fl := fun e => by
      rw [e, f'] at hDn
      cases hDn
    refine ⟨D, rfl, ⟨us, SqL.of hD⟩, ?_⟩
    have l2 : Lsts [fl] H2 := fun b hb => by rw [List.mem_singleton.mp hb]; exact ⟨_, f2⟩
    refine for_list (xs := us) (fun i σ Hn => ∃ (G : List Int) (v4 : Option V), σ = [some (.ref c), some (.ref q), some (.ref fl), some (.int (t : Nat)), v4] ∧ SX [fl] H2 Hn ∧ Hn fl = some (.lst ((F ++ G).map V.int)) ∧ (F ++ G).Nodup ∧ (∀ x ∈ F ++ G, x ∈ cs.map (·.1)) ∧ (∀ T : List Int, (∀ i ∈ ss, i ∈ T) → Closed cs T → ∀ x ∈ F ++ G, x ∈ T) ∧ ∀ e ∈ ws.take i, isTupD e = true → adrIn (F ++ G) e = true) ⟨[], v4, rfl, SX.refl, by rw [List.append_nil]; exact f2, by rw [List.append_nil]; exact hnd, by rw [List.append_nil]; exact hk, by rw [List.append_nil]; exact hmin, fun e he => (by cases he)⟩ (fun i σ Hn _ ⟨_, _, _, s, _⟩ => SqL.of (s _ _ (by simpa using hDf) hD)) ?_ ?_
    · rintro i x σ Hn hx ⟨G, v4, rfl, sn, fn, gnd, gk, gmin, gad⟩
      have al : All2 (AtD H2 8) ws us := al
      obtain ⟨e, he, ax⟩ := al.get hx
      have ax' : AtD Hn 8 e x := AtD.tups (l2.tups sn) ax (hw1 e (List.mem_of_getElem? he)).2
      have hem := List.mem_of_getElem? he
      have take1 : ∀ e' ∈ ws.take (i + 1), e' ∈ ws.take i ∨ e' = e := fun e' h => by
        rw [List.take_succ, he] at h
        rcases List.mem_append.mp h with h | h
        · exact .inl h
        · exact .inr (by simpa using h)
      have hrd : ∀ {H3 : Hp}, Same Hn H3 → EvD (tVar 4) [some (.ref c), some (.ref q), some (.ref fl), some (.int (t : Nat)), some x] H3 8 e := fun s => evd_var rfl (ax'.same s)
      by_cases ce : isTupD e = true
      · obtain ⟨z, rfl, hz0⟩ := cw_shape (wo_tup (hw1 e hem).1 ce)
        refine evt_and (a := true) (b := !decide (z ∈ F ++ G)) (evt_b (evd_isi (m := 0) (hrd (Same.refl _)) (.inr (.inr (.inr rfl))))) (fun _ => evt_t (evd_notInL (m := 0) (evd_ixT (n := 7) (hrd (Same.refl _)) (evd_c (.int _)) rfl) rfl fn)) Hn (Same.refl _) _ fun H3 s3 => ?_
        by_cases cz : z ∈ F ++ G
        · refine ite2 (fun h => absurd h (by simp [cz])) fun _ => ?_
          refine ⟨G, some x, rfl, sn.trans (SX.same s3), s3 _ _ fn, gnd, gk, gmin, fun e' h' hi' => ?_⟩
          rcases take1 e' h' with h' | rfl
          · exact gad e' h' hi'
          · exact decide_eq_true cz
        · refine ite2 (fun _ => ?_) fun h => absurd (show (true && !decide (z ∈ F ++ G)) = true by simp [cz]) h
          have hzk : z ∈ cs.map (·.1) := hw2 _ z hem
          have f3 := s3 _ _ fn
          have hl3 := nodup_le gnd gk
          have hkl : (cs.map (·.1)).length ≤ 10 := by rw [List.length_map]; exact ok.l
          refine ⟨_, rfl, .inl ⟨rfl, _, SqL.of f3⟩, evd_ixT (n := 7) (hrd s3) (evd_c (.int _)) rfl H3 (Same.refl _) _ fun v3 H4 s4 r4 => ?_⟩
          obtain ⟨rfl, _⟩ := atD_pl r4
          have f4 := s4 _ _ f3
          have el : (F ++ G).map V.int ++ [V.int z] = (F ++ (G ++ [z])).map V.int := by simp
          refine ⟨fl, _, _, rfl, rfl, f4, by rw [List.length_map, sizeLine_eq]; omega, ?_⟩
          rw [el]
          have hFt : F[t] ∈ F := List.getElem_mem htlt
          refine ⟨G ++ [z], some x, rfl, sn.trans ((SX.same (s3.trans s4)).trans (SX.upd _ (List.mem_singleton.mpr rfl))), upd_same, ?_, fun y hy => ?_, fun T h1 h2 y hy => ?_, fun e' h' hi' => ?_⟩
          · rw [← List.append_assoc, List.nodup_append]
            exact ⟨gnd, List.pairwise_singleton .., fun a ha b hb => by rw [List.mem_singleton.mp hb]; exact fun e => cz (e ▸ ha)⟩
          · rw [← List.append_assoc] at hy
            rcases List.mem_append.mp hy with hy | hy
            · exact gk y hy
            · rw [List.mem_singleton.mp hy]; exact hzk
          · rw [← List.append_assoc] at hy
            rcases List.mem_append.mp hy with hy | hy
            · exact gmin T h1 h2 y hy
            · rw [List.mem_singleton.mp hy]
              have h3 := h2 _ (hmin T h1 h2 _ hFt)
              unfold leadsIn at h3
              rw [hws, List.all_eq_true] at h3
              exact of_decide_eq_true (h3 _ (List.mem_filter.mpr ⟨hem, ce⟩))
          · have mono : adrIn (F ++ G) e' = true → adrIn (F ++ (G ++ [z])) e' = true := fun h => by
              unfold adrIn at h ⊢
              split
              · rename_i i'
                simp only [decide_eq_true_eq] at h ⊢
                rw [← List.append_assoc]
                exact List.mem_append_left _ h
              · rfl
            rcases take1 e' h' with h' | rfl
            · exact mono (gad e' h' hi')
            · exact decide_eq_true (by simp)
      · have ce' : isTupD e = false := by simpa using ce
        refine evt_and (a := isTupD e) (b := false) (evt_b (evd_isi (m := 0) (hrd (Same.refl _)) (.inr (.inr (.inr rfl))))) (fun h => absurd h ce) Hn (Same.refl _) _ fun H3 s3 => ?_
        refine ite2 (fun h => absurd h (by simp)) fun _ => ?_
        refine ⟨G, some x, rfl, sn.trans (SX.same s3), s3 _ _ fn, gnd, gk, gmin, fun e' h' hi' => ?_⟩
        rcases take1 e' h' with h' | rfl
        · exact gad e' h' hi'
        · exact absurd hi' ce
    · rintro σ Hn ⟨G, v4, rfl, sn, fn, gnd, gk, gmin, gad⟩
      have hul : ws.length = us.length := al.len
      rw [← hul, List.take_length] at gad
      refine ⟨_, rfl, _, _, rfl, rfl, ?_⟩
      refine ⟨F ++ G, v4, rfl, s'.trans ((SX.same s2).trans sn), fn, gnd, gk, fun x hx => List.mem_append_left _ (hss x hx), by rw [List.length_append]; omega, fun j x hj hjx => ?_, gmin⟩
      have hjF : j < F.length := by omega
      rw [List.getElem?_append_left hjF] at hjx
      by_cases cj : j < t
      · exact leads_mono (hlead j x cj hjx) fun y hy => List.mem_append_left _ hy
      · have ej : j = t := by omega
        subst ej
        rw [List.getElem?_eq_getElem htlt] at hjx
        rw [← Option.some.inj hjx]
        unfold leadsIn
        rw [hws, List.all_eq_true]
        intro e he
        obtain ⟨h1, h2⟩ := List.mem_filter.mp he
        exact gad e h1 h2
  · have htF' : t = F.length := by
      have : F.length ≤ t := by simpa using hc
      omega
    refine ⟨_, rfl, fl, F, rfl, SqL.of f', fun ks r hpm hpw hr => ?_⟩
    have hr1 : H r = none := by
      cases e : H r with
      | none => rfl
      | some u =>
        have := s' r u (by
          rw [List.mem_singleton]
          intro z
          rw [z, hflH] at e
          cases e) (s1 _ _ e)
        rw [this] at hr
        cases hr
    have sHH : Same H (upd H' r (.lst (ks.map V.int))) := fun b u hb => by
      rw [upd_ne (ne_of_none hb hr1)]
      exact s' b u (by rw [List.mem_singleton]; exact ne_of_none hb hflH) (s1 _ _ hb)
    have kmem : ∀ x, x ∈ ks ↔ x ∈ F := fun x => hpm.mem_iff
    have ksnd : ks.Nodup := hpm.nodup_iff.mpr hnd
    refine kq r ks _ sHH hr1 upd_same ?_ (fun i hi => (kmem i).mpr (hss i hi)) (fun i hi => hk i ((kmem i).mp hi)) (fun k hkk => ?_) fun T h1 h2 x hx => hmin T h1 h2 x ((kmem x).mp hx)
    · exact (hpw.and ksnd).imp fun ⟨h1, h2⟩ => by
        have : (_ : Int) ≠ _ := h2
        omega
    · obtain ⟨j, hj, ej⟩ := List.mem_iff_getElem.mp ((kmem k).mp hkk)
      exact leads_mono (hlead j k (by omega) (by rw [List.getElem?_eq_getElem hj, ej])) fun y hy => (kmem y).mpr hy
end
end My
set_option Elab.async false
set_option linter.all false
set_option maxRecDepth 100000
set_option maxHeartbeats 4000000
/-! sorted(xs, key=lambda p: p[0]), items tuples whose first items are numbers -/
namespace L2
open PySem PySem.Spec PyProof.Rows PySem.W LamX
section
variable {X : Cx}
/-- what the rule asks -/
def tSrtL (K : PySem.W.Frag) (T : List (Addr × Str)) (te : TE) : TE := fun σ H Q => te σ H fun x H1 => ∃ (a : Addr) (xs : List V) (key : V → Int), x = .ref a ∧ SqL K H1 a xs ∧ (∀ u ∈ xs, ∃ p rest, u = .ref p ∧ Rd H1 p (.tup (.int (key u) :: rest))) ∧ Tabs T H1 ∧
  ∀ H2 q ys, ExtN H1 H2 → Tabs T H2 → H2 q = none → ys.Perm xs → ys.Pairwise (fun u v => key u ≤ key v) → Q (.ref q) (upd H2 q (.lst ys))
theorem each_vals : ∀ {us : List Value} {xs : List V}, EachIs (fun (u : Value) (x : V) => RelV x u) us xs → Vals xs us
  | _, _, .nil => .nil
  | _, _, .cons r t => .cons r (each_vals t)
theorem vals_each : ∀ {xs : List V} {us : List Value}, Vals xs us → EachIs (fun (u : Value) (x : V) => RelV x u) us xs
  | _, _, .nil => .nil
  | _, _, .cons r t => .cons r (vals_each t)
theorem Rd.extN {H H' : Hp} {p : Addr} {xs : List V} (e : ExtN H H') (h : Rd H p (.tup xs)) : Rd H' p (.tup xs) := h.elim (fun h => .inl (e _ _ h fun _ z => (by cases z))) fun ⟨o, h⟩ => .inr ⟨o, e _ _ h fun _ z => (by cases z)⟩
theorem sqL_extN {K : PySem.W.Frag} {H H' : Hp} {a : Addr} {xs : List V} (e : ExtN H H') (h : SqL K H a xs) : SqL K H' a xs := h.imp (fun r => r.elim (fun h => .inl (e _ _ h fun _ z => (by cases z))) fun ⟨o, h⟩ => .inr ⟨o, e _ _ h fun _ z => (by cases z)⟩) fun h => h
theorem pe_sortedLam {T : List (Addr × Str)} {c P : Addr} {e body : Expr} {te : TE} {x a : Str} {params : Arguments} {scope : Scope} {lpos kpos pos p0 p1 p2 p3 : Pos} {q : Str} {j0 : Nat}
    (TB : TabB X.base X.mg c P) (hcode : X.env.code = .ref c) (hq : X.env.qual ++ "<lambda>" = q) (hm : (P, q) ∈ T) (hu : ∀ p ∈ T, p.1 = P → p.2 = q)
    (hg : Gl X x) (hmx : X.mg x = none) (hv : bootBuiltins x = some (.builtin "sorted")) (he : PE X e te) {k : Nat} (hr : Room k X.A)
    (hbody : body = .Subscript (.Name a p1) (.Constant (.int 0) j0 p2) p3)
    (hdef : defaultsOf params X.env = ([], [])) (hfree : ∀ y ∈ scope.names, y.2 = .local) (hcl : cloFrom X.env.cells scope.names [] = [])
    (hloc : scope.names.lookup a = some .local) (hkind : scope.kind = .function) (hco : scope.isCoroutine = false) (hgen : scope.isGenerator = false)
    (hbind : ∀ (pm ctv : Value) (c' : Addr) (v : Value), bindArgs (kla_fn "<lambda>" q params body scope [] pm (.ref c') ctv) ⟨[v], []⟩ = pure [(a, v)])
    (hn : x ≠ "__name__" := by decide) (hdb : (x == ("__debug__" : Str)) = false := by decide) (hda : (a == ("__debug__" : Str)) = false := by decide)
    (hst : backTo pos (starEach [e] X.env) = (false, eval e X.env) :: backTo pos (starEach [] X.env) := by rfl) (hpl : (backTo pos (starEach [e] X.env)).any (·.1) = false := by rfl) (hs2 : starEach [e] X.env = (false, eval e X.env) :: starEach [] X.env := by rfl) :
    PE X (.Call (.Name x p0) [e] [⟨some "key", .Lambda params body scope lpos, kpos⟩] pos) (tSrtL X.K T te) := by
  refine ⟨fun pins s σ H Q I h => ?_⟩
  refine wpAny_Call_Name_kw (ld_blt I hg hmx hv ?_ hn hdb)
  refine PyProof.Rows.callWith_kw ?_ hst hpl rfl rfl
  rw [hst]
  refine Calls.spliced_cons (thn (he.run pins s σ H _ I h) fun u s1 ⟨xv, H1, I1, r1, q1⟩ => ?_)
  show wpAny _ _ (spliced []) _ _ s1
  refine Calls.spliced_nil ?_
  obtain ⟨al, xs, key, rfl, hS, hks, hT, qq⟩ := q1
  cases r1
  show wpAny _ _ (evalAll [(do let v ← eval (.Lambda params body scope lpos) X.env; standAt pos; pure v)]) _ _ s1
  refine wpAny_evalAll_cons (wpAny_bind (lam_make2 I1 TB hcode (by rw [hq]; exact hm) (by rw [hq]; exact hu) hT hdef (fun y hy z => by rw [hfree y hy] at z; cases z) fun f c' pm ctv H2 s2 I2 hE hT2 hf hfn hff hco2 => wpAny_bind (wpAny_standAt (wpAny_pure ?_))))
  refine wpAny_evalAll_nil ?_
  rw [hq, hcl] at hf
  rw [hq] at hco2
  have hS2 := sqL_extN hE hS
  obtain ⟨its, rv, hl, hz⟩ := I2.list hS2
  have hlen := rv.length
  obtain ⟨⟨oc, vsc, tc, hoc, hdc, hvc⟩, _, _⟩ := I2.hok c' _ hco2
  have hdep := hr.dp
  have hun := hr.un
  refine sorted_key_data (b := false) (R := fun (u : Value) (x : V) => RelV x u) (k := fun u : V => PyData.int (key u)) hl.isList (vals_each rv) ?_ ?_ hz (fun x _ => by show X.A.units + 2 + 0 < cLine; omega) (ksk_s1 _ _) (fun _ => ksk_l1 _ _) (fun a' => ksk_t1 f a') (fun v z hvz hzm h tk kp => ?_) fun out cc h' tk kp hfr hget hol heach => ?_
  · intro d hd d' hd'
    obtain ⟨u, _, rfl⟩ := List.mem_map.mp hd
    obtain ⟨u', _, rfl⟩ := List.mem_map.mp hd'
    rfl
  · refine .inr fun d hd => ?_
    obtain ⟨u, _, rfl⟩ := List.mem_map.mp hd
    exact ⟨fun z => (by cases z), fun _ z => (by cases z)⟩
  · obtain ⟨p, rest, rfl, hp⟩ := hks z hzm
    obtain rfl : v = Value.ref p := hvz
    obtain ⟨its2, rv2, ht2⟩ := (show ∃ its : List Value, Vals (V.int (key (.ref p)) :: rest) its ∧ IsTup s2.heap p its.toArray from by
      obtain ⟨_, its, r, t⟩ := (show ObjOk X.prog X.w H2 s2.heap p (.tup (V.int (key (.ref p)) :: rest)) from (hp.extN hE).ok I2.hok)
      exact ⟨its, r, t⟩)
    obtain ⟨v0, vr, rfl, t0, rfl⟩ : ∃ v0 vr, its2 = v0 :: vr ∧ ∃ t0, v0 = Value.int (key (.ref p)) t0 := by
      cases rv2 with
      | cons r _ =>
        obtain ⟨t0, e0⟩ := r
        exact ⟨_, _, rfl, t0, e0⟩
    refine wpAny_call (kla_callFunE (fd := kla_fn "<lambda>" q params body scope [] pm (.ref c') ctv) (body := body) ?_ (kp _ _ hf) rfl hco hgen rfl ⟨c', oc, vsc, tc, rfl, kp _ _ hoc, hdc, hvc⟩ ?_)
    · show X.A.depth < recursionLimit
      omega
    rw [hbind]
    refine wpAny_pure (wpAny_newFunctionEnv (fun y hy z => by rw [hfree y hy] at z; cases z) (fun y hy => by rw [List.mem_singleton.mp hy]; exact hloc) (fun h₁ hns hsb => ⟨((I2.nolimit).keeps kp).fresh _ hsb, ?_⟩) hkind)
    have kp1 : ∀ b o, h.get? b = some o → h₁.get? b = some o := fun b o e => hsb.extBut b o (Nat.ne_of_lt (Heap.lt_size e)) (Heap.get?_push_of_some _ e)
    refine kla_codeExpr ?_
    rw [hbody]
    refine wpAny_Subscript_Constant_late (wpAny_Name (wpAny_loadName_local hkind hloc hns (show List.lookup a [(a, Value.ref p)] = some (Value.ref p) from by show (match a == a with | true => some (Value.ref p) | false => _) = _; simp) ?_) hda)
    refine wpAny_Constant_int ?_
    have htp : IsTup h₁ p (Value.int (key (V.ref p)) t0 :: vr).toArray := by
      obtain ⟨o, ho, r⟩ := ht2
      exact ⟨o, kp1 _ _ (kp _ _ ho), r⟩
    refine ⟨"tuple", _, slot_tuple_getitem.lookup, htp.typeIs, ?_⟩
    refine PyProof.Rows.getItem_tuple (j := 0) (x := Value.int (key (V.ref p)) t0) htp (by decide) (by decide) (by unfold seqIndex?; simp) (by simp) ?_
    exact ⟨h₁, _, rfl, kp1, .int _ _⟩
  · have hperm := List.mergeSort_perm xs (dataLe false fun u => PyData.int (key u))
    have vals := each_vals heach
    have hx : (xs.mergeSort (dataLe false fun u => PyData.int (key u))).length ≤ sizeLine := by rw [hperm.length_eq]; exact hz
    have hpw : (xs.mergeSort (dataLe false fun u => PyData.int (key u))).Pairwise fun u v => key u ≤ key v := by
      have := List.pairwise_mergeSort (le := dataLe false fun u => PyData.int (key u)) (by
        intro u v z h1 h2
        rw [dataLe_int] at h1 h2 ⊢
        have a1 := of_decide_eq_true h1
        have a2 := of_decide_eq_true h2
        exact decide_eq_true (by omega)) (by
        intro u v
        rw [dataLe_int]
        by_cases c : key u ≤ key v
        · simp [c]
        · have : key v ≤ key u := by omega
          simp [this]) xs
      refine this.imp fun {u v} h1 => ?_
      rw [dataLe_int] at h1
      exact of_decide_eq_true h1
    have hn2 : H2 (s2.heap.objs.size + 1) = none := I2.hok.fresh (Nat.le_succ _)
    exact ⟨.ref (s2.heap.objs.size + 1), upd H2 (s2.heap.objs.size + 1) (.lst _), I2.laid (t' := tk) kp (Nat.le_succ _) ⟨hx, out, cc, vals, hget⟩, rfl, qq H2 _ _ hE hT2 hn2 hperm hpw⟩
end
end L2
set_option Elab.async false
set_option linter.all false
set_option maxRecDepth 100000
set_option maxHeartbeats 8000000
namespace My
open PySem L2 SS LamX
theorem Tabs.sx {T : List (Addr × Str)} {B : List Addr} {H H' : Hp} (l : Lsts B H) (s : SX B H H') (t : LamX.Tabs T H) : LamX.Tabs T H' := fun p hp => by
  obtain ⟨ps, h1, h2, h3⟩ := t p hp
  have nb : ∀ {b : Addr} {u : HO}, H b = some u → (∀ xs, u ≠ .lst xs) → b ∉ B := fun {b u} h hn z => by
    obtain ⟨xs, e⟩ := l b z
    rw [e] at h
    exact hn xs (Option.some.inj h).symm
  refine ⟨ps, s _ _ (nb h1 fun xs z => (by cases z)) h1, h2, fun pos cv hc => ?_⟩
  obtain ⟨c, e1, e2⟩ := h3 pos cv hc
  exact ⟨c, e1, s _ _ (nb e2 fun xs z => (by cases z)) e2⟩
theorem nx_go {n bk ct : L2.St → Hp → Prop} {rt : VK} {σ : L2.St} {H : Hp} (h : n σ H) : (Ends.mk n rt bk ct).nx σ H := h
theorem perm_erase {α : Type} : ∀ (l : List α) (i : Nat) (h : i < l.length), (l[i] :: l.eraseIdx i).Perm l
  | a :: l, 0, _ => .refl _
  | a :: l, i + 1, h => (List.Perm.swap a _ (l.eraseIdx i)).trans ((perm_erase l i (by simpa using h)).cons a)
theorem map_erase {α β : Type} (f : α → β) : ∀ (l : List α) (i : Nat), (l.map f).eraseIdx i = (l.eraseIdx i).map f
  | [], _ => rfl
  | a :: l, 0 => rfl
  | a :: l, i + 1 => congrArg (f a :: ·) (map_erase f l i)
theorem seqIx {n : Int} {k : Nat} (h0 : 0 ≤ n) (h1 : n < k) : seqIndex? n k = some n.toNat := by
  unfold seqIndex?
  simp [h0, h1]
  omega
/-! all but lists B and the tables stands -/
def FX (B : List Addr) (H H' : Hp) : Prop := ∀ b u, b ∉ B → (∀ ps, u ≠ .tbl ps) → H b = some u → H' b = some u
theorem FX.sx {B : List Addr} {H H' : Hp} (s : SX B H H') : FX B H H' := fun b u n _ h => s b u n h
theorem FX.ext {B : List Addr} {H H' : Hp} (s : ExtN H H') : FX B H H' := fun b u n t h => s b u h t
theorem FX.refl {B : List Addr} {H : Hp} : FX B H H := fun _ _ _ _ h => h
theorem FX.trans {B : List Addr} {H H1 H2 : Hp} (a : FX B H H1) (b : FX B H1 H2) : FX B H H2 := fun q u n t h => b q u n t (a q u n t h)
theorem FX.tups {B : List Addr} {H H' : Hp} (l : Lsts B H) (s : FX B H H') : Tups H H' := by
  refine ⟨fun q ys e => s q _ (fun z => ?_) (fun _ z => by cases z) e, fun q o u e => s q _ (fun z => ?_) (fun _ z => by cases z) e⟩
  · obtain ⟨xs, h⟩ := l q z
    rw [h] at e
    cases e
  · obtain ⟨xs, h⟩ := l q z
    rw [h] at e
    cases e
theorem Rd.fx {H H' : Hp} {c : Addr} {u : HO} (hl : ∀ xs, u ≠ .lst xs) (ht : ∀ xs, u ≠ .tbl xs) {B : List Addr} (l : Lsts B H) (s : FX B H H') (h : Rd H c u) : Rd H' c u := by
  rcases h with h | ⟨o, h⟩
  · refine .inl (s _ _ (fun z => ?_) ht h)
    obtain ⟨xs, e⟩ := l _ z
    rw [e] at h
    exact hl xs (Option.some.inj h).symm
  · refine .inr ⟨o, s _ _ (fun z => ?_) (fun _ z => by cases z) h⟩
    obtain ⟨xs, e⟩ := l _ z
    rw [e] at h
    cases h
theorem CsAt.fx {B : List Addr} {H H' : Hp} {c : Addr} {cs : List (Int × Dt)} (ok : ∀ c ∈ cs, NlD c.2) (l : Lsts B H) (s : FX B H H') (h : CsAt H c cs) : CsAt H' c cs := by
  obtain ⟨vs, h1, h2⟩ := h
  refine ⟨vs, Rd.fx (fun _ z => by cases z) (fun _ z => by cases z) l s h1, h2.impM fun d hd b r => ?_⟩
  obtain ⟨c, hc, rfl⟩ := List.mem_map.mp hd
  exact AtD.tups (FX.tups l s) r (ok c hc)
theorem DkQ.ext {H H' : Hp} {p l m : Addr} {a : Nat} (d : DkQ H p l m a) (s : ExtN H H') : DkQ H' p l m a := by
  obtain ⟨a', xs, ms, h1, h2, h3, h4, r⟩ := d
  exact ⟨a', xs, ms, h1, s _ _ h2 (fun _ z => by cases z), s _ _ h3 (fun _ z => by cases z), s _ _ h4 (fun _ z => by cases z), r⟩
/-! permuted data -/
theorem All2.perm {α β : Type} {R : α → β → Prop} {bs bs' : List β} (p : bs'.Perm bs) : ∀ {as : List α}, All2 R as bs → ∃ as', as'.Perm as ∧ All2 R as' bs' := by
  induction p with
  | nil => exact fun h => ⟨_, .refl _, h⟩
  | cons x _ ih =>
    intro as h
    cases h with
    | cons r t =>
      obtain ⟨as', p', h'⟩ := ih t
      exact ⟨_ :: as', p'.cons _, .cons r h'⟩
  | swap x y l =>
    intro as h
    cases h with
    | cons r t =>
      cases t with
      | cons r' t' => exact ⟨_, .swap _ _ _, .cons r' (.cons r t')⟩
  | trans _ _ ih1 ih2 =>
    intro as h
    obtain ⟨as', p', h'⟩ := ih2 h
    obtain ⟨as2, p2, h2⟩ := ih1 h'
    exact ⟨as2, p2.trans p', h2⟩
theorem All2.ofMap {α β γ : Type} {R : α → β → Prop} {f : γ → α} : ∀ {as : List γ} {bs : List β}, All2 R (as.map f) bs → All2 (fun a b => R (f a) b) as bs
  | [], _, h => by cases h; exact .nil
  | _ :: _, _, h => by
    cases h with
    | cons r t => exact .cons r (All2.ofMap t)
theorem All2.toMap {α β γ : Type} {R : α → β → Prop} {f : γ → α} {as : List γ} {bs : List β} (h : All2 (fun a b => R (f a) b) as bs) : All2 R (as.map f) bs := by
  induction h with
  | nil => exact .nil
  | cons r _ ih => exact .cons r ih
theorem All2.keys {α β : Type} {R : α → β → Prop} {g : α → Int} {k : β → Int} {as : List α} {bs : List β} (h : All2 R as bs) (e : ∀ a b, R a b → k b = g a) : bs.map k = as.map g := by
  induction h with
  | nil => rfl
  | cons r _ ih => rw [List.map_cons, List.map_cons, e _ _ r, ih]
/-- the first item of a tuple, a number -/
def key0 (H : Hp) (u : V) : Int := match u with
  | .ref p => match H p with
    | some (.tup (.int i :: _)) => i
    | some (.frz _ (.tup (.int i :: _))) => i
    | _ => 0
  | _ => 0
theorem key0_at {H : Hp} {n : Nat} {i : Int} {d : Dt} {u : V} (h : AtD H (n + 1) (.tup [.v (.int i), d]) u) : key0 H u = i ∧ ∃ p rest, u = .ref p ∧ Rd H p (.tup (.int (key0 H u) :: rest)) := by
  obtain ⟨p, us, rfl, hp, _, al⟩ := h
  cases al with
  | cons r t =>
    obtain ⟨rfl, _⟩ := atD_pl r
    rcases hp with hp | ⟨o, hp⟩
    · have e : key0 H (.ref p) = i := by
        unfold key0
        simp only [hp]
      exact ⟨e, p, _, rfl, by rw [e]; exact .inl hp⟩
    · have e : key0 H (.ref p) = i := by
        unfold key0
        simp only [hp]
      exact ⟨e, p, _, rfl, by rw [e]; exact .inr ⟨o, hp⟩⟩
/-! depths of cells behind the moves -/
theorem AtD.dp {H : Hp} : ∀ {n : Nat} {d : Dt} {v : V}, AtD H n d v → NlD d → Dp n d
  | _, .v _, _, _, _ => by unfold Dp; trivial
  | 0, .tup _, _, h, _ => h.elim
  | n + 1, .tup ds, v, ⟨p, us, e, h1, h2, h3⟩, hn => by
    unfold Dp
    intro d hd
    obtain ⟨i, hi⟩ := List.getElem?_of_mem hd
    obtain ⟨b, _, r⟩ := h3.getA hi
    cases hn with
    | tup k => exact AtD.dp r (k d hd)
  | _, .lst _, _, _, hn => by cases hn
  | _, .dic, _, _, hn => by cases hn
theorem dp_v {k : Nat} {x : V} : Dp k (.v x) := by unfold Dp; trivial
theorem dp_t {k : Nat} {ds : List Dt} (h : ∀ d ∈ ds, Dp k d) : Dp (k + 1) (.tup ds) := by unfold Dp; exact h
theorem dp_u {k : Nat} {ds : List Dt} (h : Dp (k + 1) (.tup ds)) : ∀ d ∈ ds, Dp k d := by unfold Dp at h; exact h
theorem dp_0 {ds : List Dt} (h : Dp 0 (.tup ds)) : False := by unfold Dp at h; exact h
theorem mwD_dp {k : Nat} {kept : List Int} {mv : Int → Int} {e : Dt} (h : Dp k e) : Dp k (mwD kept mv e) := by
  unfold mwD
  split
  · split
    · cases k with
      | zero => exact (dp_0 h).elim
      | succ k =>
        refine dp_t fun d hd => ?_
        simp only [List.mem_cons, List.not_mem_nil, or_false] at hd
        rcases hd with rfl | rfl <;> exact dp_v
    · exact h
  · exact h
/-- the shape of a cell behind the moves -/
theorem mcl_shape {kept : List Int} {mv : Int → Int} {d : Dt} (h : cellD d = true) :
    (∃ k ws, d = .tup [S2d "thing", k, .tup ws] ∧ mclD kept mv d = .tup [S2d "thing", k, .tup (ws.map (mwD kept mv))]) ∨ (∃ ws, d = .tup [S2d "list", .tup ws] ∧ mclD kept mv d = .tup [S2d "list", .tup (ws.map (mwD kept mv))]) ∨
    (∃ a b c e, d = .tup [S2d "block", a, b, c, e] ∧ mclD kept mv d = .tup [S2d "block", a, b, mwD kept mv c, mwD kept mv e]) ∨ ∃ ws o, d = .tup [S2d "names", .tup ws, o] ∧ mclD kept mv d = .tup [S2d "names", .tup (ws.map (mwD kept mv)), mwD kept mv o] := by
  rcases cell_cases h with ⟨k, ws, rfl⟩ | ⟨ws, rfl⟩ | ⟨x, y, c, e, rfl⟩ | ⟨ws, o, rfl⟩
  · exact .inl ⟨_, _, rfl, rfl⟩
  · exact .inr (.inl ⟨_, rfl, rfl⟩)
  · exact .inr (.inr (.inl ⟨_, _, _, _, rfl, rfl⟩))
  · refine .inr (.inr (.inr ⟨_, _, rfl, ?_⟩))
    show Dt.tup [S2d "names", .tup (((ws ++ [o]).map (mwD kept mv)).take (((ws ++ [o]).map (mwD kept mv)).length - 1)), ((ws ++ [o]).map (mwD kept mv)).getLastD (.v .non)] = _
    rw [List.map_append, List.map_singleton]
    simp
theorem mcl_dp {k : Nat} {kept : List Int} {mv : Int → Int} {d : Dt} (h : cellD d = true) (hd : Dp (k + 2) d) : Dp (k + 2) (mclD kept mv d) := by
  have wsm : ∀ {ws : List Dt}, Dp (k + 1) (.tup ws) → Dp (k + 1) (.tup (ws.map (mwD kept mv))) := fun h => dp_t fun d hd => by
    obtain ⟨e, he, rfl⟩ := List.mem_map.mp hd
    exact mwD_dp (dp_u h e he)
  rcases mcl_shape (kept := kept) (mv := mv) h with ⟨z, ws, rfl, e⟩ | ⟨ws, rfl, e⟩ | ⟨x, y, c, z, rfl, e⟩ | ⟨ws, o, rfl, e⟩ <;> rw [e] <;> refine dp_t fun d' hd' => ?_ <;> have hu := dp_u hd <;> simp only [List.mem_cons, List.not_mem_nil, or_false] at hd' hu
  · rcases hd' with rfl | rfl | rfl
    · exact dp_v
    · exact hu _ (.inr (.inl rfl))
    · exact wsm (hu _ (.inr (.inr rfl)))
  · rcases hd' with rfl | rfl
    · exact dp_v
    · exact wsm (hu _ (.inr rfl))
  · rcases hd' with rfl | rfl | rfl | rfl | rfl
    · exact dp_v
    · exact hu _ (.inr (.inl rfl))
    · exact hu _ (.inr (.inr (.inl rfl)))
    · exact mwD_dp (hu _ (.inr (.inr (.inr (.inl rfl)))))
    · exact mwD_dp (hu _ (.inr (.inr (.inr (.inr rfl)))))
  · rcases hd' with rfl | rfl | rfl
    · exact dp_v
    · exact wsm (hu _ (.inr (.inl rfl)))
    · exact mwD_dp (hu _ (.inr (.inr rfl)))
theorem nl_u {ds : List Dt} (h : NlD (.tup ds)) : ∀ d ∈ ds, NlD d := by
  cases h with
  | tup h => exact h
theorem mcl_nl {kept : List Int} {mv : Int → Int} {d : Dt} (h : cellD d = true) (hd : NlD d) : NlD (mclD kept mv d) := by
  have wsm : ∀ {ws : List Dt}, NlD (.tup ws) → NlD (.tup (ws.map (mwD kept mv))) := fun h => .tup fun d hd => by
    obtain ⟨e, he, rfl⟩ := List.mem_map.mp hd
    exact mwD_nl (nl_u h e he)
  rcases mcl_shape (kept := kept) (mv := mv) h with ⟨z, ws, rfl, e⟩ | ⟨ws, rfl, e⟩ | ⟨x, y, c, z, rfl, e⟩ | ⟨ws, o, rfl, e⟩ <;> rw [e] <;> refine .tup fun d' hd' => ?_ <;> have hu := nl_u hd <;> simp only [List.mem_cons, List.not_mem_nil, or_false] at hd' hu
  · rcases hd' with rfl | rfl | rfl
    · exact .v
    · exact hu _ (.inr (.inl rfl))
    · exact wsm (hu _ (.inr (.inr rfl)))
  · rcases hd' with rfl | rfl
    · exact .v
    · exact wsm (hu _ (.inr rfl))
  · rcases hd' with rfl | rfl | rfl | rfl | rfl
    · exact .v
    · exact hu _ (.inr (.inl rfl))
    · exact hu _ (.inr (.inr (.inl rfl)))
    · exact mwD_nl (hu _ (.inr (.inr (.inr (.inl rfl)))))
    · exact mwD_nl (hu _ (.inr (.inr (.inr (.inr rfl)))))
  · rcases hd' with rfl | rfl | rfl
    · exact .v
    · exact wsm (hu _ (.inr (.inl rfl)))
    · exact mwD_nl (hu _ (.inr (.inr rfl)))
/-- where all that is named is kept, what is behind is what sweeps tell -/
theorem mcl_mc {kept ks : List Int} {mv : Int → Int} {d : Dt} (ok : CellOk ks d) (h : leadsIn kept d = true) : mclD kept mv d = mcD mv d := by
  unfold mclD mcD
  congr 2
  obtain ⟨ws, hws, hw1, _⟩ := ok.wi
  unfold leadsIn at h
  rw [hws] at h ⊢
  refine List.map_congr_left fun e he => ?_
  have hwo := (hw1 e he).1
  by_cases c : isTupD e = true
  · obtain ⟨i, rfl, _⟩ := cw_shape (wo_tup hwo c)
    have hi : i ∈ kept := of_decide_eq_true (List.all_eq_true.mp h _ (List.mem_filter.mpr ⟨he, c⟩))
    show (if i ∈ kept then _ else _) = _
    rw [if_pos hi]
    rfl
  · cases e with
    | tup ds => exact absurd rfl c
    | v x => rfl
    | lst ds => rfl
    | dic => rfl
theorem evd_low {σ : L2.St} {H : Hp} {te : TE} {n k : Nat} {d : Dt} (h : EvD te σ H n d) (hk : Dp k d) : EvD te σ H k d := fun H1 s1 Q q => h H1 s1 Q fun v H2 s2 r => q v H2 s2 (AtD.low r hk)
theorem evd_ml {σ : L2.St} {H : Hp} {te : TE} {E : XK} {x : Nat} {a : Addr} {d : Dt} {kept ks : List Int} {mv : Int → Int} (h : EvD te σ H 9 d) (hx : σ[x]? = some (some (.ref a))) (ok : CellOk ks d) (hr : Rd H a (.dK (KvI kept mv))) : EvD (tCall spMl [] E (tCons te (tCons (tVar x) tNil))) σ H 11 (mclD kept mv d) := fun H1 s1 Q q => h H1 s1 _ fun v H2 s2 r => ⟨_, hx, v, a, d, kept, mv, ks, rfl, r, ok, Rd.same_ (s1.trans s2) hr, fun v' H3 s3 r3 => q v' H3 (s2.trans s3) r3⟩
/-- tuple(xs), the tuple's object without a dict -/
def EvZ (te : TE) (σ : L2.St) (H : Hp) (n : Nat) (ds : List Dt) : Prop := ∀ H1, Same H H1 → ∀ Q : VK, (∀ a H2, Same H1 H2 → AtD H2 n (.tup ds) (.ref a) → (∃ us, FrzT H2 a us) → Q (.ref a) H2) → te σ H1 Q
theorem evz_of {σ : L2.St} {H : Hp} {te : TE} {n : Nat} {ds : List Dt} {K : PySem.W.Frag} (h : EvD te σ H (n + 1) (.lst ds)) : EvZ (tCB (fun xs H Q => ∃ p ys, xs = [.ref p] ∧ SqL K H p ys ∧ ∀ l ob, H l = none → ob.dict = none → Q (.ref l) (upd H l (.frz ob (.tup ys)))) (tCons te tNil)) σ H (n + 1) ds := fun H1 s1 Q q => h H1 s1 _ fun v H2 s2 a => by
  obtain ⟨p, us, rfl, hp, l0, h1⟩ := a
  refine ⟨p, us, rfl, SqL.of hp, fun r ob hr hob => ?_⟩
  have s3 := same_new hr (.frz ob (.tup us))
  exact q _ _ (s2.trans s3) ⟨r, us, rfl, .inr ⟨ob, upd_same⟩, l0, h1.same s3⟩ ⟨us, ob, upd_same, hob⟩
theorem evd_sortKeys {σ : L2.St} {H : Hp} {K : PySem.W.Frag} {x : Nat} {a : Addr} {kvs : List (Key × V)} {ns : List Int} (hx : σ[x]? = some (some (.ref a))) (hr : Rd H a (.dK kvs)) (hk : kvs.map (·.1) = ns.map Sum.inl) (hp : ns.Pairwise (· < ·)) (hl : ns.length ≤ 1000) :
    EvD (tCB (rSortedI K) (tCons (tCB (fun xs H Q => ∃ (a : Addr) (kvs : List (Key × V)), xs = [.ref a] ∧ Rd H a (.dK kvs) ∧ ∀ p, H p = none → Q (.ref p) (upd H p (.lst (kvs.map fun kv => kV kv.1)))) (tCons (tVar x) tNil)) tNil)) σ H 1 (.lst (ns.map fun i => .v (.int i))) := fun H1 s1 Q q => by
  refine ⟨_, hx, a, kvs, rfl, Rd.same_ s1 hr, fun l hl0 => ?_⟩
  have hkeys : kvs.map (fun kv => kV kv.1) = ns.map V.int := by
    have := congrArg (List.map (kV : Key → V)) hk
    rw [List.map_map, List.map_map] at this
    exact this
  rw [hkeys]
  have sl := same_new hl0 (.lst (ns.map V.int))
  refine ⟨l, ns, rfl, SqL.of upd_same, fun ms r hpm hpw hr0 => ?_⟩
  have e : ms = ns := le_unique hpw (hp.imp fun h => by omega) hpm
  subst e
  exact q _ _ (sl.trans (same_new hr0 _)) (ints_at upd_same (by omega))
end My
set_option Elab.async false
set_option linter.all false
set_option maxRecDepth 100000
set_option maxHeartbeats 4000000
namespace My
open PySem L2 SS
/-! ### repr of nested data -/
/-- d has at most n parts -/
inductive Wt : Nat → Dt → Prop
  | v {n : Nat} {x : V} (h : 1 ≤ n) : Wt n (.v x)
  | tup {k m n : Nat} {ds : List Dt} (h : ∀ d ∈ ds, Wt m d) (hk : ds.length ≤ k) (hn : 1 + k * m ≤ n) : Wt n (.tup ds)
theorem Wt.mono {n m : Nat} {d : Dt} (h : Wt n d) (hm : n ≤ m) : Wt m d := by
  cases h with
  | v h => exact .v (by omega)
  | tup h hk hn => exact .tup h hk (by omega)
/-- what Python sees of data -/
inductive PyOf : Dt → PyData → Prop
  | non : PyOf (.v .non) .none
  | bl {b : Bool} : PyOf (.v (.bl b)) (.bool b)
  | int {i : Int} : PyOf (.v (.int i)) (.int i)
  | str {z : Str} : PyOf (.v (.str z)) (.str z)
  | tup {ds : List Dt} {ps : List PyData} (hl : ds.length = ps.length) (h : ∀ (i : Nat) d p, ds[i]? = some d → ps[i]? = some p → PyOf d p) : PyOf (.tup ds) (.tuple ps)
theorem pyOf_all : ∀ {ds : List Dt}, (∀ d ∈ ds, ∃ p, PyOf d p) → ∃ ps : List PyData, ds.length = ps.length ∧ ∀ (i : Nat) d p, ds[i]? = some d → ps[i]? = some p → PyOf d p
  | [], _ => ⟨[], rfl, fun i d p h => by simp at h⟩
  | d :: ds, h => by
    obtain ⟨p, hp⟩ := h d List.mem_cons_self
    obtain ⟨ps, hl, hps⟩ := pyOf_all (ds := ds) fun d hd => h d (List.mem_cons_of_mem _ hd)
    refine ⟨p :: ps, by rw [List.length_cons, List.length_cons, hl], fun i d' p' h1 h2 => ?_⟩
    cases i with
    | zero =>
      obtain rfl := Option.some.inj h1
      obtain rfl := Option.some.inj h2
      exact hp
    | succ i => exact hps i d' p' h1 h2
theorem LfOk.py {d : Dt} (h : LfOk d) : ∃ p, PyOf d p := by
  induction h with
  | @v x h =>
    cases x with
    | non => exact ⟨_, .non⟩
    | bl b => exact ⟨_, .bl⟩
    | int i => exact ⟨_, .int⟩
    | str z => exact ⟨_, .str⟩
    | _ => cases h
  | tup _ ih =>
    obtain ⟨ps, hl, h⟩ := pyOf_all ih
    exact ⟨_, .tup hl h⟩
theorem shownAll_map : ∀ ps : List PyData, PyData.shownAll ps = ps.map PyData.shown
  | [] => rfl
  | p :: ps => by
    have ih := shownAll_map ps
    simp only [PyData.shownAll, List.map_cons, ih]
theorem showAll_iff : ∀ {ps : List PyData}, (∀ p ∈ ps, p.showable = true) → PyData.showableAll ps = true
  | [], _ => rfl
  | p :: ps, h => by
    have ih := showAll_iff (ps := ps) fun q hq => h q (List.mem_cons_of_mem _ hq)
    simp only [PyData.showableAll, h p List.mem_cons_self, ih, Bool.and_self]
theorem noDictAll : ∀ {ps : List PyData}, (∀ p ∈ ps, p.hasDict = false) → PyData.hasDictAll ps = false
  | [], _ => rfl
  | p :: ps, h => by
    have ih := noDictAll (ps := ps) fun q hq => h q (List.mem_cons_of_mem _ hq)
    simp only [PyData.hasDictAll, h p List.mem_cons_self, ih, Bool.or_self]
theorem piled_le {n : Nat} : ∀ {ts : List Str}, (∀ t ∈ ts, t.length + 2 ≤ n) → piled ts ≤ ts.length * n
  | [], _ => Nat.zero_le _
  | t :: ts, h => by
    have ih := piled_le (ts := ts) fun u hu => h u (List.mem_cons_of_mem _ hu)
    have h1 := h t List.mem_cons_self
    rw [piled_cons, List.length_cons, Nat.add_mul, Nat.one_mul]
    omega
theorem big_nat {i : Int} (h0 : -1000000000000000000000000 ≤ i) (h1 : i ≤ 1000000000000000000000000) : i.natAbs < 10 ^ 25 := by
  have e : (10 : Nat) ^ 25 = 10000000000000000000000000 := by decide
  rw [e]
  omega
theorem big_log {i : Int} (h0 : -1000000000000000000000000 ≤ i) (h1 : i ≤ 1000000000000000000000000) : i.natAbs.log2 < 1920 := by
  by_cases c : i.natAbs = 0
  · rw [c]
    decide
  · rw [Nat.log2_lt c]
    refine Nat.lt_of_lt_of_le (big_nat h0 h1) ?_
    exact Nat.le_trans (show 10 ^ 25 ≤ 2 ^ 100 by decide) (Nat.pow_le_pow_right (by decide) (by decide))
theorem PyOf.shows {d : Dt} {p : PyData} (h : PyOf d p) : LfOk d → p.showable = true ∧ p.hasDict = false ∧ ∀ n, Wt n d → p.shown.length + 2 ≤ 70 * n := by
  induction h with
  | non =>
    refine fun _ => ⟨rfl, rfl, fun n hn => ?_⟩
    cases hn with
    | v h =>
      have e : (PyData.shown .none).length = 4 := by decide +kernel
      omega
  | @bl b =>
    refine fun _ => ⟨rfl, rfl, fun n hn => ?_⟩
    cases hn with
    | v h =>
      have e : (PyData.shown (.bool b)).length ≤ 5 := by cases b <;> decide +kernel
      omega
  | @int i =>
    intro hl
    cases hl with
    | v hl =>
      have hl2 := (Bool.and_eq_true _ _ ▸ (show (decide (-1000000000000000000000000 ≤ i) && decide (i ≤ 1000000000000000000000000)) = true from hl))
      have h0 := of_decide_eq_true hl2.1
      have h1 := of_decide_eq_true hl2.2
      refine ⟨by simp only [PyData.showable]; exact decide_eq_true (big_log h0 h1), rfl, fun n hn => ?_⟩
      cases hn with
      | v h =>
        have e := int_text_length_le10 (a := i) (k := 25) (by decide) (big_nat h0 h1)
        have e2 : (PyData.shown (.int i)).length ≤ 27 := by
          show (Str.ofString (toString i)).length ≤ 27
          rw [ofString_length]
          omega
        omega
  | @str z =>
    intro hl
    cases hl with
    | v hl =>
      have h0 : (reprText z).length ≤ 60 := of_decide_eq_true hl
      refine ⟨rfl, rfl, fun n hn => ?_⟩
      cases hn with
      | v h =>
        have e2 : (PyData.shown (.str z)).length ≤ 60 := by simpa only [PyData.shown] using h0
        omega
  | @tup ds ps hlen h ih =>
    intro hl
    have hu := lf_u hl
    have at_ : ∀ q ∈ ps, ∃ d ∈ ds, ∃ i : Nat, ds[i]? = some d ∧ ps[i]? = some q := fun q hq => by
      obtain ⟨i, hi⟩ := List.getElem?_of_mem hq
      have hil : i < ds.length := by
        rw [hlen]
        exact (List.getElem?_eq_some_iff.mp hi).1
      exact ⟨ds[i], List.getElem_mem hil, i, List.getElem?_eq_getElem hil, hi⟩
    refine ⟨?_, ?_, fun n hn => ?_⟩
    · simp only [PyData.showable]
      exact showAll_iff fun q hq => by
        obtain ⟨d, hd, i, h1, h2⟩ := at_ q hq
        exact (ih i d q h1 h2 (hu d hd)).1
    · simp only [PyData.hasDict]
      exact noDictAll fun q hq => by
        obtain ⟨d, hd, i, h1, h2⟩ := at_ q hq
        exact (ih i d q h1 h2 (hu d hd)).2.1
    · cases hn with
      | @tup k m _ _ hw hk hn =>
        have h1 : piled (PyData.shownAll ps) ≤ (PyData.shownAll ps).length * (70 * m) := piled_le fun t ht => by
          rw [shownAll_map] at ht
          obtain ⟨q, hq, rfl⟩ := List.mem_map.mp ht
          obtain ⟨d, hd, i, h1, h2⟩ := at_ q hq
          exact (ih i d q h1 h2 (hu d hd)).2.2 m (hw d hd)
        rw [shownAll_map, List.length_map, ← hlen] at h1
        have h2 := fmt_text (PyData.shownAll ps)
        rw [shownAll_map] at h2
        have e : PyData.shown (.tuple ps) = tupleText (ps.map PyData.shown) := by simp only [PyData.shown, shownAll_map]
        have h3 : ds.length * (70 * m) ≤ k * (70 * m) := Nat.mul_le_mul_right _ hk
        have h4 : k * (70 * m) = 70 * (k * m) := by rw [← Nat.mul_assoc, Nat.mul_comm k 70, Nat.mul_assoc]
        rw [e]
        omega
end My
set_option Elab.async false
set_option linter.all false
set_option maxRecDepth 100000
set_option maxHeartbeats 4000000
namespace My
open PySem L2 SS
theorem reads_all {h : Heap} : ∀ {us : List V} {its : List Value} {ps : List PyData}, Vals us its → us.length = ps.length → (∀ (i : Nat) x u p, us[i]? = some x → its[i]? = some u → RelV x u → ps[i]? = some p → ∃ as, Reads h u p as) → ∃ as, ReadsAll h its ps as
  | [], [], [], _, _, _ => ⟨_, .nil⟩
  | [], [], _ :: _, _, h, _ => by cases h
  | x :: us, u :: its, [], _, h, _ => by cases h
  | x :: us, u :: its, p :: ps, .cons r rs, hl, h => by
    obtain ⟨as, h1⟩ := h 0 x u p rfl rfl r rfl
    obtain ⟨bs, h2⟩ := reads_all rs (by simpa using hl) fun i x' u' p' e1 e2 r' e3 => h (i + 1) x' u' p' e1 e2 r' e3
    exact ⟨_, .cons h1 h2⟩
theorem PyOf.reads {P : Program} {w : World} {H : Hp} {h : Heap} (hok : HOk P w H h) {d : Dt} {p : PyData} (hp : PyOf d p) : ∀ {n : Nat} {v : V} {u : Value}, AtD H n d v → RelV v u → ∃ as, Reads h u p as := by
  induction hp with
  | non =>
    intro n v u a r
    obtain ⟨rfl, _⟩ := atD_pl a
    obtain rfl : u = .none := r
    exact ⟨_, .none⟩
  | bl =>
    intro n v u a r
    obtain ⟨rfl, _⟩ := atD_pl a
    obtain rfl : u = .bool _ := r
    exact ⟨_, .bool _⟩
  | int =>
    intro n v u a r
    obtain ⟨rfl, _⟩ := atD_pl a
    obtain ⟨t, rfl⟩ := r
    exact ⟨_, .int _ _⟩
  | str =>
    intro n v u a r
    obtain ⟨rfl, _⟩ := atD_pl a
    obtain ⟨t, rfl⟩ := r
    exact ⟨_, .str _ _⟩
  | @tup ds ps hl hd ih =>
    intro n v u a r
    cases n with
    | zero => exact a.elim
    | succ n =>
      obtain ⟨b, us, rfl, hb, _, al⟩ := a
      obtain rfl : u = .ref b := r
      obtain ⟨_, its, rv, o, ho, hc, m, hda⟩ : ∃ (_ : us.length ≤ sizeLine), ∃ its : List Value, Vals us its ∧ ∃ o, h.get? b = some o ∧ o.cls = .type "tuple" ∧ ∃ m, o.data = .seq its.toArray m := by
        obtain ⟨h1, its, r, t⟩ := (show ObjOk P w H h b (.tup us) from Rd.ok hb hok)
        obtain ⟨o, ho, hc, m, hda⟩ := t
        exact ⟨h1, its, r, o, ho, hc, m, hda⟩
      obtain ⟨as, hr⟩ := reads_all (ps := ps) rv (by rw [← al.len, hl]) fun i x u p e1 e2 r' e3 => by
        obtain ⟨d, hdi, ad⟩ := al.get e1
        exact ih i d p hdi e3 ad r'
      exact ⟨_, .tuple ho hc hda hr⟩
theorem depthAll_le {n : Nat} : ∀ {ps : List PyData}, (∀ p ∈ ps, p.depth ≤ n) → PyData.depthAll ps ≤ n
  | [], _ => by simp only [PyData.depthAll]; exact Nat.zero_le _
  | p :: ps, h => by
    have ih := depthAll_le (ps := ps) fun q hq => h q (List.mem_cons_of_mem _ hq)
    simp only [PyData.depthAll]
    exact Nat.max_le.mpr ⟨h p List.mem_cons_self, ih⟩
theorem PyOf.depth {H : Hp} {d : Dt} {p : PyData} (hp : PyOf d p) : ∀ {n : Nat} {v : V}, AtD H n d v → p.depth ≤ n + 1 := by
  induction hp with
  | @tup ds ps hl hd ih =>
    intro n v a
    cases n with
    | zero => exact a.elim
    | succ n =>
      obtain ⟨b, us, rfl, hb, _, al⟩ := a
      simp only [PyData.depth]
      have := depthAll_le (n := n + 1) (ps := ps) fun q hq => by
        obtain ⟨i, hi⟩ := List.getElem?_of_mem hq
        have hil : i < ds.length := by
          rw [hl]
          exact (List.getElem?_eq_some_iff.mp hi).1
        obtain ⟨u, _, ad⟩ := al.getA (List.getElem?_eq_getElem hil)
        exact ih i ds[i] q (List.getElem?_eq_getElem hil) hi ad
      omega
  | _ =>
    intro n v a
    simp only [PyData.depth]
    omega
section
variable {X : Cx}
/-- repr(e), e nested data -/
def rRepr : List V → Hp → VK → Prop := fun xs H Q => ∃ (d : Dt) (n m : Nat) (b : Addr) (p : PyData), xs = [.ref b] ∧ AtD H n d (.ref b) ∧ LfOk d ∧ Wt m d ∧ m ≤ 200000 ∧ n ≤ 50 ∧ PyOf d p ∧ Q (.str p.shown) H
theorem call_reprD (hg : X.A.guards = some []) (hu : X.A.units + 200 < cLine) : CallR X (.builtin "repr") rRepr := by
  intro pins s σ H xs us Q I r hh
  obtain ⟨d, n, m, b, p, rfl, a, hl, hw, hm, hn, hp, q⟩ := hh
  obtain ⟨u, rfl, rx⟩ := vals1 r
  obtain rfl : u = .ref b := rx
  obtain ⟨as, hr⟩ := hp.reads I.hok a (show RelV (.ref b) (.ref b) from rfl)
  obtain ⟨h1, h2, h3⟩ := hp.shows hl
  have h4 := h3 m hw
  have h5 := hp.depth a
  exact repr_of_reads' hr h1 (PyData.noDict_hsm h2) hg (by omega) (fun _ _ e => e) (fun h' u tk hk => ⟨.str p.shown, H, I.kept (t' := tk) hk, ⟨u, rfl⟩, q⟩) (by rw [sizeLine_eq]; omega)
end
end My
set_option Elab.async false
set_option linter.all false
set_option maxRecDepth 100000
set_option maxHeartbeats 8000000
namespace My
open PySem L2 SS LamX
theorem wt_l {d : Dt} {n : Nat} (h : ∀ ds, d ≠ .tup ds) (hn : NlD d) (h1 : 1 ≤ n) : Wt n d := by
  cases hn with
  | v => exact .v h1
  | tup _ => exact absurd rfl (h _)
theorem cw_wt {d : Dt} (h : cwD d = true) : Wt 3 d := by
  obtain ⟨i, rfl, _⟩ := cw_shape h
  refine .tup (k := 2) (m := 1) (fun d hd => ?_) (Nat.le_refl 2) (by decide)
  simp only [List.mem_cons, List.not_mem_nil, or_false] at hd
  rcases hd with rfl | rfl <;> exact .v (by decide)
theorem wo_wt {d : Dt} (h : woD d = true) : Wt 3 d := by
  cases d with
  | v x => exact .v (by decide)
  | tup ds => exact cw_wt h
  | lst ds => cases h
  | dic => cases h
theorem mwD_wt {kept : List Int} {mv : Int → Int} {e : Dt} (h : Wt 3 e) : Wt 3 (mwD kept mv e) := by
  unfold mwD
  split
  · split
    · refine .tup (k := 2) (m := 1) (fun d hd => ?_) (Nat.le_refl 2) (by decide)
      simp only [List.mem_cons, List.not_mem_nil, or_false] at hd
      rcases hd with rfl | rfl <;> exact .v (by decide)
    · exact h
  · exact h
theorem wos_wt {ws : List Dt} {i : Int} (h : wosD (.tup ws) (.int i) = true) (hi : i ≤ 30) : ws.length ≤ 30 ∧ ∀ w ∈ ws, Wt 3 w := by
  have h' := Bool.and_eq_true _ _ ▸ (show (decide (((ws.length : Nat) : Int) ≤ i) && ws.all woD) = true from h)
  have := of_decide_eq_true h'.1
  exact ⟨by omega, fun w hw => wo_wt (List.all_eq_true.mp h'.2 w hw)⟩
theorem wt_ws {ws : List Dt} (h : ws.length ≤ 30) (hw : ∀ w ∈ ws, Wt 3 w) : Wt 91 (.tup ws) := .tup hw h (by decide)
theorem wt_mws {kept : List Int} {mv : Int → Int} {ws : List Dt} (h : ws.length ≤ 30) (hw : ∀ w ∈ ws, Wt 3 w) : Wt 91 (.tup (ws.map (mwD kept mv))) := wt_ws (by rw [List.length_map]; exact h) fun w hw' => by
  obtain ⟨e, he, rfl⟩ := List.mem_map.mp hw'
  exact mwD_wt (hw e he)
theorem wt_5 {ds : List Dt} (h : ∀ d ∈ ds, Wt 91 d) (hl : ds.length ≤ 5) : Wt 500 (.tup ds) := .tup h hl (by decide)
/-- a cell has few parts, before the moves and behind them -/
theorem cell_wt {kept : List Int} {mv : Int → Int} {d : Dt} (h : cellD d = true) : Wt 500 d ∧ Wt 500 (mclD kept mv d) := by
  have u : ∀ {n : Nat} {d : Dt}, n ≤ 91 → Wt n d → Wt 91 d := fun hn hw => hw.mono hn
  rcases mcl_shape (kept := kept) (mv := mv) h with ⟨k, ws, rfl, e⟩ | ⟨ws, rfl, e⟩ | ⟨x, y, c, z, rfl, e⟩ | ⟨ws, o, rfl, e⟩ <;> rw [e]
  · have h1 : thD [k, .tup ws] = true := h
    have h2 := Bool.and_eq_true _ _ ▸ (show (kwD k && wosD (.tup ws) (.int 8)) = true from h1)
    obtain ⟨hl, hw⟩ := wos_wt h2.2 (by decide)
    have hk : Wt 1 k := by
      cases k with
      | v x => exact .v (by decide)
      | _ => cases h2.1
    refine ⟨wt_5 (fun d hd => ?_) (by show 3 ≤ 5; decide), wt_5 (fun d hd => ?_) (by show 3 ≤ 5; decide)⟩ <;> simp only [List.mem_cons, List.not_mem_nil, or_false] at hd <;> rcases hd with rfl | rfl | rfl
    · exact .v (by decide)
    · exact u (by decide) hk
    · exact wt_ws hl hw
    · exact .v (by decide)
    · exact u (by decide) hk
    · exact wt_mws hl hw
  · have h1 : wosD (.tup ws) (.int 30) = true := h
    obtain ⟨hl, hw⟩ := wos_wt h1 (by decide)
    refine ⟨wt_5 (fun d hd => ?_) (by show 2 ≤ 5; decide), wt_5 (fun d hd => ?_) (by show 2 ≤ 5; decide)⟩ <;> simp only [List.mem_cons, List.not_mem_nil, or_false] at hd <;> rcases hd with rfl | rfl
    · exact .v (by decide)
    · exact wt_ws hl hw
    · exact .v (by decide)
    · exact wt_mws hl hw
  · obtain ⟨a, b, c', d', e1, h1, h2, h3, h4⟩ := bl_shape (show blD [x, y, c, z] = true from h)
    obtain ⟨rfl, rfl, rfl, rfl⟩ : x = a ∧ y = b ∧ c = c' ∧ z = d' := by
      injection e1 with e1 e2
      injection e2 with e2 e3
      injection e3 with e3 e4
      injection e4 with e4 _
      exact ⟨e1, e2, e3, e4⟩
    have nu : ∀ {d : Dt}, num0D d = true → Wt 91 d := fun {d} hd => by
      cases d with
      | v x => exact .v (by decide)
      | _ => cases hd
    refine ⟨wt_5 (fun d hd => ?_) (by show 5 ≤ 5; decide), wt_5 (fun d hd => ?_) (by show 5 ≤ 5; decide)⟩ <;> simp only [List.mem_cons, List.not_mem_nil, or_false] at hd <;> rcases hd with rfl | rfl | rfl | rfl | rfl
    · exact .v (by decide)
    · exact nu h1
    · exact nu h2
    · exact u (by decide) (cw_wt h3)
    · exact u (by decide) (cw_wt h4)
    · exact .v (by decide)
    · exact nu h1
    · exact nu h2
    · exact u (by decide) (mwD_wt (cw_wt h3))
    · exact u (by decide) (mwD_wt (cw_wt h4))
  · have h1 := Bool.and_eq_true _ _ ▸ (show (wosD (.tup ws) (.int 12) && (decide (o.srt = Srt.non) || cwD o)) = true from h)
    obtain ⟨hl, hw⟩ := wos_wt h1.1 (by decide)
    have ho : Wt 3 o := by
      cases hc : cwD o with
      | true => exact cw_wt hc
      | false =>
        have h2 := h1.2
        rw [hc, Bool.or_false] at h2
        have h3 := of_decide_eq_true h2
        cases o with
        | v x => exact .v (by decide)
        | _ => cases h3
    refine ⟨wt_5 (fun d hd => ?_) (by show 3 ≤ 5; decide), wt_5 (fun d hd => ?_) (by show 3 ≤ 5; decide)⟩ <;> simp only [List.mem_cons, List.not_mem_nil, or_false] at hd <;> rcases hd with rfl | rfl | rfl
    · exact .v (by decide)
    · exact wt_ws hl hw
    · exact u (by decide) ho
    · exact .v (by decide)
    · exact wt_mws hl hw
    · exact u (by decide) (mwD_wt ho)
theorem mwD_lf {kept : List Int} {mv : Int → Int} {e : Dt} (hm : ∀ i ∈ kept, 0 ≤ mv i ∧ mv i ≤ 1000000000000000000000000) (h : LfOk e) : LfOk (mwD kept mv e) := by
  unfold mwD
  split
  · rename_i i
    split
    · rename_i hi
      exact lf_c (hm i hi)
    · exact h
  · exact h
theorem mcl_lf {kept : List Int} {mv : Int → Int} {d : Dt} (hm : ∀ i ∈ kept, 0 ≤ mv i ∧ mv i ≤ 1000000000000000000000000) (h : cellD d = true) (hd : LfOk d) : LfOk (mclD kept mv d) := by
  have wsm : ∀ {ws : List Dt}, LfOk (.tup ws) → LfOk (.tup (ws.map (mwD kept mv))) := fun h => .tup fun d hd => by
    obtain ⟨e, he, rfl⟩ := List.mem_map.mp hd
    exact mwD_lf hm (lf_u h e he)
  rcases mcl_shape (kept := kept) (mv := mv) h with ⟨z, ws, rfl, e⟩ | ⟨ws, rfl, e⟩ | ⟨x, y, c, z, rfl, e⟩ | ⟨ws, o, rfl, e⟩ <;> rw [e] <;> refine .tup fun d' hd' => ?_ <;> have hu := lf_u hd <;> simp only [List.mem_cons, List.not_mem_nil, or_false] at hd' hu
  · rcases hd' with rfl | rfl | rfl
    · exact hu _ (.inl rfl)
    · exact hu _ (.inr (.inl rfl))
    · exact wsm (hu _ (.inr (.inr rfl)))
  · rcases hd' with rfl | rfl
    · exact hu _ (.inl rfl)
    · exact wsm (hu _ (.inr rfl))
  · rcases hd' with rfl | rfl | rfl | rfl | rfl
    · exact hu _ (.inl rfl)
    · exact hu _ (.inr (.inl rfl))
    · exact hu _ (.inr (.inr (.inl rfl)))
    · exact mwD_lf hm (hu _ (.inr (.inr (.inr (.inl rfl)))))
    · exact mwD_lf hm (hu _ (.inr (.inr (.inr (.inr rfl)))))
  · rcases hd' with rfl | rfl | rfl
    · exact hu _ (.inl rfl)
    · exact wsm (hu _ (.inr (.inl rfl)))
    · exact mwD_lf hm (hu _ (.inr (.inr rfl)))
/-- a paper as data -/
def papD (cs : List (Int × Dt)) (roots kept : List Int) (mv : Int → Int) (bs : List Dt) : Dt := .tup [bfD cs, inD_ roots, mvsD kept mv, .tup bs]
theorem lf_pair {a b : Dt} (h1 : LfOk a) (h2 : LfOk b) : LfOk (.tup [a, b]) := .tup fun d hd => by
  simp only [List.mem_cons, List.not_mem_nil, or_false] at hd
  rcases hd with rfl | rfl
  · exact h1
  · exact h2
theorem wt_pair {a b : Dt} (h1 : Wt 500 a) (h2 : Wt 500 b) : Wt 1001 (.tup [a, b]) := .tup (k := 2) (m := 500) (fun d hd => by
  simp only [List.mem_cons, List.not_mem_nil, or_false] at hd
  rcases hd with rfl | rfl
  · exact h1
  · exact h2) (Nat.le_refl 2) (by decide)
theorem pap_lf {cs : List (Int × Dt)} {roots kept kept' : List Int} {mv : Int → Int} (ok : CsOk cs) (hr : ∀ i ∈ roots, i ∈ cs.map (·.1)) (hk : ∀ i ∈ kept, i ∈ cs.map (·.1)) (hp : kept'.Perm kept) (hm : ∀ i ∈ kept, 0 ≤ mv i ∧ mv i ≤ 1000000000000000000000000) (hrl : roots.length ≤ 10) (hkl : kept.length ≤ 10) :
    LfOk (papD cs roots kept mv (kept'.map fun i => .tup [.v (.int (mv i)), mclD kept mv (cellOf cs i)])) ∧ Wt 200000 (papD cs roots kept mv (kept'.map fun i => .tup [.v (.int (mv i)), mclD kept mv (cellOf cs i)])) := by
  have key : ∀ i ∈ cs.map (·.1), 0 ≤ i ∧ i ≤ 1000000000000000000000000 := fun i hi => by
    obtain ⟨c, hc, rfl⟩ := List.mem_map.mp hi
    exact ⟨ok.z c hc, ok.b c hc⟩
  have lfk : ∀ i ∈ cs.map (·.1), LfOk (.v (.int i)) := fun i hi => by
    have := key i hi
    exact lf_i (by omega) this.2
  have lfm : ∀ i ∈ kept, LfOk (.v (.int (mv i))) := fun i hi => by
    have := hm i hi
    exact lf_i (by omega) this.2
  have cell : ∀ i ∈ kept', LfOk (mclD kept mv (cellOf cs i)) ∧ Wt 500 (mclD kept mv (cellOf cs i)) := fun i hi => by
    obtain ⟨c, hc, rfl⟩ := List.mem_map.mp (hk i (hp.mem_iff.mp hi))
    rw [cellOf_mem (lt_nodup ok.r) hc]
    exact ⟨mcl_lf hm (ok.g c hc).ok.c (ok.g c hc).lf, (cell_wt (ok.g c hc).ok.c).2⟩
  have hkl' : kept'.length ≤ 10 := by rw [hp.length_eq]; exact hkl
  constructor
  · refine .tup fun d hd => ?_
    simp only [List.mem_cons, List.not_mem_nil, or_false] at hd
    rcases hd with rfl | rfl | rfl | rfl
    · refine .tup fun e he => ?_
      obtain ⟨c, hc, rfl⟩ := List.mem_map.mp he
      exact lf_pair (lfk _ (List.mem_map_of_mem hc)) (ok.g c hc).lf
    · refine .tup fun e he => ?_
      obtain ⟨i, hi, rfl⟩ := List.mem_map.mp he
      exact lfk i (hr i hi)
    · refine .tup fun e he => ?_
      obtain ⟨i, hi, rfl⟩ := List.mem_map.mp he
      exact lf_pair (lfk i (hk i hi)) (lfm i hi)
    · refine .tup fun e he => ?_
      obtain ⟨i, hi, rfl⟩ := List.mem_map.mp he
      exact lf_pair (lfm i (hp.mem_iff.mp hi)) (cell i hi).1
  · refine .tup (k := 4) (m := 10011) (fun d hd => ?_) (Nat.le_refl 4) (by decide)
    have w1 : ∀ {x : V} {n : Nat}, 1 ≤ n → Wt n (.v x) := fun h => .v h
    simp only [List.mem_cons, List.not_mem_nil, or_false] at hd
    rcases hd with rfl | rfl | rfl | rfl
    · refine .tup (k := 10) (m := 1001) (fun e he => ?_) (by rw [List.length_map]; exact ok.l) (by decide)
      obtain ⟨c, hc, rfl⟩ := List.mem_map.mp he
      exact wt_pair (w1 (by decide)) (cell_wt (kept := kept) (mv := mv) (ok.g c hc).ok.c).1
    · refine .tup (k := 10) (m := 1) (fun e he => ?_) (by rw [List.length_map]; exact hrl) (by decide)
      obtain ⟨i, hi, rfl⟩ := List.mem_map.mp he
      exact w1 (by decide)
    · refine .tup (k := 10) (m := 1001) (fun e he => ?_) (by rw [List.length_map]; exact hkl) (by decide)
      obtain ⟨i, hi, rfl⟩ := List.mem_map.mp he
      exact wt_pair (w1 (by decide)) (w1 (by decide))
    · refine .tup (k := 10) (m := 1001) (fun e he => ?_) (by rw [List.length_map]; exact hkl') (by decide)
      obtain ⟨i, hi, rfl⟩ := List.mem_map.mp he
      exact wt_pair (w1 (by decide)) (cell i hi).2
end My
set_option Elab.async false
set_option linter.all false
set_option maxRecDepth 100000
set_option maxHeartbeats 8000000
namespace My
open PySem L2 SS LamX
abbrev qTd : Str := "_law_told.<locals>.<lambda>"
/-- a def whose code is known -/
structure DnC (K : PySem.W.Frag) (mg : Str → Option Value) (x : Str) (st : Stmt) (c : Addr) : Prop where
  ex : ∃ (f : Addr) (oc : Value) (od : Option Addr) (kV doc pm : Value) (an : Option Addr) (ct : Value) (osl : Array (Option Value)),
    K.lookup f = some ⟨oc, od, .func (PySem.W.fnOf x x (defArgs st) (defBody st) (defScope st) .none kV doc pm an (.ref c) ct), osl⟩ ∧ PySem.W.codeIn K (.ref c) x = true ∧ PySem.W.keepIn K (.ref f) = true ∧ mg x = some (.ref f)
theorem DnC.dn {K : PySem.W.Frag} {mg : Str → Option Value} {x : Str} {st : Stmt} {c : Addr} (D : DnC K mg x st c) : Dn K mg x st := by
  obtain ⟨f, oc, od, kV, doc, pm, an, ct, osl, h1, h2, h4, h3⟩ := D.ex
  exact ⟨f, _, ⟨⟨oc, od, kV, doc, pm, an, _, ct, osl, rfl, h1, h2⟩, h4⟩, h3⟩
/-- what is told to sweep_stands -/
def TldOk (H' : Hp) (t : Addr) (cs : List (Int × Dt)) (roots kept : List Int) : Prop := ∃ (b r m h : V) (bp mp : Addr) (mv : Int → Int) (bs : List Dt), TupA H' t [b, r, m, h] ∧ b = .ref bp ∧ m = .ref mp ∧ (∃ us, FrzT H' bp us) ∧ (∃ us, FrzT H' mp us) ∧
  AtD H' 5 (bfD cs) b ∧ AtD H' 8 (inD_ roots) r ∧ AtD H' 8 (mvsD kept mv) m ∧ AtD H' 8 (.tup bs) h ∧ Pap cs roots kept mv ∧
  (stB cs roots kept = true → ∀ (ns : List Int) (f : Int → Dt), ns.Perm (kept.map mv) → ns.Pairwise (· ≤ ·) → (∀ i ∈ kept, f (mv i) = mcD mv (cellOf cs i)) → bs = ns.map (pcD f)) ∧ LfOk (papD cs roots kept mv bs) ∧ Wt 200000 (papD cs roots kept mv bs)
/-- numbers in a list or a tuple -/
def RtsAt (B : List Addr) (H : Hp) (r : Addr) (ns : List Int) : Prop := (H r = some (.lst (ns.map V.int)) ∧ r ∉ B) ∨ TupA H r (ns.map V.int)
theorem RtsAt.fx {B : List Addr} {H H' : Hp} {r : Addr} {ns : List Int} (h : RtsAt B H r ns) (l : Lsts B H) (s : FX B H H') : RtsAt B H' r ns := by
  rcases h with ⟨h1, h2⟩ | h
  · exact .inl ⟨s r _ h2 (fun _ z => by cases z) h1, h2⟩
  · exact .inr (Rd.fx (fun _ z => by cases z) (fun _ z => by cases z) l s h)
theorem RtsAt.same {B : List Addr} {H H' : Hp} {r : Addr} {ns : List Int} (h : RtsAt B H r ns) (s : Same H H') : RtsAt B H' r ns := by
  rcases h with ⟨h1, h2⟩ | h
  · exact .inl ⟨s _ _ h1, h2⟩
  · exact .inr (Rd.same_ s h)
theorem ints_tup {H : Hp} {q : Addr} {ns : List Int} (h : TupA H q (ns.map V.int)) (hl : ns.length ≤ 100000) : AtD H 1 (.tup (ns.map fun i => .v (.int i))) (.ref q) := ⟨q, _, rfl, h, by rw [List.length_map]; exact hl, all2_ints ns⟩
def spTd (T : List (Addr × Str)) : Sp := fun vs H Q _ => ∃ (p l m c r q : Addr) (a : Nat) (cs : List (Int × Dt)) (roots kept : List Int), vs = [.ref p, .ref c, .ref r, .ref q] ∧ DkQ H p l m a ∧ a ≤ 800000 ∧ CsAt H c cs ∧ CsOk cs ∧ RtsAt [p, l] H r roots ∧ H q = some (.lst (kept.map V.int)) ∧ q ∉ [p, l] ∧ kept.Pairwise (· < ·) ∧ (∀ i ∈ kept, i ∈ cs.map (·.1)) ∧ roots.Pairwise (· < ·) ∧ (∀ i ∈ roots, i ∈ cs.map (·.1)) ∧ Tabs T H ∧ ∀ t H', FX [p, l] H H' → DkQ H' p l m (a + 3 * kept.length) → LamX.Tabs T H' → TldOk H' t cs roots kept → Q (.ref t) H'
section
variable {P : Program} {w : World} {K : PySem.W.Frag} {mg : Str → Option Value} {base : Heap}
theorem scTd : FnScope ["_law_deck_here", "_law_cells_here", "_law_roots", "_law_kept", "_law_left", "_law_moves", "_law_address", "_law_behind", "_law_before"] ["_law_deck_here", "_law_cells_here", "_law_roots", "_law_kept"] (defScope s__law_told) := ⟨rfl, rfl, rfl, by decide +kernel, rfl, by decide +kernel, by decide +kernel⟩
theorem c_td {T : List (Addr × Str)} {c0 Pt : Addr} (b_sorted : mg "sorted" = none) (b_tuple : mg "tuple" = none) (b_len : mg "len" = none) (b_list : mg "list" = none) (TB : LamX.TabB base mg c0 Pt) (hT : T = [(Pt, qTd)]) (PL : C0 P w K mg base 2 "_law_places" spPl) (NX : C0 P w K mg base 1 "_law_next" spNx) (ML : C0 P w K mg base 2 "_law_moved_cell" spMl) (D : DnC K mg "_law_told" s__law_told c0) : C0 P w K mg base 3 "_law_told" (spTd T) := by
  obtain ⟨f, oc, od, kV, doc, pm, an, ct, osl, hlk, hcd, hkp, hmm⟩ := D.ex
  have F : Fun K "_law_told" "_law_told" s__law_told f _ := ⟨⟨oc, od, kV, doc, pm, an, _, ct, osl, rfl, hlk, hcd⟩, hkp⟩
  refine ⟨f, _, ["_law_deck_here", "_law_cells_here", "_law_roots", "_law_kept"], fn_of hlk hcd scTd (fun vs H Q E h => ?_) (fun A outer s H vs Q E hr h => ?_), hmm, F.kp, F.binds (ps := ["_law_deck_here", "_law_cells_here", "_law_roots", "_law_kept"]) fun _ _ _ _ _ _ us hl => match us, hl with | [_, _, _, _], _ => rfl⟩
  · obtain ⟨p, l, m, c, r, q, a, cs, roots, kept, rfl, _⟩ := h
    rfl
  obtain ⟨p, l, m, c, r, q, a, cs, roots, kept, rfl, dk, ha, hcs, ok, hr0, hq0, nq, kp, kk, rp, rk, tb, kq⟩ := h
  have hq : (cxOf CX0 P w K mg base ["_law_deck_here", "_law_cells_here", "_law_roots", "_law_kept", "_law_left", "_law_moves", "_law_address", "_law_behind", "_law_before"] "_law_told" (defScope s__law_told) f (.ref c0) A outer s H E).nox.env.qual ++ "<lambda>" = qTd := rfl
  have hm : (Pt, qTd) ∈ T := by rw [hT]; exact List.mem_singleton.mpr rfl
  have hu : ∀ p ∈ T, p.1 = Pt → p.2 = qTd := fun p h _ => by rw [hT] at h; rw [List.mem_singleton.mp h]
  suffices h : ∃ t, PSs (cxOf CX0 P w K mg base ["_law_deck_here", "_law_cells_here", "_law_roots", "_law_kept", "_law_left", "_law_moves", "_law_address", "_law_behind", "_law_before"] "_law_told" (defScope s__law_told) f (.ref c0) A outer s H E).nox (defBody s__law_told) t ∧ t { nx := fun _ H' => Q .non H', rt := Q } (L2.start ["_law_deck_here", "_law_cells_here", "_law_roots", "_law_kept", "_law_left", "_law_moves", "_law_address", "_law_behind", "_law_before"] [.ref p, .ref c, .ref r, .ref q]) H from by
    obtain ⟨t, h1, h2⟩ := h
    exact ⟨t, h1.nox, h2⟩
  refine ⟨_, pss_cons (ps_set (i := 4) scTd.nd rfl (Or.inl rfl) (pe_cc PL hr (by omega) pass0 (pa_cons (pv 0) (pa_cons (pe_callB call_len_seq (by rfl) b_len PySem.boot_len (pa_cons (pv 3) pa_nil)) pa_nil)))) <|
    pss_cons (ps_set (i := 5) scTd.nd rfl (Or.inr rfl) pe_dnewK) <|
    pss_cons (ps_for PassesOwn.never rfl (pi_list (pv 3)) (pg_name (i := 6) scTd.nd rfl (Or.inl rfl))
      (pss_one (ps_dput (hu_of hr) (pv 5) (pv 6) (pe_bm PySem.F.plainAttrs_list PySem.F.slot_list_pop PySem.F.type_list_pop mt_popAt (pv 4) (pa_cons (pe_cc NX hr (by omega) pass0 (pa_cons (pv 0) (pa_cons (pe_callB call_len_seq (by rfl) b_len PySem.boot_len (pa_cons (pv 4) pa_nil)) pa_nil))) pa_nil)) rfl))) <|
    pss_cons (ps_setLc (i := 7) (own := [("_law_address", 6)]) (g := (gName 6)) (by rfl) scTd.nd rfl rfl (sw_true rfl rfl rfl (by decide +kernel)) (pi_list (pv 3)) (blkOk_by (own := [("_law_address", 6)]) (N := ["_law_deck_here", "_law_cells_here", "_law_roots", "_law_kept", "_law_left", "_law_moves", "_law_address", "_law_behind", "_law_before"]) (sc := defScope s__law_told) (by decide +kernel)) (fun _ _ _ _ _ => (pg_name (i := 6) scTd.nd rfl (Or.inl rfl))) (fun _ _ _ _ _ => pts_nil) (fun _ _ _ _ _ => (pe_tup (pa_cons (pe_dget (hu_of hr) (pv 5) (pv 6) (fun _ _ => rfl)) (pa_cons (pe_cc ML hr (by omega) pass0 (pa_cons (pe_dget (hu_of hr) (pv 1) (pv 6) (fun _ _ => rfl)) (pa_cons (pv 5) pa_nil))) pa_nil))))) <|
    pss_cons (ps_set (i := 7) scTd.nd rfl (Or.inl rfl) (pe_sortedLam TB rfl hq hm hu (by rfl) b_sorted PyProof.Rows.boot_sorted (pv 7) hr rfl rfl (by decide +kernel) (by rfl) (by decide +kernel) rfl rfl rfl (fun _ _ _ _ => rfl))) <|
    pss_cons (ps_set (i := 8) scTd.nd rfl (Or.inl rfl) (pe_callTy call_tuple_ofF (by rfl) b_tuple (by decide +kernel) (pa_cons (pe_lc (own := [("_law_address", 6)]) (g := (gName 6)) (tt := tYes) rfl scTd.nd (pi_list (pe_callB cr_sortedI (by rfl) b_sorted PyProof.Rows.boot_sorted (pa_cons (pe_callTy (call_listD rfl) (by rfl) b_list (by decide +kernel) (pa_cons (pv 1) pa_nil)) pa_nil))) (blkOk_by (own := [("_law_address", 6)]) (N := ["_law_deck_here", "_law_cells_here", "_law_roots", "_law_kept", "_law_left", "_law_moves", "_law_address", "_law_behind", "_law_before"]) (sc := defScope s__law_told) (by decide +kernel)) (fun _ _ _ _ _ => (pg_name (i := 6) scTd.nd rfl (Or.inl rfl))) (fun _ _ _ _ _ => pts_nil) (fun _ _ _ _ _ => (pe_tup (pa_cons (pv 6) (pa_cons (pe_dget (hu_of hr) (pv 1) (pv 6) (fun _ _ => rfl)) pa_nil))))) pa_nil))) <|
    pss_one (ps_ret (pe_tup (pa_cons (pv 8) (pa_cons (pe_callTy call_tuple_of (by rfl) b_tuple (by decide +kernel) (pa_cons (pv 2) pa_nil)) (pa_cons (pe_callTy call_tuple_ofF (by rfl) b_tuple (by decide +kernel) (pa_cons (pe_lc (own := [("_law_address", 6)]) (g := (gName 6)) (tt := tYes) rfl scTd.nd (pi_list (pv 3)) (blkOk_by (own := [("_law_address", 6)]) (N := ["_law_deck_here", "_law_cells_here", "_law_roots", "_law_kept", "_law_left", "_law_moves", "_law_address", "_law_behind", "_law_before"]) (sc := defScope s__law_told) (by decide +kernel)) (fun _ _ _ _ _ => (pg_name (i := 6) scTd.nd rfl (Or.inl rfl))) (fun _ _ _ _ _ => pts_nil) (fun _ _ _ _ _ => (pe_tup (pa_cons (pv 6) (pa_cons (pe_dget (hu_of hr) (pv 5) (pv 6) (fun _ _ => rfl)) pa_nil))))) pa_nil)) (pa_cons (pe_callTy call_tuple_ofF (by rfl) b_tuple (by decide +kernel) (pa_cons (pv 7) pa_nil)) pa_nil)))))), ?_⟩
  have hkl : kept.length ≤ 10 := by
    have h1 := nodup_le (lt_nodup kp) kk
    rw [List.length_map] at h1
    have := ok.l
    omega
  have hil : (kept.map V.int).length = kept.length := List.length_map ..
  refine ⟨_, rfl, _, rfl, q, _, rfl, .inl (SqL.of hq0), p, l, m, a, kept.length, by rw [hil]; rfl, by omega, dk, by omega, fun lf ns H1 s1 d1 hlf f1 hnl hnp hn0 => ?_⟩
  refine fun md hmd => ?_
  have nmd := d1.ne hmd
  have nlf := dk.ne hlf
  have hmdH : H md = none := s1.free d1.lsts.some hmd
  have hml : md ≠ lf := fun e => by rw [e, f1] at hmd; cases hmd
  have s2 := s1.new (o := .dK []) hmd
  have d2 := d1.set nmd (.dK [])
  have f2 : upd H1 md (.dK []) md = some (.dK []) := upd_same
  have l2 : upd H1 md (.dK []) lf = some (.lst (ns.map V.int)) := by rw [upd_ne (Ne.symm hml)]; exact f1
  generalize upd H1 md (.dK []) = H2 at s2 d2 f2 l2 ⊢
  have q2 := s2 _ _ nq hq0
  refine ⟨_, rfl, q, rfl, ⟨_, SqL.of q2⟩, ?_⟩
  refine for_list (xs := kept.map V.int) (fun i σ Hn => ∃ (left : List Int) (mv : Int → Int) (v6 : Option V), σ = [some (.ref p), some (.ref c), some (.ref r), some (.ref q), some (.ref lf), some (.ref md), v6, none, none] ∧ SX [p, l] H Hn ∧ DkQ Hn p l m (a + 2 * kept.length + i) ∧ Hn lf = some (.lst (left.map V.int)) ∧ Hn md = some (.dK (KvI (kept.take i) mv)) ∧ ((kept.take i).map mv ++ left).Nodup ∧ (∀ x ∈ (kept.take i).map mv ++ left, 0 ≤ x ∧ x ≤ 1000000000000000000000000) ∧ left.length + i = kept.length) ⟨ns, id, none, rfl, s2, d2, l2, f2, by simpa using lt_nodup hnp, by simpa using hn0, by omega⟩ (fun i σ Hn _ ⟨_, _, _, _, s, _⟩ => SqL.of (s _ _ nq hq0)) ?_ ?_
  · rintro i x σ Hn hx ⟨left, mv, v6, rfl, sn, dn, fl, fm, hnd, h00, hlen⟩
    rw [List.getElem?_map] at hx
    obtain ⟨y, hy, rfl⟩ := Option.map_eq_some_iff.mp hx
    have hik : i < kept.length := by
      rw [List.getElem?_eq_some_iff] at hy
      exact hy.1
    have hll : (left.map V.int).length = left.length := List.length_map ..
    refine ⟨_, rfl, .inl ⟨rfl, _, SqL.of fl⟩, _, rfl, _, rfl, lf, _, rfl, .inl (SqL.of fl), p, l, m, _, _, rfl, by omega, dn, by omega, fun n H3 s3 d3 h0 h1 => ?_⟩
    have fl3 := s3 _ _ (ne2 nlf) fl
    have fm3 := s3 _ _ (ne2 nmd) fm
    rw [hll] at h1
    have hn1 : n.toNat < left.length := by omega
    refine ⟨lf, _, n, n.toNat, .int left[n.toNat], rfl, rfl, fl3, by omega, by omega, by rw [hll]; exact seqIx h0 h1, by rw [List.getElem?_map, List.getElem?_eq_getElem hn1]; rfl, ?_⟩
    have fmu : upd H3 lf (.lst ((left.map V.int).eraseIdx n.toNat)) md = some (.dK (KvI (kept.take i) mv)) := by rw [upd_ne hml]; exact fm3
    have hkv : (KvI (kept.take i) mv).length ≤ 10 := by
      unfold KvI
      rw [List.length_map, List.length_take]
      omega
    refine ⟨_, rfl, _, rfl, md, _, rfl, DPut.k (k := .inl y) fmu (by rw [sizeLine_eq]; omega), ?_⟩
    have hyn : y ∉ kept.take i := fun hm => by
      obtain ⟨j, hj, e⟩ := List.mem_take_iff_getElem.mp hm
      have hj' : j < i := by omega
      have e2 : kept[i] = y := by rw [List.getElem?_eq_getElem hik] at hy; exact Option.some.inj hy
      have := List.pairwise_iff_getElem.mp kp j i (by omega) hik hj'
      rw [e, e2] at this
      omega
    have eM : (kept.take (i + 1)).map (fun z => if z = y then left[n.toNat] else mv z) = (kept.take i).map mv ++ [left[n.toNat]] := by
      rw [List.take_add_one, hy, List.map_append]
      congr 1
      · exact List.map_congr_left fun z hz => if_neg fun e => hyn (by rw [← e]; exact hz)
      · show [if y = y then _ else _] = _
        rw [if_pos rfl]
    have eK : putK (KvI (kept.take i) mv) (.inl y) (.int left[n.toNat]) = KvI (kept.take (i + 1)) (fun z => if z = y then left[n.toNat] else mv z) := by
      rw [putK_fresh fun w hw e => by
        obtain ⟨z, hz, rfl⟩ := List.mem_map.mp hw
        injection e with e
        exact hyn (by rw [← e]; exact hz)]
      unfold KvI
      rw [List.take_add_one, hy, List.map_append]
      congr 1
      · exact List.map_congr_left fun z hz => by
          have : z ≠ y := fun e => hyn (by rw [← e]; exact hz)
          simp only [if_neg this]
      · show _ = [((Sum.inl y : Key), V.int (if y = y then _ else _))]
        rw [if_pos rfl]
    rw [eK]
    have hperm : ((kept.take (i + 1)).map (fun z => if z = y then left[n.toNat] else mv z) ++ left.eraseIdx n.toNat).Perm ((kept.take i).map mv ++ left) := by
      rw [eM, List.append_assoc]
      exact List.Perm.append_left _ (perm_erase left n.toNat hn1)
    refine ⟨left.eraseIdx n.toNat, fun z => if z = y then left[n.toNat] else mv z, _, rfl, ((sn.trans s3).late hlf _).late hmdH _, ((d3.set nlf _).set nmd _).mono (by omega), ?_, upd_same, hperm.nodup_iff.mpr hnd, fun x hx => h00 x (hperm.mem_iff.mp hx), by rw [List.length_eraseIdx_of_lt hn1]; omega⟩
    rw [upd_ne (Ne.symm hml), upd_same]
    rw [map_erase]
  · rintro σ Hn ⟨left, mv, v6, rfl, sn, dn, fl, fm, hnd, h00, hlen⟩
    rw [hil, List.take_length] at hnd h00 fm
    obtain rfl : left = [] := List.length_eq_zero_iff.mp (by omega)
    rw [List.append_nil] at hnd h00
    have hbg : ∀ x ∈ kept.map mv, x ≤ 1000000000000000000000000 := fun x hx => (h00 x hx).2
    have h00 : ∀ x ∈ kept.map mv, 0 ≤ x := fun x hx => (h00 x hx).1
    have csn := CsAt.sx ok.nl dk.lsts sn hcs
    have rn := hr0.fx dk.lsts (FX.sx sn)
    have qn := sn _ _ nq hq0
    have tbn := Tabs.sx dk.lsts sn tb
    have hK : Rd Hn md (.dK (KvI kept mv)) := .inl fm
    have mem0 : ∀ {d : Dt}, d ∈ kept.map (fun i => Dt.v (.int i)) → ∃ i ∈ kept, d = .v (.int i) := fun h => by
      obtain ⟨i, hi, e⟩ := List.mem_map.mp h
      exact ⟨i, hi, e.symm⟩
    have cellv : ∀ i ∈ kept, ∃ kc v, Rd Hn c (.dK kc) ∧ valV kc (.inl i) = some v ∧ AtD Hn 3 (cellOf cs i) v ∧ CellG (cs.map (·.1)) (cellOf cs i) := fun i hi => csn.val ok (kk i hi)
    have e1 : ∀ σ : L2.St, σ = [some (.ref p), some (.ref c), some (.ref r), some (.ref q), some (.ref lf), some (.ref md), v6, none, none] → EvD (tLc (iList K (tVar 3)) (gName 6) tYes (tTup (tCons (tDGet (tVar 5) (tVar 6)) (tCons (tCall spMl [] E0 (tCons (tDGet (tVar 1) (tVar 6)) (tCons (tVar 5) tNil))) tNil))) [6]) σ Hn 5 (.lst ((kept.map fun i => Dt.v (.int i)).map fun d => match d with | .v (.int i) => .tup [.v (.int (mv i)), mclD kept mv (cellOf cs i)] | d => d)) := by
      rintro σ rfl
      refine evd_lcL (K := K) (m := 0) (n := 4) (evd_var rfl (ints_at qn (by omega))) (fun d hd x H4 s4 ax R hR => ?_) (fun d hd => ?_)
      · obtain ⟨i, hi, rfl⟩ := mem0 hd
        obtain ⟨kc, v, h1, h2, h3, h4⟩ := cellv i hi
        refine hR _ H4 (Same.refl _) rfl (evd_tup (n := 3) (evds_cons (evd_dget (n := 0) rfl (Rd.same_ s4 hK) (evd_var rfl ax) (valV_kvI hi) (.int _)) (evds_cons (evd_low (evd_ml (evd_dgetD (n := 0) rfl (Rd.same_ s4 h1) (evd_var rfl ax) h2 ((h3.same s4).mono (by decide))) rfl h4.ok (Rd.same_ s4 hK)) (mcl_dp h4.ok.c (h3.dp h4.ok.nl))) evds_nil)) (Nat.le_of_ble_eq_true rfl))
      · obtain ⟨i, hi, rfl⟩ := mem0 hd
        obtain ⟨kc, v, h1, h2, h3, h4⟩ := cellv i hi
        refine .tup fun e he => ?_
        simp only [List.mem_cons, List.not_mem_nil, or_false] at he
        rcases he with rfl | rfl
        · exact .v
        · exact mcl_nl h4.ok.c h4.ok.nl
    refine nx_go (asg_go (e1 _ rfl Hn (Same.refl _) _ fun v7 H4 s4 a4 => ?_))
    rw [List.map_map] at a4
    obtain ⟨b0, us, rfl, hb0, _, al⟩ := a4
    have al : All2 (fun i u => AtD H4 4 (.tup [.v (.int (mv i)), mclD kept mv (cellOf cs i)]) u) kept us := All2.ofMap al
    refine ⟨_, rfl, b0, us, key0 H4, rfl, SqL.of hb0, fun u hu => ?_, Tabs.sx (B := []) (fun _ h => by cases h) (SX.same s4) tbn, fun H5 b1 ys hE tb5 hb1 hperm hpw => ?_⟩
    · obtain ⟨i, hi⟩ := List.getElem?_of_mem hu
      obtain ⟨z, _, hz⟩ := al.get hi
      exact (key0_at hz).2
    have n0 : ∀ H', Lsts [] H' := fun _ _ h => by cases h
    have fx : FX [] H4 (upd H5 b1 (.lst ys)) := (FX.ext hE).trans (FX.sx (SX.same (same_new hb1 _)))
    have d6 := ((dn.same s4).ext hE).same (same_new hb1 (.lst ys))
    have tb6 := Tabs.sx (B := []) (n0 _) (SX.same (same_new hb1 (.lst ys))) tb5
    have cs6 := CsAt.fx ok.nl (n0 _) fx (CsAt.sx (B := []) ok.nl (n0 _) (SX.same s4) csn)
    have hK6 := Rd.fx (fun _ z => by cases z) (fun _ z => by cases z) (n0 _) fx (Rd.same_ s4 hK)
    have r6 : AtD H4 0 (.v .non) .non → RtsAt [] (upd H5 b1 (.lst ys)) r roots := fun _ => RtsAt.fx (by rcases rn.same s4 with ⟨h1, h2⟩ | h; exact .inl ⟨h1, List.not_mem_nil⟩; exact .inr h) (n0 _) fx
    have r6 := r6 (atD_v .non)
    have q6 := fx q _ List.not_mem_nil (fun _ z => by cases z) (s4 _ _ qn)
    have fxa : FX [p, l] H (upd H5 b1 (.lst ys)) := (FX.sx (sn.trans (SX.same s4))).trans fun b u _ t h => fx b u List.not_mem_nil t h
    obtain ⟨kept', hkp', al'⟩ := All2.perm hperm al
    have hks : ys.map (key0 H4) = kept'.map mv := All2.keys al' fun i u h => (key0_at h).1
    have hpw' : (kept'.map mv).Pairwise (· ≤ ·) := by
      rw [← hks, List.pairwise_map]
      exact hpw
    have hkl' : kept'.length = kept.length := hkp'.length_eq
    have nlm : ∀ i ∈ kept', NlD (.tup [.v (.int (mv i)), mclD kept mv (cellOf cs i)]) := fun i hi => by
      obtain ⟨kc, v, h1, h2, h3, h4⟩ := cellv i (hkp'.mem_iff.mp hi)
      refine .tup fun e he => ?_
      simp only [List.mem_cons, List.not_mem_nil, or_false] at he
      rcases he with rfl | rfl
      · exact .v
      · exact mcl_nl h4.ok.c h4.ok.nl
    have a6 : AtD (upd H5 b1 (.lst ys)) 5 (.lst (kept'.map fun i => .tup [.v (.int (mv i)), mclD kept mv (cellOf cs i)])) (.ref b1) := ⟨b1, ys, rfl, upd_same, by rw [List.length_map]; omega, All2.toMap (al'.impM fun i hi u h => AtD.tups (FX.tups (n0 _) fx) h (nlm i hi))⟩
    generalize upd H5 b1 (.lst ys) = H6 at fx d6 tb6 cs6 hK6 r6 q6 fxa a6 ⊢
    obtain ⟨kvs, hkc, hvs⟩ := cs6
    have hcl : (cs.map (·.1)).length ≤ 10 := by rw [List.length_map]; exact ok.l
    have hrl : roots.length ≤ 10 := Nat.le_trans (nodup_le (lt_nodup rp) rk) hcl
    have hkk : (kvZ (fun c : Int × Dt => c.1) cs kvs).map (·.1) = (cs.map (·.1)).map Sum.inl := by
      rw [kvZ_keys (by rw [← hvs.len, List.length_map]), List.map_map]
      rfl
    have eb : ∀ σ : L2.St, σ = [some (.ref p), some (.ref c), some (.ref r), some (.ref q), some (.ref lf), some (.ref md), v6, some (.ref b1), none] → EvZ (tCB (fun xs H Q => ∃ p ys, xs = [.ref p] ∧ SqL K H p ys ∧ ∀ l ob, H l = none → ob.dict = none → Q (.ref l) (upd H l (.frz ob (.tup ys)))) (tCons (tLc (iList K (tCB (rSortedI K) (tCons (tCB (fun xs H Q => ∃ (a : Addr) (kvs : List (Key × V)), xs = [.ref a] ∧ Rd H a (.dK kvs) ∧ ∀ p, H p = none → Q (.ref p) (upd H p (.lst (kvs.map fun kv => L2.kV kv.1)))) (tCons (tVar 1) tNil)) tNil))) (gName 6) tYes (tTup (tCons (tVar 6) (tCons (tDGet (tVar 1) (tVar 6)) tNil))) [6]) tNil)) σ H6 5 (cs.map fun c => .tup [.v (.int c.1), c.2]) := by
      rintro σ rfl
      have e2 : ((cs.map (·.1)).map fun i => Dt.v (.int i)).map (fun d => match d with | .v (.int i) => Dt.tup [.v (.int i), cellOf cs i] | d => d) = cs.map fun c => .tup [.v (.int c.1), c.2] := by
        rw [List.map_map, List.map_map]
        refine List.map_congr_left fun c' hc' => ?_
        show Dt.tup [.v (.int c'.1), cellOf cs c'.1] = _
        rw [cellOf_mem (lt_nodup ok.r) hc']
      rw [← e2]
      refine evz_of (evd_lcL (K := K) (m := 0) (n := 4) (evd_sortKeys rfl hkc hkk ok.r (by omega)) (fun d hd x H7 s7 ax R hR => ?_) (fun d hd => ?_))
      · obtain ⟨i, hi, rfl⟩ := List.mem_map.mp hd
        obtain ⟨kc, v, h1, h2, h3, h4⟩ := CsAt.val (show CsAt H6 c cs from ⟨kvs, hkc, hvs⟩) ok hi
        exact hR _ H7 (Same.refl _) rfl (evd_tup (n := 3) (evds_cons (EvD.lv (evd_var rfl ax) (by decide)) (evds_cons (evd_dgetD (n := 0) rfl (Rd.same_ s7 h1) (evd_var rfl ax) h2 (h3.same s7)) evds_nil)) (Nat.le_of_ble_eq_true rfl))
      · obtain ⟨i, hi, rfl⟩ := List.mem_map.mp hd
        obtain ⟨c', hc', rfl⟩ := List.mem_map.mp hi
        refine .tup fun e he => ?_
        simp only [List.mem_cons, List.not_mem_nil, or_false] at he
        rcases he with rfl | rfl
        · exact .v
        · rw [cellOf_mem (lt_nodup ok.r) hc']
          exact ok.nl c' hc'
    refine nx_go (asg_go (eb _ rfl H6 (Same.refl _) _ fun ab H7 s7 ab7 fb7 => ?_))
    refine ret_go ?_
    have em : ∀ σ : L2.St, σ = [some (.ref p), some (.ref c), some (.ref r), some (.ref q), some (.ref lf), some (.ref md), v6, some (.ref b1), some (.ref ab)] → EvZ (tCB (fun xs H Q => ∃ p ys, xs = [.ref p] ∧ SqL K H p ys ∧ ∀ l ob, H l = none → ob.dict = none → Q (.ref l) (upd H l (.frz ob (.tup ys)))) (tCons (tLc (iList K (tVar 3)) (gName 6) tYes (tTup (tCons (tVar 6) (tCons (tDGet (tVar 5) (tVar 6)) tNil))) [6]) tNil)) σ H7 5 (kept.map fun i => .tup [.v (.int i), .v (.int (mv i))]) := by
      rintro σ rfl
      have e2 : (kept.map fun i => Dt.v (.int i)).map (fun d => match d with | .v (.int i) => Dt.tup [.v (.int i), .v (.int (mv i))] | d => d) = kept.map fun i => .tup [.v (.int i), .v (.int (mv i))] := by
        rw [List.map_map]
        rfl
      rw [← e2]
      refine evz_of (evd_lcL (K := K) (m := 0) (n := 4) (evd_var rfl (ints_at (s7 _ _ q6) (by omega))) (fun d hd x H8 s8 ax R hR => ?_) (fun d hd => ?_))
      · obtain ⟨i, hi, rfl⟩ := mem0 hd
        exact hR _ H8 (Same.refl _) rfl (evd_tup (n := 3) (evds_cons (EvD.lv (evd_var rfl ax) (by decide)) (evds_cons (evd_dget (n := 0) rfl (Rd.same_ (s7.trans s8) hK6) (evd_var rfl ax) (valV_kvI hi) (.int _)) evds_nil)) (Nat.le_of_ble_eq_true rfl))
      · obtain ⟨i, hi, rfl⟩ := mem0 hd
        refine .tup fun e he => ?_
        simp only [List.mem_cons, List.not_mem_nil, or_false] at he
        rcases he with rfl | rfl <;> exact .v
    refine ⟨_, rfl, ?_⟩
    have er : EvD (tCB (fun xs H Q => ∃ p ys, xs = [V.ref p] ∧ ((SqL K H p ys ∧ ∀ (l : Addr), H l = none → Q (V.ref l) (upd H l (HO.tup ys))) ∨ SqT K H p ys ∧ Q (V.ref p) H)) (tCons (tVar 2) tNil)) [some (.ref p), some (.ref c), some (.ref r), some (.ref q), some (.ref lf), some (.ref md), v6, some (.ref b1), some (.ref ab)] H7 1 (.tup (roots.map fun i => .v (.int i))) := by
      rcases r6.same s7 with ⟨h1, _⟩ | h1
      · exact evd_tupof (n := 0) (evd_var rfl (ints_at h1 (by omega)))
      · exact evd_tupofT (n := 0) (evd_var rfl (ints_tup h1 (by omega)))
    have eh : EvZ (tCB (fun xs H Q => ∃ p ys, xs = [.ref p] ∧ SqL K H p ys ∧ ∀ l ob, H l = none → ob.dict = none → Q (.ref l) (upd H l (.frz ob (.tup ys)))) (tCons (tVar 7) tNil)) [some (.ref p), some (.ref c), some (.ref r), some (.ref q), some (.ref lf), some (.ref md), v6, some (.ref b1), some (.ref ab)] H7 5 (kept'.map fun i => .tup [.v (.int (mv i)), mclD kept mv (cellOf cs i)]) := evz_of (evd_var rfl (a6.same s7))
    refine er H7 (Same.refl _) _ fun a2 H8 s8 r8 => em _ rfl H8 s8 _ fun a3 H9 s9 r9 f9 => eh H9 (s8.trans s9) _ fun a4 H10 s10 r10 _ => ⟨by show 4 ≤ sizeLine; decide, fun t ht => ?_⟩
    have st := same_new ht (.tup [.ref ab, a2, .ref a3, .ref a4])
    have s7t := s8.trans (s9.trans (s10.trans st))
    have s6t := s7.trans s7t
    have hlw := pap_lf (mv := mv) ok rk kk hkp' (fun i hi => ⟨h00 _ (List.mem_map_of_mem hi), hbg _ (List.mem_map_of_mem hi)⟩) hrl hkl
    refine kq t _ (fxa.trans (FX.sx (SX.same s6t))) ((d6.same s6t).mono (by omega)) (Tabs.sx (B := []) (n0 _) (SX.same s6t) tb6) ⟨_, _, _, _, ab, a3, mv, _, .inl upd_same, rfl, rfl, ?_, ?_, ab7.same s7t, (r8.same (s9.trans (s10.trans st))).mono (by decide), (r9.same (s10.trans st)).mono (by decide), (r10.same st).mono (by decide), ?_, fun hst ns f hns hpn hf => ?_, hlw.1, hlw.2⟩
    · obtain ⟨us, ob, h1, h2⟩ := fb7
      exact ⟨us, ob, s7t _ _ h1, h2⟩
    · obtain ⟨us, ob, h1, h2⟩ := f9
      exact ⟨us, ob, (s10.trans st) _ _ h1, h2⟩
    · exact ⟨ok.r, ok.z, fun c' hc' => (ok.g c' hc').ok, fun c' hc' => (ok.g c' hc').sz, by have := ok.l; omega, rp, fun i hi => (by obtain ⟨c', hc', rfl⟩ := List.mem_map.mp (rk i hi); exact ok.z c' hc'), kp, fun i hi => (by obtain ⟨c', hc', rfl⟩ := List.mem_map.mp (kk i hi); exact ok.z c' hc'), kk, by omega, fun i hi => h00 _ (List.mem_map_of_mem hi), hnd⟩
    · have e1 : ns = kept'.map mv := le_unique hpn hpw' (hns.trans (hkp'.map mv).symm)
      rw [e1, List.map_map]
      refine List.map_congr_left fun i hi => ?_
      have hik := hkp'.mem_iff.mp hi
      show _ = Dt.tup [.v (.int (mv i)), f (mv i)]
      have hle : leadsIn kept (cellOf cs i) = true := List.all_eq_true.mp (Bool.and_eq_true _ _ ▸ hst).2 i hik
      obtain ⟨kc, v, h1, h2, h3, h4⟩ := cellv i hik
      rw [hf i hik, mcl_mc h4.ok hle]
end
end My
set_option Elab.async false
set_option linter.all false
set_option maxRecDepth 100000
set_option maxHeartbeats 4000000
namespace L2
open PySem PySem.Spec PyProof.Rows
/-! ### a list against the empty one, whatever it holds -/
def rEqNil (K : PySem.W.Frag) : R2 := fun x y H Q => ∃ a b xs, x = .ref a ∧ y = .ref b ∧ SqL K H a xs ∧ SqL K H b [] ∧ Q (.bl (decide (xs = []))) H
theorem op_eqNil {X : Cx} (hu : X.A.units + 64 < cLine) : OpR X (compareOp .Eq) (rEqNil X.K) := by
  intro pins s σ H x y v u Q I rx ry h
  obtain ⟨a, b, xs, rfl, rfl, ha, hb, q⟩ := h
  cases rx
  cases ry
  obtain ⟨its, r1, p1, _⟩ := I.list ha
  obtain ⟨its2, r2, p2, _⟩ := I.list hb
  cases r2
  cases xs with
  | nil =>
    cases r1
    exact SeqAt.eq_listAt (e := fun _ => true) p1.isList p2.isList rfl (by omega) (fun j h1 _ => absurd h1 (Nat.not_lt_zero j)) ⟨.bl true, H, I, rfl, q⟩
  | cons z zs =>
    cases r1
    exact SeqAt.eq_list_lengthsAt p1.isList p2.isList (by simp) (by omega) ⟨.bl false, H, I, rfl, q⟩
end L2
set_option Elab.async false
set_option linter.all false
set_option maxRecDepth 100000
set_option maxHeartbeats 4000000
namespace L2
open PySem PySem.Spec PyProof.Rows
section
variable {X : Cx} {pos : Pos}
/-- a display of a tuple, the tuple's object without a dict -/
def tTupF (t : TA) : TE := fun σ H Q => t σ H fun xs H1 => xs.length ≤ sizeLine ∧ ∀ p ob, H1 p = none → ob.dict = none → Q (.ref p) (upd H1 p (.frz ob (.tup xs)))
theorem pe_tupF {es : List Expr} {t : TA} {x1} (items : PA X es t) : PE X (.Tuple es x1 pos) (tTupF t) := by
  refine ⟨fun pins s σ H Q I want => ?_⟩
  refine wpAny_Tuple_spliced (thn (items.run pos pins s σ H _ I want) fun us s1 got => ?_)
  obtain ⟨xs, H1, I1, r, z, q⟩ := got
  refine ⟨r.length ▸ z, .ref s1.heap.objs.size, _, I1.laid (t' := s1.toks) (a := s1.heap.objs.size) (o := .frz { cls := .type "tuple", data := .seq us.toArray } (.tup xs)) (fun b u e => Heap.get?_push_of_some _ e) (Nat.le_refl _) ?_, rfl, q _ _ (I1.hok.fresh (Nat.le_refl _)) rfl⟩
  exact ⟨Heap.get?_push_size _ rfl, z, us, r, IsTup.new _ _⟩
/-- is not, of truths -/
theorem op_notTr : OpR X (compareOp .IsNot) (fun x y H Q => ∃ a b, x = .bl a ∧ y = .bl b ∧ Q (.bl (!decide (a = b))) H) := by
  intro pins s σ H x y v u Q I rx ry hh
  obtain ⟨a, b, rfl, rfl, q⟩ := hh
  cases rx
  cases ry
  exact wpAny_isNot_plain rfl (fin_bl I q (by cases a <;> cases b <;> rfl))
end
end L2
set_option Elab.async false
set_option linter.all false
set_option maxRecDepth 100000
set_option maxHeartbeats 8000000
namespace My
open PySem L2 SS LamX
theorem next_go {D : Ends} {σ : L2.St} {H : Hp} (h : D.nx σ H) : tNext D σ H := h
/-- [n for n in ns if a draw says so] -/
theorem lc_pickD {i x : Nat} {K : PySem.W.Frag} {σ : L2.St} {H : Hp} {p l m q : Addr} {a : Nat} {ns : List Int} {tt : TT} {Q : VK} (hx : σ[x]? = some (some (.ref q))) (d : DkQ H p l m a) (hq : H q = some (.lst (ns.map V.int))) (nq : q ∉ [p, l]) (hl : ns.length ≤ 100)
    (hw : ∀ y, wipe ((wipe σ [i]).set i y) [i] = wipe σ [i]) (hget : ∀ y : V, ((wipe σ [i]).set i (some y))[i]? = some (some y))
    (ht : ∀ y H1 b, DkQ H1 p l m b → b ≤ a + ns.length → ∀ R : Bool → Hp → Prop, (∀ c H2, SX [p, l] H1 H2 → DkQ H2 p l m (b + 1) → R c H2) → tt ((wipe σ [i]).set i (some y)) H1 R)
    (k : ∀ (D : Addr) (ms : List Int) H', SX [p, l] H H' → DkQ H' p l m (a + ns.length) → H D = none → H' D = some (.lst (ms.map V.int)) → ms.Sublist ns → Q (.ref D) H') : tLc (iList K (tVar x)) (gName i) tt (tVar i) [i] σ H Q := by
  refine ⟨_, hx, q, rfl, ⟨_, SqL.of hq⟩, fun D hD => ?_⟩
  have nD := d.ne hD
  refine lc_list (xs := ns.map V.int) (fun j Hn => SX [p, l] H Hn ∧ DkQ Hn p l m (a + j) ∧ ∃ ms : List Int, Hn D = some (.lst (ms.map V.int)) ∧ ms.Sublist (ns.take j)) ⟨SX.refl.new hD, d.set nD _, [], upd_same, List.nil_sublist _⟩ (fun j Hn _ h => SqL.of (h.1 _ _ nq hq)) ?_ ?_
  · rintro j y Hn hj ⟨s, dn, ms, hm, hsub⟩
    rw [List.getElem?_map] at hj
    obtain ⟨z, hz, rfl⟩ := Option.map_eq_some_iff.mp hj
    have hjl : j < ns.length := (List.getElem?_eq_some_iff.mp hz).1
    have et : ns.take (j + 1) = ns.take j ++ [z] := by rw [List.take_add_one, hz]; rfl
    have hml : ms.length ≤ 100 := by
      have := hsub.length_le
      rw [List.length_take] at this
      omega
    refine ⟨hw _, ht _ Hn (a + j) dn (by omega) _ fun c H2 s2 d2 => ?_⟩
    have hm2 := s2 _ _ (ne2 nD) hm
    cases c with
    | true =>
      refine iteT ⟨_, hget _, ms.map V.int, hm2, by rw [List.length_map, sizeLine_eq]; omega, (s.trans s2).late hD _, (d2.set nD _).mono (by omega), ms ++ [z], by rw [upd_same, List.map_append]; rfl, ?_⟩
      rw [et]
      exact hsub.append (List.Sublist.refl _)
    | false =>
      refine iteF ⟨s.trans s2, d2.mono (by omega), ms, hm2, ?_⟩
      rw [et]
      exact hsub.trans (List.sublist_append_left _ _)
  · rintro Hn ⟨s, dn, ms, hm, hsub⟩
    rw [List.length_map] at dn hsub
    rw [List.take_length] at hsub
    exact k D ms Hn s dn hD hm hsub
/-- [n for n in ns if n not in ks] -/
theorem lc_pickN {i x : Nat} {K : PySem.W.Frag} {σ : L2.St} {H : Hp} {kq q : Addr} {ns ks : List Int} {Q : VK} (hx : ∀ y : V, ((wipe σ [i]).set i (some y))[x]? = some (some (.ref kq))) (hq : H q = some (.lst (ns.map V.int))) (hk : H kq = some (.lst (ks.map V.int))) (hl : ns.length ≤ 100)
    (hw : ∀ y, wipe ((wipe σ [i]).set i y) [i] = wipe σ [i]) (hget : ∀ y : V, ((wipe σ [i]).set i (some y))[i]? = some (some y))
    (k : ∀ (D : Addr) H', Same H H' → H D = none → H' D = some (.lst ((ns.filter fun i => !decide (i ∈ ks)).map V.int)) → Q (.ref D) H') : tLc (fun _ H k => k (Itl K q) H) (gName i) (tTest (tOp (rIn K true) (tVar i) (tVar x))) (tVar i) [i] σ H Q := fun D hD => by
  have nD : ∀ {b u}, H b = some u → b ≠ D := fun h => ne_of_none h hD
  refine lc_list (xs := ns.map V.int) (fun j Hn => Same H Hn ∧ Hn D = some (.lst (((ns.take j).filter fun i => !decide (i ∈ ks)).map V.int))) ⟨same_new hD _, upd_same⟩ (fun j Hn _ h => SqL.of (h.1 _ _ hq)) ?_ ?_
  · rintro j y Hn hj ⟨s, hm⟩
    rw [List.getElem?_map] at hj
    obtain ⟨z, hz, rfl⟩ := Option.map_eq_some_iff.mp hj
    have hjl : j < ns.length := (List.getElem?_eq_some_iff.mp hz).1
    have et : (ns.take (j + 1)).filter (fun i => !decide (i ∈ ks)) = (ns.take j).filter (fun i => !decide (i ∈ ks)) ++ (if (!decide (z ∈ ks)) = true then [z] else []) := by
      rw [List.take_add_one, hz, List.filter_append]
      by_cases c : z ∈ ks <;> simp [c]
    have hml : ((ns.take j).filter fun i => !decide (i ∈ ks)).length ≤ 100 := by
      have := List.length_filter_le (fun i => !decide (i ∈ ks)) (ns.take j)
      rw [List.length_take] at this
      omega
    refine ⟨hw _, evt_t (n := 0) (evd_notInL (n := 0) (i := z) (ns := ks) (evd_var (hget _) (atD_v (.int _))) (hx _) (s _ _ hk)) Hn (Same.refl _) _ fun H2 s2 => ?_⟩
    have hm2 := s2 _ _ hm
    by_cases c : z ∈ ks
    · have e : (!decide (z ∈ ks)) = false := by rw [decide_eq_true c]; rfl
      rw [e] at et ⊢
      refine iteF ⟨s.trans s2, ?_⟩
      rw [hm2, et]
      simp
    · have e : (!decide (z ∈ ks)) = true := by rw [decide_eq_false c]; rfl
      rw [e] at et ⊢
      refine iteT ⟨_, hget _, _, hm2, by rw [List.length_map, sizeLine_eq]; omega, same_upd (s.trans s2) hD _, ?_⟩
      rw [upd_same, et, if_pos rfl, List.map_append]
      rfl
  · rintro Hn ⟨s, hm⟩
    rw [List.length_map, List.take_length] at hm
    exact k D Hn s hD hm
theorem lc_pickS {i x : Nat} {K : PySem.W.Frag} {σ : L2.St} {H0 : Hp} {tl : TE} {kq : Addr} {ks : List Int} {Q : VK} (S : Addr → List Int → Hp → Prop) (htl : ∀ R : VK, (∀ q ns H, S q ns H → R (.ref q) H) → tl σ H0 R) (hx : ∀ y : V, ((wipe σ [i]).set i (some y))[x]? = some (some (.ref kq))) (hS : ∀ q ns H, S q ns H → H q = some (.lst (ns.map V.int)) ∧ H kq = some (.lst (ks.map V.int)) ∧ ns.length ≤ 100)
    (hw : ∀ y, wipe ((wipe σ [i]).set i y) [i] = wipe σ [i]) (hget : ∀ y : V, ((wipe σ [i]).set i (some y))[i]? = some (some y))
    (k : ∀ q ns H, S q ns H → ∀ (D : Addr) H', Same H H' → H D = none → H' D = some (.lst ((ns.filter fun i => !decide (i ∈ ks)).map V.int)) → Q (.ref D) H') : tLc (iList K tl) (gName i) (tTest (tOp (rIn K true) (tVar i) (tVar x))) (tVar i) [i] σ H0 Q := htl _ fun q ns H hs => by
  obtain ⟨h1, h2, h3⟩ := hS q ns H hs
  exact ⟨q, rfl, ⟨_, SqL.of h1⟩, lc_pickN (K := K) hx h1 h2 h3 hw hget (k q ns H hs)⟩
end My
set_option Elab.async false
set_option linter.all false
set_option maxRecDepth 100000
set_option maxHeartbeats 8000000
namespace My
open PySem L2 SS LamX
structure PapOk (cs : List (Int × Dt)) (roots kept : List Int) : Prop where
  ok : CsOk cs
  rp : roots.Pairwise (· < ·)
  rk : ∀ i ∈ roots, i ∈ cs.map (·.1)
  st : stB cs roots kept = true
theorem st_of {cs : List (Int × Dt)} {roots kept : List Int} (h1 : ∀ i ∈ roots, i ∈ kept) (h2 : Closed cs kept) : stB cs roots kept = true := by
  unfold stB
  rw [Bool.and_eq_true, List.all_eq_true, List.all_eq_true]
  exact ⟨fun i hi => decide_eq_true (h1 i hi), fun i hi => h2 i hi⟩
def spPa (T : List (Addr × Str)) : Sp := fun vs H Q _ => ∃ (p l m : Addr) (a : Nat), vs = [.ref p] ∧ DkQ H p l m a ∧ a ≤ 500000 ∧ LamX.Tabs T H ∧ ∀ t cs roots kept H', FX [p, l] H H' → DkQ H' p l m (a + 1200) → LamX.Tabs T H' → TldOk H' t cs roots kept → PapOk cs roots kept → Q (.ref t) H'
section
variable {P : Program} {w : World} {K : PySem.W.Frag} {mg : Str → Option Value} {base : Heap}
theorem scPaper : FnScope ["_law_deck_here", "_law_cells_here", "_law_places_here", "_law_roots", "_law_more", "_law_address"] ["_law_deck_here"] (defScope s__law_paper) := ⟨rfl, rfl, rfl, by decide +kernel, rfl, by decide +kernel, by decide +kernel⟩
theorem c_pap {T : List (Addr × Str)} (b_sorted : mg "sorted" = none) (b_list : mg "list" = none) (NX : C0 P w K mg base 1 "_law_next" spNx) (CSC : C0 P w K mg base 5 "_law_cells" spCs) (CL : C0 P w K mg base 2 "_law_closed" spCl) (TD : C0 P w K mg base 3 "_law_told" (spTd T)) (D : Dn K mg "_law_paper" s__law_paper) : C0 P w K mg base 6 "_law_paper" (spPa T) := by
  obtain ⟨f, fd, F, hmm⟩ := D.ex
  refine ⟨f, fd, ["_law_deck_here"], F.ok scPaper (fun vs H Q E h => ?_) (fun cdv A outer s H vs Q E hr h => ?_), hmm, F.kp, F.binds (ps := ["_law_deck_here"]) fun _ _ _ _ _ _ us hl => match us, hl with | [_], _ => rfl⟩
  · obtain ⟨p, l, m, a, rfl, _⟩ := h
    rfl
  obtain ⟨p, l, m, a, rfl, dn, ha, tbn, kq⟩ := h
  refine ⟨_, pss_cons (ps_set (i := 1) scPaper.nd rfl (Or.inl rfl) (pe_cc CSC hr (by omega) pass0 (pa_cons (pv 0) pa_nil))) <|
    pss_cons (ps_set (i := 2) scPaper.nd rfl (Or.inl rfl) (pe_callB cr_sortedI (by rfl) b_sorted PyProof.Rows.boot_sorted (pa_cons (pe_callTy (call_listD rfl) (by rfl) b_list (by decide +kernel) (pa_cons (pv 1) pa_nil)) pa_nil))) <|
    pss_cons (ps_setLc (i := 3) (own := [("_law_address", 5)]) (g := (gName 5)) (by rfl) scPaper.nd rfl rfl (sw_true rfl rfl rfl (by decide +kernel)) (pi_list (pv 2)) (blkOk_by (own := [("_law_address", 5)]) (N := ["_law_deck_here", "_law_cells_here", "_law_places_here", "_law_roots", "_law_more", "_law_address"]) (sc := defScope s__law_paper) (by decide +kernel)) (fun _ _ _ _ _ => (pg_name (i := 5) scPaper.nd rfl (Or.inl rfl))) (fun _ _ _ _ _ => pts_one (pt_cmpR op_eq (pe_cc NX hr (by omega) pass0 (pa_cons (pv 0) (pa_cons pe_int pa_nil))) pe_int (nomark _))) (fun _ _ _ _ _ => (pv 5))) <|
    pss_cons (ps_setLc (i := 4) (own := [("_law_address", 5)]) (g := (gName 5)) (by rfl) scPaper.nd rfl rfl (sw_true rfl rfl rfl (by decide +kernel)) (pi_list (pv 2)) (blkOk_by (own := [("_law_address", 5)]) (N := ["_law_deck_here", "_law_cells_here", "_law_places_here", "_law_roots", "_law_more", "_law_address"]) (sc := defScope s__law_paper) (by decide +kernel)) (fun _ _ _ _ _ => (pg_name (i := 5) scPaper.nd rfl (Or.inl rfl))) (fun _ _ _ _ _ => pts_one (pt_cmpR op_eq (pe_cc NX hr (by omega) pass0 (pa_cons (pv 0) (pa_cons pe_int pa_nil))) pe_int (nomark _))) (fun _ _ _ _ _ => (pv 5))) <|
    pss_one (ps_ret (pe_cc TD hr (by omega) pass0 (pa_cons (pv 0) (pa_cons (pv 1) (pa_cons (pv 3) (pa_cons (pe_cc CL hr (by omega) pass0 (pa_cons (pv 1) (pa_cons (pe_op op_cat (pv 3) (pv 4)) pa_nil))) pa_nil)))))), ?_⟩
  refine ⟨_, rfl, p, l, m, _, rfl, dn, by omega, fun c cs H2 s2 d2 hc2 hcs ok => ?_⟩
  have tb2 := Tabs.sx dn.lsts s2 tbn
  obtain ⟨kvs, hkc, hvs⟩ := hcs
  have hcl : (cs.map (·.1)).length ≤ 10 := by rw [List.length_map]; exact ok.l
  have hkk : (kvZ (fun c : Int × Dt => c.1) cs kvs).map (·.1) = (cs.map (·.1)).map Sum.inl := by
    rw [kvZ_keys (by rw [← hvs.len, List.length_map]), List.map_map]
    rfl
  have hkeys : (kvZ (fun c : Int × Dt => c.1) cs kvs).map (fun kv => kV kv.1) = (cs.map (·.1)).map V.int := by
    have := congrArg (List.map (kV : Key → V)) hkk
    rw [List.map_map, List.map_map] at this
    exact this
  refine ⟨_, rfl, c, _, rfl, hkc, fun l0 hl0 => ?_⟩
  rw [hkeys]
  refine ⟨l0, cs.map (·.1), rfl, SqL.of upd_same, fun ms pl hpm hpw hpl => ?_⟩
  obtain rfl : ms = cs.map (·.1) := le_unique hpw (ok.r.imp fun h => by omega) hpm
  have s3 := (same_new hl0 (.lst ((cs.map (·.1)).map V.int))).trans (same_new hpl (.lst ((cs.map (·.1)).map V.int)))
  have f3 : upd (upd H2 l0 (.lst ((cs.map (·.1)).map V.int))) pl (.lst ((cs.map (·.1)).map V.int)) pl = some (.lst ((cs.map (·.1)).map V.int)) := upd_same
  have npl : pl ∉ [p, l] := ne2 (d2.ne ((same_new hl0 _).free hpl))
  have cs3 : CsAt (upd (upd H2 l0 (.lst ((cs.map (·.1)).map V.int))) pl (.lst ((cs.map (·.1)).map V.int))) c cs := CsAt.sx (B := []) ok.nl (fun _ h => by cases h) (SX.same s3) ⟨kvs, hkc, hvs⟩
  have d3 := d2.same s3
  have tb3 := Tabs.sx (B := []) (fun _ h => by cases h) (SX.same s3) tb2
  have s23 : SX [p, l] H (upd (upd H2 l0 (.lst ((cs.map (·.1)).map V.int))) pl (.lst ((cs.map (·.1)).map V.int))) := s2.trans (SX.same s3)
  generalize upd (upd H2 l0 (.lst ((cs.map (·.1)).map V.int))) pl (.lst ((cs.map (·.1)).map V.int)) = H3 at f3 cs3 d3 tb3 s23 ⊢
  refine nx_go (asg_go (lc_pickD (x := 2) (i := 5) (σ := [some (.ref p), some (.ref c), some (.ref pl), none, none, none]) rfl d3 f3 npl (by omega) (fun _ => rfl) (fun _ => rfl) (fun y H5 b d5 hb R hR => ?_) fun rp roots H5 s5 d5 hrp f5 sub5 => ?_))
  · exact ⟨_, rfl, p, l, m, b, 4, rfl, by decide, d5, by omega, fun n H6 s6 d6 _ _ => ⟨rfl, _, rfl, hR _ _ s6 d6⟩⟩
  have pl5 := s5 _ _ npl f3
  have nrp := ne2 (d3.ne hrp)
  refine (asg_go (lc_pickD (x := 2) (i := 5) (σ := [some (.ref p), some (.ref c), some (.ref pl), some (.ref rp), none, none]) rfl d5 pl5 npl (by omega) (fun _ => rfl) (fun _ => rfl) (fun y H5 b d5 hb R hR => ?_) fun mp more H6 s6 d6 hmp f6 sub6 => ?_))
  · exact ⟨_, rfl, p, l, m, b, 6, rfl, by decide, d5, by omega, fun n H6 s6 d6 _ _ => ⟨rfl, _, rfl, hR _ _ s6 d6⟩⟩
  have r6 := s6 _ _ nrp f5
  have cs6 := CsAt.sx ok.nl d5.lsts s6 (CsAt.sx ok.nl d3.lsts s5 cs3)
  have tb6 := Tabs.sx d5.lsts s6 (Tabs.sx d3.lsts s5 tb3)
  have rmem : ∀ i ∈ roots, i ∈ cs.map (·.1) := fun i hi => sub5.subset hi
  have rpw : roots.Pairwise (· < ·) := ok.r.sublist sub5
  have hrl : roots.length ≤ 10 := Nat.le_trans sub5.length_le hcl
  have hml : more.length ≤ 10 := Nat.le_trans sub6.length_le hcl
  refine ret_go ⟨_, rfl, _, rfl, _, rfl, _, rfl, _, rfl, _, rfl, rp, mp, _, _, rfl, rfl, r6, f6, Evl.sz_of (by rw [List.length_map, List.length_map]; omega), fun t ht => ?_⟩
  have em : roots.map V.int ++ more.map V.int = (roots ++ more).map V.int := (List.map_append ..).symm
  rw [em]
  have s7 := same_new ht (.lst ((roots ++ more).map V.int))
  refine ⟨c, t, cs, roots ++ more, rfl, CsAt.sx (B := []) ok.nl (fun _ h => by cases h) (SX.same s7) cs6, ok, upd_same, by rw [List.length_append]; omega, fun i hi => ?_, fun q ks H8 s8 hq8 f8 hp8 h81 h82 h83 h84 => ?_⟩
  · rcases List.mem_append.mp hi with hi | hi
    · exact rmem i hi
    · exact sub6.subset hi
  have s78 := s7.trans s8
  have hq6 : H6 q = none := s7.free hq8
  refine ⟨p, l, m, c, rp, q, _, cs, roots, ks, rfl, (d6.same s78), by omega, CsAt.sx (B := []) ok.nl (fun _ h => by cases h) (SX.same s78) cs6, ok, .inl ⟨s78 _ _ r6, nrp⟩, f8, ne2 (d6.ne hq6), hp8, h82, rpw, rmem, Tabs.sx (B := []) (fun _ h => by cases h) (SX.same s78) tb6, fun t' H9 fx d9 tb9 tld => ?_⟩
  have hks : ks.length ≤ 10 := Nat.le_trans (nodup_le (lt_nodup hp8) h82) hcl
  exact kq t' cs roots ks H9 ((FX.sx (s23.trans (s5.trans (s6.trans (SX.same s78))))).trans fx) (d9.mono (by omega)) tb9 tld ⟨ok, rpw, rmem, st_of (fun i hi => h81 i (List.mem_append_left _ hi)) h83⟩
end
end My
set_option Elab.async false
set_option linter.all false
set_option maxRecDepth 100000
set_option maxHeartbeats 8000000
namespace My
open PySem L2 SS LamX
theorem lf_nl {d : Dt} (h : LfOk d) : NlD d := by
  induction h with
  | v _ => exact .v
  | tup _ ih => exact .tup ih
theorem lf_4 {a b c d : Dt} (h : LfOk (.tup [a, b, c, d])) : LfOk a ∧ LfOk b ∧ LfOk c ∧ LfOk d := by
  have hu := lf_u h
  exact ⟨hu a (by simp), hu b (by simp), hu c (by simp), hu d (by simp)⟩
theorem TldOk.tups {H H' : Hp} {u : Addr} {cs : List (Int × Dt)} {roots kept : List Int} (t : Tups H H') (h : TldOk H u cs roots kept) : TldOk H' u cs roots kept := by
  obtain ⟨b, r, m, hh, bp, mp, mv, bs, h1, h2, h3, ⟨us1, o1, f1, g1⟩, ⟨us2, o2, f2, g2⟩, h6, h7, h8, h9, h10, h11, h12, h13⟩ := h
  obtain ⟨l1, l2, l3, l4⟩ := lf_4 h12
  exact ⟨b, r, m, hh, bp, mp, mv, bs, TupA.tups t h1, h2, h3, ⟨us1, o1, t.frz _ _ _ f1, g1⟩, ⟨us2, o2, t.frz _ _ _ f2, g2⟩, AtD.tups t h6 (lf_nl l1), AtD.tups t h7 (lf_nl l2), AtD.tups t h8 (lf_nl l3), AtD.tups t h9 (lf_nl l4), h10, h11, h12, h13⟩
theorem pap_less {cs : List (Int × Dt)} {roots roots' kept : List Int} {mv : Int → Int} {bs : List Dt} (h : LfOk (papD cs roots kept mv bs)) (w : Wt 200000 (papD cs roots kept mv bs)) (s : roots'.Sublist roots) : LfOk (papD cs roots' kept mv bs) ∧ Wt 200000 (papD cs roots' kept mv bs) := by
  constructor
  · obtain ⟨l1, l2, l3, l4⟩ := lf_4 h
    refine .tup fun d hd => ?_
    simp only [List.mem_cons, List.not_mem_nil, or_false] at hd
    rcases hd with rfl | rfl | rfl | rfl
    · exact l1
    · refine .tup fun e he => ?_
      obtain ⟨i, hi, rfl⟩ := List.mem_map.mp he
      exact lf_u l2 _ (List.mem_map_of_mem (s.subset hi))
    · exact l3
    · exact l4
  · unfold papD at w
    cases w with
    | @tup k m _ _ hw hk hn =>
      refine .tup (k := k) (m := m) (fun d hd => ?_) hk hn
      simp only [List.mem_cons, List.not_mem_nil, or_false] at hd
      rcases hd with rfl | rfl | rfl | rfl
      · exact hw _ (by simp)
      · have w2 : Wt m (inD_ roots) := hw _ (by simp)
        unfold inD_ at w2 ⊢
        cases w2 with
        | @tup k' m' _ _ hw' hk' hn' =>
          refine .tup (k := k') (m := m') (fun e he => ?_) (by rw [List.length_map] at hk' ⊢; exact Nat.le_trans s.length_le hk') hn'
          obtain ⟨i, hi, rfl⟩ := List.mem_map.mp he
          exact hw' _ (List.mem_map_of_mem (s.subset hi))
      · exact hw _ (by simp)
      · exact hw _ (by simp)
theorem st_less {cs : List (Int × Dt)} {roots roots' kept : List Int} (h : stB cs roots kept = true) (s : roots'.Sublist roots) : stB cs roots' kept = true := by
  have h' := Bool.and_eq_true _ _ ▸ h
  unfold stB
  rw [Bool.and_eq_true]
  exact ⟨List.all_eq_true.mpr fun i hi => List.all_eq_true.mp h'.1 i (s.subset hi), h'.2⟩
/-- the numbers of a tuple -/
theorem tup_ints {H : Hp} {n : Nat} {ns : List Int} {v : V} (h : AtD H (n + 1) (inD_ ns) v) : ∃ q, v = .ref q ∧ TupA H q (ns.map V.int) := by
  obtain ⟨p, us, rfl, hp, hl0, al⟩ := h
  refine ⟨p, rfl, ?_⟩
  have e : us = ns.map V.int := by
    clear hp hl0
    induction ns generalizing us with
    | nil => cases al; rfl
    | cons i ns ih =>
      cases al with
      | cons r t =>
        obtain ⟨rfl, _⟩ := atD_pl r
        rw [ih _ t]
        rfl
  rw [← e]
  exact hp
theorem tcons_go {te : TE} {ta : TA} {σ : L2.St} {H : Hp} {Q : List V → Hp → Prop} (h : te σ H fun v H1 => ta σ H1 fun vs H2 => Q (v :: vs) H2) : tCons te ta σ H Q := h
theorem tcb_go {r : List V → Hp → VK → Prop} {ta : TA} {σ : L2.St} {H : Hp} {Q : VK} (h : ta σ H fun xs H1 => r xs H1 Q) : tCB r ta σ H Q := h
/-- [n for n in t if a draw says so], t a tuple -/
theorem lc_pickT {i : Nat} {K : PySem.W.Frag} {σ : L2.St} {H : Hp} {p l m q : Addr} {a : Nat} {ns : List Int} {tl : TE} {tt : TT} {Q : VK} (htl : ∀ R : VK, R (.ref q) H → tl σ H R) (d : DkQ H p l m a) (hq : TupA H q (ns.map V.int)) (hl : ns.length ≤ 100)
    (hw : ∀ y, wipe ((wipe σ [i]).set i y) [i] = wipe σ [i]) (hget : ∀ y : V, ((wipe σ [i]).set i (some y))[i]? = some (some y))
    (ht : ∀ y H1 b, DkQ H1 p l m b → b ≤ a + ns.length → ∀ R : Bool → Hp → Prop, (∀ c H2, SX [p, l] H1 H2 → DkQ H2 p l m (b + 1) → R c H2) → tt ((wipe σ [i]).set i (some y)) H1 R)
    (k : ∀ (D : Addr) (ms : List Int) H', SX [p, l] H H' → DkQ H' p l m (a + ns.length) → H D = none → H' D = some (.lst (ms.map V.int)) → ms.Sublist ns → Q (.ref D) H') : tLc (iTup K tl) (gName i) tt (tVar i) [i] σ H Q := by
  refine htl _ ⟨q, rfl, ⟨_, TupA.sq hq⟩, fun D hD => ?_⟩
  have nD := d.ne hD
  refine lc_tup (xs := ns.map V.int) (fun j Hn => SX [p, l] H Hn ∧ DkQ Hn p l m (a + j) ∧ ∃ ms : List Int, Hn D = some (.lst (ms.map V.int)) ∧ ms.Sublist (ns.take j)) ⟨SX.refl.new hD, d.set nD _, [], upd_same, List.nil_sublist _⟩ (fun j Hn _ h => TupA.sq (Rd.fx (fun _ z => by cases z) (fun _ z => by cases z) d.lsts (FX.sx h.1) hq)) ?_ ?_
  · rintro j y Hn hj ⟨s, dn, ms, hm, hsub⟩
    rw [List.getElem?_map] at hj
    obtain ⟨z, hz, rfl⟩ := Option.map_eq_some_iff.mp hj
    have hjl : j < ns.length := (List.getElem?_eq_some_iff.mp hz).1
    have et : ns.take (j + 1) = ns.take j ++ [z] := by rw [List.take_add_one, hz]; rfl
    have hml : ms.length ≤ 100 := by
      have := hsub.length_le
      rw [List.length_take] at this
      omega
    refine ⟨hw _, ht _ Hn (a + j) dn (by omega) _ fun c H2 s2 d2 => ?_⟩
    have hm2 := s2 _ _ (ne2 nD) hm
    cases c with
    | true =>
      refine iteT ⟨_, hget _, ms.map V.int, hm2, by rw [List.length_map, sizeLine_eq]; omega, (s.trans s2).late hD _, (d2.set nD _).mono (by omega), ms ++ [z], by rw [upd_same, List.map_append]; rfl, ?_⟩
      rw [et]
      exact hsub.append (List.Sublist.refl _)
    | false =>
      refine iteF ⟨s.trans s2, d2.mono (by omega), ms, hm2, ?_⟩
      rw [et]
      exact hsub.trans (List.sublist_append_left _ _)
  · rintro Hn ⟨s, dn, ms, hm, hsub⟩
    rw [List.length_map] at dn hsub
    rw [List.take_length] at hsub
    exact k D ms Hn s dn hD hm hsub
def spFw : Sp := fun vs H Q _ => ∃ (p l m t : Addr) (a : Nat) (cs : List (Int × Dt)) (roots kept : List Int), vs = [.ref p, .ref t] ∧ DkQ H p l m a ∧ a ≤ 800000 ∧ TldOk H t cs roots kept ∧ PapOk cs roots kept ∧ ∀ t' roots' H', SX [p, l] H H' → DkQ H' p l m (a + 10) → TldOk H' t' cs roots' kept → PapOk cs roots' kept → Q (.ref t') H'
section
variable {P : Program} {w : World} {K : PySem.W.Frag} {mg : Str → Option Value} {base : Heap}
theorem scFw : FnScope ["_law_deck_here", "_law_paper_here", "_law_root"] ["_law_deck_here", "_law_paper_here"] (defScope s__law_fewer) := ⟨rfl, rfl, rfl, by decide +kernel, rfl, by decide +kernel, by decide +kernel⟩
theorem c_fw (b_tuple : mg "tuple" = none) (NX : C0 P w K mg base 1 "_law_next" spNx) (D : Dn K mg "_law_fewer" s__law_fewer) : C0 P w K mg base 2 "_law_fewer" spFw := by
  obtain ⟨f, fd, F, hmm⟩ := D.ex
  refine ⟨f, fd, ["_law_deck_here", "_law_paper_here"], F.ok scFw (fun vs H Q E h => ?_) (fun cdv A outer s H vs Q E hr h => ?_), hmm, F.kp, F.binds (ps := ["_law_deck_here", "_law_paper_here"]) fun _ _ _ _ _ _ us hl => match us, hl with | [_, _], _ => rfl⟩
  · obtain ⟨p, l, m, t, a, cs, roots, kept, rfl, _⟩ := h
    rfl
  obtain ⟨p, l, m, t, a, cs, roots, kept, rfl, dk, ha, tld, po, kq⟩ := h
  refine ⟨_, pss_one (ps_ret (pe_tup (pa_cons (pe_ix (r := rIxT K) ix_tup (pv 1) pe_int (fun _ _ => rfl)) (pa_cons (pe_callTy call_tuple_ofF (by rfl) b_tuple (by decide +kernel) (pa_cons (pe_lc (own := [("_law_root", 2)]) (g := (gName 2)) rfl scFw.nd (pi_tup (pe_ix (r := rIxT K) ix_tup (pv 1) pe_int (fun _ _ => rfl))) (blkOk_by (own := [("_law_root", 2)]) (N := ["_law_deck_here", "_law_paper_here", "_law_root"]) (sc := defScope s__law_fewer) (by decide +kernel)) (fun _ _ _ _ _ => (pg_name (i := 2) scFw.nd rfl (Or.inl rfl))) (fun _ _ _ _ _ => pts_one (pt_cmpR op_eq (pe_cc NX hr (by omega) pass0 (pa_cons (pv 0) (pa_cons pe_int pa_nil))) pe_int (nomark _))) (fun _ _ _ _ _ => (pv 2))) pa_nil)) (pa_cons (pe_ix (r := rIxT K) ix_tup (pv 1) pe_int (fun _ _ => rfl)) (pa_cons (pe_ix (r := rIxT K) ix_tup (pv 1) pe_int (fun _ _ => rfl)) pa_nil)))))), ?_⟩
  obtain ⟨b, r, mm, hh, bp, mp, mv, bs, h1, h2, h3, h4, h5, h6, h7, h8, h9, h10, h11, h12, h13⟩ := id tld
  obtain ⟨q, rfl, hq⟩ := tup_ints (n := 7) h7
  have hcl : (cs.map (·.1)).length ≤ 10 := by rw [List.length_map]; exact po.ok.l
  have hrl : roots.length ≤ 10 := Nat.le_trans (nodup_le (lt_nodup po.rp) po.rk) hcl
  refine ⟨_, rfl, t, _, _, _, rfl, rfl, TupA.sq h1, rfl, ?_⟩
  refine tcons_go (tcb_go (tcons_go (lc_pickT (K := K) (tl := tOp (rIxT K) (tVar 1) (tC (.int 1))) (σ := [some (.ref p), some (.ref t), none]) (i := 2) (fun R hR => ⟨_, rfl, t, _, _, _, rfl, rfl, TupA.sq h1, rfl, hR⟩) dk hq (by omega) (fun _ => rfl) (fun _ => rfl) (fun y H5 b d5 hb R hR => ?_) fun D roots' H5 s5 d5 hD f5 sub => ?_)))
  · exact ⟨_, rfl, p, l, m, b, 2, rfl, by decide, d5, by omega, fun n H6 s6 d6 _ _ => ⟨rfl, _, rfl, hR _ _ s6 d6⟩⟩
  refine ⟨D, _, rfl, SqL.of f5, fun rp ob hrp hob => ?_⟩
  have s6 := same_new hrp (.frz ob (.tup (roots'.map V.int)))
  have t5 := dk.lsts.tups s5
  have tl6 : TldOk (upd H5 rp (.frz ob (.tup (roots'.map V.int)))) t cs roots kept := (tld.tups t5).tups (same_tups s6)
  have f6 : TupA (upd H5 rp (.frz ob (.tup (roots'.map V.int)))) rp (roots'.map V.int) := .inr ⟨ob, upd_same⟩
  have d6 := d5.same s6
  have sx6 : SX [p, l] H (upd H5 rp (.frz ob (.tup (roots'.map V.int)))) := s5.new hrp
  have h16 := TupA.tups (same_tups s6) (TupA.tups t5 h1)
  generalize upd H5 rp (.frz ob (.tup (roots'.map V.int))) = H6 at tl6 f6 d6 sx6 h16 ⊢
  refine ⟨_, rfl, t, _, _, _, rfl, rfl, TupA.sq h16, rfl, ?_⟩
  refine ⟨_, rfl, t, _, _, _, rfl, rfl, TupA.sq h16, rfl, ?_⟩
  refine ⟨by show 4 ≤ sizeLine; decide, fun t' ht' => ?_⟩
  have s7 := same_new ht' (.tup [b, .ref rp, mm, hh])
  have tt7 := same_tups s7
  obtain ⟨l1, l2, l3, l4⟩ := lf_4 h12
  have h6t := AtD.tups (H := H) (H' := upd H6 t' (.tup [b, .ref rp, mm, hh]))
  have hlw := pap_less h12 h13 sub
  have hrl' : roots'.length ≤ 10 := Nat.le_trans sub.length_le hrl
  -- what stands of the paper stands
  have st : ∀ {n : Nat} {d : Dt} {v : V}, AtD H n d v → LfOk d → AtD (upd H6 t' (.tup [b, .ref rp, mm, hh])) n d v := fun h hl => AtD.tups tt7 (AtD.tups (dk.lsts.tups sx6) h (lf_nl hl)) (lf_nl hl)
  have fz : ∀ {x : Addr}, (∃ us, FrzT H x us) → ∃ us, FrzT (upd H6 t' (.tup [b, .ref rp, mm, hh])) x us := fun ⟨us, o, f, g⟩ => ⟨us, o, tt7.frz _ _ _ ((dk.lsts.tups sx6).frz _ _ _ f), g⟩
  refine kq t' roots' _ (sx6.new ht') ((d6.same s7).mono (by omega)) ⟨b, .ref rp, mm, hh, bp, mp, mv, bs, .inl upd_same, h2, h3, fz h4, fz h5, st h6 l1, (ints_tup (TupA.tups tt7 f6) (by omega)).mono (by decide), st h8 l3, st h9 l4, ?_, fun _ => h11 po.st, hlw.1, hlw.2⟩ ⟨po.ok, po.rp.sublist sub, fun i hi => po.rk i (sub.subset hi), st_less po.st sub⟩
  exact { h10 with rr := h10.rr.sublist sub, r0 := fun i hi => h10.r0 i (sub.subset hi) }
end
end My
set_option Elab.async false
set_option linter.all false
set_option maxRecDepth 100000
set_option maxHeartbeats 4000000
namespace My
open PySem PySem.Spec PyProof.Rows L2 SS LamX
/-! ### a law whose body asks for repr: it is run where no guard stands -/
/-- what the law's def does when the claim calls it -/
def FnG (P : Program) (w : World) (K : PySem.W.Frag) (mg : Str → Option Value) (base : Heap) (k : Nat) (fa : Addr) (fd : FuncData) (x : Str) (sp : Sp) : Prop :=
  ∀ (st : Shared) (H : Hp) (u : Value) (v : V) (Q : VK) (E : XK), Room k callerA → Env0 P w K mg base callerA [] st H → BindsTo st fd ⟨[u], []⟩ [(x, u)] → RelV v u → sp [v] H Q E →
    codeAny (model P w) callerA (.call (.ref fa) ⟨[u], []⟩) (CR CX0 [] P w H st Q E) st
section
variable {P : Program} {w : World} {K : PySem.W.Frag} {mg : Str → Option Value} {base : Heap}
theorem fnG_of {q x : Str} {st : Stmt} {fa : Addr} {fd : FuncData} {N : List Str} {k : Nat} {sp : Sp} (F : Fun K q q st fa fd) (S : FnScope N [x] (defScope st))
    (len : ∀ vs H Q E, sp vs H Q E → vs.length = 1)
    (hb : ∀ (cdv : Value) (sh : Shared) (H : Hp) (v : V) (Q : VK) (E : XK), Room k (callerA.deeper (envOfC q (defScope st) sh.heap.objs.size fa cdv)) → sp [v] H Q E →
      ∃ t, PSs (cxOf CX0 P w K mg base N q (defScope st) fa cdv callerA [] sh H E).nox (defBody st) t ∧ t { nx := fun _ H' => Q .non H', rt := Q } (L2.start N [v]) H) :
    FnG P w K mg base (k + 1) fa fd x sp := by
  intro sh H u v Q E room env bnd rel hsp
  obtain ⟨oc, od, kw, doc, pm, an, cdv, cell, slots, rfl, look, code⟩ := F.ex
  have inK : K.In sh.heap := env.mod.kin.keeps fun c ob z => (env.bs c ob z).1
  have free : sh.heap.NoLimit := env.mod.nolimit.keeps fun c ob z => (env.bs c ob z).1
  have kinds : ∀ z ∈ [x].zip [u], (defScope st).names.lookup z.1 = some .local ∨ ((defScope st).names.lookup z.1 = some .cell ∧ ((cellsFrom (sh.heap.objs.size + 1) (defScope st).names []).lookup z.1).isSome = true) := fun z hz => by
    have hx : z.1 ∈ [x] := (List.of_mem_zip (a := z.1) (b := z.2) hz).1
    rcases S.par z.1 hx with lo | ce
    · exact .inl lo
    · exact .inr ⟨ce, PySem.W.cellsFrom_some _ _ _ (.inl ce)⟩
  refine codeAny_call_function room.depth (inK _ _ look) rfl S.co S.gen rfl (PySem.W.codeRec_of inK code) (bnd _ _ _ _ (wpAny_newFunctionEnv_cells S.kind kinds fun e' same sh1 laid => ?_))
  subst same
  refine ⟨free.keeps laid.toInCall.keep, codeAny_func ?_⟩
  obtain ⟨t, hp, ht⟩ := hb cdv sh H v Q E (room.deeper _) hsp
  have J := inv_start (CX := CX0) (base := base) (E := E) S room.hd env (vs := [v]) (us := [u]) rfl (.cons rel .nil) laid
  refine wpAny_mono (hp.nox.run [] sh1 (L2.start N [v]) H _ J ht) (fun out sh2 got => ?_) fun _ _ got => got
  match out, got with
  | .ret u2, ⟨v2, _, H2, J2, rel2, q2⟩ => exact ⟨v2, H2, J2.os, J2.bare, J2.base, J2.hok, rel2, q2⟩
  | .next, ⟨_, H2, J2, q2⟩ => exact ⟨.non, H2, J2.os, J2.bare, J2.base, J2.hok, rfl, q2⟩
  | .brk, ⟨_, _, _, no⟩ => exact no.elim
  | .cont, ⟨_, _, _, no⟩ => exact no.elim
theorem law_callG {mb : Str → Option Value} {k : Nat} {fa scr code tab : Addr} {fd : FuncData} {x : Str} {sp : Sp} {sh : Shared} {vs : List Value} {ns : List Int}
    (inK : K.In sh.heap) (top : sh.heap.Ns mainGlobals mg) (bi : sh.heap.Ns builtinsNs mb) (boot : ∀ y : Str, y ≠ "__name__" → mb y = bootBuiltins y) (nolim : sh.heap.NoLimit) (nogen : sh.gens = #[])
    (empty : sh.heap.get? tab = some { cls := .none, data := .fields #[] }) (loose : K.lookup tab = none) (hd : PySem.W.CodeHd sh.heap code tab)
    (bmod : ∃ (bm : Addr) (ob : Obj), mg "__builtins__" = some (.ref bm) ∧ bm ≠ builtinsNs ∧ sh.heap.get? bm = some ob ∧ ob.cls = .type "module" ∧ ob.dict = some builtinsNs ∧ ob.data = .plain)
    (lst : sh.heap.get? scr = some { cls := .type "list", data := .seq vs.toArray }) (numb : IntsAre vs ns) (fits : ns.length ≤ sizeLine) (room : Room k callerA)
    (F : ∀ base : Heap, K.In base → base.Ns mainGlobals mg → LamX.TabB base mg code tab → FnG P w K mg base k fa fd x sp) (binds : ∀ (s : Shared) (u : Value), BindsTo s fd ⟨[u], []⟩ [(x, u)])
    (post : ∀ H : Hp, H tab = some (.tbl #[]) → SqL K H scr (ns.map V.int) → sp [.ref scr] H (fun v _ => v = .bl true) fun _ _ _ => False) :
    codeAny (model P w) callerA (.call (.ref fa) ⟨[.ref scr], []⟩) (fun r s' => r = .ok (.ret (.bool true)) ∧ OldK sh.heap s'.heap ∧ s'.os = sh.os ∧ AllBare s'.gens) sh := by
  have vals := vals_ints numb
  have vlen := numb.length
  have apart : scr ≠ tab := fun z => by
    rw [z, empty] at lst
    have := congrArg Obj.data (Option.some.inj lst)
    cases this
  -- what is tracked: the table, and the script where K doesn't hold it
  have main : ∀ H : Hp, H tab = some (.tbl #[]) → (∀ c u, H c = some u → c = tab ∨ (c = scr ∧ K.lookup scr = none ∧ ∃ o xs, u = .frz o (.lst xs))) → SqL K H scr (ns.map V.int) → HOk P w H sh.heap →
      codeAny (model P w) callerA (.call (.ref fa) ⟨[.ref scr], []⟩) (fun r s' => r = .ok (.ret (.bool true)) ∧ OldK sh.heap s'.heap ∧ s'.os = sh.os ∧ AllBare s'.gens) sh := by
    intro H ht only sq ok
    -- an object that is neither a list nor a table isn't tracked
    have plain : ∀ {c : Addr} {ob : Obj}, sh.heap.get? c = some ob → (∀ ws m, ob.data ≠ .seq ws m) → ob.data ≠ .fields #[] → H c = none := fun {c ob} g n1 n2 => by
      cases tr : H c with
      | none => rfl
      | some u =>
        rcases only c u tr with rfl | ⟨rfl, _, _⟩
        · rw [empty] at g
          obtain rfl := Option.some.inj g
          exact absurd rfl n2
        · rw [lst] at g
          obtain rfl := Option.some.inj g
          exact absurd rfl (n1 _ _)
    have ns' : ∀ {c : Addr} {m : Str → Option Value}, sh.heap.Ns c m → (hidT sh.heap H).Ns c m := fun {c m} ⟨ob, es, ep, g, isD, rest⟩ => ⟨ob, es, ep, hidT_get g (plain g (fun ws j z => by rw [isD] at z; cases z) fun z => by rw [isD] at z; cases z), isD, rest⟩
    have inK' : K.In (hidT sh.heap H) := fun c ob g => hidT_get (inK c ob g) (by
      cases tr : H c with
      | none => rfl
      | some u =>
        rcases only c u tr with rfl | ⟨rfl, no, _⟩
        · rw [loose] at g; cases g
        · rw [no] at g; cases g)
    have mod : L2.Mod K mg (hidT sh.heap H) := by
      obtain ⟨mc, l1, l2⟩ := nolim
      exact ⟨inK', ns' top, ⟨mb, ns' bi, boot⟩, ⟨mc, ns' l1, l2⟩⟩
    have tabB : LamX.TabB (hidT sh.heap H) mg code tab := by
      constructor
      · obtain ⟨ob, us, file, tf, fl, tg, inF, tx, tt, g, r1, r2, r3, r4⟩ := hd
        refine ⟨ob, us, file, tf, fl, tg, inF, tx, tt, hidT_get g (plain g (fun ws j z => by rw [r2] at z; cases z) fun z => ?_), r1, r2, r3, r4⟩
        rw [r2] at z
        obtain rfl := Data.fields.inj z
        cases r3
      · obtain ⟨bm, ob, b1, b2, g, b4, b5, b6⟩ := bmod
        have notTop : bm ≠ mainGlobals := fun z => by
          obtain ⟨o2, es, ep, g2, d2, _⟩ := top
          rw [← z, g] at g2
          obtain rfl := Option.some.inj g2
          rw [b6] at d2
          cases d2
        have notTab : bm ≠ tab := fun z => by
          rw [z, empty] at g
          obtain rfl := Option.some.inj g
          cases b6
        exact ⟨bm, ob, b1, b2, notTop, notTab, hidT_get g (plain g (fun ws j z => by rw [b6] at z; cases z) fun z => by rw [b6] at z; cases z), b4, b5, b6⟩
      · intro z
        obtain ⟨o2, es, ep, g2, d2, _⟩ := top
        rw [z, empty] at g2
        obtain rfl := Option.some.inj g2
        cases d2
    have env : Env0 P w K mg (hidT sh.heap H) callerA [] sh H :=
      { frames := rfl, mod := mod, bs := fun c ob g => of_hidT g, bsz := Nat.le_of_eq (hidT_size _ _), funs := trivial, frf := fun c hc => absurd (show c ∈ ([] : List Addr) from hc) (by simp), hok := ok, bare := .of_eq nogen }
    refine codeAny_mono (F _ inK' (ns' top) tabB sh H (.ref scr) (.ref scr) _ _ room env (binds sh _) rfl (post H ht sq)) fun r s' got => ?_
    match r, got with
    | .error e, no => exact no.elim
    | .ok .next, no => exact no.elim
    | .ok .brk, no => exact no.elim
    | .ok .cont, no => exact no.elim
    | .ok (.ret u), ⟨v, H', os, bare, un, ok', rel, q⟩ =>
      have q : v = .bl true := q
      subst q
      obtain rfl : u = Value.bool true := rel
      have stay : ∀ c ob, c ≠ tab → sh.heap.get? c = some ob → s'.heap.get? c = some ob := fun c ob nt g => by
        cases tr : H c with
        | none => exact un.keep c ob g tr (fun z => nomatch (show c ∈ ([] : List Addr) from z)) (fun z => nomatch z)
        | some u =>
          rcases only c u tr with z | ⟨_, _, o, xs, rfl⟩
          · exact absurd z nt
          · have a1 := (ok c _ tr).1
            have a2 := (ok' c _ (un.frzs c o _ tr)).1
            rw [g] at a1
            obtain rfl := Option.some.inj a1
            exact a2
      obtain ⟨more, grown⟩ := un.tbls tab #[] ht
      have grown : s'.heap.get? tab = some { cls := .none, data := .fields (#[] ++ more) } := ok' tab _ grown
      refine ⟨rfl, ⟨fun c ob g => ?_, fun c ob g => ?_⟩, os, bare⟩
      · by_cases z : c = tab
        · subst z
          rw [empty] at g
          obtain rfl := Option.some.inj g
          exact .inr (.inl ⟨(hd.tab empty).isCodeTable, rfl, #[], more, rfl, grown⟩)
        · exact .inl (stay c ob z g)
      · by_cases z : c = tab
        · subst z
          exact ⟨_, grown⟩
        · exact ⟨ob, stay c ob z g⟩
  cases held : K.lookup scr with
  | some ob =>
    have g := inK scr ob held
    rw [lst] at g
    obtain rfl := Option.some.inj g
    refine main (fun c => if c = tab then some (.tbl #[]) else none) (if_pos rfl) (fun c u tr => ?_) (.inr ⟨_, vs.toArray, _, held, rfl, rfl, rfl, by rw [List.size_toArray, vlen]; exact fits, by simpa using vals⟩) fun c u tr => ?_
    · try dsimp only at tr
      by_cases z : c = tab
      · exact .inl z
      · rw [if_neg z] at tr
        cases tr
    · try dsimp only at tr
      by_cases z : c = tab
      · rw [if_pos z] at tr
        obtain rfl := Option.some.inj tr
        rw [z]
        exact empty
      · rw [if_neg z] at tr
        cases tr
  | none =>
    refine main (fun c => if c = tab then some (.tbl #[]) else if c = scr then some (.frz { cls := .type "list", data := .seq vs.toArray } (.lst (ns.map V.int))) else none) (if_pos rfl) (fun c u tr => ?_) (.inl (.inr ⟨{ cls := .type "list", data := .seq vs.toArray }, ?_⟩)) fun c u tr => ?_
    · try dsimp only at tr
      by_cases z : c = tab
      · exact .inl z
      · rw [if_neg z] at tr
        by_cases z2 : c = scr
        · rw [if_pos z2] at tr
          exact .inr ⟨z2, held, _, _, (Option.some.inj tr).symm⟩
        · rw [if_neg z2] at tr
          cases tr
    · show (if scr = tab then _ else if scr = scr then _ else _) = _
      rw [if_neg apart, if_pos rfl]
    · try dsimp only at tr
      by_cases z : c = tab
      · rw [if_pos z] at tr
        obtain rfl := Option.some.inj tr
        rw [z]
        exact empty
      · rw [if_neg z] at tr
        by_cases z2 : c = scr
        · rw [if_pos z2] at tr
          obtain rfl := Option.some.inj tr
          rw [z2]
          exact ⟨lst, by rw [List.length_map]; exact fits, vs, _, vals, lst⟩
        · rw [if_neg z2] at tr
          cases tr
end
end My
namespace My
open PySem PySem.Spec PyProof.Rows L2 SS LamX
/-- what must be known of the law at the head's heap -/
def LawG (l : PySem.W.OpenLaw) (w : World) (K : PySem.W.Frag) (k n : Nat) (x : Str) (mg : Str → Option Value) (fa : Addr) (h : Heap) : Prop :=
  ∃ (fd : FuncData) (code tab : Addr) (sp : Sp), h.get? tab = some { cls := .none, data := .fields #[] } ∧ K.lookup tab = none ∧ PySem.W.CodeHd h code tab ∧ (∀ (s : Shared) (u : Value), BindsTo s fd ⟨[u], []⟩ [(x, u)]) ∧
    (∀ (H : Hp) (a : Addr) (ns : List Int), ns.length ≤ n → H tab = some (.tbl #[]) → SqL K H a (ns.map V.int) → sp [.ref a] H (fun v _ => v = .bl true) fun _ _ _ => False) ∧
    ∀ base : Heap, K.In base → base.Ns mainGlobals mg → LamX.TabB base mg code tab → FnG l.prog w K mg base k fa fd x sp
theorem walk_G {l : PySem.W.OpenLaw} {n k : Nat} {q : Program} {names : List Str} {XP : (Str → Option Value) → Heap → Prop} {YP : World → Heap → Prop} {d : DefRec} {K : Params → PySem.W.Frag} {x : Str}
    (most : l.most = some n) (line : n ≤ sizeLine) (plain : d.params.defaults = []) (room : Room k callerA) (inK : ∀ (w : World) (h : Heap), YP w h → (K w.params).In h)
    (F : ∀ (w : World) (mg : Str → Option Value) (fa : Addr) (h : Heap), YP w h → (K w.params).In h → h.Ns mainGlobals mg → mg d.name = some (.ref fa) → LawG l w (K w.params) k n x mg fa h) :
    PySem.W.WalkO q names XP YP l.row.toRowW d [] (fun f vs => PySem.call f vs) :=
  Att.attach_callB most plain fun w _ sh mg _ fa _ _ _ _ scr vs ns grd Y _ _ _ name lst numb few _ nogen => by
    obtain ⟨fd, code, tab, sp, h1, h2, h3, h4, h5, h6⟩ := F w mg fa _ Y (inK w _ Y) grd.T.g name
    exact law_callG (inK w _ Y) grd.T.g grd.T.b grd.T.builtins grd.T.nolimit nogen h1 h2 h3 grd.T.bmain lst numb (Nat.le_trans few line) room h6 h4 fun H a b => h5 H scr ns few a b
end My
set_option Elab.async false
set_option linter.all false
set_option maxRecDepth 100000
set_option maxHeartbeats 8000000
namespace My
open PySem L2 SS LamX
/-- a paper that stands -/
def Good (H : Hp) (u : V) : Prop := ∃ t cs roots kept, u = .ref t ∧ TldOk H t cs roots kept ∧ stB cs roots kept = true
theorem Good.tups {H H' : Hp} {u : V} (t : Tups H H') (h : Good H u) : Good H' u := by
  obtain ⟨x, cs, roots, kept, e, h1, h2⟩ := h
  exact ⟨x, cs, roots, kept, e, h1.tups t, h2⟩
theorem dictR {H : Hp} {n : Nat} {b : Addr} {cs : List (Int × Dt)} {Q : VK} (hd : AtD H (n + 2) (bfD cs) (.ref b)) (hf : ∃ us, FrzT H b us) (hn : (cs.map (·.1)).Nodup) (q : ∀ p H' vs, Same H H' → DcF H' p (kvZ (fun c => c.1) cs vs) → All2 (AtD H' n) (cs.map (·.2)) vs → Q (.ref p) H') :
    ∃ (a : Addr) (ps : List Addr) (kvs : List (Key × V)), [V.ref b] = [V.ref a] ∧ FrzT H a (ps.map V.ref) ∧ Paired (fun p kv => Rd H p (.tup [kV kv.1, kv.2])) ps kvs ∧ ∀ p ob, H p = none → Q (.ref p) (upd H p (.frz ob (.dK (mergeK [] kvs)))) := by
  obtain ⟨v, hv, hr⟩ := evd_dictZ (σ := [some (.ref b)]) (x := 0) (zs := cs) (k := fun c => c.1) (g := fun c => c.2) (Q := Q) rfl hd hf hn q
  obtain rfl : V.ref b = v := by
    have := Option.some.inj (Option.some.inj hv)
    exact this
  exact hr
theorem dict_go {te : TE} {σ : L2.St} {H H0 : Hp} {n : Nat} {b : Addr} {cs : List (Int × Dt)} {Q : VK} (hte : ∀ R : VK, R (.ref b) H → te σ H0 R) (hd : AtD H (n + 2) (bfD cs) (.ref b)) (hf : ∃ us, FrzT H b us) (hn : (cs.map (·.1)).Nodup) (q : ∀ p H' vs, Same H H' → DcF H' p (kvZ (fun c => c.1) cs vs) → All2 (AtD H' n) (cs.map (·.2)) vs → Q (.ref p) H') :
    tCB (fun xs H Q => ∃ (a : Addr) (ps : List Addr) (kvs : List (Key × V)), xs = [.ref a] ∧ FrzT H a (ps.map V.ref) ∧ Paired (fun p kv => Rd H p (.tup [kV kv.1, kv.2])) ps kvs ∧ ∀ p ob, H p = none → Q (.ref p) (upd H p (.frz ob (.dK (mergeK [] kvs))))) (tCons te tNil) σ H0 Q := hte _ (dictR hd hf hn q)
theorem mem_cut {us : List V} {lo hi : Option Int} {u : V} (h : u ∈ cutV us lo hi) : u ∈ us := List.mem_of_mem_drop (List.mem_of_mem_take h)
/-- the empty paper -/
theorem good0 {H : Hp} {t a b c d : Addr} (h : TupA H t [.ref a, .ref b, .ref c, .ref d]) (ha : FrzT H a []) (hb : FrzT H b []) (hc : FrzT H c []) (hd : FrzT H d []) : Good H (.ref t) := by
  have e : ∀ {x : Addr} {n : Nat}, FrzT H x [] → AtD H (n + 1) (.tup []) (.ref x) := fun {x n} ⟨o, f, _⟩ => ⟨x, [], rfl, .inr ⟨o, f⟩, Nat.zero_le _, .nil⟩
  refine ⟨t, [], [], [], rfl, ⟨_, _, _, _, a, c, id, [], h, rfl, rfl, ⟨_, ha⟩, ⟨_, hc⟩, e ha, e hb, e hc, e hd, ?_, fun _ ns f hp _ _ => ?_, ?_, ?_⟩, rfl⟩
  · exact ⟨.nil, fun _ h => (by cases h), fun _ h => (by cases h), fun _ h => (by cases h), Nat.zero_le _, .nil, fun _ h => (by cases h), .nil, fun _ h => (by cases h), fun _ h => (by cases h), Nat.zero_le _, fun _ h => (by cases h), .nil⟩
  · rw [List.perm_nil.mp hp]
    rfl
  · refine .tup fun d hd => ?_
    simp only [List.mem_cons, List.not_mem_nil, or_false] at hd
    rcases hd with rfl | rfl | rfl | rfl <;> exact .tup fun _ h => (by cases h)
  · refine .tup (k := 4) (m := 1) (fun d hd => ?_) (Nat.le_refl 4) (by decide)
    simp only [List.mem_cons, List.not_mem_nil, or_false] at hd
    rcases hd with rfl | rfl | rfl | rfl <;> exact .tup (k := 0) (m := 0) (fun _ h => (by cases h)) (Nat.le_refl 0) (by decide)
def spLaw (K : PySem.W.Frag) (T : List (Addr × Str)) : Sp := fun vs H Q _ => ∃ (a : Addr) (ns : List Int), vs = [.ref a] ∧ SqL K H a (ns.map V.int) ∧ ns.length ≤ 63 ∧ LamX.Tabs T H ∧ ∀ H', Q (.bl true) H'
section
variable {P : Program} {w : World} {K : PySem.W.Frag} {mg : Str → Option Value} {base : Heap}
theorem scLaw : FnScope ["_law_script", "_law_deck_here", "_law_papers", "_law_turn", "_law_paper_here", "_law_cells_here", "_law_kept"] ["_law_script"] (defScope s_law) := ⟨rfl, rfl, rfl, by decide +kernel, rfl, by decide +kernel, by decide +kernel⟩
theorem law_go {fa : Addr} {fd : FuncData} {T : List (Addr × Str)} (b_range : mg "range" = none) (b_list : mg "list" = none) (b_dict : mg "dict" = none) (b_repr : mg "repr" = none) (DK : C0 P w K mg base 1 "_law_deck" (spDk K)) (PA2 : C0 P w K mg base 6 "_law_paper" (spPa T)) (FW : C0 P w K mg base 2 "_law_fewer" spFw) (CL : C0 P w K mg base 2 "_law_closed" spCl) (TD : C0 P w K mg base 3 "_law_told" (spTd T)) (SW : C0 P w K mg base 15 "sweep_stands" spSw) (F : Fun K "law" "law" s_law fa fd) : FnG P w K mg base 20 fa fd "_law_script" (spLaw K T) := by
  refine fnG_of (x := "_law_script") F scLaw (fun vs H Q E h => ?_) fun cdv s H v Q E hr h => ?_
  · obtain ⟨a, ns, rfl, _⟩ := h
    rfl
  obtain ⟨a, ns, e, hS, hl, tb, kq⟩ := h
  obtain rfl : v = .ref a := by injection e
  have hg : (callerA.deeper (PyProof.Rows.envOfC "law" (defScope s_law) s.heap.objs.size fa cdv)).guards = some [] := rfl
  have hug : (callerA.deeper (PyProof.Rows.envOfC "law" (defScope s_law) s.heap.objs.size fa cdv)).units + 200 < cLine := by
    have := hr.un
    omega
  refine ⟨_, pss_cons (ps_set (i := 1) scLaw.nd rfl (Or.inl rfl) (pe_cc DK hr (by omega) pass0 (pa_cons (pv 0) pa_nil))) <|
    pss_cons (ps_set (i := 2) scLaw.nd rfl (Or.inl rfl) (pe_lst (pa_cons (pe_tup (pa_cons (pe_tupF pa_nil) (pa_cons (pe_tupF pa_nil) (pa_cons (pe_tupF pa_nil) (pa_cons (pe_tupF pa_nil) pa_nil))))) pa_nil))) <|
    pss_cons (ps_for PassesOwn.never rfl (pi_range1 rfl b_range (pa_cons pe_int pa_nil)) (pg_name (i := 3) scLaw.nd rfl (Or.inl rfl))
      (pss_cons (ps_set (i := 4) scLaw.nd rfl (Or.inl rfl) (pe_cc PA2 hr (by omega) pass0 (pa_cons (pv 1) pa_nil))) <|
      pss_cons (ps_set (i := 5) scLaw.nd rfl (Or.inl rfl) (pe_callTy (call_dictTF rfl) (by rfl) b_dict (by decide +kernel) (pa_cons (pe_ix (r := rIxT K) ix_tup (pv 4) pe_int (fun _ _ => rfl)) pa_nil))) <|
      pss_cons (ps_expr (pe_bm PySem.F.plainAttrs_list PySem.F.slot_list_append PySem.F.type_list_append mt_append (pv 2) (pa_cons (pv 4) pa_nil))) <|
      pss_cons (ps_expr (pe_bm PySem.F.plainAttrs_list PySem.F.slot_list_append PySem.F.type_list_append mt_append (pv 2) (pa_cons (pe_cc FW hr (by omega) pass0 (pa_cons (pv 1) (pa_cons (pv 4) pa_nil))) pa_nil))) <|
      pss_one (ps_expr (pe_bm PySem.F.plainAttrs_list PySem.F.slot_list_append PySem.F.type_list_append mt_append (pv 2) (pa_cons (pe_cc TD hr (by omega) pass0 (pa_cons (pv 1) (pa_cons (pv 5) (pa_cons (pe_ix (r := rIxT K) ix_tup (pv 4) pe_int (fun _ _ => rfl)) (pa_cons (pe_cc CL hr (by omega) pass0 (pa_cons (pv 5) (pa_cons (pe_callTy call_list_of (by rfl) b_list (by decide +kernel) (pa_cons (pe_ix (r := rIxT K) ix_tup (pv 4) pe_int (fun _ _ => rfl)) pa_nil)) pa_nil))) pa_nil))))) pa_nil))))) <|
    pss_cons (ps_for PassesOwn.never rfl (pi_list (pe_op op_cat (pv 2) (pe_slice sl_list (pv 2) po_none (po_some pe_int)))) (pg_name (i := 4) scLaw.nd rfl (Or.inl rfl))
      (pss_cons (ps_set (i := 6) scLaw.nd rfl (Or.inl rfl) (pe_callB (call_reprD hg hug) (by rfl) b_repr (by decide +kernel) (pa_cons (pv 4) pa_nil))) <|
      pss_one (ps_if (PW.pt (pw_or (pt_cmpR op_notTr (pe_cc SW hr (by omega) pass0 (pa_cons (pv 4) pa_nil)) pe_bl (nomark _)) (pw_or1 (pt_cmpR op_ne (pe_callB (call_reprD hg hug) (by rfl) b_repr (by decide +kernel) (pa_cons (pv 4) pa_nil)) (pv 6) (nomark _)))))
        (pss_one (ps_ret pe_bl))
        (pss_nil)))) <|
    pss_one (ps_ret pe_bl), ?_⟩
  refine ⟨_, rfl, a, ns, rfl, hS, hl, fun H1 p l m s1 hp hl1 d1 => ?_⟩
  have n0 : ∀ H', Lsts [] H' := fun _ _ h => by cases h
  have tb1 := Tabs.sx (n0 _) (SX.same s1) tb
  refine ⟨by decide, fun e1 o1 f1 g1 => ⟨by decide, fun e2 o2 f2 g2 => ⟨by decide, fun e3 o3 f3 g3 => ⟨by decide, fun e4 o4 f4 g4 => ⟨by show 4 ≤ sizeLine; decide, fun t ft => ⟨by show 1 ≤ sizeLine; decide, fun pp fpp => ?_⟩⟩⟩⟩⟩⟩
  have S1 := same_new f1 (.frz o1 (.tup []))
  have S2 := same_new f2 (.frz o2 (.tup []))
  have S3 := same_new f3 (.frz o3 (.tup []))
  have S4 := same_new f4 (.frz o4 (.tup []))
  have S5 := same_new ft (.tup [.ref e1, .ref e2, .ref e3, .ref e4])
  have S6 := same_new fpp (.lst [.ref t])
  have gd0 : Good (upd (upd (upd (upd (upd (upd H1 e1 (.frz o1 (.tup []))) e2 (.frz o2 (.tup []))) e3 (.frz o3 (.tup []))) e4 (.frz o4 (.tup []))) t (.tup [.ref e1, .ref e2, .ref e3, .ref e4])) pp (.lst [.ref t])) (.ref t) := good0 (.inl (S6 _ _ upd_same)) ⟨o1, S6 _ _ (S5 _ _ (S4 _ _ (S3 _ _ (S2 _ _ upd_same)))), g1⟩ ⟨o2, S6 _ _ (S5 _ _ (S4 _ _ (S3 _ _ upd_same))), g2⟩ ⟨o3, S6 _ _ (S5 _ _ (S4 _ _ upd_same)), g3⟩ ⟨o4, S6 _ _ (S5 _ _ upd_same), g4⟩
  have S15 := S1.trans (S2.trans (S3.trans (S4.trans S5)))
  have npp : pp ∉ [p, l, m] := d1.ne (S15.free fpp)
  have d2 := d1.same (S15.trans S6)
  have tb2 := Tabs.sx (n0 _) (SX.same (S15.trans S6)) tb1
  have fp : upd (upd (upd (upd (upd (upd H1 e1 (.frz o1 (.tup []))) e2 (.frz o2 (.tup []))) e3 (.frz o3 (.tup []))) e4 (.frz o4 (.tup []))) t (.tup [.ref e1, .ref e2, .ref e3, .ref e4])) pp (.lst [.ref t]) pp = some (.lst [.ref t]) := upd_same
  show gName 2 _ _ (upd (upd (upd (upd (upd (upd H1 e1 (.frz o1 (.tup []))) e2 (.frz o2 (.tup []))) e3 (.frz o3 (.tup []))) e4 (.frz o4 (.tup []))) t (.tup [.ref e1, .ref e2, .ref e3, .ref e4])) pp (.lst [.ref t])) _
  generalize upd (upd (upd (upd (upd (upd H1 e1 (.frz o1 (.tup []))) e2 (.frz o2 (.tup []))) e3 (.frz o3 (.tup []))) e4 (.frz o4 (.tup []))) t (.tup [.ref e1, .ref e2, .ref e3, .ref e4])) pp (.lst [.ref t]) = H2 at gd0 d2 tb2 fp ⊢
  clear S1 S2 S3 S4 S5 S6 S15
  refine ⟨6, rfl, by decide, by decide, ?_⟩
  refine for_range (lo := 0) (n := (6 : Int).toNat) (fun i σ Hn => ∃ (us : List V) (v3 v4 v5 : Option V), σ = [some (.ref a), some (.ref p), some (.ref pp), v3, v4, v5, none] ∧ DkQ Hn p l m (3000 * i) ∧ LamX.Tabs T Hn ∧ Hn pp = some (.lst us) ∧ us.length ≤ 1 + 3 * i ∧ ∀ u ∈ us, Good Hn u) ⟨[.ref t], none, none, none, rfl, d2, tb2, fp, Nat.le_refl 1, fun u hu => by rw [List.mem_singleton.mp hu]; exact gd0⟩ ?_ ?_
  · rintro i σ Hn hi ⟨us, v3, v4, v5, rfl, dn, tbn, fn, hul, hgd⟩
    have hi' : i < 6 := hi
    have np := ne2 npp
    have lpp : ∀ {H' : Hp} {xs : List V}, H' pp = some (.lst xs) → Lsts [pp] H' := fun h b hb => by rw [List.mem_singleton.mp hb]; exact ⟨_, h⟩
    have app : ∀ {H' : Hp} {us : List V} {u : V} {n : Nat}, H' pp = some (.lst us) → DkQ H' p l m n → LamX.Tabs T H' → (∀ x ∈ us, Good H' x) → Good H' u → DkQ (upd H' pp (.lst (us ++ [u]))) p l m n ∧ LamX.Tabs T (upd H' pp (.lst (us ++ [u]))) ∧ (∀ x ∈ us ++ [u], Good (upd H' pp (.lst (us ++ [u]))) x) := fun {H' us u n} h1 h2 h3 h4 h5 => ⟨h2.set npp _, Tabs.sx (lpp h1) (SX.upd _ (List.mem_singleton.mpr rfl)) h3, fun x hx => by
      rcases List.mem_append.mp hx with hx | hx
      · exact (h4 x hx).tups (tups_lst h1)
      · rw [List.mem_singleton.mp hx]
        exact h5.tups (tups_lst h1)⟩
    refine ⟨_, rfl, p, l, m, _, rfl, dn, by omega, tbn, fun t cs roots kept H3 fx d3 tb3 tld po => ?_⟩
    have f3 := fx pp _ np (fun _ z => by cases z) fn
    have g3 : ∀ u ∈ us, Good H3 u := fun u hu => (hgd u hu).tups (FX.tups dn.lsts fx)
    obtain ⟨b, r, mm, hh, bp, mp, mv, bs, h1, h2, h3, h4, h5, h6, h7, h8, h9, h10, h11, h12, h13⟩ := id tld
    subst h2
    have hcl : (cs.map (·.1)).length ≤ 10 := by rw [List.length_map]; exact po.ok.l
    have hrl : roots.length ≤ 10 := Nat.le_trans (nodup_le (lt_nodup po.rp) po.rk) hcl
    obtain ⟨q, rfl, hq⟩ := tup_ints (n := 7) h7
    refine nx_go (asg_go (dict_go (n := 3) (fun R hR => ⟨_, rfl, t, _, _, _, rfl, rfl, TupA.sq h1, rfl, hR⟩) h6 h4 (lt_nodup po.ok.r) fun c H4 vs s4 hc hvs => ?_))
    obtain ⟨oc, hc⟩ := hc
    have cs4 : CsAt H4 c cs := ⟨vs, .inr ⟨oc, hc⟩, hvs⟩
    have f4 := s4 _ _ f3
    have d4 := d3.same s4
    have tb4 := Tabs.sx (n0 _) (SX.same s4) tb3
    have g4 : ∀ u ∈ us, Good H4 u := fun u hu => (g3 u hu).tups (same_tups s4)
    have tld4 := tld.tups (same_tups s4)
    refine ⟨_, rfl, .inl ⟨rfl, _, SqL.of f4⟩, _, rfl, pp, _, _, rfl, rfl, f4, by rw [sizeLine_eq]; omega, ?_⟩
    obtain ⟨d5, tb5, g5⟩ := app f4 d4 tb4 g4 ⟨t, cs, roots, kept, rfl, tld4, po.st⟩
    have f5 : upd H4 pp (.lst (us ++ [.ref t])) pp = some (.lst (us ++ [.ref t])) := upd_same
    have cs5 := CsAt.sx po.ok.nl (lpp f4) (SX.upd (.lst (us ++ [.ref t])) (List.mem_singleton.mpr rfl)) cs4
    have tld5 := tld4.tups (tups_lst (ys := us ++ [.ref t]) f4)
    have l5 : (us ++ [V.ref t]).length ≤ 2 + 3 * i := by rw [List.length_append]; show us.length + 1 ≤ _; omega
    show Ends.nx _ _ (upd H4 pp (.lst (us ++ [.ref t])))
    generalize upd H4 pp (.lst (us ++ [.ref t])) = H5 at d5 tb5 g5 f5 cs5 tld5 ⊢
    generalize us ++ [V.ref t] = us5 at g5 f5 l5 ⊢
    refine ⟨_, rfl, .inl ⟨rfl, _, SqL.of f5⟩, _, rfl, _, rfl, p, l, m, t, _, cs, roots, kept, rfl, d5, by omega, tld5, po, fun t2 roots2 H6 s6 d6 tld6 po6 => ?_⟩
    have f6 := s6 _ _ np f5
    have g6 : ∀ u ∈ us5, Good H6 u := fun u hu => (g5 u hu).tups (d5.lsts.tups s6)
    have cs6 := CsAt.sx po.ok.nl d5.lsts s6 cs5
    have tb6 := Tabs.sx d5.lsts s6 tb5
    have tp6 := tld5.tups (d5.lsts.tups s6)
    refine ⟨pp, _, _, rfl, rfl, f6, by rw [sizeLine_eq]; omega, ?_⟩
    obtain ⟨d7, tb7, g7⟩ := app f6 d6 tb6 g6 ⟨t2, cs, roots2, kept, rfl, tld6, po6.st⟩
    have f7 : upd H6 pp (.lst (us5 ++ [.ref t2])) pp = some (.lst (us5 ++ [.ref t2])) := upd_same
    have cs7 := CsAt.sx po.ok.nl (lpp f6) (SX.upd (.lst (us5 ++ [.ref t2])) (List.mem_singleton.mpr rfl)) cs6
    have tp7 := tp6.tups (tups_lst (ys := us5 ++ [.ref t2]) f6)
    have l7 : (us5 ++ [V.ref t2]).length ≤ 3 + 3 * i := by rw [List.length_append]; show us5.length + 1 ≤ _; omega
    show Ends.nx _ _ (upd H6 pp (.lst (us5 ++ [.ref t2])))
    generalize upd H6 pp (.lst (us5 ++ [.ref t2])) = H7 at d7 tb7 g7 f7 cs7 tp7 ⊢
    generalize us5 ++ [V.ref t2] = us7 at g7 f7 l7 ⊢
    obtain ⟨b', r', m', hh', bp', mp', mv', bs', k1, k2, k3, k4, k5, k6, k7, k8, k9, k10, k11, k12, k13⟩ := id tp7
    obtain ⟨q', rfl, hq'⟩ := tup_ints (n := 7) k7
    refine ⟨_, rfl, .inl ⟨rfl, _, SqL.of f7⟩, _, rfl, _, rfl, _, rfl, t, _, _, _, rfl, rfl, TupA.sq k1, rfl, _, rfl, _, rfl, t, _, _, _, rfl, rfl, TupA.sq k1, rfl, q', _, rfl, .inr (TupA.sq hq'), fun lr hlr => ?_⟩
    have s8 := same_new hlr (.lst (roots.map V.int))
    refine ⟨c, lr, cs, roots, rfl, CsAt.sx (B := []) po.ok.nl (n0 _) (SX.same s8) cs7, po.ok, upd_same, by omega, po.rk, fun kr ks H9 s9 hkr f9 hp9 h91 h92 h93 h94 => ?_⟩
    have s89 := s8.trans s9
    have hkr7 : H7 kr = none := s8.free hkr
    refine ⟨p, l, m, c, q', kr, _, cs, roots, ks, rfl, d7.same s89, by omega, CsAt.sx (B := []) po.ok.nl (n0 _) (SX.same s89) cs7, po.ok, .inr (Rd.same_ s89 hq'), f9, ne2 (d7.ne hkr7), hp9, h92, po.rp, po.rk, Tabs.sx (n0 _) (SX.same s89) tb7, fun t3 H10 fx10 d10 tb10 tld10 => ?_⟩
    have f10 := fx10 pp _ np (fun _ z => by cases z) (s89 _ _ f7)
    have g10 : ∀ u ∈ us7, Good H10 u := fun u hu => ((g7 u hu).tups (same_tups s89)).tups (FX.tups (d7.same s89).lsts fx10)
    refine ⟨pp, _, _, rfl, rfl, f10, by rw [sizeLine_eq]; omega, ?_⟩
    have hks : ks.length ≤ 10 := Nat.le_trans (nodup_le (lt_nodup hp9) h92) hcl
    obtain ⟨d11, tb11, g11⟩ := app f10 d10 tb10 g10 ⟨t3, cs, roots, ks, rfl, tld10, st_of h91 h93⟩
    exact ⟨_, _, _, _, rfl, d11.mono (by omega), tb11, upd_same, by rw [List.length_append]; show us7.length + 1 ≤ _; omega, g11⟩
  · rintro σ Hn ⟨us, v3, v4, v5, rfl, dn, tbn, fn, hul, hgd⟩
    have fus : us.length ≤ 19 := hul
    refine nx_go ⟨_, rfl, _, rfl, _, rfl, pp, us, rfl, SqL.of fn, fun cu hcu => ?_⟩
    have S1 := same_new hcu (.lst (cutV us none (some 4)))
    have hcl4 := cutV_length us none (some 4)
    refine ⟨pp, cu, us, _, rfl, rfl, S1 _ _ fn, upd_same, Evl.sz_of (by omega), fun al hal => ?_⟩
    have S2 := same_new hal (.lst (us ++ cutV us none (some 4)))
    have fal : upd (upd Hn cu (.lst (cutV us none (some 4)))) al (.lst (us ++ cutV us none (some 4))) al = some (.lst (us ++ cutV us none (some 4))) := upd_same
    have gal : ∀ u ∈ us ++ cutV us none (some 4), Good (upd (upd Hn cu (.lst (cutV us none (some 4)))) al (.lst (us ++ cutV us none (some 4)))) u := fun u hu => by
      refine Good.tups (same_tups (S1.trans S2)) (hgd u ?_)
      rcases List.mem_append.mp hu with hu | hu
      · exact hu
      · exact mem_cut hu
    generalize upd (upd Hn cu (.lst (cutV us none (some 4)))) al (.lst (us ++ cutV us none (some 4))) = H3 at fal gal ⊢
    generalize us ++ cutV us none (some 4) = ws at fal gal ⊢
    refine ⟨al, rfl, ⟨_, SqL.of fal⟩, ?_⟩
    refine for_list (xs := ws) (fun i σ H' => ∃ (v4 v6 : Option V), σ = [some (.ref a), some (.ref p), some (.ref pp), v3, v4, v5, v6] ∧ Same H3 H') ⟨v4, none, rfl, Same.refl _⟩ (fun i σ H' _ ⟨_, _, _, s⟩ => SqL.of (s _ _ fal)) ?_ ?_
    · rintro i x σ H4 hx ⟨v4, v6, rfl, s4⟩
      obtain ⟨t, cs, roots, kept, rfl, tld, st⟩ := (gal x (List.mem_of_getElem? hx)).tups (same_tups s4)
      obtain ⟨b, r, mm, hh, bp, mp, mv, bs, h1, h2, h3, h4, h5, h6, h7, h8, h9, h10, h11, h12, h13⟩ := id tld
      obtain ⟨py, hpy⟩ := h12.py
      have at9 : AtD H4 9 (papD cs roots kept mv bs) (.ref t) := ⟨t, _, rfl, h1, Nat.le_of_ble_eq_true rfl, .cons (h6.mono (by decide)) (.cons h7 (.cons h8 (.cons h9 .nil)))⟩
      refine ⟨_, rfl, _, 9, 200000, t, py, rfl, at9, h12, h13, by decide, by decide, hpy, ?_⟩
      refine ⟨_, rfl, t, b, r, mm, hh, bp, mp, cs, roots, kept, mv, bs, rfl, h1, h2, h3, h4, h5, h6.mono (by decide), h7, h8, h9, h10, h11, fun H5 s5 => ?_⟩
      rw [st]
      refine ⟨true, true, rfl, rfl, _, rfl, iteF ⟨_, rfl, _, 9, 200000, t, py, rfl, at9.same s5, h12, h13, by decide, by decide, hpy, _, rfl, rfl, ?_⟩⟩
      have e0 : decide (V.str py.shown = V.str py.shown) = true := decide_eq_true rfl
      rw [e0]
      exact ⟨_, rfl, iteF ⟨_, _, rfl, s4.trans s5⟩⟩
    · rintro σ H4 ⟨v4, v6, rfl, s4⟩
      exact kq H4
end
end My
set_option Elab.async false
set_option linter.all false
set_option maxRecDepth 100000
set_option maxHeartbeats 4000000
namespace My
open PySem L2 SS
theorem law_ok {P : Program} {w : World} {K : PySem.W.Frag} {mg : Str → Option Value} {base : Heap} (Z : Fz K mg) {c0 Pt : Addr} (TD0 : DnC K mg "_law_told" s__law_told c0) (TB : LamX.TabB base mg c0 Pt) {f : Addr} {fd : FuncData} (F : Fun K "law" "law" s_law f fd) : FnG P w K mg base 20 f fd "_law_script" (spLaw K [(Pt, qTd)]) := by
  have HO := ct_has_only (P := P) (w := w) (base := base) Z.D_has_only
  have NM := ct_is_name (P := P) (w := w) (base := base) Z.b_len Z.g_MOST_NAME_SIGNS HO Z.D_is_name
  have KN := ct_is_kind_name (P := P) (w := w) (base := base) Z.g_CAPITALS Z.g_KIND_SIGNS NM Z.D_is_kind_name
  have TXT := ct_is_text (P := P) (w := w) (base := base) Z.b_len Z.g_MOST_TEXT_SIGNS Z.g_TEXT_SIGNS HO Z.D_is_text
  have SO := c_so (P := P) (w := w) (base := base) Z.b_isinstance Z.b_bool Z.b_int Z.b_str Z.b_tuple Z.D_sort_of
  have SA := sa_all (P := P) (w := w) (base := base) Z.b_len Z.b_all Z.b_zip Z.D_same SO 12
  have WH := c_wh (P := P) (w := w) (base := base) Z.b_isinstance Z.b_int Z.b_bool Z.D_is_whole
  have RW_ := c_rw (P := P) (w := w) (base := base) Z.b_isinstance Z.b_tuple Z.b_len Z.D_is_row
  have NU := c_nu (P := P) (w := w) (base := base) WH Z.D_is_number_from_0
  have TO := c_to (P := P) (w := w) (base := base) Z.b_isinstance Z.b_str Z.D_is_text_of
  have CW := c_cw (P := P) (w := w) (base := base) RW_ TO NU Z.D_is_cell_word
  have PLA := c_pla (P := P) (w := w) (base := base) Z.b_isinstance Z.b_int Z.b_bool Z.b_str Z.g_BIG TXT Z.D_is_plain
  have WO := c_wor (P := P) (w := w) (base := base) Z.b_isinstance Z.b_tuple CW PLA Z.D_is_worth
  have WOS := c_wos (P := P) (w := w) (base := base) Z.b_isinstance Z.b_tuple Z.b_len Z.b_all WO Z.D_are_worths
  have KW := c_kw (P := P) (w := w) (base := base) Z.b_isinstance Z.b_str KN Z.D_is_kind_word
  have CWS := c_cws (P := P) (w := w) (base := base) Z.b_all CW Z.D_are_cell_words
  have CE := c_ce (P := P) (w := w) (base := base) Z.b_isinstance Z.b_tuple Z.b_len Z.b_all Z.g_MOST_FIELDS Z.g_MOST_NAMES Z.g_MOST_WORTHS_OF_LIST TO NU CW WOS KW CWS Z.D_is_cell
  have WI := c_wi (P := P) (w := w) (base := base) Z.D_worths_in
  have AA := c_aa (P := P) (w := w) (base := base) Z.b_isinstance Z.b_tuple Z.D_addresses_among
  have RI := c_ri (P := P) (w := w) (base := base) Z.b_isinstance Z.b_tuple Z.b_all Z.b_zip NU Z.D_are_rising
  have PA := c_pa (P := P) (w := w) (base := base) Z.b_isinstance Z.b_tuple Z.b_all RW_ Z.D_are_pairs
  have CA := c_ca (P := P) (w := w) (base := base) Z.b_tuple Z.b_all PA RI CE Z.D_are_cells_by_addresses
  have WW := c_ww (P := P) (w := w) (base := base) Z.D_with_worths
  have MV := c_mv (P := P) (w := w) (base := base) Z.b_tuple Z.b_all Z.b_len Z.b_set NU PA RI Z.D_are_moves
  have MW := c_mw (P := P) (w := w) (base := base) Z.b_isinstance Z.b_tuple Z.D_moved_worths
  have MH := c_mh (P := P) (w := w) (base := base) Z.b_all WI AA Z.D_is_moved_whole
  have MC := c_mc (P := P) (w := w) (base := base) Z.b_tuple Z.b_list Z.b_sorted WI WW MW Z.D_moved_cells
  have SS := c_ss (P := P) (w := w) (base := base) Z.b_all Z.b_dict RW_ CA RI MV MH MC SA Z.D_sweep_stands
  have DK := c_dk (P := P) (w := w) (base := base) Z.b_abs Z.b_len Z.b_range Z.D__law_deck
  have NX := c_nx (P := P) (w := w) (base := base) Z.b_len Z.D__law_next
  have WT := c_wt (P := P) (w := w) (base := base) Z.b_len NX Z.D__law_worth
  have WTS := c_wts (P := P) (w := w) (base := base) Z.b_range Z.b_tuple WT Z.D__law_worths
  have CEL := c_cel (P := P) (w := w) (base := base) Z.b_len NX WTS Z.D__law_cell
  have PL := c_pl (P := P) (w := w) (base := base) Z.b_range NX Z.D__law_places
  have CS := c_cs (P := P) (w := w) (base := base) NX PL CEL Z.D__law_cells
  have MO := c_mo (P := P) (w := w) (base := base) Z.b_isinstance Z.b_tuple Z.D__law_moved
  have PT := c_pt (P := P) (w := w) (base := base) Z.b_list Z.D__law_parts
  have ML := c_ml (P := P) (w := w) (base := base) Z.b_tuple MO Z.D__law_moved_cell
  have CL := c_cl (P := P) (w := w) (base := base) Z.b_set Z.b_sorted Z.b_len Z.b_isinstance Z.b_tuple PT Z.D__law_closed
  have TD := c_td (P := P) (w := w) (base := base) Z.b_sorted Z.b_tuple Z.b_len Z.b_list TB rfl PL NX ML TD0
  have PA2 := c_pap (P := P) (w := w) (base := base) Z.b_sorted Z.b_list NX CS CL TD Z.D__law_paper
  have FW := c_fw (P := P) (w := w) (base := base) Z.b_tuple NX Z.D__law_fewer
  exact law_go (T := [(Pt, qTd)]) Z.b_range Z.b_list Z.b_dict Z.b_repr DK PA2 FW CL TD SS F
end My
set_option Elab.async false
set_option linter.all false
set_option maxRecDepth 100000
set_option maxHeartbeats 8000000
namespace My
open PySem L2 SS
theorem vals_strs : ∀ (zs : List Str) (us : List Value), us.map (fun u => match u with | .str z _ => some z | _ => none) = zs.map some → Vals (zs.map V.str) us
  | [], [], _ => .nil
  | [], u :: us, h => by simp at h
  | z :: zs, [], h => by simp at h
  | z :: zs, u :: us, h => by
    rw [List.map_cons, List.map_cons] at h
    injection h with h1 h2
    refine .cons ?_ (vals_strs zs us h2)
    cases u with
    | str y t =>
      obtain rfl := Option.some.inj h1
      exact ⟨t, rfl⟩
    | _ => cases h1
theorem exm_self {K : PySem.W.Frag} {S : Addr} (h1 : PySem.W.subIn K (.ref S) (.type "BaseException") = some true) (h2 : PySem.W.isClsIn K S = true) (h3 : PySem.W.typeIn K (.ref S) = some (.type "type")) (h4 : PySem.W.subIn K (.ref S) (.ref S) = some true) :
    PySem.W.exmOne K (.ref S) (.ref S) = some true := by
  have e1 : (PySem.W.subIn K (.ref S) (.type "BaseException") == some true) = true := by rw [h1] <;> rfl
  have e2 : ((PySem.W.clsIn K S).isSome && PySem.W.typeIn K (.ref S) == some (.type "type")) = true := by
    have h2' : (PySem.W.clsIn K S).isSome = true := h2
    rw [h2', h3] <;> rfl
  show (if (PySem.W.subIn K (.ref S) (.type "BaseException") == some true) = true then (if ((PySem.W.clsIn K S).isSome && PySem.W.typeIn K (.ref S) == some (.type "type")) = true then PySem.W.subIn K (.ref S) (.ref S) else none) else none) = some true
  rw [if_pos e1, if_pos e2]
  exact h4
/-- two defs of two names stand at two places -/
def nameAt : Option Obj → Str
  | some ⟨_, _, .func fd, _⟩ => fd.name
  | _ => ""
theorem two_places {o1 o2 : Option Obj} (h : nameAt o1 ≠ nameAt o2) : o1 ≠ o2 := fun e => h (by rw [e])
theorem all_mk {l : PySem.W.OpenLaw} {w : World} {K : PySem.W.Frag} {h : Heap} {mg : Str → Option Value} {fa : Addr} (X : K.In h) (G : h.Ns mainGlobals mg) (hfa : mg "law" = some (.ref fa))
    {f0 : Addr} {oc0 kV0 dc0 pm0 cd0 ct0 : Value} {od0 an0 : Option Addr} {sl0 : Array (Option Value)}
    {f1 : Addr} {oc1 kV1 dc1 pm1 cd1 ct1 : Value} {od1 an1 : Option Addr} {sl1 : Array (Option Value)}
    {f2 : Addr} {oc2 kV2 dc2 pm2 cd2 ct2 : Value} {od2 an2 : Option Addr} {sl2 : Array (Option Value)}
    {f3 : Addr} {oc3 kV3 dc3 pm3 cd3 ct3 : Value} {od3 an3 : Option Addr} {sl3 : Array (Option Value)}
    {f4 : Addr} {oc4 kV4 dc4 pm4 cd4 ct4 : Value} {od4 an4 : Option Addr} {sl4 : Array (Option Value)}
    {f5 : Addr} {oc5 kV5 dc5 pm5 cd5 ct5 : Value} {od5 an5 : Option Addr} {sl5 : Array (Option Value)}
    {f6 : Addr} {oc6 kV6 dc6 pm6 cd6 ct6 : Value} {od6 an6 : Option Addr} {sl6 : Array (Option Value)}
    {f7 : Addr} {oc7 kV7 dc7 pm7 cd7 ct7 : Value} {od7 an7 : Option Addr} {sl7 : Array (Option Value)}
    {f8 : Addr} {oc8 kV8 dc8 pm8 cd8 ct8 : Value} {od8 an8 : Option Addr} {sl8 : Array (Option Value)}
    {f9 : Addr} {oc9 kV9 dc9 pm9 cd9 ct9 : Value} {od9 an9 : Option Addr} {sl9 : Array (Option Value)}
    {f10 : Addr} {oc10 kV10 dc10 pm10 cd10 ct10 : Value} {od10 an10 : Option Addr} {sl10 : Array (Option Value)}
    {f11 : Addr} {oc11 kV11 dc11 pm11 cd11 ct11 : Value} {od11 an11 : Option Addr} {sl11 : Array (Option Value)}
    {f12 : Addr} {oc12 kV12 dc12 pm12 cd12 ct12 : Value} {od12 an12 : Option Addr} {sl12 : Array (Option Value)}
    {f13 : Addr} {oc13 kV13 dc13 pm13 cd13 ct13 : Value} {od13 an13 : Option Addr} {sl13 : Array (Option Value)}
    {f14 : Addr} {oc14 kV14 dc14 pm14 cd14 ct14 : Value} {od14 an14 : Option Addr} {sl14 : Array (Option Value)}
    {f15 : Addr} {oc15 kV15 dc15 pm15 cd15 ct15 : Value} {od15 an15 : Option Addr} {sl15 : Array (Option Value)}
    {f16 : Addr} {oc16 kV16 dc16 pm16 cd16 ct16 : Value} {od16 an16 : Option Addr} {sl16 : Array (Option Value)}
    {f17 : Addr} {oc17 kV17 dc17 pm17 cd17 ct17 : Value} {od17 an17 : Option Addr} {sl17 : Array (Option Value)}
    {f18 : Addr} {oc18 kV18 dc18 pm18 cd18 ct18 : Value} {od18 an18 : Option Addr} {sl18 : Array (Option Value)}
    {f19 : Addr} {oc19 kV19 dc19 pm19 cd19 ct19 : Value} {od19 an19 : Option Addr} {sl19 : Array (Option Value)}
    {f20 : Addr} {oc20 kV20 dc20 pm20 cd20 ct20 : Value} {od20 an20 : Option Addr} {sl20 : Array (Option Value)}
    {f21 : Addr} {oc21 kV21 dc21 pm21 cd21 ct21 : Value} {od21 an21 : Option Addr} {sl21 : Array (Option Value)}
    {f22 : Addr} {oc22 kV22 dc22 pm22 cd22 ct22 : Value} {od22 an22 : Option Addr} {sl22 : Array (Option Value)}
    {f23 : Addr} {oc23 kV23 dc23 pm23 cd23 ct23 : Value} {od23 an23 : Option Addr} {sl23 : Array (Option Value)}
    {f24 : Addr} {oc24 kV24 dc24 pm24 cd24 ct24 : Value} {od24 an24 : Option Addr} {sl24 : Array (Option Value)}
    {f25 : Addr} {oc25 kV25 dc25 pm25 cd25 ct25 : Value} {od25 an25 : Option Addr} {sl25 : Array (Option Value)}
    {f26 : Addr} {oc26 kV26 dc26 pm26 cd26 ct26 : Value} {od26 an26 : Option Addr} {sl26 : Array (Option Value)}
    {f27 : Addr} {oc27 kV27 dc27 pm27 cd27 ct27 : Value} {od27 an27 : Option Addr} {sl27 : Array (Option Value)}
    {f28 : Addr} {oc28 kV28 dc28 pm28 cd28 ct28 : Value} {od28 an28 : Option Addr} {sl28 : Array (Option Value)}
    {f29 : Addr} {oc29 kV29 dc29 pm29 cd29 ct29 : Value} {od29 an29 : Option Addr} {sl29 : Array (Option Value)}
    {f30 : Addr} {oc30 kV30 dc30 pm30 cd30 ct30 : Value} {od30 an30 : Option Addr} {sl30 : Array (Option Value)}
    {f31 : Addr} {oc31 kV31 dc31 pm31 cd31 ct31 : Value} {od31 an31 : Option Addr} {sl31 : Array (Option Value)}
    {f32 : Addr} {oc32 kV32 dc32 pm32 cd32 ct32 : Value} {od32 an32 : Option Addr} {sl32 : Array (Option Value)}
    {f33 : Addr} {oc33 kV33 dc33 pm33 cd33 ct33 : Value} {od33 an33 : Option Addr} {sl33 : Array (Option Value)}
    {f34 : Addr} {oc34 kV34 dc34 pm34 cd34 ct34 : Value} {od34 an34 : Option Addr} {sl34 : Array (Option Value)}
    {f35 : Addr} {oc35 kV35 dc35 pm35 cd35 ct35 : Value} {od35 an35 : Option Addr} {sl35 : Array (Option Value)}
    {f36 : Addr} {oc36 kV36 dc36 pm36 cd36 ct36 : Value} {od36 an36 : Option Addr} {sl36 : Array (Option Value)}
    {f37 : Addr} {oc37 kV37 dc37 pm37 cd37 ct37 : Value} {od37 an37 : Option Addr} {sl37 : Array (Option Value)}
    {f38 : Addr} {oc38 kV38 dc38 pm38 cd38 ct38 : Value} {od38 an38 : Option Addr} {sl38 : Array (Option Value)}
    {f39 : Addr} {oc39 kV39 dc39 pm39 cd39 ct39 : Value} {od39 an39 : Option Addr} {sl39 : Array (Option Value)}
    {f40 : Addr} {oc40 kV40 dc40 pm40 cd40 ct40 : Value} {od40 an40 : Option Addr} {sl40 : Array (Option Value)}
    {f41 : Addr} {oc41 kV41 dc41 pm41 cd41 ct41 : Value} {od41 an41 : Option Addr} {sl41 : Array (Option Value)}
    {f42 : Addr} {oc42 kV42 dc42 pm42 cd42 ct42 : Value} {od42 an42 : Option Addr} {sl42 : Array (Option Value)}
    {t_MOST_FIELDS : Tok}
    {t_MOST_NAMES : Tok}
    {t_MOST_WORTHS_OF_LIST : Tok}
    {t_BIG : Tok}
    {t_MOST_TEXT_SIGNS : Tok}
    {t_MOST_NAME_SIGNS : Tok}
    {t_CAPITALS : Tok} {s_CAPITALS : Str}
    {t_KIND_SIGNS : Tok} {s_KIND_SIGNS : Str}
    {t_TEXT_SIGNS : Tok} {s_TEXT_SIGNS : Str}
    {cc : Addr} (xc : cd38 = .ref cc) (xh : PySem.W.codeHdIn K cc 252 = true) (xl : K.lookup 252 = none) (xt : h.get? 252 = some { cls := .none, data := .fields #[] })
    (a0 : PySem.W.nsIn K mainGlobals "is_kind_name" = some (some (.ref f0)))
    (l0 : K.lookup f0 = some ⟨oc0, od0, .func (PySem.W.fnOf "is_kind_name" "is_kind_name" (defArgs s_is_kind_name) (defBody s_is_kind_name) (defScope s_is_kind_name) .none kV0 dc0 pm0 an0 cd0 ct0), sl0⟩)
    (c0 : PySem.W.codeIn K cd0 "is_kind_name" = true)
    (k0 : PySem.W.keepIn K (.ref f0) = true)
    (a1 : PySem.W.nsIn K mainGlobals "is_name" = some (some (.ref f1)))
    (l1 : K.lookup f1 = some ⟨oc1, od1, .func (PySem.W.fnOf "is_name" "is_name" (defArgs s_is_name) (defBody s_is_name) (defScope s_is_name) .none kV1 dc1 pm1 an1 cd1 ct1), sl1⟩)
    (c1 : PySem.W.codeIn K cd1 "is_name" = true)
    (k1 : PySem.W.keepIn K (.ref f1) = true)
    (a2 : PySem.W.nsIn K mainGlobals "is_text" = some (some (.ref f2)))
    (l2 : K.lookup f2 = some ⟨oc2, od2, .func (PySem.W.fnOf "is_text" "is_text" (defArgs s_is_text) (defBody s_is_text) (defScope s_is_text) .none kV2 dc2 pm2 an2 cd2 ct2), sl2⟩)
    (c2 : PySem.W.codeIn K cd2 "is_text" = true)
    (k2 : PySem.W.keepIn K (.ref f2) = true)
    (a3 : PySem.W.nsIn K mainGlobals "has_only" = some (some (.ref f3)))
    (l3 : K.lookup f3 = some ⟨oc3, od3, .func (PySem.W.fnOf "has_only" "has_only" (defArgs s_has_only) (defBody s_has_only) (defScope s_has_only) .none kV3 dc3 pm3 an3 cd3 ct3), sl3⟩)
    (c3 : PySem.W.codeIn K cd3 "has_only" = true)
    (k3 : PySem.W.keepIn K (.ref f3) = true)
    (a4 : PySem.W.nsIn K mainGlobals "sort_of" = some (some (.ref f4)))
    (l4 : K.lookup f4 = some ⟨oc4, od4, .func (PySem.W.fnOf "sort_of" "sort_of" (defArgs s_sort_of) (defBody s_sort_of) (defScope s_sort_of) .none kV4 dc4 pm4 an4 cd4 ct4), sl4⟩)
    (c4 : PySem.W.codeIn K cd4 "sort_of" = true)
    (k4 : PySem.W.keepIn K (.ref f4) = true)
    (a5 : PySem.W.nsIn K mainGlobals "is_whole" = some (some (.ref f5)))
    (l5 : K.lookup f5 = some ⟨oc5, od5, .func (PySem.W.fnOf "is_whole" "is_whole" (defArgs s_is_whole) (defBody s_is_whole) (defScope s_is_whole) .none kV5 dc5 pm5 an5 cd5 ct5), sl5⟩)
    (c5 : PySem.W.codeIn K cd5 "is_whole" = true)
    (k5 : PySem.W.keepIn K (.ref f5) = true)
    (a6 : PySem.W.nsIn K mainGlobals "is_row" = some (some (.ref f6)))
    (l6 : K.lookup f6 = some ⟨oc6, od6, .func (PySem.W.fnOf "is_row" "is_row" (defArgs s_is_row) (defBody s_is_row) (defScope s_is_row) .none kV6 dc6 pm6 an6 cd6 ct6), sl6⟩)
    (c6 : PySem.W.codeIn K cd6 "is_row" = true)
    (k6 : PySem.W.keepIn K (.ref f6) = true)
    (a7 : PySem.W.nsIn K mainGlobals "is_plain" = some (some (.ref f7)))
    (l7 : K.lookup f7 = some ⟨oc7, od7, .func (PySem.W.fnOf "is_plain" "is_plain" (defArgs s_is_plain) (defBody s_is_plain) (defScope s_is_plain) .none kV7 dc7 pm7 an7 cd7 ct7), sl7⟩)
    (c7 : PySem.W.codeIn K cd7 "is_plain" = true)
    (k7 : PySem.W.keepIn K (.ref f7) = true)
    (a8 : PySem.W.nsIn K mainGlobals "same" = some (some (.ref f8)))
    (l8 : K.lookup f8 = some ⟨oc8, od8, .func (PySem.W.fnOf "same" "same" (defArgs s_same) (defBody s_same) (defScope s_same) .none kV8 dc8 pm8 an8 cd8 ct8), sl8⟩)
    (c8 : PySem.W.codeIn K cd8 "same" = true)
    (k8 : PySem.W.keepIn K (.ref f8) = true)
    (a9 : PySem.W.nsIn K mainGlobals "is_number_from_0" = some (some (.ref f9)))
    (l9 : K.lookup f9 = some ⟨oc9, od9, .func (PySem.W.fnOf "is_number_from_0" "is_number_from_0" (defArgs s_is_number_from_0) (defBody s_is_number_from_0) (defScope s_is_number_from_0) .none kV9 dc9 pm9 an9 cd9 ct9), sl9⟩)
    (c9 : PySem.W.codeIn K cd9 "is_number_from_0" = true)
    (k9 : PySem.W.keepIn K (.ref f9) = true)
    (a10 : PySem.W.nsIn K mainGlobals "is_cell_word" = some (some (.ref f10)))
    (l10 : K.lookup f10 = some ⟨oc10, od10, .func (PySem.W.fnOf "is_cell_word" "is_cell_word" (defArgs s_is_cell_word) (defBody s_is_cell_word) (defScope s_is_cell_word) .none kV10 dc10 pm10 an10 cd10 ct10), sl10⟩)
    (c10 : PySem.W.codeIn K cd10 "is_cell_word" = true)
    (k10 : PySem.W.keepIn K (.ref f10) = true)
    (a11 : PySem.W.nsIn K mainGlobals "is_text_of" = some (some (.ref f11)))
    (l11 : K.lookup f11 = some ⟨oc11, od11, .func (PySem.W.fnOf "is_text_of" "is_text_of" (defArgs s_is_text_of) (defBody s_is_text_of) (defScope s_is_text_of) .none kV11 dc11 pm11 an11 cd11 ct11), sl11⟩)
    (c11 : PySem.W.codeIn K cd11 "is_text_of" = true)
    (k11 : PySem.W.keepIn K (.ref f11) = true)
    (a12 : PySem.W.nsIn K mainGlobals "is_worth" = some (some (.ref f12)))
    (l12 : K.lookup f12 = some ⟨oc12, od12, .func (PySem.W.fnOf "is_worth" "is_worth" (defArgs s_is_worth) (defBody s_is_worth) (defScope s_is_worth) .none kV12 dc12 pm12 an12 cd12 ct12), sl12⟩)
    (c12 : PySem.W.codeIn K cd12 "is_worth" = true)
    (k12 : PySem.W.keepIn K (.ref f12) = true)
    (a13 : PySem.W.nsIn K mainGlobals "are_worths" = some (some (.ref f13)))
    (l13 : K.lookup f13 = some ⟨oc13, od13, .func (PySem.W.fnOf "are_worths" "are_worths" (defArgs s_are_worths) (defBody s_are_worths) (defScope s_are_worths) .none kV13 dc13 pm13 an13 cd13 ct13), sl13⟩)
    (c13 : PySem.W.codeIn K cd13 "are_worths" = true)
    (k13 : PySem.W.keepIn K (.ref f13) = true)
    (a14 : PySem.W.nsIn K mainGlobals "is_cell" = some (some (.ref f14)))
    (l14 : K.lookup f14 = some ⟨oc14, od14, .func (PySem.W.fnOf "is_cell" "is_cell" (defArgs s_is_cell) (defBody s_is_cell) (defScope s_is_cell) .none kV14 dc14 pm14 an14 cd14 ct14), sl14⟩)
    (c14 : PySem.W.codeIn K cd14 "is_cell" = true)
    (k14 : PySem.W.keepIn K (.ref f14) = true)
    (a15 : PySem.W.nsIn K mainGlobals "are_cell_words" = some (some (.ref f15)))
    (l15 : K.lookup f15 = some ⟨oc15, od15, .func (PySem.W.fnOf "are_cell_words" "are_cell_words" (defArgs s_are_cell_words) (defBody s_are_cell_words) (defScope s_are_cell_words) .none kV15 dc15 pm15 an15 cd15 ct15), sl15⟩)
    (c15 : PySem.W.codeIn K cd15 "are_cell_words" = true)
    (k15 : PySem.W.keepIn K (.ref f15) = true)
    (a16 : PySem.W.nsIn K mainGlobals "is_kind_word" = some (some (.ref f16)))
    (l16 : K.lookup f16 = some ⟨oc16, od16, .func (PySem.W.fnOf "is_kind_word" "is_kind_word" (defArgs s_is_kind_word) (defBody s_is_kind_word) (defScope s_is_kind_word) .none kV16 dc16 pm16 an16 cd16 ct16), sl16⟩)
    (c16 : PySem.W.codeIn K cd16 "is_kind_word" = true)
    (k16 : PySem.W.keepIn K (.ref f16) = true)
    (a17 : PySem.W.nsIn K mainGlobals "worths_in" = some (some (.ref f17)))
    (l17 : K.lookup f17 = some ⟨oc17, od17, .func (PySem.W.fnOf "worths_in" "worths_in" (defArgs s_worths_in) (defBody s_worths_in) (defScope s_worths_in) .none kV17 dc17 pm17 an17 cd17 ct17), sl17⟩)
    (c17 : PySem.W.codeIn K cd17 "worths_in" = true)
    (k17 : PySem.W.keepIn K (.ref f17) = true)
    (a18 : PySem.W.nsIn K mainGlobals "with_worths" = some (some (.ref f18)))
    (l18 : K.lookup f18 = some ⟨oc18, od18, .func (PySem.W.fnOf "with_worths" "with_worths" (defArgs s_with_worths) (defBody s_with_worths) (defScope s_with_worths) .none kV18 dc18 pm18 an18 cd18 ct18), sl18⟩)
    (c18 : PySem.W.codeIn K cd18 "with_worths" = true)
    (k18 : PySem.W.keepIn K (.ref f18) = true)
    (a19 : PySem.W.nsIn K mainGlobals "addresses_among" = some (some (.ref f19)))
    (l19 : K.lookup f19 = some ⟨oc19, od19, .func (PySem.W.fnOf "addresses_among" "addresses_among" (defArgs s_addresses_among) (defBody s_addresses_among) (defScope s_addresses_among) .none kV19 dc19 pm19 an19 cd19 ct19), sl19⟩)
    (c19 : PySem.W.codeIn K cd19 "addresses_among" = true)
    (k19 : PySem.W.keepIn K (.ref f19) = true)
    (a20 : PySem.W.nsIn K mainGlobals "moved_worths" = some (some (.ref f20)))
    (l20 : K.lookup f20 = some ⟨oc20, od20, .func (PySem.W.fnOf "moved_worths" "moved_worths" (defArgs s_moved_worths) (defBody s_moved_worths) (defScope s_moved_worths) .none kV20 dc20 pm20 an20 cd20 ct20), sl20⟩)
    (c20 : PySem.W.codeIn K cd20 "moved_worths" = true)
    (k20 : PySem.W.keepIn K (.ref f20) = true)
    (a21 : PySem.W.nsIn K mainGlobals "sweep_stands" = some (some (.ref f21)))
    (l21 : K.lookup f21 = some ⟨oc21, od21, .func (PySem.W.fnOf "sweep_stands" "sweep_stands" (defArgs s_sweep_stands) (defBody s_sweep_stands) (defScope s_sweep_stands) .none kV21 dc21 pm21 an21 cd21 ct21), sl21⟩)
    (c21 : PySem.W.codeIn K cd21 "sweep_stands" = true)
    (k21 : PySem.W.keepIn K (.ref f21) = true)
    (a22 : PySem.W.nsIn K mainGlobals "are_rising" = some (some (.ref f22)))
    (l22 : K.lookup f22 = some ⟨oc22, od22, .func (PySem.W.fnOf "are_rising" "are_rising" (defArgs s_are_rising) (defBody s_are_rising) (defScope s_are_rising) .none kV22 dc22 pm22 an22 cd22 ct22), sl22⟩)
    (c22 : PySem.W.codeIn K cd22 "are_rising" = true)
    (k22 : PySem.W.keepIn K (.ref f22) = true)
    (a23 : PySem.W.nsIn K mainGlobals "are_pairs" = some (some (.ref f23)))
    (l23 : K.lookup f23 = some ⟨oc23, od23, .func (PySem.W.fnOf "are_pairs" "are_pairs" (defArgs s_are_pairs) (defBody s_are_pairs) (defScope s_are_pairs) .none kV23 dc23 pm23 an23 cd23 ct23), sl23⟩)
    (c23 : PySem.W.codeIn K cd23 "are_pairs" = true)
    (k23 : PySem.W.keepIn K (.ref f23) = true)
    (a24 : PySem.W.nsIn K mainGlobals "are_cells_by_addresses" = some (some (.ref f24)))
    (l24 : K.lookup f24 = some ⟨oc24, od24, .func (PySem.W.fnOf "are_cells_by_addresses" "are_cells_by_addresses" (defArgs s_are_cells_by_addresses) (defBody s_are_cells_by_addresses) (defScope s_are_cells_by_addresses) .none kV24 dc24 pm24 an24 cd24 ct24), sl24⟩)
    (c24 : PySem.W.codeIn K cd24 "are_cells_by_addresses" = true)
    (k24 : PySem.W.keepIn K (.ref f24) = true)
    (a25 : PySem.W.nsIn K mainGlobals "are_moves" = some (some (.ref f25)))
    (l25 : K.lookup f25 = some ⟨oc25, od25, .func (PySem.W.fnOf "are_moves" "are_moves" (defArgs s_are_moves) (defBody s_are_moves) (defScope s_are_moves) .none kV25 dc25 pm25 an25 cd25 ct25), sl25⟩)
    (c25 : PySem.W.codeIn K cd25 "are_moves" = true)
    (k25 : PySem.W.keepIn K (.ref f25) = true)
    (a26 : PySem.W.nsIn K mainGlobals "is_moved_whole" = some (some (.ref f26)))
    (l26 : K.lookup f26 = some ⟨oc26, od26, .func (PySem.W.fnOf "is_moved_whole" "is_moved_whole" (defArgs s_is_moved_whole) (defBody s_is_moved_whole) (defScope s_is_moved_whole) .none kV26 dc26 pm26 an26 cd26 ct26), sl26⟩)
    (c26 : PySem.W.codeIn K cd26 "is_moved_whole" = true)
    (k26 : PySem.W.keepIn K (.ref f26) = true)
    (a27 : PySem.W.nsIn K mainGlobals "moved_cells" = some (some (.ref f27)))
    (l27 : K.lookup f27 = some ⟨oc27, od27, .func (PySem.W.fnOf "moved_cells" "moved_cells" (defArgs s_moved_cells) (defBody s_moved_cells) (defScope s_moved_cells) .none kV27 dc27 pm27 an27 cd27 ct27), sl27⟩)
    (c27 : PySem.W.codeIn K cd27 "moved_cells" = true)
    (k27 : PySem.W.keepIn K (.ref f27) = true)
    (a28 : PySem.W.nsIn K mainGlobals "_law_deck" = some (some (.ref f28)))
    (l28 : K.lookup f28 = some ⟨oc28, od28, .func (PySem.W.fnOf "_law_deck" "_law_deck" (defArgs s__law_deck) (defBody s__law_deck) (defScope s__law_deck) .none kV28 dc28 pm28 an28 cd28 ct28), sl28⟩)
    (c28 : PySem.W.codeIn K cd28 "_law_deck" = true)
    (k28 : PySem.W.keepIn K (.ref f28) = true)
    (a29 : PySem.W.nsIn K mainGlobals "_law_next" = some (some (.ref f29)))
    (l29 : K.lookup f29 = some ⟨oc29, od29, .func (PySem.W.fnOf "_law_next" "_law_next" (defArgs s__law_next) (defBody s__law_next) (defScope s__law_next) .none kV29 dc29 pm29 an29 cd29 ct29), sl29⟩)
    (c29 : PySem.W.codeIn K cd29 "_law_next" = true)
    (k29 : PySem.W.keepIn K (.ref f29) = true)
    (a30 : PySem.W.nsIn K mainGlobals "_law_worth" = some (some (.ref f30)))
    (l30 : K.lookup f30 = some ⟨oc30, od30, .func (PySem.W.fnOf "_law_worth" "_law_worth" (defArgs s__law_worth) (defBody s__law_worth) (defScope s__law_worth) .none kV30 dc30 pm30 an30 cd30 ct30), sl30⟩)
    (c30 : PySem.W.codeIn K cd30 "_law_worth" = true)
    (k30 : PySem.W.keepIn K (.ref f30) = true)
    (a31 : PySem.W.nsIn K mainGlobals "_law_worths" = some (some (.ref f31)))
    (l31 : K.lookup f31 = some ⟨oc31, od31, .func (PySem.W.fnOf "_law_worths" "_law_worths" (defArgs s__law_worths) (defBody s__law_worths) (defScope s__law_worths) .none kV31 dc31 pm31 an31 cd31 ct31), sl31⟩)
    (c31 : PySem.W.codeIn K cd31 "_law_worths" = true)
    (k31 : PySem.W.keepIn K (.ref f31) = true)
    (a32 : PySem.W.nsIn K mainGlobals "_law_cell" = some (some (.ref f32)))
    (l32 : K.lookup f32 = some ⟨oc32, od32, .func (PySem.W.fnOf "_law_cell" "_law_cell" (defArgs s__law_cell) (defBody s__law_cell) (defScope s__law_cell) .none kV32 dc32 pm32 an32 cd32 ct32), sl32⟩)
    (c32 : PySem.W.codeIn K cd32 "_law_cell" = true)
    (k32 : PySem.W.keepIn K (.ref f32) = true)
    (a33 : PySem.W.nsIn K mainGlobals "_law_places" = some (some (.ref f33)))
    (l33 : K.lookup f33 = some ⟨oc33, od33, .func (PySem.W.fnOf "_law_places" "_law_places" (defArgs s__law_places) (defBody s__law_places) (defScope s__law_places) .none kV33 dc33 pm33 an33 cd33 ct33), sl33⟩)
    (c33 : PySem.W.codeIn K cd33 "_law_places" = true)
    (k33 : PySem.W.keepIn K (.ref f33) = true)
    (a34 : PySem.W.nsIn K mainGlobals "_law_parts" = some (some (.ref f34)))
    (l34 : K.lookup f34 = some ⟨oc34, od34, .func (PySem.W.fnOf "_law_parts" "_law_parts" (defArgs s__law_parts) (defBody s__law_parts) (defScope s__law_parts) .none kV34 dc34 pm34 an34 cd34 ct34), sl34⟩)
    (c34 : PySem.W.codeIn K cd34 "_law_parts" = true)
    (k34 : PySem.W.keepIn K (.ref f34) = true)
    (a35 : PySem.W.nsIn K mainGlobals "_law_closed" = some (some (.ref f35)))
    (l35 : K.lookup f35 = some ⟨oc35, od35, .func (PySem.W.fnOf "_law_closed" "_law_closed" (defArgs s__law_closed) (defBody s__law_closed) (defScope s__law_closed) .none kV35 dc35 pm35 an35 cd35 ct35), sl35⟩)
    (c35 : PySem.W.codeIn K cd35 "_law_closed" = true)
    (k35 : PySem.W.keepIn K (.ref f35) = true)
    (a36 : PySem.W.nsIn K mainGlobals "_law_moved" = some (some (.ref f36)))
    (l36 : K.lookup f36 = some ⟨oc36, od36, .func (PySem.W.fnOf "_law_moved" "_law_moved" (defArgs s__law_moved) (defBody s__law_moved) (defScope s__law_moved) .none kV36 dc36 pm36 an36 cd36 ct36), sl36⟩)
    (c36 : PySem.W.codeIn K cd36 "_law_moved" = true)
    (k36 : PySem.W.keepIn K (.ref f36) = true)
    (a37 : PySem.W.nsIn K mainGlobals "_law_moved_cell" = some (some (.ref f37)))
    (l37 : K.lookup f37 = some ⟨oc37, od37, .func (PySem.W.fnOf "_law_moved_cell" "_law_moved_cell" (defArgs s__law_moved_cell) (defBody s__law_moved_cell) (defScope s__law_moved_cell) .none kV37 dc37 pm37 an37 cd37 ct37), sl37⟩)
    (c37 : PySem.W.codeIn K cd37 "_law_moved_cell" = true)
    (k37 : PySem.W.keepIn K (.ref f37) = true)
    (a38 : PySem.W.nsIn K mainGlobals "_law_told" = some (some (.ref f38)))
    (l38 : K.lookup f38 = some ⟨oc38, od38, .func (PySem.W.fnOf "_law_told" "_law_told" (defArgs s__law_told) (defBody s__law_told) (defScope s__law_told) .none kV38 dc38 pm38 an38 cd38 ct38), sl38⟩)
    (c38 : PySem.W.codeIn K cd38 "_law_told" = true)
    (k38 : PySem.W.keepIn K (.ref f38) = true)
    (a39 : PySem.W.nsIn K mainGlobals "_law_cells" = some (some (.ref f39)))
    (l39 : K.lookup f39 = some ⟨oc39, od39, .func (PySem.W.fnOf "_law_cells" "_law_cells" (defArgs s__law_cells) (defBody s__law_cells) (defScope s__law_cells) .none kV39 dc39 pm39 an39 cd39 ct39), sl39⟩)
    (c39 : PySem.W.codeIn K cd39 "_law_cells" = true)
    (k39 : PySem.W.keepIn K (.ref f39) = true)
    (a40 : PySem.W.nsIn K mainGlobals "_law_paper" = some (some (.ref f40)))
    (l40 : K.lookup f40 = some ⟨oc40, od40, .func (PySem.W.fnOf "_law_paper" "_law_paper" (defArgs s__law_paper) (defBody s__law_paper) (defScope s__law_paper) .none kV40 dc40 pm40 an40 cd40 ct40), sl40⟩)
    (c40 : PySem.W.codeIn K cd40 "_law_paper" = true)
    (k40 : PySem.W.keepIn K (.ref f40) = true)
    (a41 : PySem.W.nsIn K mainGlobals "_law_fewer" = some (some (.ref f41)))
    (l41 : K.lookup f41 = some ⟨oc41, od41, .func (PySem.W.fnOf "_law_fewer" "_law_fewer" (defArgs s__law_fewer) (defBody s__law_fewer) (defScope s__law_fewer) .none kV41 dc41 pm41 an41 cd41 ct41), sl41⟩)
    (c41 : PySem.W.codeIn K cd41 "_law_fewer" = true)
    (k41 : PySem.W.keepIn K (.ref f41) = true)
    (a42 : PySem.W.nsIn K mainGlobals "law" = some (some (.ref f42)))
    (l42 : K.lookup f42 = some ⟨oc42, od42, .func (PySem.W.fnOf "law" "law" (defArgs s_law) (defBody s_law) (defScope s_law) .none kV42 dc42 pm42 an42 cd42 ct42), sl42⟩)
    (c42 : PySem.W.codeIn K cd42 "law" = true)
    (k42 : PySem.W.keepIn K (.ref f42) = true)
    (v_MOST_FIELDS : PySem.W.nsIn K mainGlobals "MOST_FIELDS" = some (some (.int 8 t_MOST_FIELDS)))
    (v_MOST_NAMES : PySem.W.nsIn K mainGlobals "MOST_NAMES" = some (some (.int 12 t_MOST_NAMES)))
    (v_MOST_WORTHS_OF_LIST : PySem.W.nsIn K mainGlobals "MOST_WORTHS_OF_LIST" = some (some (.int 30 t_MOST_WORTHS_OF_LIST)))
    (v_BIG : PySem.W.nsIn K mainGlobals "BIG" = some (some (.int 1000000000000 t_BIG)))
    (v_MOST_TEXT_SIGNS : PySem.W.nsIn K mainGlobals "MOST_TEXT_SIGNS" = some (some (.int 40 t_MOST_TEXT_SIGNS)))
    (v_MOST_NAME_SIGNS : PySem.W.nsIn K mainGlobals "MOST_NAME_SIGNS" = some (some (.int 12 t_MOST_NAME_SIGNS)))
    (v_CAPITALS : PySem.W.nsIn K mainGlobals "CAPITALS" = some (some (.str s_CAPITALS t_CAPITALS)))
    (e_CAPITALS : s_CAPITALS = mk [65, 66, 67, 68, 69, 70, 71, 72, 73, 74, 75, 76, 77, 78, 79, 80, 81, 82, 83, 84, 85, 86, 87, 88, 89, 90])
    (v_KIND_SIGNS : PySem.W.nsIn K mainGlobals "KIND_SIGNS" = some (some (.str s_KIND_SIGNS t_KIND_SIGNS)))
    (e_KIND_SIGNS : s_KIND_SIGNS = mk [97, 98, 99, 100, 101, 102, 103, 104, 105, 106, 107, 108, 109, 110, 111, 112, 113, 114, 115, 116, 117, 118, 119, 120, 121, 122, 65, 66, 67, 68, 69, 70, 71, 72, 73, 74, 75, 76, 77, 78, 79, 80, 81, 82, 83, 84, 85, 86, 87, 88, 89, 90, 48, 49, 50, 51, 52, 53, 54, 55, 56, 57])
    (v_TEXT_SIGNS : PySem.W.nsIn K mainGlobals "TEXT_SIGNS" = some (some (.str s_TEXT_SIGNS t_TEXT_SIGNS)))
    (e_TEXT_SIGNS : s_TEXT_SIGNS = mk [97, 98, 99, 100, 101, 102, 103, 104, 105, 106, 107, 108, 109, 110, 111, 112, 113, 114, 115, 116, 117, 118, 119, 120, 121, 122, 65, 66, 67, 68, 69, 70, 71, 72, 73, 74, 75, 76, 77, 78, 79, 80, 81, 82, 83, 84, 85, 86, 87, 88, 89, 90, 48, 49, 50, 51, 52, 53, 54, 55, 56, 57, 95])
    (z_abs : PySem.W.nsIn K mainGlobals "abs" = some none)
    (z_all : PySem.W.nsIn K mainGlobals "all" = some none)
    (z_any : PySem.W.nsIn K mainGlobals "any" = some none)
    (z_bool : PySem.W.nsIn K mainGlobals "bool" = some none)
    (z_dict : PySem.W.nsIn K mainGlobals "dict" = some none)
    (z_divmod : PySem.W.nsIn K mainGlobals "divmod" = some none)
    (z_enumerate : PySem.W.nsIn K mainGlobals "enumerate" = some none)
    (z_int : PySem.W.nsIn K mainGlobals "int" = some none)
    (z_isinstance : PySem.W.nsIn K mainGlobals "isinstance" = some none)
    (z_len : PySem.W.nsIn K mainGlobals "len" = some none)
    (z_list : PySem.W.nsIn K mainGlobals "list" = some none)
    (z_max : PySem.W.nsIn K mainGlobals "max" = some none)
    (z_min : PySem.W.nsIn K mainGlobals "min" = some none)
    (z_range : PySem.W.nsIn K mainGlobals "range" = some none)
    (z_repr : PySem.W.nsIn K mainGlobals "repr" = some none)
    (z_reversed : PySem.W.nsIn K mainGlobals "reversed" = some none)
    (z_set : PySem.W.nsIn K mainGlobals "set" = some none)
    (z_sorted : PySem.W.nsIn K mainGlobals "sorted" = some none)
    (z_str : PySem.W.nsIn K mainGlobals "str" = some none)
    (z_sum : PySem.W.nsIn K mainGlobals "sum" = some none)
    (z_tuple : PySem.W.nsIn K mainGlobals "tuple" = some none)
    (z_zip : PySem.W.nsIn K mainGlobals "zip" = some none)
    : LawG l w K 20 63 "_law_script" mg fa h := by
  have e := hfa.symm.trans (PySem.W.mg_of X G a42)
  cases e
  subst xc
  have ZF : Fz K mg := {
    D_is_kind_name := ⟨⟨f0, _, fun_mk l0 c0 k0, PySem.W.mg_of X G a0⟩⟩,
    D_is_name := ⟨⟨f1, _, fun_mk l1 c1 k1, PySem.W.mg_of X G a1⟩⟩,
    D_is_text := ⟨⟨f2, _, fun_mk l2 c2 k2, PySem.W.mg_of X G a2⟩⟩,
    D_has_only := ⟨⟨f3, _, fun_mk l3 c3 k3, PySem.W.mg_of X G a3⟩⟩,
    D_sort_of := ⟨⟨f4, _, fun_mk l4 c4 k4, PySem.W.mg_of X G a4⟩⟩,
    D_is_whole := ⟨⟨f5, _, fun_mk l5 c5 k5, PySem.W.mg_of X G a5⟩⟩,
    D_is_row := ⟨⟨f6, _, fun_mk l6 c6 k6, PySem.W.mg_of X G a6⟩⟩,
    D_is_plain := ⟨⟨f7, _, fun_mk l7 c7 k7, PySem.W.mg_of X G a7⟩⟩,
    D_same := ⟨⟨f8, _, fun_mk l8 c8 k8, PySem.W.mg_of X G a8⟩⟩,
    D_is_number_from_0 := ⟨⟨f9, _, fun_mk l9 c9 k9, PySem.W.mg_of X G a9⟩⟩,
    D_is_cell_word := ⟨⟨f10, _, fun_mk l10 c10 k10, PySem.W.mg_of X G a10⟩⟩,
    D_is_text_of := ⟨⟨f11, _, fun_mk l11 c11 k11, PySem.W.mg_of X G a11⟩⟩,
    D_is_worth := ⟨⟨f12, _, fun_mk l12 c12 k12, PySem.W.mg_of X G a12⟩⟩,
    D_are_worths := ⟨⟨f13, _, fun_mk l13 c13 k13, PySem.W.mg_of X G a13⟩⟩,
    D_is_cell := ⟨⟨f14, _, fun_mk l14 c14 k14, PySem.W.mg_of X G a14⟩⟩,
    D_are_cell_words := ⟨⟨f15, _, fun_mk l15 c15 k15, PySem.W.mg_of X G a15⟩⟩,
    D_is_kind_word := ⟨⟨f16, _, fun_mk l16 c16 k16, PySem.W.mg_of X G a16⟩⟩,
    D_worths_in := ⟨⟨f17, _, fun_mk l17 c17 k17, PySem.W.mg_of X G a17⟩⟩,
    D_with_worths := ⟨⟨f18, _, fun_mk l18 c18 k18, PySem.W.mg_of X G a18⟩⟩,
    D_addresses_among := ⟨⟨f19, _, fun_mk l19 c19 k19, PySem.W.mg_of X G a19⟩⟩,
    D_moved_worths := ⟨⟨f20, _, fun_mk l20 c20 k20, PySem.W.mg_of X G a20⟩⟩,
    D_sweep_stands := ⟨⟨f21, _, fun_mk l21 c21 k21, PySem.W.mg_of X G a21⟩⟩,
    D_are_rising := ⟨⟨f22, _, fun_mk l22 c22 k22, PySem.W.mg_of X G a22⟩⟩,
    D_are_pairs := ⟨⟨f23, _, fun_mk l23 c23 k23, PySem.W.mg_of X G a23⟩⟩,
    D_are_cells_by_addresses := ⟨⟨f24, _, fun_mk l24 c24 k24, PySem.W.mg_of X G a24⟩⟩,
    D_are_moves := ⟨⟨f25, _, fun_mk l25 c25 k25, PySem.W.mg_of X G a25⟩⟩,
    D_is_moved_whole := ⟨⟨f26, _, fun_mk l26 c26 k26, PySem.W.mg_of X G a26⟩⟩,
    D_moved_cells := ⟨⟨f27, _, fun_mk l27 c27 k27, PySem.W.mg_of X G a27⟩⟩,
    D__law_deck := ⟨⟨f28, _, fun_mk l28 c28 k28, PySem.W.mg_of X G a28⟩⟩,
    D__law_next := ⟨⟨f29, _, fun_mk l29 c29 k29, PySem.W.mg_of X G a29⟩⟩,
    D__law_worth := ⟨⟨f30, _, fun_mk l30 c30 k30, PySem.W.mg_of X G a30⟩⟩,
    D__law_worths := ⟨⟨f31, _, fun_mk l31 c31 k31, PySem.W.mg_of X G a31⟩⟩,
    D__law_cell := ⟨⟨f32, _, fun_mk l32 c32 k32, PySem.W.mg_of X G a32⟩⟩,
    D__law_places := ⟨⟨f33, _, fun_mk l33 c33 k33, PySem.W.mg_of X G a33⟩⟩,
    D__law_parts := ⟨⟨f34, _, fun_mk l34 c34 k34, PySem.W.mg_of X G a34⟩⟩,
    D__law_closed := ⟨⟨f35, _, fun_mk l35 c35 k35, PySem.W.mg_of X G a35⟩⟩,
    D__law_moved := ⟨⟨f36, _, fun_mk l36 c36 k36, PySem.W.mg_of X G a36⟩⟩,
    D__law_moved_cell := ⟨⟨f37, _, fun_mk l37 c37 k37, PySem.W.mg_of X G a37⟩⟩,
    D__law_told := ⟨⟨f38, _, fun_mk l38 c38 k38, PySem.W.mg_of X G a38⟩⟩,
    D__law_cells := ⟨⟨f39, _, fun_mk l39 c39 k39, PySem.W.mg_of X G a39⟩⟩,
    D__law_paper := ⟨⟨f40, _, fun_mk l40 c40 k40, PySem.W.mg_of X G a40⟩⟩,
    D__law_fewer := ⟨⟨f41, _, fun_mk l41 c41 k41, PySem.W.mg_of X G a41⟩⟩,
    g_MOST_FIELDS := ⟨_, PySem.W.mg_of X G v_MOST_FIELDS, ⟨_, rfl⟩⟩,
    g_MOST_NAMES := ⟨_, PySem.W.mg_of X G v_MOST_NAMES, ⟨_, rfl⟩⟩,
    g_MOST_WORTHS_OF_LIST := ⟨_, PySem.W.mg_of X G v_MOST_WORTHS_OF_LIST, ⟨_, rfl⟩⟩,
    g_BIG := ⟨_, PySem.W.mg_of X G v_BIG, ⟨_, rfl⟩⟩,
    g_MOST_TEXT_SIGNS := ⟨_, PySem.W.mg_of X G v_MOST_TEXT_SIGNS, ⟨_, rfl⟩⟩,
    g_MOST_NAME_SIGNS := ⟨_, PySem.W.mg_of X G v_MOST_NAME_SIGNS, ⟨_, rfl⟩⟩,
    g_CAPITALS := ⟨_, PySem.W.mg_of X G v_CAPITALS, ⟨_, by rw [e_CAPITALS]⟩⟩,
    g_KIND_SIGNS := ⟨_, PySem.W.mg_of X G v_KIND_SIGNS, ⟨_, by rw [e_KIND_SIGNS]⟩⟩,
    g_TEXT_SIGNS := ⟨_, PySem.W.mg_of X G v_TEXT_SIGNS, ⟨_, by rw [e_TEXT_SIGNS]⟩⟩,
    b_abs := PySem.W.mg_none_of X G z_abs,
    b_all := PySem.W.mg_none_of X G z_all,
    b_any := PySem.W.mg_none_of X G z_any,
    b_bool := PySem.W.mg_none_of X G z_bool,
    b_dict := PySem.W.mg_none_of X G z_dict,
    b_divmod := PySem.W.mg_none_of X G z_divmod,
    b_enumerate := PySem.W.mg_none_of X G z_enumerate,
    b_int := PySem.W.mg_none_of X G z_int,
    b_isinstance := PySem.W.mg_none_of X G z_isinstance,
    b_len := PySem.W.mg_none_of X G z_len,
    b_list := PySem.W.mg_none_of X G z_list,
    b_max := PySem.W.mg_none_of X G z_max,
    b_min := PySem.W.mg_none_of X G z_min,
    b_range := PySem.W.mg_none_of X G z_range,
    b_repr := PySem.W.mg_none_of X G z_repr,
    b_reversed := PySem.W.mg_none_of X G z_reversed,
    b_set := PySem.W.mg_none_of X G z_set,
    b_sorted := PySem.W.mg_none_of X G z_sorted,
    b_str := PySem.W.mg_none_of X G z_str,
    b_sum := PySem.W.mg_none_of X G z_sum,
    b_tuple := PySem.W.mg_none_of X G z_tuple,
    b_zip := PySem.W.mg_none_of X G z_zip }
  have TD0 : DnC K mg "_law_told" s__law_told cc := ⟨⟨f38, _, _, _, _, _, _, _, _, l38, c38, k38, PySem.W.mg_of X G a38⟩⟩
  exact ⟨PySem.W.fnOf "law" "law" (defArgs s_law) (defBody s_law) (defScope s_law) .none kV42 dc42 pm42 an42 cd42 ct42, cc, 252, spLaw K [(252, qTd)], xt, xl, PySem.W.codeHd_of_K X xh, fun s v => .of_eq rfl, fun H a ns hl hT hS => ⟨a, ns, rfl, hS, hl, fun p hp => by rw [List.mem_singleton.mp hp]; exact LamX.TabS.nil hT, fun _ => rfl⟩, fun base _ _ TB => law_ok ZF TD0 TB (fun_mk l42 c42 k42)⟩
end My
open PySem PySem.W PyProof.Rows in
set_option maxRecDepth 100000 in
set_option maxHeartbeats 0 in
theorem PySem.Challenge.cw_sendstead_k29_sweep_papers_holds : PySem.Challenge.rw_sendstead_k29_sweep_papers.Holds := by
  w_on; o_law; k_head; (case hw => w_witness2)
  k_fill
  refine My.walk_G (l := PySem.Challenge.rw_sendstead_k29_sweep_papers) (n := 63) (k := 20) (x := "_law_script") rfl (by decide) rfl ⟨rfl, by decide, by decide⟩ (fun w h Y => PySem.W.km_in_of Y) ?F
  case F =>
    intro w mg fa h Y KX G hmg
    refine' My.all_mk KX G hmg ?xc ?xh ?xl (PySem.W.km_tabs_of Y 252 (by simp)) ?a0 ?l0 ?c0 ?k0 ?a1 ?l1 ?c1 ?k1 ?a2 ?l2 ?c2 ?k2 ?a3 ?l3 ?c3 ?k3 ?a4 ?l4 ?c4 ?k4 ?a5 ?l5 ?c5 ?k5 ?a6 ?l6 ?c6 ?k6 ?a7 ?l7 ?c7 ?k7 ?a8 ?l8 ?c8 ?k8 ?a9 ?l9 ?c9 ?k9 ?a10 ?l10 ?c10 ?k10 ?a11 ?l11 ?c11 ?k11 ?a12 ?l12 ?c12 ?k12 ?a13 ?l13 ?c13 ?k13 ?a14 ?l14 ?c14 ?k14 ?a15 ?l15 ?c15 ?k15 ?a16 ?l16 ?c16 ?k16 ?a17 ?l17 ?c17 ?k17 ?a18 ?l18 ?c18 ?k18 ?a19 ?l19 ?c19 ?k19 ?a20 ?l20 ?c20 ?k20 ?a21 ?l21 ?c21 ?k21 ?a22 ?l22 ?c22 ?k22 ?a23 ?l23 ?c23 ?k23 ?a24 ?l24 ?c24 ?k24 ?a25 ?l25 ?c25 ?k25 ?a26 ?l26 ?c26 ?k26 ?a27 ?l27 ?c27 ?k27 ?a28 ?l28 ?c28 ?k28 ?a29 ?l29 ?c29 ?k29 ?a30 ?l30 ?c30 ?k30 ?a31 ?l31 ?c31 ?k31 ?a32 ?l32 ?c32 ?k32 ?a33 ?l33 ?c33 ?k33 ?a34 ?l34 ?c34 ?k34 ?a35 ?l35 ?c35 ?k35 ?a36 ?l36 ?c36 ?k36 ?a37 ?l37 ?c37 ?k37 ?a38 ?l38 ?c38 ?k38 ?a39 ?l39 ?c39 ?k39 ?a40 ?l40 ?c40 ?k40 ?a41 ?l41 ?c41 ?k41 ?a42 ?l42 ?c42 ?k42 ?v_MOST_FIELDS ?v_MOST_NAMES ?v_MOST_WORTHS_OF_LIST ?v_BIG ?v_MOST_TEXT_SIGNS ?v_MOST_NAME_SIGNS ?v_CAPITALS ?e_CAPITALS ?v_KIND_SIGNS ?e_KIND_SIGNS ?v_TEXT_SIGNS ?e_TEXT_SIGNS ?z_abs ?z_all ?z_any ?z_bool ?z_dict ?z_divmod ?z_enumerate ?z_int ?z_isinstance ?z_len ?z_list ?z_max ?z_min ?z_range ?z_repr ?z_reversed ?z_set ?z_sorted ?z_str ?z_sum ?z_tuple ?z_zip
    (case a0 => k_is)
    (case l0 => k_is)
    (case c0 => k_is)
    (case k0 => k_is)
    (case a1 => k_is)
    (case l1 => k_is)
    (case c1 => k_is)
    (case k1 => k_is)
    (case a2 => k_is)
    (case l2 => k_is)
    (case c2 => k_is)
    (case k2 => k_is)
    (case a3 => k_is)
    (case l3 => k_is)
    (case c3 => k_is)
    (case k3 => k_is)
    (case a4 => k_is)
    (case l4 => k_is)
    (case c4 => k_is)
    (case k4 => k_is)
    (case a5 => k_is)
    (case l5 => k_is)
    (case c5 => k_is)
    (case k5 => k_is)
    (case a6 => k_is)
    (case l6 => k_is)
    (case c6 => k_is)
    (case k6 => k_is)
    (case a7 => k_is)
    (case l7 => k_is)
    (case c7 => k_is)
    (case k7 => k_is)
    (case a8 => k_is)
    (case l8 => k_is)
    (case c8 => k_is)
    (case k8 => k_is)
    (case a9 => k_is)
    (case l9 => k_is)
    (case c9 => k_is)
    (case k9 => k_is)
    (case a10 => k_is)
    (case l10 => k_is)
    (case c10 => k_is)
    (case k10 => k_is)
    (case a11 => k_is)
    (case l11 => k_is)
    (case c11 => k_is)
    (case k11 => k_is)
    (case a12 => k_is)
    (case l12 => k_is)
    (case c12 => k_is)
    (case k12 => k_is)
    (case a13 => k_is)
    (case l13 => k_is)
    (case c13 => k_is)
    (case k13 => k_is)
    (case a14 => k_is)
    (case l14 => k_is)
    (case c14 => k_is)
    (case k14 => k_is)
    (case a15 => k_is)
    (case l15 => k_is)
    (case c15 => k_is)
    (case k15 => k_is)
    (case a16 => k_is)
    (case l16 => k_is)
    (case c16 => k_is)
    (case k16 => k_is)
    (case a17 => k_is)
    (case l17 => k_is)
    (case c17 => k_is)
    (case k17 => k_is)
    (case a18 => k_is)
    (case l18 => k_is)
    (case c18 => k_is)
    (case k18 => k_is)
    (case a19 => k_is)
    (case l19 => k_is)
    (case c19 => k_is)
    (case k19 => k_is)
    (case a20 => k_is)
    (case l20 => k_is)
    (case c20 => k_is)
    (case k20 => k_is)
    (case a21 => k_is)
    (case l21 => k_is)
    (case c21 => k_is)
    (case k21 => k_is)
    (case a22 => k_is)
    (case l22 => k_is)
    (case c22 => k_is)
    (case k22 => k_is)
    (case a23 => k_is)
    (case l23 => k_is)
    (case c23 => k_is)
    (case k23 => k_is)
    (case a24 => k_is)
    (case l24 => k_is)
    (case c24 => k_is)
    (case k24 => k_is)
    (case a25 => k_is)
    (case l25 => k_is)
    (case c25 => k_is)
    (case k25 => k_is)
    (case a26 => k_is)
    (case l26 => k_is)
    (case c26 => k_is)
    (case k26 => k_is)
    (case a27 => k_is)
    (case l27 => k_is)
    (case c27 => k_is)
    (case k27 => k_is)
    (case a28 => k_is)
    (case l28 => k_is)
    (case c28 => k_is)
    (case k28 => k_is)
    (case a29 => k_is)
    (case l29 => k_is)
    (case c29 => k_is)
    (case k29 => k_is)
    (case a30 => k_is)
    (case l30 => k_is)
    (case c30 => k_is)
    (case k30 => k_is)
    (case a31 => k_is)
    (case l31 => k_is)
    (case c31 => k_is)
    (case k31 => k_is)
    (case a32 => k_is)
    (case l32 => k_is)
    (case c32 => k_is)
    (case k32 => k_is)
    (case a33 => k_is)
    (case l33 => k_is)
    (case c33 => k_is)
    (case k33 => k_is)
    (case a34 => k_is)
    (case l34 => k_is)
    (case c34 => k_is)
    (case k34 => k_is)
    (case a35 => k_is)
    (case l35 => k_is)
    (case c35 => k_is)
    (case k35 => k_is)
    (case a36 => k_is)
    (case l36 => k_is)
    (case c36 => k_is)
    (case k36 => k_is)
    (case a37 => k_is)
    (case l37 => k_is)
    (case c37 => k_is)
    (case k37 => k_is)
    (case a38 => k_is)
    (case l38 => k_is)
    (case c38 => k_is)
    (case k38 => k_is)
    (case a39 => k_is)
    (case l39 => k_is)
    (case c39 => k_is)
    (case k39 => k_is)
    (case a40 => k_is)
    (case l40 => k_is)
    (case c40 => k_is)
    (case k40 => k_is)
    (case a41 => k_is)
    (case l41 => k_is)
    (case c41 => k_is)
    (case k41 => k_is)
    (case a42 => k_is)
    (case l42 => k_is)
    (case c42 => k_is)
    (case k42 => k_is)
    (case v_MOST_FIELDS => k_is)
    (case v_MOST_NAMES => k_is)
    (case v_MOST_WORTHS_OF_LIST => k_is)
    (case v_BIG => k_is)
    (case v_MOST_TEXT_SIGNS => k_is)
    (case v_MOST_NAME_SIGNS => k_is)
    (case v_CAPITALS => k_is)
    (case e_CAPITALS => decide +kernel)
    (case v_KIND_SIGNS => k_is)
    (case e_KIND_SIGNS => decide +kernel)
    (case v_TEXT_SIGNS => k_is)
    (case e_TEXT_SIGNS => decide +kernel)
    (case z_abs => k_is)
    (case z_all => k_is)
    (case z_any => k_is)
    (case z_bool => k_is)
    (case z_dict => k_is)
    (case z_divmod => k_is)
    (case z_enumerate => k_is)
    (case z_int => k_is)
    (case z_isinstance => k_is)
    (case z_len => k_is)
    (case z_list => k_is)
    (case z_max => k_is)
    (case z_min => k_is)
    (case z_range => k_is)
    (case z_repr => k_is)
    (case z_reversed => k_is)
    (case z_set => k_is)
    (case z_sorted => k_is)
    (case z_str => k_is)
    (case z_sum => k_is)
    (case z_tuple => k_is)
    (case z_zip => k_is)
    (case xc => rfl)
    (case xh => kernel_rfl)
    (case xl => kernel_rfl)

