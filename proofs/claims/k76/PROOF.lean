import PyProof.Rows.All
import Wide.All
import OpenK.AllK
import Wide.FinOn
import HandS.ForMost
import HandS.ForExc
import HandS.ExcInit
import HandS.ExcField
import HandS.FStr
import HandS.CallLocal
import HandS.SortKw
import HandS.StrMore
import HandS.Flow
import HandS.CallSlots
import HandS.TupAny
import HandS.ClsMeth
import HandS.Walk
import KE.DataMinMax
import KE.GoesEnumKw
import HandS.IsInst
import HandS.OwnEq
import KE.KCallOwn
import HandS.Star
import HandS.Strs
import KE.IntTextLaws
import HandS.Codes
import HandS.Zip
import HandS.Evl
import PyProof.StrLawsRepr
import KE.KUnpackStar
import PyProof.DictCalls
import HandS.More
import PyProof.DelItemList
import PyProof.RulesDelMore
import HandS.Text
import PyProof.StrLawsTight
import PyProof.StrLawsChain
import HandS.Style
import HandS.Iter
import PyProof.ReprRoads
import HandS.FStrTup
import HandS.EndTab
import HandS.EndBits
import HandS.HeadHook3
import HandS.HeadHook4
import PySem.Challenge.RW_sendstead_k76_deeds_as_texts
set_option Elab.async false
set_option linter.all false
set_option maxRecDepth 100000
set_option maxHeartbeats 4000000
section
/-! the mathematics of texts, rows and words: plain lists of codes -/
set_option autoImplicit false
namespace SS
abbrev T := List Nat
def BR : T := [40, 41, 123, 125, 91, 93, 124]
def isSep (c : Nat) : Bool := decide (c = 32) || decide (c ∈ BR)
def flush (cur : T) (k : Nat) : List (T × Nat) := if cur = [] then [] else [(cur, k - cur.length)]
/-- the words of what is left of a row, cur being read ahead of column k -/
def rw_ : T → Nat → T → List (T × Nat)
  | cur, k, [] => flush cur k
  | cur, k, c :: r => if isSep c = true then flush cur k ++ (if c = 32 then [] else [([c], k)]) ++ rw_ [] (k + 1) r else rw_ (cur ++ [c]) (k + 1) r
def rowWords (l : T) : List (T × Nat) := rw_ [] 1 l

def SMALL : T := (List.range 26).map (· + 97)
def CAPS : T := (List.range 26).map (· + 65)
def FIGS : T := (List.range 10).map (· + 48)
def TEXTS : T := SMALL ++ CAPS ++ FIGS ++ [95]
def hasOnly (w s : T) : Bool := w.all fun c => decide (c ∈ s)
def isName (w first others : T) : Bool := decide (1 ≤ w.length ∧ w.length ≤ 12) && (decide ((w.getD 0 0) ∈ first) && hasOnly w others)
def isSmall (w : T) : Bool := isName w SMALL (SMALL ++ FIGS)
def isKindName (w : T) : Bool := isName w CAPS (SMALL ++ CAPS ++ FIGS)
def isText (w : T) : Bool := decide (w.length ≤ 40) && hasOnly w TEXTS

/-- one word that is none, or the row too long: the first column -/
def cols (isW : T → Bool) (p : List (T × Nat)) (n : Nat) : List Nat := (p.filter fun q => !isW q.1).map (·.2) ++ (if n > 120 then [121] else [])
def minOf : List Nat → Option Nat
  | [] => none
  | a :: r => match minOf r with
    | none => some a
    | some b => some (if b < a then b else a)
theorem minOf_none : ∀ {l : List Nat}, minOf l = none ↔ l = []
  | [] => by simp [minOf]
  | a :: r => by
    simp only [minOf]
    split <;> simp
theorem minOf_some : ∀ {l : List Nat} {m : Nat}, minOf l = some m ↔ m ∈ l ∧ ∀ y ∈ l, m ≤ y
  | [], m => by simp [minOf]
  | a :: r, m => by
    simp only [minOf]
    cases e : minOf r with
    | none =>
      have e' := minOf_none.mp e
      subst e'
      simp
      constructor
      · intro h; subst h; simp
      · intro h; exact h.1.symm
    | some b =>
      have ih := (minOf_some (l := r) (m := b)).mp e
      simp only [Option.some.injEq]
      constructor
      · intro h
        split at h
        · subst h
          refine ⟨List.mem_cons_of_mem _ ih.1, fun y hy => ?_⟩
          rcases List.mem_cons.mp hy with h | h
          · subst h; omega
          · exact ih.2 y h
        · subst h
          refine ⟨List.mem_cons_self, fun y hy => ?_⟩
          rcases List.mem_cons.mp hy with h | h
          · omega
          · have := ih.2 y h; omega
      · rintro ⟨h1, h2⟩
        have ha := h2 a List.mem_cons_self
        have hb := h2 b (List.mem_cons_of_mem _ ih.1)
        rcases List.mem_cons.mp h1 with h | h
        · subst h
          split
          · omega
          · rfl
        · have := ih.2 m h
          split <;> omega
def wrongCol (isW : T → Bool) (p : List (T × Nat)) (n : Nat) : Option Nat := minOf (cols isW p n)

abbrev W := T × Nat × Nat
def lay (r : Nat) (p : List (T × Nat)) : List W := p.map fun q => (q.1, r, q.2)
def scanGo (isW : T → Bool) : Nat → List T → List W × Option (Nat × Nat)
  | _, [] => ([], none)
  | r, l :: ls => match wrongCol isW (rowWords l) l.length with
    | some c => (lay r ((rowWords l).filter fun q => decide (q.2 < c)), some (r, c))
    | none => (lay r (rowWords l) ++ (scanGo isW (r + 1) ls).1, (scanGo isW (r + 1) ls).2)
def scan (isW : T → Bool) (rows : List T) : List W × Option (Nat × Nat) :=
  match (scanGo isW 1 (rows.take 300)).2 with
  | some p => ((scanGo isW 1 (rows.take 300)).1, some p)
  | none => ((scanGo isW 1 (rows.take 300)).1, if rows.length > 300 then some (301, 1) else none)

/-! ### rows: facts -/
theorem flush_nil (k : Nat) : flush [] k = [] := rfl
theorem rw_sep {cur : T} {k c : Nat} {r : T} (h : isSep c = true) : rw_ cur k (c :: r) = flush cur k ++ (if c = 32 then [] else [([c], k)]) ++ rw_ [] (k + 1) r := by
  rw [rw_, if_pos h]
theorem rw_on {cur : T} {k c : Nat} {r : T} (h : isSep c = false) : rw_ cur k (c :: r) = rw_ (cur ++ [c]) (k + 1) r := by
  rw [rw_, if_neg (by rw [h]; decide)]
theorem rw_blank {cur : T} {k : Nat} {r : T} : rw_ cur k (32 :: r) = flush cur k ++ rw_ [] (k + 1) r := by
  rw [rw_sep (by decide)]
  simp
theorem rw_blanks : ∀ (n k : Nat) (r : T), rw_ [] k (List.replicate n 32 ++ r) = rw_ [] (k + n) r
  | 0, k, r => rfl
  | n + 1, k, r => by
    rw [List.replicate_succ, List.cons_append, rw_blank, flush_nil, List.nil_append, rw_blanks n (k + 1) r]
    congr 1
    omega
theorem rw_tail (cur : T) (k n : Nat) : rw_ cur k (List.replicate n 32) = flush cur k := by
  cases n with
  | zero => rfl
  | succ n =>
    rw [List.replicate_succ, rw_blank]
    have := rw_blanks n (k + 1) []
    rw [List.append_nil] at this
    rw [this]
    simp [rw_, flush]
/-- a plain word, then what ends it -/
theorem rw_word : ∀ (w cur : T) (k : Nat) (r : T), (w.all fun c => !isSep c) = true → rw_ cur k (w ++ r) = rw_ (cur ++ w) (k + w.length) r
  | [], cur, k, r, _ => by simp
  | c :: w, cur, k, r, h => by
    rw [List.all_cons, Bool.and_eq_true] at h
    rw [List.cons_append, rw_on (by simpa using h.1), rw_word w _ _ _ h.2, List.append_assoc, List.singleton_append, List.length_cons]
    congr 1
    omega
theorem flush_word {w : T} {k : Nat} (h : w ≠ []) : flush w (k + w.length) = [(w, k)] := by
  unfold flush
  rw [if_neg h]
  congr 2
  omega
theorem rw_word1 {w : T} {k : Nat} {r : T} (h : w ≠ []) (hs : (w.all fun c => !isSep c) = true) : rw_ [] k (w ++ 32 :: r) = (w, k) :: rw_ [] (k + w.length + 1) r := by
  rw [rw_word w [] k _ hs, List.nil_append, rw_blank, flush_word h]
  rfl
theorem rw_wordEnd {w : T} {k n : Nat} (h : w ≠ []) (hs : (w.all fun c => !isSep c) = true) : rw_ [] k (w ++ List.replicate n 32) = [(w, k)] := by
  rw [rw_word w [] k _ hs, List.nil_append, rw_tail, flush_word h]
theorem rw_ge : ∀ (r cur : T) (k m : Nat), m + cur.length ≤ k → ∀ q ∈ rw_ cur k r, m ≤ q.2
  | [], cur, k, m, h, q, hq => by
    rw [rw_] at hq
    unfold flush at hq
    split at hq
    · simp at hq
    · simp at hq; subst hq; show m ≤ k - cur.length; omega
  | c :: r, cur, k, m, h, q, hq => by
    rw [rw_] at hq
    split at hq
    · rcases List.mem_append.mp hq with hq | hq
      · rcases List.mem_append.mp hq with hq | hq
        · unfold flush at hq
          split at hq
          · simp at hq
          · simp at hq; subst hq; show m ≤ k - cur.length; omega
        · split at hq
          · simp at hq
          · simp at hq; subst hq; show m ≤ k; omega
      · exact rw_ge r [] (k + 1) m (by simp; omega) q hq
    · exact rw_ge r (cur ++ [c]) (k + 1) m (by simp; omega) q hq
/-- the loop over a row, sign by sign -/
def sl (L : T) (a b : Nat) : T := (L.drop a).take (b - a)
theorem sl_snoc {L : T} {a b c : Nat} (h : a ≤ b) (hc : L[b]? = some c) : sl L a (b + 1) = sl L a b ++ [c] := by
  unfold sl
  have e : b + 1 - a = (b - a) + 1 := by omega
  rw [e, List.take_add_one, List.getElem?_drop]
  have e2 : a + (b - a) = b := by omega
  rw [e2, hc]
  rfl
theorem sl_len {L : T} {a b : Nat} (hb : b ≤ L.length) : (sl L a b).length = b - a := by
  unfold sl
  rw [List.length_take, List.length_drop]
  omega
theorem sl_self (L : T) (a : Nat) : sl L a a = [] := by simp [sl]
theorem sl_nil {L : T} {a b : Nat} (hb : b ≤ L.length) (h : ¬ a < b) : sl L a b = [] := by
  have := sl_len (a := a) hb
  exact List.eq_nil_of_length_eq_zero (by omega)
theorem drop_at {L : T} {b c : Nat} (hc : L[b]? = some c) : L.drop b = c :: L.drop (b + 1) := by
  obtain ⟨h, e⟩ := List.getElem?_eq_some_iff.mp hc
  rw [List.drop_eq_getElem_cons h, e]
/-- a turn at a sign that ends no word -/
theorem turn_on {L : T} {a b c : Nat} {ps : List (T × Nat)} (h : a ≤ b) (hc : L[b]? = some c) (hs : isSep c = false)
    (I : ps ++ rw_ (sl L a b) (b + 1) (L.drop b) = rowWords L) : ps ++ rw_ (sl L a (b + 1)) (b + 1 + 1) (L.drop (b + 1)) = rowWords L := by
  rw [drop_at hc, rw_on hs] at I
  rw [sl_snoc h hc]
  exact I
/-- a turn at a sign that ends one -/
theorem turn_sep {L : T} {a b c : Nat} {ps : List (T × Nat)} (h : a ≤ b) (hc : L[b]? = some c) (hs : isSep c = true)
    (I : ps ++ rw_ (sl L a b) (b + 1) (L.drop b) = rowWords L) :
    (ps ++ (if a < b then [(sl L a b, a + 1)] else [])) ++ (if c = 32 then [] else [([c], b + 1)]) ++ rw_ (sl L (b + 1) (b + 1)) (b + 1 + 1) (L.drop (b + 1)) = rowWords L := by
  rw [drop_at hc, rw_sep hs] at I
  rw [sl_self, ← I]
  have hb : b < L.length := (List.getElem?_eq_some_iff.mp hc).1
  have e : flush (sl L a b) (b + 1) = if a < b then [(sl L a b, a + 1)] else [] := by
    unfold flush
    by_cases q : a < b
    · have n : sl L a b ≠ [] := fun z => by
        have := sl_len (L := L) (a := a) (b := b) (by omega)
        rw [z] at this
        simp at this
        omega
      rw [if_neg n, if_pos q, sl_len (by omega)]
      congr 2
      omega
    · rw [if_neg q, if_pos (sl_nil (by omega) q)]
  rw [e]
  simp only [List.append_assoc]
/-- the last turn, at the blank behind the row -/
theorem turn_last {L : T} {a : Nat} {ps : List (T × Nat)} (h : a ≤ L.length)
    (I : ps ++ rw_ (sl L a L.length) (L.length + 1) (L.drop L.length) = rowWords L) :
    ps ++ (if a < L.length then [(sl L a L.length, a + 1)] else []) = rowWords L := by
  rw [List.drop_length] at I
  rw [← I, rw_]
  have e : flush (sl L a L.length) (L.length + 1) = if a < L.length then [(sl L a L.length, a + 1)] else [] := by
    unfold flush
    by_cases q : a < L.length
    · have n : sl L a L.length ≠ [] := fun z => by
        have := sl_len (L := L) (a := a) (b := L.length) (by omega)
        rw [z] at this
        simp at this
        omega
      rw [if_neg n, if_pos q, sl_len (by omega)]
      congr 2
      omega
    · rw [if_neg q, if_pos (sl_nil (by omega) q)]
  rw [e]
theorem rw_len : ∀ (r cur : T) (k : Nat), (rw_ cur k r).length ≤ (flush cur k).length + 2 * r.length
  | [], cur, k => by simp [rw_]
  | c :: r, cur, k => by
    rw [rw_]
    split
    · have h := rw_len r [] (k + 1)
      rw [flush_nil, List.length_nil] at h
      rw [List.length_append, List.length_append]
      have h2 : (if c = 32 then ([] : List (T × Nat)) else [([c], k)]).length ≤ 1 := by split <;> simp
      simp only [List.length_cons]
      omega
    · have h := rw_len r (cur ++ [c]) (k + 1)
      have h1 : (flush (cur ++ [c]) (k + 1)).length ≤ 1 := by unfold flush; split <;> simp
      simp only [List.length_cons]
      omega
theorem rowWords_len (l : T) : (rowWords l).length ≤ 2 * l.length := by
  have h := rw_len l [] 1
  rw [flush_nil, List.length_nil, Nat.zero_add] at h
  exact h

/-! ### statements, rows of the law -/
abbrev tDo : T := [100, 111]
abbrev tSay : T := [115, 97, 121]
abbrev tRet : T := [114, 101, 116, 117, 114, 110]
abbrev t1 : T := [49]
abbrev tQx : T := [39, 120]
abbrev tQabc : T := [39, 97, 98, 99]
abbrev tSelf : T := [115, 101, 108, 102]
abbrev tNone : T := [110, 111, 110, 101]
abbrev tX : T := [120]
abbrev tSet : T := [58, 61]
abbrev tRb : T := [93]
abbrev tEnd : T := [101, 110, 100]
/-- the es that stand in these statements -/
def Leaf (e : T) : Prop := e = t1 ∨ e = tQx ∨ e = tQabc ∨ e = tSelf ∨ e = tNone
def Plain (a : T) : Prop := a = tDo ∨ a = tSay ∨ a = tRet
inductive Stms : List T → Prop
  | nil : Stms []
  | plain {a e : T} {r : List T} : Plain a → Leaf e → Stms r → Stms (a :: e :: r)
  | set {e : T} {r : List T} : Leaf e → Stms r → Stms (tX :: tSet :: e :: r)
theorem Stms.append : ∀ {a b : List T}, Stms a → Stms b → Stms (a ++ b)
  | _, _, .nil, h => h
  | _, _, .plain p q r, h => .plain p q (r.append h)
  | _, _, .set q r, h => .set q (r.append h)
abbrev Out := List (T × Nat) × Option Nat
def outOf (isW : T → Bool) (l : T) : Out := match wrongCol isW (rowWords l) l.length with
  | some c => ((rowWords l).filter (fun q => decide (q.2 < c)), some c)
  | none => (rowWords l, none)
def scanO : Nat → List Out → List W × Option (Nat × Nat)
  | _, [] => ([], none)
  | r, o :: os => match o.2 with
    | some c => (lay r o.1, some (r, c))
    | none => (lay r o.1 ++ (scanO (r + 1) os).1, (scanO (r + 1) os).2)
theorem scanO_eq (isW : T → Bool) : ∀ (ls : List T) (r : Nat), scanGo isW r ls = scanO r (ls.map (outOf isW))
  | [], r => rfl
  | l :: ls, r => by
    rw [List.map_cons, scanGo, scanO, scanO_eq isW ls (r + 1)]
    unfold outOf
    cases wrongCol isW (rowWords l) l.length <;> rfl
abbrev texts (o : List (T × Nat)) : List T := o.map (·.1)
theorem lay_texts (r : Nat) (p : List (T × Nat)) : (lay r p).map (·.1) = texts p := by
  unfold lay texts
  rw [List.map_map]
  rfl
/-- what is known of the row with number ρ: A the long one's, B the odd one's -/
def InfoAt (A B aw bk : Nat) (ρ : Nat) (o : Out) : Prop :=
  if ρ = A then Stms (texts o.1) ∧ o.2 = (if aw = 1 then some 121 else none)
  else if ρ = B ∧ bk = 1 then o = ([(tDo, 1), (tRb, 4)], none)
  else if ρ = B ∧ bk = 2 then o = ([], some 1)
  else Stms (texts o.1) ∧ o.2 = none
def sgn (A B aw bk : Nat) (r n : Nat) : Option (Nat × Nat) :=
  if (aw = 1 ∧ r ≤ A ∧ A < r + n) ∧ ((bk = 2 ∧ r ≤ B ∧ B < r + n) → A < B) then some (A, 121)
  else if bk = 2 ∧ r ≤ B ∧ B < r + n then some (B, 1) else none
def wrd (A B aw bk : Nat) (r n : Nat) : Option (Nat × Nat) :=
  if bk = 1 ∧ r ≤ B ∧ B < r + n ∧ ((aw = 1 ∧ r ≤ A) → B < A) then some (B, 4) else none
/-- words that are statements, up to a do ] at a place, if there is one -/
def Body (w : List W) : Option (Nat × Nat) → Prop
  | none => Stms (w.map (·.1))
  | some p => ∃ S q rest, w = S ++ (tDo, q) :: (tRb, p) :: rest ∧ Stms (S.map (·.1))
theorem Body.ahead {a w : List W} {o : Option (Nat × Nat)} (h : Stms (a.map (·.1))) (b : Body w o) : Body (a ++ w) o := by
  cases o with
  | none =>
    show Stms _
    rw [List.map_append]
    exact h.append b
  | some p =>
    obtain ⟨S, q, rest, e, s⟩ := b
    refine ⟨a ++ S, q, rest, by rw [e, List.append_assoc], ?_⟩
    rw [List.map_append]
    exact h.append s
theorem scan_outs {A B aw bk : Nat} (hAB : A ≠ B) : ∀ (os : List Out) (r : Nat), (∀ i o, os[i]? = some o → InfoAt A B aw bk (r + i) o) →
    (scanO r os).2 = sgn A B aw bk r os.length ∧ Body (scanO r os).1 (wrd A B aw bk r os.length)
  | [], r, _ => by
    refine ⟨?_, ?_⟩
    · unfold sgn
      rw [if_neg (by simp only [List.length_nil]; omega), if_neg (by simp only [List.length_nil]; omega)]
      rfl
    · unfold wrd
      rw [if_neg (by simp only [List.length_nil]; omega)]
      exact .nil
  | o :: os, r, h => by
    have h0 := h 0 o rfl
    rw [Nat.add_zero] at h0
    have ih := scan_outs (aw := aw) (bk := bk) hAB os (r + 1) (fun i u e => by
      have := h (i + 1) u (by simpa using e)
      rw [show r + 1 + i = r + (i + 1) by omega]
      exact this)
    have stop : ∀ c, o.2 = some c → scanO r (o :: os) = (lay r o.1, some (r, c)) := fun c e => by rw [scanO, e]
    have on : o.2 = none → scanO r (o :: os) = (lay r o.1 ++ (scanO (r + 1) os).1, (scanO (r + 1) os).2) := fun e => by rw [scanO, e]
    have onS : o.2 = none → sgn A B aw bk r (os.length + 1) = sgn A B aw bk (r + 1) os.length → (scanO r (o :: os)).2 = sgn A B aw bk r (os.length + 1) := fun e z => by
      rw [on e, z]
      exact ih.1
    have onW : o.2 = none → Stms (texts o.1) → wrd A B aw bk r (os.length + 1) = wrd A B aw bk (r + 1) os.length → Body (scanO r (o :: os)).1 (wrd A B aw bk r (os.length + 1)) := fun e st z => by
      rw [on e, z]
      exact Body.ahead (by rw [lay_texts]; exact st) ih.2
    rw [List.length_cons]
    clear h
    unfold InfoAt at h0
    by_cases a : r = A
    · rw [if_pos a] at h0
      obtain ⟨h1, h2⟩ := h0
      by_cases w1 : aw = 1
      · rw [if_pos w1] at h2
        rw [stop 121 h2]
        refine ⟨?_, ?_⟩
        · unfold sgn
          rw [if_pos (by omega), a]
        · unfold wrd
          rw [if_neg (by omega)]
          show Stms _
          rw [lay_texts]
          exact h1
      · rw [if_neg w1] at h2
        refine ⟨onS h2 ?_, onW h2 h1 ?_⟩
        · unfold sgn
          repeat' split
          all_goals first | rfl | (exfalso; omega)
        · unfold wrd
          repeat' split
          all_goals first | rfl | (exfalso; omega)
    · rw [if_neg a] at h0
      by_cases b1 : r = B ∧ bk = 1
      · rw [if_pos b1] at h0
        have hn : o.2 = none := by rw [h0]
        refine ⟨onS hn ?_, ?_⟩
        · unfold sgn
          repeat' split
          all_goals first | rfl | (exfalso; omega)
        · rw [on hn]
          unfold wrd
          rw [if_pos (by omega)]
          refine ⟨[], (r, 1), (scanO (r + 1) os).1, ?_, .nil⟩
          rw [h0, ← b1.1]
          rfl
      · rw [if_neg b1] at h0
        by_cases b2 : r = B ∧ bk = 2
        · rw [if_pos b2] at h0
          rw [stop 1 (by rw [h0])]
          refine ⟨?_, ?_⟩
          · unfold sgn
            rw [if_neg (by omega), if_pos (by omega), b2.1]
          · unfold wrd
            rw [if_neg (by omega), h0]
            exact .nil
        · rw [if_neg b2] at h0
          refine ⟨onS h0.2 ?_, onW h0.2 h0.1 ?_⟩
          · unfold sgn
            repeat' split
            all_goals first | rfl | (exfalso; omega)
          · unfold wrd
            repeat' split
            all_goals first | rfl | (exfalso; omega)
end SS

end
set_option Elab.async false
set_option linter.all false
set_option maxRecDepth 100000
set_option maxHeartbeats 1000000
namespace PySem.W
open PySem PyProof.Rows
section
variable {M : Model} {prog : Program} {w : World} {A : Around} {E : Value → Shared → Prop} {s : Shared} {env : Env}
theorem callWithT_kwB {pos : Pos} {T : String} {first : List Value} {args : List (Bool × Sem Value)} {keywords : List (Option Str × Sem Value)} {Q : Value → Shared → Prop}
    (hplain : args.any (·.1) = false) (hkw : keywords.any (·.1.isNone) = false)
    (h : wpAny M A (evalArgs (.type T) true args keywords) (fun a s₁ => wpAny M A (call (.type T) (first ++ a.pos) a.kw) Q E s₁) E s) :
    wpAny M A (callWith pos (.type T) first args keywords) Q E s := by
  unfold callWith
  refine wpAny_bind (wpAny_holding (wpAny_mono h (fun a s₁ h₁ => wpAny_bind (wpAny_standAt ?_)) fun _ _ x => x))
  simp only [hplain, hkw, Bool.or_false]
  refine wpAny_bind (wpAny_pure ?_)
  exact wpAny_bind (wpAny_mono h₁ (fun r s₂ hr => wpAny_bind (wpAny_holding (wpAny_point (wpAny_pure hr)))) fun _ _ x => x)
theorem callWithT_kw {pos : Pos} {T : String} {e : Expr} {rest : List Expr} {kws : List Keyword} {Q : Value → Shared → Prop}
    (h : wpAny M A (spliced (backTo pos (starEach (e :: rest) env))) (fun vs s₁ => wpAny M A (evalAll ((backToKw pos (keywordEach kws env)).map (·.2)))
      (fun kvs s₂ => wpAny M A (call (.type T) vs (((backToKw pos (keywordEach kws env)).filterMap (·.1)).zip kvs)) Q E s₂) E s₁) E s)
    (he : backTo pos (starEach (e :: rest) env) = (false, eval e env) :: backTo pos (starEach rest env) := by rfl)
    (hplain : (backTo pos (starEach (e :: rest) env)).any (·.1) = false := by rfl)
    (hall : (backToKw pos (keywordEach kws env)).all (·.1.isSome) = true := by rfl)
    (hkw : (backToKw pos (keywordEach kws env)).any (·.1.isNone) = false := by rfl) :
    wpAny M A (callWith pos (.type T) [] (backTo pos (starEach (e :: rest) env)) (backToKw pos (keywordEach kws env))) Q E s := by
  refine callWithT_kwB hplain hkw ?_
  rw [he] at h ⊢
  exact evalArgs_kwB hall h
theorem meets_enumerate_new1 {v : Value} {o : Obj} {H : Heap → Prop} (B : Begins v o H) :
    Meets (Builtin.«enumerate.__new__» ⟨[.type "enumerate", v], []⟩) (fun _ R s => H s.heap ∧
      R (.ok (.ret (.ref (s.heap.push o).objs.size))) { s with heap := (s.heap.push o).push { cls := .type "enumerate", data := .fields #[.none, .bool false, .ref s.heap.objs.size, rawInt 0, .none, .none] } }) :=
  .of_wp fun prog w A R s h => by
    obtain ⟨hp, g, d, tk, os⟩ := s; obtain ⟨h1, h⟩ := h
    have hsub := sub_enumerate
    have q1 : ∀ {A' : Around} {E : Value → Shared → Prop} {Q : Value → Shared → Prop}, Q (.ref hp.objs.size) ⟨hp.push o, g, d, tk, os⟩ → wpAny (model prog w) A' (pyIter v) Q E ⟨hp, g, d, tk, os⟩ :=
      fun q => B.iter prog w _ _ ⟨hp, g, d, tk, os⟩ _ h1 q
    wp_walk using q1
    refine wpAny_stack_any fun st => wpAny_pure ?_
    split
    · rename_i c _ _ _ _ _
      cases (c == Value.type "enumerate")
      · wp_walk using q1
        exact ⟨_, rfl, h⟩
      · wp_walk using q1
        exact ⟨_, rfl, h⟩
    · wp_walk using q1
      exact ⟨_, rfl, h⟩
theorem call_enumX {x : Str} {t : Tok} {Q : Value → Shared → Prop}
    (h : ∀ h', IsEnum h' (s.heap.objs.size + 1) s.heap.objs.size 0 .none → h'.IsStrIter s.heap.objs.size (strIterType x) x t 0 → h'.objs.size = s.heap.objs.size + 2 →
      (∀ b o, s.heap.get? b = some o → h'.get? b = some o) → Q (.ref (s.heap.objs.size + 1)) { s with heap := h' }) :
    wpAny (model prog w) A (call (.type "enumerate") [.str x t]) Q E s := by
  have B := begins_text x t
  refine callType_new F.called_enumerate (by decide) (F.typeCall_enumerate_1 _) (F.newCall_enumerate_1 _) (fun obj => F.args_object_init_2 obj _) F.entry_enumerate_new
    (meets_enumerate_new1 B) ⟨trivial, ?_⟩
  have hz : (s.heap.push { cls := .type (strIterType x), data := .fields #[.str x t, .int 0 0] }).objs.size = s.heap.objs.size + 1 := Heap.size_push ..
  show _ ∧ _
  rw [hz]
  have he : IsEnum ((s.heap.push { cls := .type (strIterType x), data := .fields #[.str x t, .int 0 0] }).push { cls := .type "enumerate", data := .fields #[.none, .bool false, .ref s.heap.objs.size, rawInt 0, .none, .none] }) (s.heap.objs.size + 1) s.heap.objs.size 0 .none := by
    have := Heap.get?_push_size (s.heap.push { cls := .type (strIterType x), data := .fields #[.str x t, .int 0 0] }) (o := { cls := .type "enumerate", data := .fields #[.none, .bool false, .ref s.heap.objs.size, rawInt 0, .none, .none] }) rfl
    rw [hz] at this; exact this
  exact ⟨⟨_, he, rfl⟩, h _ he ⟨_, Heap.get?_push_of_some _ (Heap.get?_push_size _ B.free), rfl, rfl⟩ (by rw [Heap.size_push, hz]) fun b o x => Heap.get?_push_of_some _ (Heap.get?_push_of_some _ x)⟩
end
end PySem.W
namespace L2
open PySem PySem.Spec PyProof.Rows

/-! ### text * int -/
def repS (z : Str) (n : Int) : Str := ⟨(List.replicate n.toNat z.cps.toList).flatten.toArray⟩
theorem fold_app (a : Array Nat) : ∀ (n : Nat) (b : Array Nat), (List.replicate n a).foldl (· ++ ·) b = b ++ (List.replicate n a.toList).flatten.toArray
  | 0, b => by simp
  | n + 1, b => by
    rw [List.replicate_succ, List.foldl_cons, fold_app a n, List.replicate_succ, List.flatten_cons]
    apply Array.toList_inj.mp
    simp
theorem repS_length (z : Str) (n : Int) : (repS z n).length = n.toNat * z.length := by
  show (List.replicate n.toNat z.cps.toList).flatten.toArray.size = _
  simp [Str.length]
theorem repS_0 (z : Str) : repS z 0 = Str.empty := by
  unfold repS Str.empty
  simp
theorem repS_1 (z : Str) : repS z 1 = z := by
  unfold repS
  cases z
  simp
theorem op_mul_str {X : Cx} : OpR X (binaryOp .Mult) (fun x y H Q => ∃ (z : Str) (n : Int), x = .str z ∧ y = .int n ∧ 0 ≤ n ∧ n ≤ 1000 ∧ 0 < z.length ∧ z.length ≤ 1000 ∧ Q (.str (repS z n)) H) := by
  intro pins s σ H x y v u Q I rx ry h
  obtain ⟨z, n, rfl, rfl, h0, h1, hz0, hz, q⟩ := h
  obtain ⟨t, rfl⟩ := rx
  obtain ⟨t', rfl⟩ := ry
  have hm : z.length * n.toNat ≤ 1000 * 1000 := Nat.mul_le_mul hz (by omega)
  have e : (⟨(List.replicate n.toNat z.cps).foldl (· ++ ·) #[]⟩ : Str) = repS z n := by
    rw [fold_app]
    unfold repS
    simp
  refine P.mul_str ?_ (fun _ _ => ?_) (fun _ _ => ?_) ?_
  · have a : ¬ n < -(2 ^ 63 : Int) := by omega
    have b : ¬ n ≥ 2 ^ 63 := by omega
    rw [decide_eq_false a, decide_eq_false b]; rfl
  · rename_i hn _
    have : (2 ^ 63 - 1) / n ≥ 1000 := by
      apply Int.le_ediv_of_mul_le (by omega)
      omega
    omega
  · unfold Builtin.Str.tooLong
    exact decide_eq_false (by rw [sizeLine_eq]; omega)
  · by_cases c0 : n < 1
    · rw [if_pos c0]
      have : n = 0 := by omega
      subst this
      rw [repS_0] at q
      exact ⟨by decide, V.str Str.empty, H, I.tok _, ⟨_, rfl⟩, q⟩
    · rw [if_neg c0]
      by_cases c1 : n = 1
      · subst c1
        rw [if_pos (by rfl)]
        rw [repS_1] at q
        exact ⟨V.str z, H, I, ⟨_, rfl⟩, q⟩
      · have e1 : (n == 1 || z.length == 0) = false := by
          have a : (n == 1) = false := by simp; omega
          have b : (z.length == 0) = false := by simp; omega
          rw [a, b]; rfl
        rw [if_neg (by rw [e1]; decide), e]
        refine ⟨?_, V.str (repS z n), H, I.tok _, ⟨_, rfl⟩, q⟩
        rw [repS_length, sizeLine_eq, Nat.mul_comm]
        omega

/-! ### enumerate(text); enumerate(list, start=k) -/
/-- the signs of x, each in a new pair -/
def Iex (x : Str) : It :=
  ⟨fun i _ => i < x.cps.size, fun i H v H' => ∃ T c, v = .ref T ∧ H T = none ∧ H' = upd H T (.tup [.int (i : Nat), .str ⟨#[c]⟩]) ∧ x.cps[i]? = some c, fun i _ => x.cps.size ≤ i⟩
theorem turn_enumX {P : Program} {w : World} {K : PySem.W.Frag} {elts : List Expr} {kk : Nat} {tpos : Pos} (e it : Addr) (x : Str) (t : Tok) :
    Turn P w K (.Tuple elts kk tpos) (Iex x) [e, it] e (fun i h => (∃ old, IsEnum h e it ((i : Nat) : Int) old) ∧ h.IsStrIter it (strIterType x) x t i ∧ e ≠ it ∧ i ≤ x.cps.size) where
  mem := by simp
  obj := fun i h st b hb => by
    obtain ⟨⟨old, he⟩, ⟨o, ho, hc, hd⟩, _⟩ := st
    have e' : b = e ∨ b = it := by simpa using hb
    rcases e' with z | z
    · rw [z]; exact ⟨_, he, fun v q => nomatch q⟩
    · rw [z]; exact ⟨o, ho, fun v q => by rw [hd] at q; cases q⟩
  keep := fun i h h' st k => let ⟨⟨old, he⟩, ⟨o, ho, r⟩, hne, hz⟩ := st; ⟨⟨old, k e (by simp) _ he⟩, ⟨o, k it (by simp) o ho, r⟩, hne, hz⟩
  item := by
    intro X hP hw hK hc i pins s σ H E I hf st hg
    subst hP hw hK
    obtain ⟨⟨old, he⟩, hit, hne, hz⟩ := st
    have hel : e < s.heap.objs.size := Heap.lt_size he
    have hil : it < s.heap.objs.size := by obtain ⟨_, q, _⟩ := hit; exact Heap.lt_size q
    have D := Draws.text (prog := X.prog) (w := X.w) (A := X.A.in1) (I.ok.hd hc) it x t
    refine wpAny_pyNext_enum_itemC D he hit hg hne (by simpa using hne) fun v h' tk hv ho hit' hT hsz hk => ?_
    obtain ⟨c, u, hcx, rfl⟩ := hv
    refine ⟨_, rfl, wpAny_letOwnedTupleGo_enum (s := { s with heap := h', toks := tk + 1 }) ho fun h'' he' sb => ?_⟩
    have hT2 : h''.get? s.heap.objs.size = some { cls := .type "tuple", data := .seq #[.int i tk, .str ⟨#[c]⟩ u] } := (sb.2 _ (Nat.ne_of_gt hel)).trans hT
    have new : ObjOk X.prog X.w (upd H s.heap.objs.size (.tup [.int (i : Nat), .str ⟨#[c]⟩])) h'' s.heap.objs.size (.tup [.int (i : Nat), .str ⟨#[c]⟩]) :=
      ⟨by show 2 ≤ sizeLine; decide, [.int i tk, .str ⟨#[c]⟩ u], .cons ⟨_, rfl⟩ (.cons ⟨_, rfl⟩ .nil), ⟨_, hT2, rfl, _, rfl⟩⟩
    have I1 : Inv X pins σ (upd H s.heap.objs.size (.tup [.int (i : Nat), .str ⟨#[c]⟩])) { s with heap := h'', toks := tk + 1 } :=
      I.turnedNew (ch := [e, it]) (fun b ob hb q => (sb.2 b (fun z => hb (by simp [z]))).trans (hk b ob (fun z => hb (by simp [z])) (fun z => hb (by simp [z])) q)) hf (Nat.le_refl _) new
    refine ⟨.ref s.heap.objs.size, _, I1, rfl, ⟨_, c, rfl, I.hok.fresh (Nat.le_refl _), rfl, hcx⟩, ⟨⟨Value.str ⟨#[c]⟩ u, ?_⟩, ?_, hne, hg⟩, fun b hb => ?_⟩
    · have e1 : ((i + 1 : Nat) : Int) = (i : Int) + 1 := by omega
      rw [e1]; exact he'
    · obtain ⟨o, q, r⟩ := hit'
      exact ⟨o, (sb.2 it (Ne.symm hne)).trans q, r⟩
    · have hb' : b < s.heap.objs.size := by
        have e' : b = e ∨ b = it := by simpa using hb
        rcases e' with z | z
        · rw [z]; exact hel
        · rw [z]; exact hil
      rw [upd_ne (Nat.ne_of_lt hb')]
      exact (hf b hb).1
  done := by
    intro X hP hw hK hc i pins s σ H E I hf st hg
    subst hP hw hK
    obtain ⟨⟨old, he⟩, hit, hne, hz⟩ := st
    obtain ⟨f0, f1, f2, f3, f4, f5⟩ := hf it (by simp)
    have D := Draws.text (prog := X.prog) (w := X.w) (A := X.A.in1) (I.ok.hd hc) it x t
    have e1 : i = x.cps.size := Nat.le_antisymm hz hg
    subst e1
    exact wpAny_pyNext_enum_endD D he hit fun h' eb => ⟨rfl, I.turned (t' := s.toks) (fun b o hb q => eb b o hb q) f0 f1 f3 f4 f5⟩
  self := fun A i s Q E st h => let ⟨⟨_, he⟩, _⟩ := st; wpAny_pyIter_enum he h
def iEnumX (ta : TA) : TI := fun σ H R => ta σ H fun vs H1 => ∃ x : Str, vs = [.str x] ∧ R (Iex x) H1
theorem pi_enumX {X : Cx} {e : Expr} {ta : TA} {p pos tpos : Pos} {elts : List Expr} {kk : Nat} (hg : Gl X "enumerate") (hm : X.mg "enumerate" = none) (ha : PA X [e] ta) (hs : starEach [e] X.env = [(false, eval e X.env)] := by rfl) :
    PI X (.Tuple elts kk tpos) (.Call (.Name "enumerate" p) [e] [] pos) (iEnumX ta) := by
  refine ⟨fun pins s σ H R I h => ?_⟩
  refine Call_ (ld_blt I hg hm boot_enumerate (PyProof.Rows.callWith_type1 (thn (ha.run pos pins s σ H _ I h) fun us s1 ⟨vs, H1, I1, r1, q1⟩ => ?_) hs rfl))
  obtain ⟨x, ex, q⟩ := q1
  subst ex
  cases r1 with
  | cons r rr =>
    cases rr
    obtain ⟨t, rfl⟩ := r
    refine PySem.W.call_enumX (x := x) (t := t) fun h' he hit hsz hk => wpAny_pyIter_enum he ?_
    have I2 : Inv X pins σ H1 { s1 with heap := h' } := I1.kept (t' := s1.toks) hk
    refine ⟨s1.heap.objs.size + 1, [s1.heap.objs.size + 1, s1.heap.objs.size], _, _, H1, rfl, I2, turn_enumX (s1.heap.objs.size + 1) s1.heap.objs.size x t, ⟨⟨.none, he⟩, hit, Nat.succ_ne_self _, Nat.zero_le _⟩, fun b hb => ?_, q⟩
    have e' : b = s1.heap.objs.size + 1 ∨ b = s1.heap.objs.size := by simpa using hb
    have hle : s1.heap.objs.size ≤ b := by
      rcases e' with z | z
      · rw [z]; exact Nat.le_add_right _ _
      · rw [z]; exact Nat.le_refl _
    exact I1.fpOk hle (I1.hok.fresh hle)
theorem walk_enumX {x : Str} : Walk (Iex x) x.cps.size (fun _ => True) (fun i H v H' => ∃ T c, v = .ref T ∧ H T = none ∧ H' = upd H T (.tup [.int (i : Nat), .str ⟨#[c]⟩]) ∧ x.cps[i]? = some c) :=
  ⟨fun _ _ hi _ => hi, fun _ _ => Nat.le_refl _, fun _ _ _ _ _ _ y => y⟩
/-- the items xs of the list at a, counted from k, each in a new pair -/
def Iek (K : PySem.W.Frag) (a : Addr) (xs : List V) (k : Int) : It :=
  ⟨fun i H => i < xs.length ∧ SqL K H a xs, fun i H v H' => ∃ T x, v = .ref T ∧ H T = none ∧ H' = upd H T (.tup [.int (k + (i : Nat)), x]) ∧ xs[i]? = some x, fun i H => xs.length = i ∧ SqL K H a xs⟩
theorem turn_enumK {P : Program} {w : World} {K : PySem.W.Frag} {elts : List Expr} {kk : Nat} {tpos : Pos} (a e it : Addr) (xs : List V) (k0 : Int) :
    Turn P w K (.Tuple elts kk tpos) (Iek K a xs k0) [e, it] e (fun i h => (∃ old, IsEnum h e it (k0 + (i : Nat)) old) ∧ h.IsListIter it a i ∧ e ≠ it) where
  mem := by simp
  obj := fun i h st b hb => by
    obtain ⟨⟨old, he⟩, ⟨o, ho, hc, hd⟩, _⟩ := st
    have e' : b = e ∨ b = it := by simpa using hb
    rcases e' with z | z
    · rw [z]; exact ⟨_, he, fun v q => nomatch q⟩
    · rw [z]; exact ⟨o, ho, fun v q => by rw [hd] at q; cases q⟩
  keep := fun i h h' st k => let ⟨⟨old, he⟩, hi, hne⟩ := st; ⟨⟨old, k e (by simp) _ he⟩, hi.at fun o q => k it (by simp) o q, hne⟩
  item := by
    intro X hP hw hK hc i pins s σ H E I hf st hg
    subst hP hw hK
    obtain ⟨⟨old, he⟩, hit, hne⟩ := st
    obtain ⟨hlt, hq⟩ := hg
    have hx : xs[i]? = some xs[i] := by simp [hlt]
    generalize xs[i] = x at hx
    obtain ⟨its, rv, p, hz⟩ := I.list hq
    obtain ⟨u0, hu, ru⟩ := rv.get hx
    have hel : e < s.heap.objs.size := Heap.lt_size he
    have hil : it < s.heap.objs.size := by obtain ⟨_, q, _⟩ := hit; exact Heap.lt_size q
    have hia : a ≠ it := fun z => by
      obtain ⟨o, ho, hcl, hd⟩ := hit
      obtain ⟨o2, ho2, hcl2, _⟩ := p.isList
      rw [z, ho] at ho2
      have := Option.some.inj ho2
      subst this
      rw [hcl] at hcl2
      injection hcl2 with z9
      exact absurd z9 (by decide)
    have hea : e ≠ a := fun z => by
      obtain ⟨o2, ho2, hcl2, _⟩ := p.isList
      rw [← z, he] at ho2
      have := Option.some.inj ho2
      subst this
      injection hcl2 with z9
      exact absurd z9 (by decide)
    have D := Draws.list (prog := X.prog) (w := X.w) (A := X.A.in1) (I.ok.hd hc) it a hia its.toArray
    have hlen : i < its.toArray.size := by
      have := rv.length
      simp
      omega
    refine wpAny_pyNext_enum_itemC D he ⟨hit, p.isList⟩ hlen hne (by simp [hne, hea]) fun v h' tk hv ho hit' hT hsz hk => ?_
    have ev : v = u0 := by
      have z : its.toArray[i]? = some v := hv
      have z2 : its.toArray[i]? = some u0 := by simpa using hu
      rw [z2] at z
      exact (Option.some.inj z).symm
    subst ev
    refine ⟨_, rfl, wpAny_letOwnedTupleGo_enum (s := { s with heap := h', toks := tk + 1 }) ho fun h'' he' sb => ?_⟩
    have hT2 : h''.get? s.heap.objs.size = some { cls := .type "tuple", data := .seq #[.int (k0 + (i : Nat)) tk, v] } := (sb.2 _ (Nat.ne_of_gt hel)).trans hT
    have new : ObjOk X.prog X.w (upd H s.heap.objs.size (.tup [.int (k0 + (i : Nat)), x])) h'' s.heap.objs.size (.tup [.int (k0 + (i : Nat)), x]) :=
      ⟨by show 2 ≤ sizeLine; decide, [.int (k0 + (i : Nat)) tk, v], .cons ⟨_, rfl⟩ (.cons ru .nil), ⟨_, hT2, rfl, _, rfl⟩⟩
    have I1 : Inv X pins σ (upd H s.heap.objs.size (.tup [.int (k0 + (i : Nat)), x])) { s with heap := h'', toks := tk + 1 } :=
      I.turnedNew (ch := [e, it]) (fun b ob hb q => (sb.2 b (fun z => hb (by simp [z]))).trans (hk b ob (fun z => hb (by simp [z])) (fun z => hb (by simp [z])) q)) hf (Nat.le_refl _) new
    refine ⟨.ref s.heap.objs.size, _, I1, rfl, ⟨_, x, rfl, I.hok.fresh (Nat.le_refl _), rfl, hx⟩, ⟨⟨v, ?_⟩, hit'.1.at fun o q => (sb.2 it (Ne.symm hne)).trans q, hne⟩, fun b hb => ?_⟩
    · have e1 : k0 + ((i + 1 : Nat) : Int) = k0 + (i : Int) + 1 := by omega
      rw [e1]; exact he'
    · have hb' : b < s.heap.objs.size := by
        have e' : b = e ∨ b = it := by simpa using hb
        rcases e' with z | z
        · rw [z]; exact hel
        · rw [z]; exact hil
      rw [upd_ne (Nat.ne_of_lt hb')]
      exact (hf b hb).1
  done := by
    intro X hP hw hK hc i pins s σ H E I hf st hg
    subst hP hw hK
    obtain ⟨⟨old, he⟩, hit, hne⟩ := st
    obtain ⟨hlt, hq⟩ := hg
    obtain ⟨its, rv, p, hz⟩ := I.list hq
    obtain ⟨f0, f1, f2, f3, f4, f5⟩ := hf it (by simp)
    have hia : a ≠ it := fun z => by
      obtain ⟨o, ho, hcl, hd⟩ := hit
      obtain ⟨o2, ho2, hcl2, _⟩ := p.isList
      rw [z, ho] at ho2
      have := Option.some.inj ho2
      subst this
      rw [hcl] at hcl2
      injection hcl2 with z9
      exact absurd z9 (by decide)
    have D := Draws.list (prog := X.prog) (w := X.w) (A := X.A.in1) (I.ok.hd hc) it a hia its.toArray
    have e1 : i = its.toArray.size := by
      have := rv.length
      simp
      omega
    subst e1
    exact wpAny_pyNext_enum_endD D he ⟨hit, p.isList⟩ fun h' eb => ⟨rfl, I.turned (t' := s.toks) (fun b o hb q => eb b o hb q) f0 f1 f3 f4 f5⟩
  self := fun A i s Q E st h => let ⟨⟨_, he⟩, _⟩ := st; wpAny_pyIter_enum he h
def iEnumK (K : PySem.W.Frag) (ta tk : TA) : TI := fun σ H R => ta σ H fun vs H1 => tk σ H1 fun zs H2 => ∃ (a : Addr) (xs : List V) (k : Int), vs = [.ref a] ∧ zs = [.int k] ∧ 0 ≤ k ∧ k < 1000 ∧ SqL K H2 a xs ∧ R (Iek K a xs k) H2
theorem pi_enumK {X : Cx} {e : Expr} {kws : List Keyword} {ta tk : TA} {p pos tpos : Pos} {elts : List Expr} {kk : Nat} (hg : Gl X "enumerate") (hm : X.mg "enumerate" = none) (ha : PA X [e] ta) (hk : PK X kws tk)
    (he : backTo pos (starEach [e] X.env) = (false, eval e X.env) :: backTo pos (starEach [] X.env) := by rfl) (hpl : (backTo pos (starEach [e] X.env)).any (·.1) = false := by rfl)
    (hall : (backToKw pos (keywordEach kws X.env)).all (·.1.isSome) = true := by rfl) (hnone : (backToKw pos (keywordEach kws X.env)).any (·.1.isNone) = false := by rfl) (hks : (backToKw pos (keywordEach kws X.env)).filterMap (·.1) = [Str.ofString "start"] := by rfl) :
    PI X (.Tuple elts kk tpos) (.Call (.Name "enumerate" p) [e] kws pos) (iEnumK X.K ta tk) := by
  refine ⟨fun pins s σ H R I h => ?_⟩
  refine wpAny_Call_Name_kw (ld_blt I hg hm boot_enumerate ?_)
  refine PySem.W.callWithT_kw (thn (ha.run pos pins s σ H _ I h) fun us s1 ⟨vs, H1, I1, r1, q1⟩ => thn (hk.run pos pins s1 σ H1 _ I1 q1) fun ws s2 ⟨zs, H2, I2, r2, q2⟩ => ?_) he hpl hall hnone
  rw [hks]
  obtain ⟨a, xs, k, ex, ez, hk0, hk1, hq, q⟩ := q2
  subst ex ez
  cases r1 with
  | cons r rr =>
    cases rr
    cases r
    cases r2 with
    | cons r' rr' =>
      cases rr'
      obtain ⟨t, rfl⟩ := r'
      obtain ⟨its, rv, p', hz⟩ := I2.list hq
      refine enum_begins_start (begins_list a its.toArray) p'.isList (by omega) (by omega) fun h' he hit hsz hkp => wpAny_pyIter_enum he ?_
      have I3 : Inv X pins σ H2 { s2 with heap := h' } := I2.kept (t' := s2.toks) hkp
      have e0 : k + ((0 : Nat) : Int) = k := by omega
      refine ⟨s2.heap.objs.size + 1, [s2.heap.objs.size + 1, s2.heap.objs.size], _, _, H2, rfl, I3, turn_enumK a (s2.heap.objs.size + 1) s2.heap.objs.size xs k, ⟨⟨.none, by rw [e0]; exact he⟩, ⟨_, hit, rfl, rfl⟩, Nat.succ_ne_self _⟩, fun b hb => ?_, q⟩
      have e' : b = s2.heap.objs.size + 1 ∨ b = s2.heap.objs.size := by simpa using hb
      have hle : s2.heap.objs.size ≤ b := by
        rcases e' with z | z
        · rw [z]; exact Nat.le_add_right _ _
        · rw [z]; exact Nat.le_refl _
      exact I2.fpOk hle (I2.hok.fresh hle)
theorem walk_enumK {K : PySem.W.Frag} {a : Addr} {xs : List V} {k : Int} : Walk (Iek K a xs k) xs.length (fun H => SqL K H a xs) (fun i H v H' => ∃ T x, v = .ref T ∧ H T = none ∧ H' = upd H T (.tup [.int (k + (i : Nat)), x]) ∧ xs[i]? = some x) :=
  ⟨fun _ _ hi q => ⟨hi, q⟩, fun _ q => ⟨rfl, q⟩, fun _ _ _ _ _ _ y => y⟩

/-! ### min(xs, default=d) of data -/
theorem Vals.ref1' {a : Addr} {us : List Value} (r : Vals [V.ref a] us) : us = [Value.ref a] := by
  cases r with
  | cons r rr => cases rr; cases r; rfl
def rMinD (K : PySem.W.Frag) : List V → List V → Hp → VK → Prop := fun vs zs H Q => ∃ (a : Addr) (xs : List V) (ds : List PyData) (d : V), vs = [.ref a] ∧ zs = [d] ∧ SqL K H a xs ∧ DpAll K H xs ds ∧ PySem.W.AlikeAll ds ∧ PyData.depthAll ds ≤ 20 ∧
  (ds = [] → Q d H) ∧ ∀ (y : PyData) (ys : List PyData) (i : Nat) (v : V) (e : PyData), ds = y :: ys → xs[i]? = some v → ds[i]? = some e → e = PySem.W.minD y ys → Q v H
theorem dpAll_get {K : PySem.W.Frag} {H : Hp} : ∀ {xs : List V} {ds : List PyData}, DpAll K H xs ds → ∀ {i : Nat} {v : V}, xs[i]? = some v → ∃ e, ds[i]? = some e ∧ Dp K H v e
  | _, _, .nil, i, v, h => by simp at h
  | _, _, .cons a r, 0, v, h => by simp at h; subst h; exact ⟨_, rfl, a⟩
  | _, _, .cons a r, i + 1, v, h => by
    obtain ⟨e, h1, h2⟩ := dpAll_get r (i := i) (v := v) (by simpa using h)
    exact ⟨e, by simpa using h1, h2⟩
theorem cr_minD {X : Cx} {k : Nat} (hc : X.calm = true) (hr : Room k X.A) : CallRK X (.builtin "min") [Str.ofString "default"] (rMinD X.K) := by
  intro pins s σ H vs zs us ws Q I r rz h
  obtain ⟨a, xs, ds, d, rfl, rfl, hs, hd, ha, hdep, q0, q1⟩ := h
  obtain rfl := Vals.ref1' r
  cases rz with
  | @cons _ u0 _ _ rd rr =>
    cases rr
    obtain ⟨its, rv, p, hz⟩ := I.list hs
    obtain ⟨as, hre⟩ := Dp.readsAll I ds xs its hd rv
    show wpAny _ _ (call (.builtin "min") [.ref a] [(Str.ofString "default", u0)]) _ _ _
    have hu := hr.units
    refine PySem.W.min_list_default (I.ok.hd hc) p.isList (by simpa using hre) ha (by have := hr.units; omega) (fun e h' tk hk => ⟨d, H, I.kept (t' := tk) hk, rd, q0 e⟩) fun y ys i v h' tk bs e hv hrd hk => ?_
    have hv' : its[i]? = some v := by simpa using hv
    have hi : i < xs.length := by
      have := (List.getElem?_eq_some_iff.mp hv').1
      have := rv.length
      omega
    have hx : xs[i]? = some xs[i] := by simp [hi]
    generalize xs[i] = x at hx
    obtain ⟨u, hu1, ru⟩ := rv.get hx
    rw [hv'] at hu1
    obtain rfl := Option.some.inj hu1
    obtain ⟨ee, he1, he2⟩ := dpAll_get hd hx
    obtain ⟨as2, hr2⟩ := Dp.reads I ee x v he2 ru
    have := (PyProof.Rows.reads_det (fun b o z _ => hk b o z) hr2 hrd).1
    exact ⟨x, H, I.kept (t' := tk) hk, ru, q1 y ys i x ee e hx he1 this.symm⟩

/-! ### C.m(x, ..), m a def of the class at C, read off the class -/
def tClsF (C : Addr) (sp : Sp) (E : XK) (ta : TE) (t : TA) : TE := fun σ H Q => ta σ H fun x H1 => x = .ref C ∧ t σ H1 fun vs H2 => sp vs H2 Q E
theorem pe_clsf {X : Cx} {CX : CXT} {k : Nat} {C f : Addr} {fd : FuncData} {ps : List Str} {mc : Value} {sp : Sp} {E : XK} {o e : Expr} {es : List Expr} {m : Str} {pos apos : Pos} {ta : TE} {t : TA} {pl : Sem Bool}
    (he : PE X o ta) (r : ClX.CRead X.K C mc) (hf : PySem.W.findCls X.K (.ref C) mc m = some (.val (.ref f))) (hk : PySem.W.keepIn X.K (.ref f) = true) (F : FnOk X.prog X.w X.K X.mg X.base CX k f fd ps sp) (hr : Room k X.A) (hb : Binds X.K fd ps []) (hx : Passes CX X E) (ha : PA X (e :: es) t)
    (hst : starEach (e :: es) X.env = (false, eval e X.env) :: starEach es X.env := by rfl) (hpl : (backTo pos (starEach es X.env)).any (·.1) = false := by rfl)
    (ht : eval (.Call (.Attribute o m apos) (e :: es) [] pos) X.env = (do
      let ov ← eval o X.env
      standAt apos.atName
      let (f, first) ← holding [ov] (getMethod ov m pl)
      callWith pos f first (backTo pos (starEach (e :: es) X.env)) (backToKw pos (keywordEach [] X.env))) := by rfl) :
    PE X (.Call (.Attribute o m apos) (e :: es) [] pos) (tClsF C sp E ta t) := by
  refine ⟨fun pins s σ H Q I h => ?_⟩
  refine PySem.W.methodCall_KW (pl := pl) (thn (he.run pins s σ H _ I h) fun u s1 ⟨x, H1, I1, rx, ex, q⟩ => ?_) ht
  subst ex
  obtain rfl : u = Value.ref C := rx
  refine PySem.W.method_cls I1.kIn r.ga (PySem.W.cls_value I1.kIn r.rd hf rfl ?_)
  refine PySem.W.callWith_K (h₀ := X.base) I1.ok.mod.kin hk (thn (ha.run pos pins _ σ H1 _ (I1.tok _) q) fun us s3 ⟨vs, H2, I3, rv, q2⟩ => ⟨I3.kIn, ?_⟩) hst hpl
  have q3 : sp (vs ++ []) H2 Q E := by rw [List.append_nil]; exact q2
  exact run_fn F hr hb .nil hx I3 rv q3

/-! ### X(e, ..) of an own class where what is raised is wished for at the caller's slots -/
def tMakeS (C : Addr) (sp : Sp) (E : St → XK) (t : TA) : TE := fun σ H Q => t σ H fun vs H1 => ∀ x dx, H1 x = none → H1 dx = none → dx ≠ x → sp (.ref x :: vs) (upd (upd H1 dx (.own x)) x (.ins C dx [])) (fun v H2 => v = .non ∧ Q (.ref x) H2) (E σ)
theorem run_makeS {X : Cx} {CX : CXT} {k : Nat} {C f : Addr} {fd : FuncData} {ps : List Str} {sp : Sp} {E : St → XK} {pins : List (Addr × Obj)} {σ : St} {H : Hp} {s : Shared} {Q : VK} {us : List Value} {vs : List V} (M : Mk X.K C f) (F : FnOk X.prog X.w X.K X.mg X.base CX k f fd ps sp) (hr : Room (k + 1) X.A) (hb : Binds X.K fd ps [])
    (hx : PassesAt CX X σ (E σ)) (I : Inv X pins σ H s) (r : Vals vs us)
    (h : ∀ x dx, H x = none → H dx = none → dx ≠ x → sp (.ref x :: vs) (upd (upd H dx (.own x)) x (.ins C dx [])) (fun v H2 => v = .non ∧ Q (.ref x) H2) (E σ)) :
    wpAny (model X.prog X.w) X.A (call (.ref C) us) (EP X pins σ Q) X.xe s := by
  have hq := h (s.heap.objs.size + 1) s.heap.objs.size (I.hok.fresh (Nat.le_succ _)) (I.hok.fresh (Nat.le_refl _)) (Nat.ne_of_lt (Nat.lt_succ_self _))
  have I2 := Inv.made (C := C) I
  have r2 : Vals (V.ref (s.heap.objs.size + 1) :: vs) (Value.ref (s.heap.objs.size + 1) :: us) := .cons rfl r
  have hl : (Value.ref (s.heap.objs.size + 1) :: us).length = ps.length := by
    have e := r2.length
    rw [F.len _ _ _ _ hq] at e
    exact e.symm
  have hb2 := hb { s with heap := s.heap } (Value.ref (s.heap.objs.size + 1) :: us)
  refine wpAny_call (make_map (f := f) I.kIn M.makes M.init (beq_iff_eq.mp M.fn) (codeAny_mono (F.run _ X.stack _ _ ⟨Value.ref (s.heap.objs.size + 1) :: us, []⟩ (Value.ref (s.heap.objs.size + 1) :: us) _ _ (E σ) (hr.make C us [])
    (I2.env0.make C us []) (by have z := hb _ (Value.ref (s.heap.objs.size + 1) :: us) I2.kIn (by rw [List.append_nil]; exact hl); rw [List.append_nil] at z; exact z) r2 hq) fun r s' hq' => ?_))
  cases r with
  | error e => exact hx pins _ _ e s' I2 hq'
  | ok fl =>
    cases fl with
    | ret u =>
      obtain ⟨v, H', I3, rv, ev, q3⟩ := I2.after hq'
      subst ev
      exact ⟨rv, ⟨V.ref (s.heap.objs.size + 1), H', I3, rfl, q3⟩⟩
    | next => exact False.elim hq'
    | brk => exact False.elim hq'
    | cont => exact False.elim hq'
theorem pe_makeS {X : Cx} {CX : CXT} {k : Nat} {C f : Addr} {fd : FuncData} {ps : List Str} {sp : Sp} {E : St → XK} {x : Str} {p pos : Pos} {e : Expr} {es : List Expr} {t : TA} (M : Mk X.K C f) (F : FnOk X.prog X.w X.K X.mg X.base CX k f fd ps sp) (hr : Room (k + 1) X.A) (hg : Gl X x) (hm : X.mg x = some (.ref C)) (hb : Binds X.K fd ps []) (hx : ∀ σ, PassesAt CX X σ (E σ))
    (ha : PA X (e :: es) t) (hdb : (x == ("__debug__" : Str)) = false := by decide) (he : starEach (e :: es) X.env = (false, eval e X.env) :: starEach es X.env := by rfl) (hpl : (backTo pos (starEach es X.env)).any (·.1) = false := by rfl) :
    PE X (.Call (.Name x p) (e :: es) [] pos) (tMakeS C sp E t) := by
  refine ⟨fun pins s σ H Q I h => ?_⟩
  refine wpAny_Call_Name_kw (ld_glob I hg hm ?_ hdb)
  refine PySem.W.callWith_K (h₀ := X.base) I.ok.mod.kin M.kp (thn (ha.run pos pins s σ H _ I h) fun us s1 ⟨vs, H1, I1, r, q⟩ => ⟨I1.kIn, ?_⟩) he hpl
  exact run_makeS M F hr hb (hx σ) I1 r q
end L2
set_option Elab.async false
set_option linter.all false
set_option maxRecDepth 100000
set_option maxHeartbeats 2000000
namespace My
open PySem L2 SS
abbrev tl (z : Str) : T := z.cps.toList
abbrev mk (l : T) : Str := ⟨l.toArray⟩
theorem tl_mk (l : T) : tl (mk l) = l := rfl
theorem mk_tl (z : Str) : mk (tl z) = z := by cases z; simp
theorem len_tl (z : Str) : (tl z).length = z.length := by simp [Str.length]
theorem same_new {H : Hp} {p : Addr} (h : H p = none) (o : HO) : Same H (upd H p o) := fun b u q => by rw [upd_ne (ne_of_none q h)]; exact q
theorem same_upd {H H' : Hp} {p : Addr} (s : Same H H') (h : H p = none) (o : HO) : Same H (upd H' p o) := fun b u q => by rw [upd_ne (ne_of_none q h)]; exact s b u q
/-- a text of the module's own, a number, a tuple -/
def GS (mg : Str → Option Value) (x : Str) (z : Str) : Prop := ∃ u, mg x = some u ∧ RelV (.str z) u
def GI (mg : Str → Option Value) (x : Str) (i : Int) : Prop := ∃ u, mg x = some u ∧ RelV (.int i) u
def GT (K : PySem.W.Frag) (mg : Str → Option Value) (x : Str) (zs : List Str) : Prop := ∃ a, mg x = some (.ref a) ∧ ∀ H, SqT K H a (zs.map V.str)
def KEPTs : List Str := ["do", "else", "end", "false", "field", "if", "kind", "method", "more", "new", "none", "raise", "return", "say", "self", "taken", "then", "true", "try", "under", "up", "while"]

/-! ### defs by their names, methods by their class -/
structure Dn (K : PySem.W.Frag) (mg : Str → Option Value) (x : Str) (st : Stmt) : Prop where
  ex : ∃ f fd, Fun K x x st f fd ∧ mg x = some (.ref f)
structure Cc (P : Program) (w : World) (K : PySem.W.Frag) (mg : Str → Option Value) (base : Heap) (CX : CXT) (k : Nat) (x : Str) (sp : Sp) : Prop where
  ex : ∃ f fd ps, FnOk P w K mg base CX k f fd ps sp ∧ mg x = some (.ref f) ∧ PySem.W.keepIn K (.ref f) = true ∧ Binds K fd ps []
theorem pe_cc {X : Cx} {CX : CXT} {k j : Nat} {x : Str} {sp : Sp} {E : XK} {p pos : Pos} {e : Expr} {es : List Expr} {t : TA} (c : Cc X.prog X.w X.K X.mg X.base CX k x sp) (hr : Room j X.A) (hk : k ≤ j) (hx : Passes CX X E) (ha : PA X (e :: es) t) (hg : Gl X x := by rfl)
    (hdb : (x == ("__debug__" : Str)) = false := by decide) (he : starEach (e :: es) X.env = (false, eval e X.env) :: starEach es X.env := by rfl) (hpl : (backTo pos (starEach es X.env)).any (·.1) = false := by rfl) :
    PE X (.Call (.Name x p) (e :: es) [] pos) (tCall sp [] E t) := by
  obtain ⟨f, fd, ps, F, hm, kp, hb⟩ := c.ex
  exact pe_call F (hr.mono hk) hg hm kp hb .nil hx ha hdb he hpl
theorem pe_gs {X : Cx} {x z : Str} {pos : Pos} (h : GS X.mg x z) (hg : Gl X x := by rfl) (hd : (x == ("__debug__" : Str)) = false := by decide) : PE X (.Name x pos) (tC (.str z)) := by
  obtain ⟨u, hm, r⟩ := h
  exact pe_glob hg hm r hd
theorem pe_gi {X : Cx} {x : Str} {i : Int} {pos : Pos} (h : GI X.mg x i) (hg : Gl X x := by rfl) (hd : (x == ("__debug__" : Str)) = false := by decide) : PE X (.Name x pos) (tC (.int i)) := by
  obtain ⟨u, hm, r⟩ := h
  exact pe_glob hg hm r hd
def tGT (K : PySem.W.Frag) (zs : List Str) : TE := fun _ H Q => ∀ a, SqT K H a (zs.map V.str) → Q (.ref a) H
theorem pe_gt {X : Cx} {x : Str} {zs : List Str} {pos : Pos} (h : GT X.K X.mg x zs) (hg : Gl X x := by rfl) (hd : (x == ("__debug__" : Str)) = false := by decide) : PE X (.Name x pos) (tGT X.K zs) := by
  obtain ⟨a, hm, r⟩ := h
  exact ⟨fun pins s σ H Q I q => (pe_glob (v := .ref a) hg hm rfl hd).run pins s σ H Q I (q a (r H))⟩
/-- what the module's top has -/
structure TxS (K : PySem.W.Frag) (mg : Str → Option Value) : Prop where
  len : mg "len" = none
  all : mg "all" = none
  mn : mg "min" = none
  tup : mg "tuple" = none
  int : mg "int" = none
  str : mg "str" = none
  enum : mg "enumerate" = none
section
variable {P : Program} {w : World} {K : PySem.W.Frag} {mg : Str → Option Value} {base : Heap}
abbrev C0 (P : Program) (w : World) (K : PySem.W.Frag) (mg : Str → Option Value) (base : Heap) (k : Nat) (x : Str) (sp : Sp) : Prop := Cc P w K mg base CX0 k x sp
/-- a def that only tells: its answer, what stood stands -/
def spB (g : T → Bool) : Sp := fun vs H Q _ => ∃ z : Str, vs = [.str z] ∧ z.length ≤ 100000 ∧ ∀ H', Same H H' → Q (.bl (g (tl z))) H'
/-! is_name -/
def spName : Sp := fun vs H Q _ => ∃ z s1 s2 : Str, vs = [.str z, .str s1, .str s2] ∧ z.length ≤ 100000 ∧ ∀ H', Same H H' → Q (.bl (isName (tl z) (tl s1) (tl s2))) H'
/-! is_small, is_kind_name -/
theorem small_add (a b : T) : mk a ++ mk b = mk (a ++ b) := by
  show (⟨a.toArray ++ b.toArray⟩ : Str) = _
  simp
/-! is_text -/
/-! is_free -/
def isFree (l : T) : Bool := isSmall l && !(KEPTs.any fun k => k == mk l)
theorem inV_strs (z : Str) (zs : List Str) : inV (.str z) (zs.map V.str) = zs.any fun k => k == z := by
  unfold inV
  rw [List.any_map]
  rfl
theorem flat_strs (zs : List Str) : (zs.map V.str).all flatV = true := by
  rw [List.all_map]
  exact List.all_eq_true.mpr fun _ _ => rfl
end
end My
set_option Elab.async false
set_option linter.all false
set_option maxRecDepth 100000
set_option maxHeartbeats 2000000
namespace L2
open PySem PySem.Spec PyProof.Rows
/-! ### == and str of an instance whose class has an __eq__, a __str__ of its own -/
/-- what may stand behind == : an instance of the same class, or a text -/
def EqTo (K : PySem.W.Frag) (C : Addr) (H : Hp) (y : V) : Prop := (∃ b dy gs, y = .ref b ∧ H b = some (.ins C dy gs)) ∨ (∃ z, y = .str z ∧ PySem.W.notFirst K C (.type "str") = true)
def rEqOwn (K : PySem.W.Frag) (C : Addr) (sp : Sp) (E : XK) : R2 := fun x y H Q => ∃ a dx fs, x = .ref a ∧ H a = some (.ins C dx fs) ∧ EqTo K C H y ∧ sp [x, y] H (fun v H' => ∃ b, v = .bl b ∧ Q (.bl b) H') E
theorem op_eqOwn {X : Cx} {CX : CXT} {n : Nat} {C f : Addr} {fd : FuncData} {ps : List Str} {sp : Sp} {E : XK} (F : FnOk X.prog X.w X.K X.mg X.base CX n f fd ps sp) (hs : PySem.W.findIn X.K (.ref C) "__eq__" = some (some (.ref f))) (hf : PySem.W.isFn X.K (.ref f) = true) (hb : Binds X.K fd ps []) (hx : Passes CX X E) (hr : Room n X.A) :
    OpR X (compareOp .Eq) (rEqOwn X.K C sp E) := by
  intro pins s σ H x y v u Q I rx ry hq
  obtain ⟨a, dx, fs, rfl, ha, hy, hsp⟩ := hq
  show wpAny (model X.prog X.w) X.A (richCompare .Eq v u) (EP X pins σ Q) X.xe s
  cases rx
  obtain ⟨mA, J, _⟩ := ins_get I.hok ha
  obtain ⟨od, J, _⟩ := J.look
  obtain ⟨m, hF⟩ := I.fr
  have hty : ∃ tb, PySem.W.Looks (model X.prog X.w) s.heap (typeOf u) tb ∧ PySem.W.notFirst X.K C tb = true := by
    rcases hy with ⟨b, dy, gs, rfl, hb'⟩ | ⟨z, rfl, hn⟩
    · cases ry
      obtain ⟨mB, J', _⟩ := ins_get I.hok hb'
      obtain ⟨od', J', _⟩ := J'.look
      exact ⟨.ref C, J'.type, by simp [PySem.W.notFirst]⟩
    · obtain ⟨t, rfl⟩ := ry
      exact ⟨.type "str", .of_pure rfl, hn⟩
  obtain ⟨tb, hl, hn⟩ := hty
  refine PySem.W.cmp_K (op := .Eq) (tb := tb) hr.units0 hF I.ok.mod.kin J hl hn hs hf ?_
  refine wpAny_mono (run_fn (vs := [V.ref a, y]) (dvs := []) F hr hb .nil hx I (.cons rfl (.cons ry .nil)) (by rw [List.append_nil]; exact hsp)) (fun w s' hw => ?_) fun _ _ e => e
  obtain ⟨z, H', I', rz, b, rfl, q⟩ := hw
  cases rz
  exact ⟨.bl b, H', I', rfl, q⟩
def rStrOwn (C : Addr) (sp : Sp) (E : XK) : List V → Hp → VK → Prop := fun xs H Q => ∃ a dx fs, xs = [.ref a] ∧ H a = some (.ins C dx fs) ∧ sp [.ref a] H (fun v H' => ∃ z, v = .str z ∧ Q (.str z) H') E
theorem call_strOwn {X : Cx} {CX : CXT} {n : Nat} {C f : Addr} {fd : FuncData} {ps : List Str} {sp : Sp} {E : XK} (F : FnOk X.prog X.w X.K X.mg X.base CX n f fd ps sp) (hs : PySem.W.findIn X.K (.ref C) "__str__" = some (some (.ref f))) (hf : PySem.W.isFn X.K (.ref f) = true) (hb : Binds X.K fd ps []) (hx : Passes CX X E) (hr : Room (n + 2) X.A) :
    CallR X (.type "str") (rStrOwn C sp E) := by
  intro pins s σ H xs us Q I r h
  obtain ⟨a, dx, fs, rfl, ha, hsp⟩ := h
  obtain rfl := Vals.ref1' r
  obtain ⟨mA, J, _⟩ := ins_get I.hok ha
  obtain ⟨od, J, _⟩ := J.look
  have r2 : Room n X.A.in1.in1 := (Room.in1 (Room.in1 hr))
  refine PySem.W.kso_call r2.units0 I.kIn J hs hf ?_
  have hl := F.len _ _ _ _ hsp
  refine wpAny_call (codeAny_mono (F.run X.A.in1.in1 X.stack s H ⟨[.ref a], []⟩ [.ref a] [.ref a] _ E r2 I.env0.in1.in1 (by
    have := hb s [.ref a] I.kIn (by simpa using hl)
    simpa using this) (.cons rfl .nil) hsp) fun r s' hq => ?_)
  cases r with
  | error e => exact hx pins σ H s e s' I hq
  | ok fl =>
    cases fl with
    | ret w =>
      obtain ⟨z, H', I', rz, y, rfl, q⟩ := I.after hq
      obtain ⟨t, rfl⟩ := rz
      exact ⟨.str y, H', I', ⟨_, rfl⟩, q⟩
    | next => exact False.elim hq
    | brk => exact False.elim hq
    | cont => exact False.elim hq
end L2
set_option Elab.async false
set_option linter.all false
set_option maxRecDepth 100000
set_option maxHeartbeats 4000000
namespace My
open PySem PySem.Spec PyProof.Rows L2 SS
/-! methods by their class -/
structure Dm (K : PySem.W.Frag) (C : Addr) (x qual : Str) (st : Stmt) : Prop where
  ex : ∃ f fd, Fun K x qual st f fd ∧ Meth K C x f
structure Mm (P : Program) (w : World) (K : PySem.W.Frag) (mg : Str → Option Value) (base : Heap) (CX : CXT) (k : Nat) (C : Addr) (m : Str) (sp : Sp) : Prop where
  ex : ∃ f fd ps, FnOk P w K mg base CX k f fd ps sp ∧ Meth K C m f ∧ Binds K fd ps []
theorem Mm.mono {P : Program} {w : World} {K : PySem.W.Frag} {mg : Str → Option Value} {base : Heap} {CX : CXT} {j k : Nat} {C : Addr} {m : Str} {sp : Sp} (c : Mm P w K mg base CX j C m sp) (h : j ≤ k) : Mm P w K mg base CX k C m sp := by
  obtain ⟨f, fd, ps, F, a, b⟩ := c.ex
  exact ⟨f, fd, ps, F.mono h, a, b⟩
theorem pe_mm {X : Cx} {CX : CXT} {k j : Nat} {C : Addr} {m : Str} {sp : Sp} {E : XK} {apos pos : Pos} {o e : Expr} {es : List Expr} {ta : TE} {t : TA} {pl : Sem Bool} (c : Cls X.K C) (M : Mm X.prog X.w X.K X.mg X.base CX k C m sp) (hr : Room j X.A) (hk : k ≤ j) (hx : Passes CX X E) (he : PE X o ta) (ha : PA X (e :: es) t)
    (hst : starEach (e :: es) X.env = (false, eval e X.env) :: starEach es X.env := by rfl) (hpl : (backTo pos (starEach es X.env)).any (·.1) = false := by rfl)
    (ht : eval (.Call (.Attribute o m apos) (e :: es) [] pos) X.env = (do
      let ov ← eval o X.env
      standAt apos.atName
      let (f, first) ← holding [ov] (getMethod ov m pl)
      callWith pos f first (backTo pos (starEach (e :: es) X.env)) (backToKw pos (keywordEach [] X.env))) := by rfl) :
    PE X (.Call (.Attribute o m apos) (e :: es) [] pos) (tMeth C m sp [] E ta t) := by
  obtain ⟨f, fd, ps, F, hm, hb⟩ := M.ex
  exact pe_meth he c hm F (hr.mono hk) hb .nil hx ha hst hpl ht
theorem pe_mm0 {X : Cx} {CX : CXT} {k j : Nat} {C : Addr} {m : Str} {sp : Sp} {E : XK} {apos pos : Pos} {o : Expr} {ta : TE} {pl : Sem Bool} (c : Cls X.K C) (M : Mm X.prog X.w X.K X.mg X.base CX k C m sp) (hr : Room j X.A) (hk : k ≤ j) (hx : Passes CX X E) (he : PE X o ta)
    (ht : eval (.Call (.Attribute o m apos) [] [] pos) X.env = (do
      let ov ← eval o X.env
      standAt apos.atName
      let (f, first) ← holding [ov] (getMethod ov m pl)
      callWith pos f first (backTo pos (starEach [] X.env)) (backToKw pos (keywordEach [] X.env))) := by rfl) :
    PE X (.Call (.Attribute o m apos) [] [] pos) (tMeth C m sp [] E ta tNil) := by
  obtain ⟨f, fd, ps, F, hm, hb⟩ := M.ex
  exact pe_meth0 he c hm F (hr.mono hk) hb .nil hx ht
/-- a method with a star parameter -/
structure Mr (P : Program) (w : World) (K : PySem.W.Frag) (mg : Str → Option Value) (base : Heap) (CX : CXT) (k : Nat) (C : Addr) (m : Str) (sp : Sp) : Prop where
  ex : ∃ f, FnR P w K mg base CX k f sp ∧ Meth K C m f
theorem pe_mr {X : Cx} {CX : CXT} {k j : Nat} {C : Addr} {m : Str} {sp : Sp} {E : XK} {apos pos : Pos} {o e : Expr} {es : List Expr} {ta : TE} {t : TA} {pl : Sem Bool} (c : Cls X.K C) (M : Mr X.prog X.w X.K X.mg X.base CX k C m sp) (hr : Room j X.A) (hk : k ≤ j) (hx : Passes CX X E) (he : PE X o ta) (ha : PA X (e :: es) t)
    (hst : starEach (e :: es) X.env = (false, eval e X.env) :: starEach es X.env := by rfl) (hpl : (backTo pos (starEach es X.env)).any (·.1) = false := by rfl)
    (ht : eval (.Call (.Attribute o m apos) (e :: es) [] pos) X.env = (do
      let ov ← eval o X.env
      standAt apos.atName
      let (f, first) ← holding [ov] (getMethod ov m pl)
      callWith pos f first (backTo pos (starEach (e :: es) X.env)) (backToKw pos (keywordEach [] X.env))) := by rfl) :
    PE X (.Call (.Attribute o m apos) (e :: es) [] pos) (tMeth C m sp [] E ta t) := by
  obtain ⟨f, F, hm⟩ := M.ex
  refine ⟨fun pins s σ H Q I h => ?_⟩
  refine PySem.W.methodCall_KW (pl := pl) (thn (he.run pins s σ H _ I h) fun u s1 ⟨x, H1, I1, rx, a, dx, fs, ex, ea, l, q⟩ => ?_) ht
  subst ex
  obtain rfl : u = Value.ref a := rx
  refine getmeth_ok I1 ea c hm l ?_
  refine PySem.W.callWith_K (first := [.ref a]) (h₀ := X.base) I.ok.mod.kin hm.kp (thn (ha.run pos pins s1 σ H1 _ I1 q) fun us s2 ⟨vs, H2, I2, r, q2⟩ => ⟨I2.kIn, ?_⟩) hst hpl
  have q3 : sp (V.ref a :: vs) H2 Q E := by
    have z : sp (V.ref a :: (vs ++ [])) H2 Q E := q2
    rw [List.append_nil] at z
    exact z
  exact wpAny_call (run_fnR (us := .ref a :: us) (vs := .ref a :: vs) F (hr.mono hk) hx I2 (.cons rfl r) q3)
/-- def f(self, *v), off its statement -/
theorem fun_star {P : Program} {w : World} {K : PySem.W.Frag} {mg : Str → Option Value} {base : Heap} {x qual : Str} {st : Stmt} {f : Addr} {fd : FuncData} {N ps : List Str} {pv : Str} {k : Nat} {sp : Sp} (F : Fun K x qual st f fd) (S : FnScope N (ps ++ [pv]) (defScope st))
    (hb : ∀ (kV doc pm : Value) (an : Option Addr) (cdv ct : Value) (us rest : List Value), us.length = ps.length → bindArgs (PySem.W.fnOf x qual (defArgs st) (defBody st) (defScope st) .none kV doc pm an cdv ct) ⟨us ++ rest, []⟩ = (newTuple rest >>= fun t => pure (ps.zip us ++ [(pv, t)])))
    (hbody : ∀ (cdv : Value) (A : Around) (outer : List Env) (s : Shared) (H : Hp) (vs : List V) (Q : VK) (E : XK), Room k (A.deeper (envOfC qual (defScope st) s.heap.objs.size f cdv)) → sp vs H Q E →
      ∃ t, PSs (cxOf CX0 P w K mg base N qual (defScope st) f cdv A outer s H E).nox (defBody st) t ∧ t { nx := fun _ H' => Q .non H', rt := Q } (start N vs) H) :
    FnR P w K mg base CX0 (k + 1) f (fun vs H Q E => ∃ ws rest, vs = ws ++ rest ∧ ws.length = ps.length ∧ rest.length ≤ sizeLine ∧ ∀ p, H p = Option.none → sp (ws ++ [V.ref p]) (upd H p (.tup rest)) Q E) := by
  obtain ⟨oc, od, kV, doc, pm, an, cdv, ct, osl, rfl, lk, hcd⟩ := F.ex
  refine StX.fn_star lk hcd S StX.cxUp_none (hb kV doc pm an cdv ct) fun A outer s H vs Q E hr hsp => ?_
  obtain ⟨t, h, q⟩ := hbody cdv A outer s H vs Q E hr hsp
  exact ⟨t, h.nox, q⟩
end My
set_option Elab.async false
set_option linter.all false
set_option maxRecDepth 100000
set_option maxHeartbeats 4000000
namespace L2
open PySem PySem.Spec PyProof.Rows
/-! ### tuples whose object is known to have no dict: their methods may be called -/
section
variable {X : Cx}
theorem call_tuple_ofF : CallR X (.type "tuple") (fun xs H Q => ∃ p ys, xs = [.ref p] ∧ SqL X.K H p ys ∧ ∀ l ob, H l = none → ob.dict = none → Q (.ref l) (upd H l (.frz ob (.tup ys)))) := by
  intro pins s σ H xs us Q I r h
  obtain ⟨p, ys, rfl, hq, q⟩ := h
  obtain ⟨u, rfl, rx⟩ := vals1 r
  cases rx
  obtain ⟨its, r', pl, hz⟩ := I.list hq
  have hlen := r'.length
  refine call_tuple_list pl.isList (fun h' kp => ?_) (by simp only [List.size_toArray] <;> omega)
  have I1 : Inv X pins σ H { s with heap := h' } := I.kept (t' := s.toks) kp
  have I2 : Inv X pins σ (upd H h'.objs.size (.frz { cls := .type "tuple", data := .seq its.toArray } (.tup ys))) { s with heap := h'.push { cls := .type "tuple", data := .seq its.toArray } } :=
    I1.laid (t' := s.toks) (fun b o e => Heap.get?_push_of_some _ e) (Nat.le_refl _) (show ObjOk X.prog X.w _ _ _ (.frz _ (.tup ys)) from ⟨Heap.get?_push_size _ rfl, hz, its, r', IsTup.new _ _⟩)
  exact ⟨.ref h'.objs.size, _, I2, rfl, q _ _ (I1.hok.fresh (Nat.le_refl _)) rfl⟩
/-- a tuple at p whose object has no dict -/
def FrzT (H : Hp) (p : Addr) (xs : List V) : Prop := ∃ ob, H p = some (.frz ob (.tup xs)) ∧ ob.dict = none
theorem FrzT.sq {K : PySem.W.Frag} {H : Hp} {p : Addr} {xs : List V} (h : FrzT H p xs) : SqT K H p xs := by
  obtain ⟨ob, h, _⟩ := h
  exact .inl (.inr ⟨ob, h⟩)
def tBMF (r : V → List V → Hp → VK → Prop) (to : TE) (t : TA) : TE := fun σ H Q => to σ H fun x H1 => (∃ p xs, x = .ref p ∧ FrzT H1 p xs) ∧ t σ H1 fun ys H2 => r x ys H2 Q
theorem pe_bmF {o e : Expr} {es : List Expr} {name : Str} {id : String} {apos cpos : Pos} {to : TE} {t : TA} {r : V → List V → Hp → VK → Prop} (pa : PlainAttrs "tuple") (slot : Slot "tuple" name id) (hty : typeOf (.builtin id) = pure (.type "method_descriptor")) (hm : MtR X id r) (ho : PE X o to) (ha : PA X (e :: es) t)
    (hbase : attributeBase o name X.env (eval o X.env) = eval o X.env := by rfl)
    (hfew : ((backTo cpos (starEach (e :: es) X.env)).all (fun x => !x.1) && (backToKw cpos (keywordEach [] X.env)).all (fun x => x.1.isSome)
      && decide ((e :: es).length + ([] : List Keyword).length + (if ([] : List Keyword).isEmpty then 0 else 1) < 30)) = true := by rfl)
    (hline : (apos.endLine == cpos.line) = true := by rfl) (hs : starEach (e :: es) X.env = (false, eval e X.env) :: starEach es X.env := by rfl) (hplain : (backTo cpos (starEach es X.env)).any (·.1) = false := by rfl) :
    PE X (.Call (.Attribute o name apos) (e :: es) [] cpos) (tBMF r to t) := by
  refine ⟨fun pins s σ H Q I h => ?_⟩
  refine wpAny_Call_method_late hbase hfew hline rfl (thn (ho.run pins s σ H _ I h) fun v s1 ⟨x, H1, I1, r1, ⟨p, xs, ex, ob, hp, hd⟩, q1⟩ => ?_)
  subst ex
  cases r1
  obtain ⟨g1, _, its, _, o2, g2, g3, _⟩ := (show ObjOk X.prog X.w H1 s1.heap p (.frz ob (.tup xs)) from I1.hok p _ hp)
  have e : o2 = ob := by rw [g1] at g2; exact (Option.some.inj g2).symm
  subst e
  refine ⟨"tuple", id, pa, slot, hty, ⟨_, g1, g3⟩, fun a ea => by cases ea; exact ⟨_, g1, hd⟩, ?_⟩
  have hA := ha.run cpos pins s1 σ H1 _ I1 q1
  rw [hs] at hA ⊢
  refine Calls.callWith_builtin (by show (false || (backTo cpos (starEach es X.env)).any (·.1)) = false; rw [hplain] <;> rfl) (Calls.evalArgs_plain ?_)
  exact thn hA fun us s2 ⟨vs, H2, I2, r2, q2⟩ => hm pins s2 σ H2 (.ref p) vs (.ref p) us Q I2 rfl r2 q2
end
end L2
set_option Elab.async false
set_option linter.all false
set_option maxRecDepth 100000
set_option maxHeartbeats 4000000
namespace My
open PySem L2 SS
def top (i : Nat) : Stmt := PySem.Challenge.pw_sendstead_k76_deeds_as_texts.main.body.getD i (.Pass ⟨0, 0, 0, 0⟩)
abbrev s_is_small : Stmt := top 15
abbrev s_is_free : Stmt := top 16
abbrev s_is_kind_name : Stmt := top 17
abbrev s_is_page_name : Stmt := top 18
abbrev s_is_name : Stmt := top 19
abbrev s_is_text : Stmt := top 20
abbrev s_is_number : Stmt := top 21
abbrev s_has_only : Stmt := top 22
abbrev s_sort_of : Stmt := top 24
abbrev s_is_number_within : Stmt := top 25
abbrev s_is_whole : Stmt := top 26
abbrev s_is_row : Stmt := top 27
abbrev s_is_plain : Stmt := top 28
abbrev s_is_number_from_0 : Stmt := top 30
abbrev s_is_message : Stmt := top 33
abbrev s_is_deed : Stmt := top 39
abbrev s_is_part_of_deed : Stmt := top 40
abbrev s_is_mark : Stmt := top 41
abbrev s_is_word_of_deed : Stmt := top 42
abbrev s_is_figures : Stmt := top 43
abbrev s_number_of : Stmt := top 44
abbrev s_figures_of : Stmt := top 45
abbrev s_word_of_worth : Stmt := top 46
abbrev s_worth_of_word : Stmt := top 47
abbrev s_deed_text : Stmt := top 49
abbrev s_words_of_deed : Stmt := top 50
abbrev s_word_of_part : Stmt := top 51
abbrev s_read_deeds : Stmt := top 52
abbrev s_many_lines : Stmt := top 53
abbrev s_deed_of_lines : Stmt := top 54
abbrev s_deed_of_words : Stmt := top 55
abbrev s_number_of_word : Stmt := top 56
abbrev s_mark_of_word : Stmt := top 57
abbrev s__law_deck : Stmt := top 59
abbrev s__law_next : Stmt := top 60
abbrev s__law_row : Stmt := top 61
abbrev s__law_small : Stmt := top 62
abbrev s__law_kind : Stmt := top 63
abbrev s__law_sheet : Stmt := top 64
abbrev s__law_message : Stmt := top 65
abbrev s__law_worth : Stmt := top 66
abbrev s__law_text : Stmt := top 67
abbrev s__law_deed : Stmt := top 68
abbrev s__law_word : Stmt := top 69
abbrev s__law_told : Stmt := top 70
abbrev s_law : Stmt := top 71
abbrev c_SteadError : Stmt := top 1
abbrev s_SteadError___init__ : Stmt := inClass (top 1) 0
abbrev c_NoDeed : Stmt := top 2
def L_KEPT : List Str := ["do", "else", "end", "false", "field", "if", "kind", "method", "more", "new", "none", "raise", "return", "say", "self", "taken", "then", "true", "try", "under", "up", "while"]
def L_MESSAGE_MARKS : List Str := [mk [43], mk [45], mk [42], mk [47], mk [60], mk [61]]
/-- all that the top has -/
structure Fz (K : PySem.W.Frag) (mg : Str → Option Value) where
  D_is_small : Dn K mg "is_small" s_is_small
  D_is_free : Dn K mg "is_free" s_is_free
  D_is_kind_name : Dn K mg "is_kind_name" s_is_kind_name
  D_is_page_name : Dn K mg "is_page_name" s_is_page_name
  D_is_name : Dn K mg "is_name" s_is_name
  D_is_text : Dn K mg "is_text" s_is_text
  D_is_number : Dn K mg "is_number" s_is_number
  D_has_only : Dn K mg "has_only" s_has_only
  D_sort_of : Dn K mg "sort_of" s_sort_of
  D_is_number_within : Dn K mg "is_number_within" s_is_number_within
  D_is_whole : Dn K mg "is_whole" s_is_whole
  D_is_row : Dn K mg "is_row" s_is_row
  D_is_plain : Dn K mg "is_plain" s_is_plain
  D_is_number_from_0 : Dn K mg "is_number_from_0" s_is_number_from_0
  D_is_message : Dn K mg "is_message" s_is_message
  D_is_deed : Dn K mg "is_deed" s_is_deed
  D_is_part_of_deed : Dn K mg "is_part_of_deed" s_is_part_of_deed
  D_is_mark : Dn K mg "is_mark" s_is_mark
  D_is_word_of_deed : Dn K mg "is_word_of_deed" s_is_word_of_deed
  D_is_figures : Dn K mg "is_figures" s_is_figures
  D_number_of : Dn K mg "number_of" s_number_of
  D_figures_of : Dn K mg "figures_of" s_figures_of
  D_word_of_worth : Dn K mg "word_of_worth" s_word_of_worth
  D_worth_of_word : Dn K mg "worth_of_word" s_worth_of_word
  D_deed_text : Dn K mg "deed_text" s_deed_text
  D_words_of_deed : Dn K mg "words_of_deed" s_words_of_deed
  D_word_of_part : Dn K mg "word_of_part" s_word_of_part
  D_read_deeds : Dn K mg "read_deeds" s_read_deeds
  D_many_lines : Dn K mg "many_lines" s_many_lines
  D_deed_of_lines : Dn K mg "deed_of_lines" s_deed_of_lines
  D_deed_of_words : Dn K mg "deed_of_words" s_deed_of_words
  D_number_of_word : Dn K mg "number_of_word" s_number_of_word
  D_mark_of_word : Dn K mg "mark_of_word" s_mark_of_word
  D__law_deck : Dn K mg "_law_deck" s__law_deck
  D__law_next : Dn K mg "_law_next" s__law_next
  D__law_row : Dn K mg "_law_row" s__law_row
  D__law_small : Dn K mg "_law_small" s__law_small
  D__law_kind : Dn K mg "_law_kind" s__law_kind
  D__law_sheet : Dn K mg "_law_sheet" s__law_sheet
  D__law_message : Dn K mg "_law_message" s__law_message
  D__law_worth : Dn K mg "_law_worth" s__law_worth
  D__law_text : Dn K mg "_law_text" s__law_text
  D__law_deed : Dn K mg "_law_deed" s__law_deed
  D__law_word : Dn K mg "_law_word" s__law_word
  D__law_told : Dn K mg "_law_told" s__law_told
  g_BIG : GI mg "BIG" 1000000000000
  g_MOST_ROWS : GI mg "MOST_ROWS" 300
  g_MOST_TEXT_SIGNS : GI mg "MOST_TEXT_SIGNS" 40
  g_MOST_NAME_SIGNS : GI mg "MOST_NAME_SIGNS" 12
  g_SMALL : GS mg "SMALL" (mk [97, 98, 99, 100, 101, 102, 103, 104, 105, 106, 107, 108, 109, 110, 111, 112, 113, 114, 115, 116, 117, 118, 119, 120, 121, 122])
  g_CAPITALS : GS mg "CAPITALS" (mk [65, 66, 67, 68, 69, 70, 71, 72, 73, 74, 75, 76, 77, 78, 79, 80, 81, 82, 83, 84, 85, 86, 87, 88, 89, 90])
  g_FIGURES : GS mg "FIGURES" (mk [48, 49, 50, 51, 52, 53, 54, 55, 56, 57])
  g_SMALL_SIGNS : GS mg "SMALL_SIGNS" (mk [97, 98, 99, 100, 101, 102, 103, 104, 105, 106, 107, 108, 109, 110, 111, 112, 113, 114, 115, 116, 117, 118, 119, 120, 121, 122, 48, 49, 50, 51, 52, 53, 54, 55, 56, 57])
  g_KIND_SIGNS : GS mg "KIND_SIGNS" (mk [97, 98, 99, 100, 101, 102, 103, 104, 105, 106, 107, 108, 109, 110, 111, 112, 113, 114, 115, 116, 117, 118, 119, 120, 121, 122, 65, 66, 67, 68, 69, 70, 71, 72, 73, 74, 75, 76, 77, 78, 79, 80, 81, 82, 83, 84, 85, 86, 87, 88, 89, 90, 48, 49, 50, 51, 52, 53, 54, 55, 56, 57])
  g_TEXT_SIGNS : GS mg "TEXT_SIGNS" (mk [97, 98, 99, 100, 101, 102, 103, 104, 105, 106, 107, 108, 109, 110, 111, 112, 113, 114, 115, 116, 117, 118, 119, 120, 121, 122, 65, 66, 67, 68, 69, 70, 71, 72, 73, 74, 75, 76, 77, 78, 79, 80, 81, 82, 83, 84, 85, 86, 87, 88, 89, 90, 48, 49, 50, 51, 52, 53, 54, 55, 56, 57, 95])
  g_KEPT : GT K mg "KEPT" L_KEPT
  g_MESSAGE_MARKS : GT K mg "MESSAGE_MARKS" L_MESSAGE_MARKS
  g_MOST_BEATS : GI mg "MOST_BEATS" 2000
  g_PART_FIGURES : GI mg "PART_FIGURES" 60
  g_PART : GI mg "PART" 1000000000000000000000000000000000000000000000000000000000000
  b_ValueError : mg "ValueError" = none
  b_abs : mg "abs" = none
  b_all : mg "all" = none
  b_any : mg "any" = none
  b_bool : mg "bool" = none
  b_dict : mg "dict" = none
  b_divmod : mg "divmod" = none
  b_enumerate : mg "enumerate" = none
  b_int : mg "int" = none
  b_isinstance : mg "isinstance" = none
  b_len : mg "len" = none
  b_list : mg "list" = none
  b_max : mg "max" = none
  b_min : mg "min" = none
  b_range : mg "range" = none
  b_repr : mg "repr" = none
  b_reversed : mg "reversed" = none
  b_set : mg "set" = none
  b_sorted : mg "sorted" = none
  b_str : mg "str" = none
  b_sum : mg "sum" = none
  b_tuple : mg "tuple" = none
  b_zip : mg "zip" = none
end My
set_option Elab.async false
set_option linter.all false
set_option maxRecDepth 100000
set_option maxHeartbeats 2000000
namespace My
open PySem L2 SS
/-! ### numbers, words: the functions -/
def figsOf : T → T
  | 45 :: cs => cs
  | l => l
def numOf : T → Int
  | 45 :: cs => -((NumText.digitsVal cs : Nat) : Int)
  | l => ((NumText.digitsVal l : Nat) : Int)
def numStr (n : Int) : Str := Str.ofString (toString n)
def isNum (l : T) : Bool := decide (1 ≤ (figsOf l).length ∧ (figsOf l).length ≤ 13) && (hasOnly (figsOf l) FIGS && (decide (numStr (numOf l) = mk l) && (decide (-1000000000000 < numOf l) && decide (numOf l < 1000000000000))))
def BRs : List Str := [mk [40], mk [41], mk [123], mk [125], mk [91], mk [93], mk [124]]
def MARKs : List Str := [mk [43], mk [45], mk [42], mk [47], mk [60], mk [61], mk [58, 61], mk [58]]
def inS (zs : List Str) (l : T) : Bool := zs.any fun k => k == mk l
def isWord (l : T) : Bool :=
  if inS BRs l = true ∨ inS MARKs l = true then true
  else if l.head? = some 64 then isSmall (l.drop 1)
  else if l.head? = some 39 then isText (l.drop 1)
  else isSmall l || (isKindName l || isNum l)
theorem fold_lt : ∀ (cs : T) (a : Nat), NumText.AllDigits cs → cs.foldl (fun acc c => acc * 10 + (c - 48)) a < (a + 1) * 10 ^ cs.length
  | [], a, _ => by simp
  | c :: cs, a, h => by
    have hc := h c List.mem_cons_self
    have ih := fold_lt cs (a * 10 + (c - 48)) (fun d hd => h d (List.mem_cons_of_mem _ hd))
    rw [List.foldl_cons, List.length_cons]
    have e : (a * 10 + (c - 48) + 1) * 10 ^ cs.length ≤ ((a + 1) * 10) * 10 ^ cs.length := Nat.mul_le_mul_right _ (by omega)
    have e2 : (a + 1) * 10 ^ (cs.length + 1) = ((a + 1) * 10) * 10 ^ cs.length := by rw [Nat.pow_succ, Nat.mul_assoc, Nat.mul_comm 10]
    omega
theorem digits_lt {cs : T} (h : NumText.AllDigits cs) (hl : cs.length ≤ 13) : NumText.digitsVal cs < 10 ^ 13 := by
  have h1 := fold_lt cs 0 h
  have h2 : 10 ^ cs.length ≤ 10 ^ 13 := Nat.pow_le_pow_right (by decide) hl
  unfold NumText.digitsVal
  omega
theorem figs_digits {l : T} (h : hasOnly l FIGS = true) : NumText.AllDigits l := fun c hc => by
  unfold hasOnly at h
  have := of_decide_eq_true (List.all_eq_true.mp h c hc)
  simp [FIGS] at this
  omega
theorem log_small {n : Nat} (h : n < 10 ^ 13) : n.log2 < 1920 := by
  by_cases e : n = 0
  · subst e; decide
  · exact (Nat.log2_lt e).mpr (Nat.lt_of_lt_of_le h (by decide +kernel))
theorem num_facts {l : T} (h1 : 1 ≤ (figsOf l).length) (h2 : (figsOf l).length ≤ 13) (h3 : hasOnly (figsOf l) FIGS = true) : intText? (mk l) = some (numOf l) ∧ (numOf l).natAbs.log2 < 1920 ∧ (mk l).length ≤ 14 := by
  have hd := figs_digits h3
  have hne : figsOf l ≠ [] := fun z => by rw [z] at h1; simp at h1
  have hl : (mk l).length = l.length := by show l.toArray.size = _; simp
  rcases l with _ | ⟨c, cs⟩
  · simp [figsOf] at h1
  · by_cases hc : c = 45
    · subst hc
      have e : figsOf (45 :: cs) = cs := rfl
      rw [e] at h1 h2 hd hne
      refine ⟨intText_neg (cs := cs) rfl hd hne (by rw [hl, List.length_cons]; omega), ?_, by rw [hl, List.length_cons]; omega⟩
      show (-((NumText.digitsVal cs : Nat) : Int)).natAbs.log2 < 1920
      rw [Int.natAbs_neg]
      exact log_small (digits_lt hd h2)
    · have e : figsOf (c :: cs) = c :: cs := by
        unfold figsOf
        split
        · rename_i heq
          exact absurd (List.cons.inj heq).1 hc
        · rfl
      have e2 : numOf (c :: cs) = ((NumText.digitsVal (c :: cs) : Nat) : Int) := by
        unfold numOf
        split
        · rename_i heq
          exact absurd (List.cons.inj heq).1 hc
        · rfl
      rw [e] at h1 h2 hd hne
      rw [e2]
      exact ⟨intText_digits (x := mk (c :: cs)) hd hne (by rw [hl]; omega), log_small (digits_lt hd h2), by rw [hl]; omega⟩
theorem mk_len (l : T) : (mk l).length = l.length := by show l.toArray.size = _; simp
theorem removed (z : Str) : Txt.removeprefix z "-" = mk (figsOf (tl z)) := by
  obtain ⟨⟨l⟩⟩ := z
  have e0 : (Str.ofString "-") = ⟨#[45]⟩ := by decide +kernel
  show Txt.removeprefix ⟨⟨l⟩⟩ (Str.ofString "-") = mk (figsOf l)
  rw [e0]
  unfold Txt.removeprefix
  rcases l with _ | ⟨c, cs⟩
  · rfl
  · have hs : Builtin.Str.subAt ⟨⟨c :: cs⟩⟩ ⟨#[45]⟩ 0 = decide (c = 45) := by
      unfold Builtin.Str.subAt
      have : (⟨c :: cs⟩ : Array Nat).extract 0 (0 + (⟨#[45]⟩ : Str).length) = #[c] := by
        apply Array.toList_inj.mp
        simp [Str.length, Array.toList_extract, List.extract]
      show ((⟨c :: cs⟩ : Array Nat).extract 0 (0 + (⟨#[45]⟩ : Str).length) == #[45]) = _
      rw [this]
      by_cases h : c = 45
      · subst h; rfl
      · rw [decide_eq_false h]
        simp [h]
    rw [hs]
    by_cases h : c = 45
    · subst h
      rw [if_pos (by simp)]
      unfold Txt.affix
      show (if (cs.length + 1) - 1 == cs.length + 1 then _ else _) = _
      rw [if_neg (by simp)]
      unfold Builtin.Str.strSub
      show (⟨(⟨45 :: cs⟩ : Array Nat).extract 1 (cs.length + 1)⟩ : Str) = mk cs
      congr 1
      apply Array.toList_inj.mp
      simp [Array.toList_extract, List.extract]
    · rw [if_neg (by simp [h])]
      have e : figsOf (c :: cs) = c :: cs := by
        unfold figsOf
        split
        · rename_i heq
          exact absurd (List.cons.inj heq).1 h
        · rfl
      rw [e]
      rfl
theorem starts1 (z : Str) (c : Nat) : Txt.startswith z (mk [c]) = decide ((tl z).head? = some c) := by
  obtain ⟨⟨l⟩⟩ := z
  unfold Txt.startswith
  rcases l with _ | ⟨d, ds⟩
  · rfl
  · have hs : Builtin.Str.subAt ⟨⟨d :: ds⟩⟩ (mk [c]) 0 = decide (d = c) := by
      unfold Builtin.Str.subAt
      have : (⟨d :: ds⟩ : Array Nat).extract 0 (0 + (mk [c]).length) = #[d] := by
        apply Array.toList_inj.mp
        simp [Str.length, Array.toList_extract, List.extract]
      show ((⟨d :: ds⟩ : Array Nat).extract 0 (0 + (mk [c]).length) == #[c]) = _
      rw [this]
      by_cases h : d = c
      · subst h; simp
      · rw [decide_eq_false h]
        simp [h]
    rw [hs]
    show (decide (0 + 1 ≤ ds.length + 1) && decide (d = c)) = decide ((d :: ds).head? = some c)
    rw [decide_eq_true (by omega), Bool.true_and]
    simp
theorem cut1 (z : Str) : cutS z (some 1) none = mk ((tl z).drop 1) := by
  unfold cutS
  rw [HT.sIx_none]
  have h : HT.sIx z.length 0 (some 1) = min 1 z.length := HT.sIx_nat z.length 0 1
  rw [h]
  have hl := len_tl z
  have e : (List.take (z.length - min 1 z.length) (List.drop (min 1 z.length) z.cps.toList)) = (tl z).drop 1 := by
    rw [List.take_of_length_le (by rw [List.length_drop, hl]; omega)]
    by_cases h0 : z.length = 0
    · have : tl z = [] := List.eq_nil_of_length_eq_zero (by omega)
      show List.drop _ (tl z) = _
      rw [this]
      simp
    · rw [show min 1 z.length = 1 by omega]
  rw [e]
theorem cut_sl (z : Str) {a b : Nat} (h : b ≤ z.length) : cutS z (some (a : Nat)) (some (b : Nat)) = mk (sl (tl z) a b) := by
  unfold cutS
  rw [HT.sIx_nat, HT.sIx_nat]
  have hl := len_tl z
  unfold sl
  by_cases ha : a ≤ z.length
  · rw [show min a z.length = a by omega, show min b z.length = b by omega]
  · have e1 : (tl z).drop a = [] := List.drop_eq_nil_of_le (by omega)
    rw [e1, List.drop_eq_nil_of_le (by rw [hl]; omega)]
    simp
theorem dec_str (a b : Str) : decide (V.str a = V.str b) = decide (a = b) := by
  by_cases h : a = b
  · subst h; simp
  · rw [decide_eq_false h, decide_eq_false (fun z => h (V.str.inj z))]
section
variable {P : Program} {w : World} {K : PySem.W.Frag} {mg : Str → Option Value} {base : Heap}
theorem big_len : (Str.ofString (toString (1000000000000 : Int))).length = 13 := by decide +kernel
end
end My
set_option Elab.async false
set_option linter.all false
set_option maxRecDepth 100000
set_option maxHeartbeats 2000000
namespace My
open PySem L2 SS
/-! ### things that stand in tuples -/
def AtT {α : Type} (f : α → List V) (H : Hp) (v : V) (q : α) : Prop := ∃ p, v = .ref p ∧ H p = some (.tup (f q))
inductive AllT {α : Type} (f : α → List V) (H : Hp) : List V → List α → Prop
  | nil : AllT f H [] []
  | cons {v : V} {q : α} {vs : List V} {qs : List α} : AtT f H v q → AllT f H vs qs → AllT f H (v :: vs) (q :: qs)
/-- tuples stand -/
structure Tups (H H' : Hp) : Prop where
  tup : ∀ p xs, H p = some (.tup xs) → H' p = some (.tup xs)
  frz : ∀ p o u, H p = some (.frz o u) → H' p = some (.frz o u)
instance {H H' : Hp} : CoeFun (Tups H H') (fun _ => ∀ p xs, H p = some (.tup xs) → H' p = some (.tup xs)) := ⟨Tups.tup⟩
theorem same_tups {H H' : Hp} (s : Same H H') : Tups H H' := ⟨fun p xs h => s p _ h, fun p o u h => s p _ h⟩
theorem Tups.trans {H H1 H2 : Hp} (a : Tups H H1) (b : Tups H1 H2) : Tups H H2 := ⟨fun p xs h => b p xs (a p xs h), fun p o u h => b.frz _ _ _ (a.frz _ _ _ h)⟩
theorem tups_new {H : Hp} {p : Addr} (h : H p = none) (o : HO) : Tups H (upd H p o) := same_tups (same_new h o)
theorem tups_lst {H : Hp} {p : Addr} {xs ys : List V} (h : H p = some (.lst xs)) : Tups H (upd H p (.lst ys)) := ⟨fun b u q => by
  rw [upd_ne (ne_of q h (by intro z; cases z))]; exact q, fun b o_ u_ q => by
  rw [upd_ne (ne_of q h (by intro z; cases z))]; exact q⟩
section
variable {α : Type} {f : α → List V} {H H' : Hp}
theorem AllT.on : ∀ {vs : List V} {qs : List α}, AllT f H vs qs → Tups H H' → AllT f H' vs qs
  | _, _, .nil, _ => .nil
  | _, _, .cons ⟨p, e, h⟩ r, t => .cons ⟨p, e, t _ _ h⟩ (r.on t)
theorem AllT.append : ∀ {vs ws : List V} {qs rs : List α}, AllT f H vs qs → AllT f H ws rs → AllT f H (vs ++ ws) (qs ++ rs)
  | _, _, _, _, .nil, h => h
  | _, _, _, _, .cons a r, h => .cons a (r.append h)
theorem AllT.length : ∀ {vs : List V} {qs : List α}, AllT f H vs qs → vs.length = qs.length
  | _, _, .nil => rfl
  | _, _, .cons _ r => by rw [List.length_cons, List.length_cons, r.length]
theorem AllT.get : ∀ {vs : List V} {qs : List α} {i : Nat} {v : V}, AllT f H vs qs → vs[i]? = some v → ∃ q, qs[i]? = some q ∧ AtT f H v q
  | _, _, i, v, .nil, h => by simp at h
  | _, _, 0, v, .cons a r, h => by simp at h; subst h; exact ⟨_, rfl, a⟩
  | _, _, i + 1, v, .cons a r, h => by
    obtain ⟨q, h1, h2⟩ := r.get (i := i) (v := v) (by simpa using h)
    exact ⟨q, by simpa using h1, h2⟩
/-- a list that is being made, its items in tuples -/
def LS (f : α → List V) (H H1 : Hp) (l : Addr) (ps : List α) : Prop := Same H H1 ∧ H l = none ∧ ∃ vs, H1 l = some (.lst vs) ∧ AllT f H1 vs ps
theorem LS.new {H1 : Hp} {l p : Addr} {ps : List α} (h : LS f H H1 l ps) (n : H1 p = none) (o : HO) : LS f H (upd H1 p o) l ps := by
  obtain ⟨s, hl, vs, h1, h2⟩ := h
  exact ⟨s.trans (same_new n o), hl, vs, by rw [upd_ne (ne_of_none h1 n)]; exact h1, h2.on (tups_new n o)⟩
theorem LS.push {H1 : Hp} {l p : Addr} {ps : List α} {q : α} (h : LS f H H1 l ps) (hp : H1 p = some (.tup (f q))) : ∃ vs, H1 l = some (.lst vs) ∧ vs.length = ps.length ∧ LS f H (upd H1 l (.lst (vs ++ [.ref p]))) l (ps ++ [q]) := by
  obtain ⟨s, hl, vs, h1, h2⟩ := h
  refine ⟨vs, h1, h2.length, fun b u e => ?_, hl, _, upd_same, ?_⟩
  · rw [upd_ne (ne_of_none e hl)]
    exact s b u e
  · have t : Tups H1 (upd H1 l (.lst (vs ++ [.ref p]))) := tups_lst h1
    exact (h2.on t).append (.cons ⟨p, rfl, t _ _ hp⟩ .nil)
end
def fP (q : List Nat × Nat) : List V := [.str (mk q.1), .int (q.2 : Nat)]
def fW (q : W) : List V := [.str (mk q.1), .int (q.2.1 : Nat), .int (q.2.2 : Nat)]
section
variable {P : Program} {w : World} {K : PySem.W.Frag} {mg : Str → Option Value} {base : Heap}
/-! ### is_word -/
theorem s_at : (Str.ofString "@") = mk [64] := by decide +kernel
theorem s_quote : (Str.ofString "'") = mk [39] := by decide +kernel
/-! ### words_of_row -/
def spRow : Sp := fun vs H Q _ => ∃ z : Str, vs = [.str z] ∧ z.length ≤ 100000 ∧ ∀ (H' : Hp) (l : Addr) (us : List V), Same H H' → H l = none → H' l = some (.lst us) → AllT fP H' us (rowWords (tl z)) → Q (.ref l) H'
def RowInv (L : List Nat) (i a : Nat) (ps : List (List Nat × Nat)) : Prop := (i ≤ L.length ∧ a ≤ i ∧ ps ++ rw_ (sl L a i) (i + 1) (L.drop i) = rowWords L) ∨ (i = L.length + 1 ∧ ps = rowWords L)
theorem RowInv.len {L : List Nat} {i a : Nat} {ps : List (List Nat × Nat)} (h : RowInv L i a ps) : ps.length ≤ 2 * L.length := by
  have := rowWords_len L
  rcases h with ⟨_, _, h⟩ | ⟨_, h⟩
  · rw [← h, List.length_append] at this
    omega
  · rw [h]; exact this
theorem s_blank : (Str.ofString " ") = mk [32] := by decide +kernel
theorem sep_in (c : Nat) : inS BRs [c] = decide (c ∈ BR) := by
  have e : ∀ d : Nat, ((mk [d]) == mk [c]) = decide (c = d) := fun d => by
    by_cases h : c = d
    · subst h; simp
    · rw [decide_eq_false h]
      apply beq_eq_false_iff_ne.mpr
      intro z
      have z2 := congrArg (fun s => s.cps.toList) z
      simp at z2
      exact h z2.symm
  unfold inS BRs BR
  simp only [List.any_cons, List.any_nil, e, List.mem_cons, List.not_mem_nil, Bool.decide_or, Bool.or_false, or_false]
end
end My
set_option Elab.async false
set_option linter.all false
set_option maxRecDepth 100000
set_option maxHeartbeats 2000000
namespace My
open PySem L2 SS
def oN : Option Nat → V
  | none => .non
  | some c => .int (c : Nat)
theorem foldMin : ∀ (ns : List Int) (n : Int), (ns.foldl min n) ∈ n :: ns ∧ ∀ y ∈ n :: ns, ns.foldl min n ≤ y
  | [], n => by simp
  | k :: r, n => by
    have ih := foldMin r (min n k)
    rw [List.foldl_cons]
    constructor
    · rcases List.mem_cons.mp ih.1 with h | h
      · rw [h]
        by_cases c : n ≤ k
        · rw [Int.min_eq_left c]; simp
        · rw [Int.min_eq_right (by omega)]; simp
      · exact List.mem_cons_of_mem _ (List.mem_cons_of_mem _ h)
    · intro y hy
      have h0 := ih.2 (min n k) List.mem_cons_self
      rcases List.mem_cons.mp hy with h | h
      · subst h; omega
      · rcases List.mem_cons.mp h with h | h
        · subst h; omega
        · exact ih.2 y (List.mem_cons_of_mem _ h)
theorem minOf_ints {c : Nat} {r : List Nat} {m : Int} (h : m = (r.map fun (k : Nat) => (k : Int)).foldl min ((c : Nat) : Int)) : ∃ k, minOf (c :: r) = some k ∧ m = (k : Nat) := by
  have f := foldMin (r.map fun (k : Nat) => (k : Int)) ((c : Nat) : Int)
  rw [← h] at f
  have e : ((c : Nat) : Int) :: (r.map fun (k : Nat) => (k : Int)) = (c :: r).map fun (k : Nat) => (k : Int) := rfl
  rw [e] at f
  obtain ⟨k, hk, ek⟩ := List.mem_map.mp f.1
  refine ⟨k, minOf_some.mpr ⟨hk, fun y hy => ?_⟩, ek.symm⟩
  have := f.2 ((y : Nat) : Int) (List.mem_map.mpr ⟨y, hy, rfl⟩)
  omega
section
variable {P : Program} {w : World} {K : PySem.W.Frag} {mg : Str → Option Value} {base : Heap}
def spWrong : Sp := fun vs H Q _ => ∃ (a : Addr) (n : Nat) (us : List V) (ps : List (List Nat × Nat)), vs = [.ref a, .int (n : Nat)] ∧ H a = some (.lst us) ∧ AllT fP H us ps ∧ (∀ q ∈ ps, q.1.length ≤ 100000) ∧ ps.length ≤ 300000 ∧ ∀ H', Same H H' → Q (oN (wrongCol isWord ps n)) H'
theorem alike_ints (ns : List Int) : PySem.W.AlikeAll (ns.map PyData.int) := by
  refine ⟨fun x hx y hy => ?_, fun x hx => ?_⟩
  · obtain ⟨a, _, rfl⟩ := List.mem_map.mp hx
    obtain ⟨b, _, rfl⟩ := List.mem_map.mp hy
    rfl
  · obtain ⟨a, _, rfl⟩ := List.mem_map.mp hx
    intro z
    cases z
theorem depth_ints : ∀ ns : List Int, PyData.depthAll (ns.map PyData.int) ≤ 20
  | [] => by decide
  | n :: r => by
    have := depth_ints r
    show max (PyData.depth (.int n)) (PyData.depthAll (r.map PyData.int)) ≤ 20
    exact Nat.max_le.mpr ⟨by show 0 ≤ 20; decide, this⟩
theorem dp_ints {H : Hp} : ∀ ns : List Int, DpAll K H (ns.map V.int) (ns.map PyData.int)
  | [] => .nil
  | n :: r => .cons (.int n) (dp_ints r)
end
end My
set_option Elab.async false
set_option linter.all false
set_option maxRecDepth 100000
set_option maxHeartbeats 2000000
namespace My
open PySem L2 SS
theorem LS.pushAll {α : Type} {f : α → List V} {H H1 : Hp} {l : Addr} {ps qs : List α} {us : List V} (h : LS f H H1 l ps) (hq : AllT f H1 us qs) : ∃ vs, H1 l = some (.lst vs) ∧ vs.length = ps.length ∧ LS f H (upd H1 l (.lst (vs ++ us))) l (ps ++ qs) := by
  obtain ⟨s, hl, vs, h1, h2⟩ := h
  refine ⟨vs, h1, h2.length, fun b u e => ?_, hl, _, upd_same, ?_⟩
  · rw [upd_ne (ne_of_none e hl)]
    exact s b u e
  · have t : Tups H1 (upd H1 l (.lst (vs ++ us))) := tups_lst h1
    exact (h2.on t).append (hq.on t)
theorem lay_len (r : Nat) (p : List (List Nat × Nat)) : (lay r p).length = p.length := by unfold lay; rw [List.length_map]
theorem scanGo_len {isW : List Nat → Bool} : ∀ (ls : List (List Nat)) (r : Nat), (∀ l ∈ ls, l.length ≤ 1000) → (scanGo isW r ls).1.length ≤ 2000 * ls.length
  | [], r, _ => by simp [scanGo]
  | l :: ls, r, h => by
    have hl := h l List.mem_cons_self
    have ih := scanGo_len ls (r + 1) (fun x hx => h x (List.mem_cons_of_mem _ hx)) (isW := isW)
    have hr := rowWords_len l
    rw [scanGo, List.length_cons]
    split
    · rename_i c _
      have := List.length_filter_le (fun q : List Nat × Nat => decide (q.2 < c)) (rowWords l)
      show (lay r ((rowWords l).filter fun q => decide (q.2 < c))).length ≤ _
      rw [lay_len]
      refine Nat.le_trans this ?_
      omega
    · show (lay _ _ ++ _).length ≤ _
      rw [List.length_append, lay_len]
      omega
def StopAt (H : Hp) (v : V) : Option (Nat × Nat) → Prop
  | none => v = .non
  | some p => ∃ q, v = .ref q ∧ H q = some (.tup [.int (p.1 : Nat), .int (p.2 : Nat)])
def nl : Str := Str.ofString "\n"
/-- a text whose rows are neither many nor long -/
def Fits (z : Str) (rs : List Str) : Prop := Txt.split z nl = rs ∧ z.length ≤ 100000 ∧ rs.length ≤ 1000 ∧ ∀ r ∈ rs, r.length ≤ 1000
def spScan : Sp := fun vs H Q _ => ∃ (z : Str) (rs : List Str), vs = [.str z] ∧ Fits z rs ∧
  ∀ (H' : Hp) (p wl : Addr) (st : V) (us : List V), Same H H' → H' p = some (.tup [.ref wl, st]) → H' wl = some (.tup us) → AllT fW H' us (scan isWord (rs.map tl)).1 → us.length ≤ 600000 → StopAt H' st (scan isWord (rs.map tl)).2 → Q (.ref p) H'
theorem LS.same {α : Type} {f : α → List V} {H H1 H2 : Hp} {l : Addr} {ps : List α} (h : LS f H H1 l ps) (s : Same H1 H2) : LS f H H2 l ps := by
  obtain ⟨s0, hl, vs, h1, h2⟩ := h
  exact ⟨s0.trans s, hl, vs, s _ _ h1, h2.on (same_tups s)⟩
theorem rw_wlen : ∀ (r cur : List Nat) (k : Nat), ∀ q ∈ rw_ cur k r, q.1.length ≤ cur.length + r.length + 1
  | [], cur, k, q, h => by
    rw [rw_] at h
    unfold flush at h
    split at h
    · simp at h
    · simp at h; subst h; show cur.length ≤ _; omega
  | c :: r, cur, k, q, h => by
    rw [rw_] at h
    rw [List.length_cons]
    split at h
    · rcases List.mem_append.mp h with h | h
      · rcases List.mem_append.mp h with h | h
        · unfold flush at h
          split at h
          · simp at h
          · simp at h; subst h; show cur.length ≤ _; omega
        · split at h
          · simp at h
          · simp at h; subst h; show 1 ≤ _; omega
      · have := rw_wlen r [] (k + 1) q h
        rw [List.length_nil] at this
        omega
    · have := rw_wlen r (cur ++ [c]) (k + 1) q h
      rw [List.length_append] at this
      simp only [List.length_cons, List.length_nil] at this
      omega
def condW : Option Nat → (List Nat × Nat) → Bool
  | none, _ => true
  | some c, q => decide (q.2 < c)
section
variable {P : Program} {w : World} {K : PySem.W.Frag} {mg : Str → Option Value} {base : Heap}
theorem cut300 (xs : List V) : cutV xs none (some (300 : Int)) = xs.take 300 := by
  unfold cutV
  rw [HT.sIx_none, show (300 : Int) = ((300 : Nat) : Int) from rfl, HT.sIx_nat, List.drop_zero, Nat.sub_zero]
  rcases Nat.lt_or_ge 300 xs.length with h | h
  · rw [Nat.min_eq_left (by omega)]
  · rw [Nat.min_eq_right h, List.take_length, List.take_of_length_le h]
end
end My
set_option Elab.async false
set_option linter.all false
set_option maxRecDepth 100000
set_option maxHeartbeats 8000000
namespace My
open PySem L2 SS
/-! ### sorts of things; whether two are the same -/
inductive Srt
  | non | tru | num | txt | tup | oth
deriving DecidableEq
def Srt.w : Srt → Str
  | .non => Str.ofString "none"
  | .tru => Str.ofString "truth"
  | .num => Str.ofString "number"
  | .txt => Str.ofString "text"
  | .tup => Str.ofString "tuple"
  | .oth => Str.ofString "other"
theorem Srt.w_dec (s t : Srt) : decide (V.str s.w = V.str t.w) = decide (s = t) := by cases s <;> cases t <;> decide +kernel
theorem Srt.w_oth (s : Srt) : decide (V.str s.w = V.str (Str.ofString "other")) = decide (s = .oth) := Srt.w_dec s .oth
theorem Srt.w_tup (s : Srt) : decide (V.str s.w = V.str (Str.ofString "tuple")) = decide (s = .tup) := Srt.w_dec s .tup
abbrev TupA (H : Hp) (p : Addr) (xs : List V) : Prop := Rd H p (.tup xs)
inductive ThS (H : Hp) : V → Srt → Prop
  | non : ThS H .non .non
  | tru (b : Bool) : ThS H (.bl b) .tru
  | num (i : Int) : ThS H (.int i) .num
  | txt (z : Str) : ThS H (.str z) .txt
  | tup {p : Addr} {xs : List V} (h : TupA H p xs) : ThS H (.ref p) .tup
  | lst {p : Addr} {xs : List V} (h : H p = some (.lst xs)) : ThS H (.ref p) .oth
  | dK {p : Addr} {kvs : List (Key × V)} (h : H p = some (.dK kvs)) : ThS H (.ref p) .oth
/-- Rd tuples and things stand where tuples, lists, dicts stand -/
def Stds (H H' : Hp) : Prop := ∀ b u, H b = some u → H' b = some u
theorem ThS.same {H H' : Hp} (s : Same H H') {x : V} {t : Srt} (h : ThS H x t) : ThS H' x t := by
  cases h with
  | non => exact .non
  | tru b => exact .tru b
  | num i => exact .num i
  | txt z => exact .txt z
  | tup h => exact .tup (h.elim (fun h => .inl (s _ _ h)) fun ⟨o, h⟩ => .inr ⟨o, s _ _ h⟩)
  | lst h => exact .lst (s _ _ h)
  | dK h => exact .dK (s _ _ h)
theorem TupA.same {H H' : Hp} (s : Same H H') {p : Addr} {xs : List V} (h : TupA H p xs) : TupA H' p xs := h.elim (fun h => .inl (s _ _ h)) fun ⟨o, h⟩ => .inr ⟨o, s _ _ h⟩
theorem TupA.sq {K : PySem.W.Frag} {H : Hp} {p : Addr} {xs : List V} (h : TupA H p xs) : SqT K H p xs := .inl h
/-- the type that isinstance sees -/
def Srt.ty : Srt → String → Prop
  | .non, t => t = "NoneType"
  | .tru, t => t = "bool"
  | .num, t => t = "int"
  | .txt, t => t = "str"
  | .tup, t => t = "tuple"
  | .oth, t => t = "list" ∨ t = "dict"
theorem ThS.ty {K : PySem.W.Frag} {H : Hp} {x : V} {s : Srt} (h : ThS H x s) : ∃ t, TyX K H x (.type t) ∧ s.ty t := by
  cases h with
  | non => exact ⟨_, .base .non, rfl⟩
  | tru b => exact ⟨_, .base (.bl b), rfl⟩
  | num i => exact ⟨_, .base (.int i), rfl⟩
  | txt z => exact ⟨_, .base (.str z), rfl⟩
  | tup h =>
    rcases h with h | ⟨o, h⟩
    · exact ⟨_, .base (.tup h), rfl⟩
    · exact ⟨_, .fTuple h, rfl⟩
  | lst h => exact ⟨_, .base (.lst h), .inl rfl⟩
  | dK h => exact ⟨_, .base (.dK h), .inr rfl⟩
/-- isinstance(x, T) for T a built-in of these four -/
def Srt.isT : Srt → String → Bool
  | .tru, "bool" => true
  | .tru, "int" => true
  | .num, "int" => true
  | .txt, "str" => true
  | .tup, "tuple" => true
  | _, _ => false
theorem Srt.kit {K : PySem.W.Frag} {s : Srt} {t : String} (h : s.ty t) : PySem.W.kitOne K (.type t) (.type "bool") = some (s.isT "bool") ∧ PySem.W.kitOne K (.type t) (.type "int") = some (s.isT "int") ∧ PySem.W.kitOne K (.type t) (.type "str") = some (s.isT "str") ∧ PySem.W.kitOne K (.type t) (.type "tuple") = some (s.isT "tuple") := by
  cases s with
  | oth => rcases h with rfl | rfl <;> exact ⟨rfl, rfl, rfl, rfl⟩
  | non => cases h; exact ⟨rfl, rfl, rfl, rfl⟩
  | tru => cases h; exact ⟨rfl, rfl, rfl, rfl⟩
  | num => cases h; exact ⟨rfl, rfl, rfl, rfl⟩
  | txt => cases h; exact ⟨rfl, rfl, rfl, rfl⟩
  | tup => cases h; exact ⟨rfl, rfl, rfl, rfl⟩
theorem ThS.none {H : Hp} {x : V} {s : Srt} (h : ThS H x s) : decide (x = V.non) = decide (s = .non) := by
  cases h <;> simp
theorem ThS.det {H : Hp} {x : V} {s t : Srt} (h : ThS H x s) (k : ThS H x t) : s = t := by
  have no : ∀ {p : Addr} {xs : List V} {u : HO}, TupA H p xs → H p = some u → (∀ ys, u ≠ .tup ys) → (∀ o v, u ≠ .frz o v) → False := fun {p xs u} h1 h2 n1 n2 => by
    rcases h1 with h1 | ⟨o, h1⟩
    · rw [h1] at h2; cases h2; exact n1 _ rfl
    · rw [h1] at h2; cases h2; exact n2 _ _ rfl
  cases h with
  | non => cases k; rfl
  | tru b => cases k; rfl
  | num i => cases k; rfl
  | txt z => cases k; rfl
  | tup h =>
    cases k with
    | tup _ => rfl
    | lst k => exact (no h k (by intro _ z; cases z) (by intro _ _ z; cases z)).elim
    | dK k => exact (no h k (by intro _ z; cases z) (by intro _ _ z; cases z)).elim
  | lst h =>
    cases k with
    | tup k => exact (no k h (by intro _ z; cases z) (by intro _ _ z; cases z)).elim
    | lst _ => rfl
    | dK _ => rfl
  | dK h =>
    cases k with
    | tup k => exact (no k h (by intro _ z; cases z) (by intro _ _ z; cases z)).elim
    | lst _ => rfl
    | dK _ => rfl
theorem ThS.scal {H : Hp} {x y : V} {s : Srt} (h : ThS H x s) (k : ThS H y s) (n1 : s ≠ .oth) (n2 : s ≠ .tup) : scal x y = true := by
  cases h with
  | non => cases k; rfl
  | tru b => cases k; rfl
  | num i => cases k; rfl
  | txt z => cases k; rfl
  | tup h => exact absurd rfl n2
  | lst h => exact absurd rfl n1
  | dK h => exact absurd rfl n1
theorem dec_int_nat (a b : Nat) : decide (V.int ((a : Nat) : Int) = V.int ((b : Nat) : Int)) = decide (a = b) := by
  by_cases c : a = b
  · subst c; rw [decide_eq_true rfl, decide_eq_true rfl]
  · rw [decide_eq_false c, decide_eq_false fun z => c (by have := V.int.inj z; omega)]
section
variable {P : Program} {w : World} {K : PySem.W.Frag} {mg : Str → Option Value} {base : Heap}
def spSo : Sp := fun vs H Q _ => ∃ (x : V) (s : Srt), vs = [x] ∧ ThS H x s ∧ Q (.str s.w) H
/-- the same by one look: of unlike sorts, plain, or of unlike lengths -/
def SmB (H : Hp) (x y : V) (b : Bool) : Prop := (∃ s t, ThS H x s ∧ ThS H y t ∧ (s = .oth ∨ s ≠ t) ∧ b = false) ∨ (∃ s, ThS H x s ∧ ThS H y s ∧ s ≠ .oth ∧ s ≠ .tup ∧ b = decide (x = y)) ∨
  (∃ (p q : Addr) (xs ys : List V), x = .ref p ∧ y = .ref q ∧ TupA H p xs ∧ TupA H q ys ∧ xs.length ≠ ys.length ∧ b = false)
def SmR (H : Hp) : Nat → V → V → Bool → Prop
  | 0, x, y, b => SmB H x y b
  | d + 1, x, y, b => SmB H x y b ∨ ∃ (p q : Addr) (xs ys : List V) (bs : List Bool), x = .ref p ∧ y = .ref q ∧ TupA H p xs ∧ TupA H q ys ∧ xs.length = ys.length ∧ bs.length = xs.length ∧ xs.length ≤ 100000 ∧ b = bs.all id ∧ ∀ (i : Nat) (u v : V) (c : Bool), xs[i]? = some u → ys[i]? = some v → bs[i]? = some c → SmR H d u v c
theorem SmB.same {H H' : Hp} (s : Same H H') {x y : V} {b : Bool} (h : SmB H x y b) : SmB H' x y b := by
  rcases h with ⟨a, t, h1, h2, r⟩ | ⟨a, h1, h2, r⟩ | ⟨p, q, xs, ys, e1, e2, h1, h2, r⟩
  · exact .inl ⟨a, t, h1.same s, h2.same s, r⟩
  · exact .inr (.inl ⟨a, h1.same s, h2.same s, r⟩)
  · exact .inr (.inr ⟨p, q, xs, ys, e1, e2, TupA.same s h1, TupA.same s h2, r⟩)
theorem SmR.same {H H' : Hp} (s : Same H H') : ∀ (d : Nat) {x y : V} {b : Bool}, SmR H d x y b → SmR H' d x y b
  | 0, x, y, b, h => SmB.same s h
  | d + 1, x, y, b, h => by
    rcases h with h | ⟨p, q, xs, ys, bs, e1, e2, h1, h2, h3, h4, h5, h6, h7⟩
    · exact .inl (h.same s)
    · exact .inr ⟨p, q, xs, ys, bs, e1, e2, TupA.same s h1, TupA.same s h2, h3, h4, h5, h6, fun i u v c a1 a2 a3 => SmR.same s d (h7 i u v c a1 a2 a3)⟩
theorem SmR.look {H : Hp} : ∀ {d : Nat} {x y : V} {b : Bool}, SmB H x y b → SmR H d x y b
  | 0, _, _, _, h => h
  | _ + 1, _, _, _, h => .inl h
def spSa (d : Nat) : Sp := fun vs H Q _ => ∃ (x y : V) (b : Bool), vs = [x, y] ∧ SmR H d x y b ∧ ∀ H', Same H H' → Q (.bl b) H'
def prevSa : Nat → Sp
  | 0 => fun _ _ _ _ => False
  | d + 1 => spSa d
theorem walk_zipT {a b : Addr} {xs ys : List V} {n : Nat} (hn : n = min xs.length ys.length) : Walk (RZ.ItzT K a b) n (fun H => SqT K H a xs ∧ SqT K H b ys) (YPair (fun i => xs[i]?) (fun i => ys[i]?)) := by
  subst hn
  refine ⟨fun i _ hi q => ?_, fun _ q => ⟨xs, ys, q.1, q.2, by omega⟩, fun i H v H' _ q y => ?_⟩
  · have h1 : i < xs.length := by omega
    have h2 : i < ys.length := by omega
    exact ⟨xs, ys, _, _, q.1, q.2, List.getElem?_eq_getElem h1, List.getElem?_eq_getElem h2⟩
  · obtain ⟨T, x, y, h1, h2, h3, h4, h5⟩ := y
    exact ⟨T, x, y, h1, h2, h3, h4 xs q.1, h5 ys q.2⟩
end
end My
set_option Elab.async false
set_option linter.all false
set_option maxRecDepth 100000
set_option maxHeartbeats 4000000
namespace My
open PySem L2 SS
theorem atI_0 {α : Type} {y : α} {ys : List α} : atI (y :: ys) 0 = some y := atI_nat (j := 0) rfl
theorem pick {α : Type} {xs : List V} {n : Nat} (hn : xs.length = n) {f : α → V} {Pz : α → Prop} (h : ∀ v ∈ xs, ∃ z, v = f z ∧ Pz z) {d : Int} (h0 : 0 ≤ d) (h1 : d < ((n : Nat) : Int)) : ∃ z, atI xs d = some (f z) ∧ Pz z := by
  obtain ⟨k, rfl⟩ := Int.eq_ofNat_of_zero_le h0
  have hk : k < xs.length := by omega
  obtain ⟨z, e, hz⟩ := h xs[k] (List.getElem_mem hk)
  exact ⟨z, atI_nat (by rw [← e]; simp), hz⟩
theorem Cc.mono {P : Program} {w : World} {K : PySem.W.Frag} {mg : Str → Option Value} {base : Heap} {CX : CXT} {j k : Nat} {x : Str} {sp : Sp} (c : Cc P w K mg base CX j x sp) (h : j ≤ k) : Cc P w K mg base CX k x sp := by
  obtain ⟨f, fd, ps, F, m, kp, b⟩ := c.ex
  exact ⟨f, fd, ps, F.mono h, m, kp, b⟩
end My
set_option Elab.async false
set_option linter.all false
set_option maxRecDepth 100000
set_option maxHeartbeats 2000000
namespace My
open PySem L2 SS
/-! ### trees of es and statements -/
mutual
inductive Ex : Type
  | num (n : Int) : Ex
  | txt (s : List Nat) : Ex
  | tru (b : Bool) : Ex
  | non : Ex
  | slf : Ex
  | nam (w : List Nat) : Ex
  | fld (w : List Nat) : Ex
  | new (w : List Nat) : Ex
  | send (r : Ex) (m : List Nat) (es : Exs) : Ex
  | up (m : List Nat) (es : Exs) : Ex
  | lst (es : Exs) : Ex
  | blk (ps : List (List Nat)) (ss : Sts) : Ex
inductive Exs : Type
  | nil : Exs
  | cons (e : Ex) (r : Exs) : Exs
inductive St_ : Type
  | set (w : List Nat) (e : Ex) : St_
  | sfl (w : List Nat) (e : Ex) : St_
  | pl (k : List Nat) (e : Ex) : St_
  | iff (e : Ex) (a b : Sts) : St_
  | whl (e : Ex) (a : Sts) : St_
  | tri (a : Sts) (w : List Nat) (b : Sts) : St_
inductive Sts : Type
  | nil : Sts
  | cons (s : St_) (r : Sts) : Sts
end
def wsV (ws : List T) : List V := ws.map fun w => V.str (mk w)
/-- a tuple of texts -/
def AtW (H : Hp) (ws : List T) (v : V) : Prop := ∃ p, v = .ref p ∧ H p = some (.tup (wsV ws))
/-- a tuple of texts, whose methods may be called -/
def AtWb (H : Hp) (ws : List T) (v : V) : Prop := ∃ p, v = .ref p ∧ FrzT H p (wsV ws)
abbrev S_ (s : String) : V := V.str (Str.ofString s)
mutual
def AtE (H : Hp) : Ex → V → Prop
  | .num n, v => ∃ p, v = .ref p ∧ H p = some (.tup [S_ "number", .int n])
  | .txt s, v => ∃ p, v = .ref p ∧ H p = some (.tup [S_ "text", .str (mk s)])
  | .tru b, v => ∃ p, v = .ref p ∧ H p = some (.tup [S_ "truth", .bl b])
  | .non, v => ∃ p, v = .ref p ∧ H p = some (.tup [S_ "none"])
  | .slf, v => ∃ p, v = .ref p ∧ H p = some (.tup [S_ "self"])
  | .nam w, v => ∃ p, v = .ref p ∧ H p = some (.tup [S_ "name", .str (mk w)])
  | .fld w, v => ∃ p, v = .ref p ∧ H p = some (.tup [S_ "field", .str (mk w)])
  | .new w, v => ∃ p, v = .ref p ∧ H p = some (.tup [S_ "new", .str (mk w)])
  | .send r m es, v => ∃ p vr q xs, v = .ref p ∧ H p = some (.tup [S_ "send", vr, .str (mk m), .ref q]) ∧ H q = some (.tup xs) ∧ AtE H r vr ∧ AtEs H es xs
  | .up m es, v => ∃ p q xs, v = .ref p ∧ H p = some (.tup [S_ "up", .str (mk m), .ref q]) ∧ H q = some (.tup xs) ∧ AtEs H es xs
  | .lst es, v => ∃ p q xs, v = .ref p ∧ H p = some (.tup [S_ "list", .ref q]) ∧ H q = some (.tup xs) ∧ AtEs H es xs
  | .blk ps ss, v => ∃ p vw q xs, v = .ref p ∧ H p = some (.tup [S_ "block", vw, .ref q]) ∧ H q = some (.tup xs) ∧ AtWb H ps vw ∧ AtSs H ss xs
def AtEs (H : Hp) : Exs → List V → Prop
  | .nil, xs => xs = []
  | .cons e r, xs => ∃ v vs, xs = v :: vs ∧ AtE H e v ∧ AtEs H r vs
def AtS (H : Hp) : St_ → V → Prop
  | .set w e, v => ∃ p ve, v = .ref p ∧ H p = some (.tup [S_ "set", .str (mk w), ve]) ∧ AtE H e ve
  | .sfl w e, v => ∃ p ve, v = .ref p ∧ H p = some (.tup [S_ "setfield", .str (mk w), ve]) ∧ AtE H e ve
  | .pl k e, v => ∃ p ve, v = .ref p ∧ H p = some (.tup [.str (mk k), ve]) ∧ AtE H e ve
  | .iff e a b, v => ∃ p ve q xs r ys, v = .ref p ∧ H p = some (.tup [S_ "if", ve, .ref q, .ref r]) ∧ H q = some (.tup xs) ∧ H r = some (.tup ys) ∧ AtE H e ve ∧ AtSs H a xs ∧ AtSs H b ys
  | .whl e a, v => ∃ p ve q xs, v = .ref p ∧ H p = some (.tup [S_ "while", ve, .ref q]) ∧ H q = some (.tup xs) ∧ AtE H e ve ∧ AtSs H a xs
  | .tri a w b, v => ∃ p q xs r ys, v = .ref p ∧ H p = some (.tup [S_ "try", .ref q, .str (mk w), .ref r]) ∧ H q = some (.tup xs) ∧ H r = some (.tup ys) ∧ AtSs H a xs ∧ AtSs H b ys
def AtSs (H : Hp) : Sts → List V → Prop
  | .nil, xs => xs = []
  | .cons s r, xs => ∃ v vs, xs = v :: vs ∧ AtS H s v ∧ AtSs H r vs
end
theorem AtW.on {H H' : Hp} {ws : List T} {v : V} (t : Tups H H') (h : AtW H ws v) : AtW H' ws v := by
  obtain ⟨p, e, h⟩ := h
  exact ⟨p, e, t _ _ h⟩
/-- either way -/
def AtWs (H : Hp) (ws : List T) (v : V) : Prop := ∃ p, v = .ref p ∧ Rd H p (.tup (wsV ws))
theorem AtW.s {H : Hp} {ws : List T} {v : V} (h : AtW H ws v) : AtWs H ws v := by
  obtain ⟨p, e, h⟩ := h
  exact ⟨p, e, .inl h⟩
theorem AtWb.s {H : Hp} {ws : List T} {v : V} (h : AtWb H ws v) : AtWs H ws v := by
  obtain ⟨p, e, ob, h, _⟩ := h
  exact ⟨p, e, .inr ⟨ob, h⟩⟩
theorem AtWb.on {H H' : Hp} {ws : List T} {v : V} (t : Tups H H') (h : AtWb H ws v) : AtWb H' ws v := by
  obtain ⟨p, e, ob, h, d⟩ := h
  exact ⟨p, e, ob, t.frz _ _ _ h, d⟩
mutual
theorem AtE.on {H H' : Hp} (t : Tups H H') : ∀ (e : Ex) (v : V), AtE H e v → AtE H' e v
  | .num n, v, ⟨p, e, h⟩ => ⟨p, e, t _ _ h⟩
  | .txt s, v, ⟨p, e, h⟩ => ⟨p, e, t _ _ h⟩
  | .tru b, v, ⟨p, e, h⟩ => ⟨p, e, t _ _ h⟩
  | .non, v, ⟨p, e, h⟩ => ⟨p, e, t _ _ h⟩
  | .slf, v, ⟨p, e, h⟩ => ⟨p, e, t _ _ h⟩
  | .nam w, v, ⟨p, e, h⟩ => ⟨p, e, t _ _ h⟩
  | .fld w, v, ⟨p, e, h⟩ => ⟨p, e, t _ _ h⟩
  | .new w, v, ⟨p, e, h⟩ => ⟨p, e, t _ _ h⟩
  | .send r m es, v, ⟨p, vr, q, xs, e, h1, h2, h3, h4⟩ => ⟨p, vr, q, xs, e, t _ _ h1, t _ _ h2, AtE.on t r vr h3, AtEs.on t es xs h4⟩
  | .up m es, v, ⟨p, q, xs, e, h1, h2, h4⟩ => ⟨p, q, xs, e, t _ _ h1, t _ _ h2, AtEs.on t es xs h4⟩
  | .lst es, v, ⟨p, q, xs, e, h1, h2, h4⟩ => ⟨p, q, xs, e, t _ _ h1, t _ _ h2, AtEs.on t es xs h4⟩
  | .blk ps ss, v, ⟨p, vw, q, xs, e, h1, h2, h3, h4⟩ => ⟨p, vw, q, xs, e, t _ _ h1, t _ _ h2, h3.on t, AtSs.on t ss xs h4⟩
theorem AtEs.on {H H' : Hp} (t : Tups H H') : ∀ (e : Exs) (v : List V), AtEs H e v → AtEs H' e v
  | .nil, xs, h => h
  | .cons e r, xs, ⟨v, vs, h1, h2, h3⟩ => ⟨v, vs, h1, AtE.on t e v h2, AtEs.on t r vs h3⟩
theorem AtS.on {H H' : Hp} (t : Tups H H') : ∀ (s : St_) (v : V), AtS H s v → AtS H' s v
  | .set w e, v, ⟨p, ve, h1, h2, h3⟩ => ⟨p, ve, h1, t _ _ h2, AtE.on t e ve h3⟩
  | .sfl w e, v, ⟨p, ve, h1, h2, h3⟩ => ⟨p, ve, h1, t _ _ h2, AtE.on t e ve h3⟩
  | .pl w e, v, ⟨p, ve, h1, h2, h3⟩ => ⟨p, ve, h1, t _ _ h2, AtE.on t e ve h3⟩
  | .iff e a b, v, ⟨p, ve, q, xs, r, ys, h1, h2, h3, h4, h5, h6, h7⟩ => ⟨p, ve, q, xs, r, ys, h1, t _ _ h2, t _ _ h3, t _ _ h4, AtE.on t e ve h5, AtSs.on t a xs h6, AtSs.on t b ys h7⟩
  | .whl e a, v, ⟨p, ve, q, xs, h1, h2, h3, h5, h6⟩ => ⟨p, ve, q, xs, h1, t _ _ h2, t _ _ h3, AtE.on t e ve h5, AtSs.on t a xs h6⟩
  | .tri a w b, v, ⟨p, q, xs, r, ys, h1, h2, h3, h4, h6, h7⟩ => ⟨p, q, xs, r, ys, h1, t _ _ h2, t _ _ h3, t _ _ h4, AtSs.on t a xs h6, AtSs.on t b ys h7⟩
theorem AtSs.on {H H' : Hp} (t : Tups H H') : ∀ (e : Sts) (v : List V), AtSs H e v → AtSs H' e v
  | .nil, xs, h => h
  | .cons e r, xs, ⟨v, vs, h1, h2, h3⟩ => ⟨v, vs, h1, AtS.on t e v h2, AtSs.on t r vs h3⟩
end
end My
set_option Elab.async false
set_option linter.all false
set_option maxRecDepth 100000
set_option maxHeartbeats 2000000
namespace My
open PySem L2 SS
/-! ### words, measures, what a tree can be -/
abbrev kSay : T := tl "say"
abbrev tk (s : String) : T := tl (Str.ofString s)
def numT (n : Int) : T := tl (numStr n)
abbrev WB := List Nat × Bool
def plainW (ws : List T) : List WB := ws.map fun w => (w, false)
mutual
def wE : Ex → List WB
  | .num n => [(numT n, true)]
  | .txt s => [(39 :: s, true)]
  | .tru true => [(tk "true", true)]
  | .tru false => [(tk "false", true)]
  | .non => [(tk "none", true)]
  | .slf => [(tk "self", true)]
  | .nam w => [(w, true)]
  | .fld w => [(64 :: w, true)]
  | .new w => [(tk "new", true), (w, false)]
  | .send r m es => (tk "(", true) :: (wE r ++ (m, false) :: (wEs es ++ [(tk ")", false)]))
  | .up m es => (tk "(", true) :: (tk "up", false) :: (m, false) :: (wEs es ++ [(tk ")", false)])
  | .lst es => (tk "[", true) :: (wEs es ++ [(tk "]", false)])
  | .blk ps ss => (tk "{", true) :: (plainW ps ++ (tk "|", false) :: (wSs ss ++ [(tk "}", false)]))
def wEs : Exs → List WB
  | .nil => []
  | .cons e r => wE e ++ wEs r
def wS : St_ → List WB
  | .set w e => (w, true) :: (tk ":=", false) :: wE e
  | .sfl w e => (64 :: w, true) :: (tk ":=", false) :: wE e
  | .pl k e => (k, true) :: wE e
  | .iff e a b => (tk "if", true) :: (wE e ++ (tk "then", false) :: (wSs a ++ (tk "else", false) :: (wSs b ++ [(tk "end", false)])))
  | .whl e a => (tk "while", true) :: (wE e ++ (tk "then", false) :: (wSs a ++ [(tk "end", false)]))
  | .tri a w b => (tk "try", true) :: (wSs a ++ (tk "taken", false) :: (w, false) :: (wSs b ++ [(tk "end", false)]))
def wSs : Sts → List WB
  | .nil => []
  | .cons s r => wS s ++ wSs r
end
mutual
/-- how many are open within one another -/
def oE : Ex → Nat
  | .send r _ es => 1 + max (oE r) (oEs es)
  | .up _ es => 1 + oEs es
  | .lst es => 1 + oEs es
  | .blk _ ss => 1 + oSs ss
  | _ => 0
def oEs : Exs → Nat
  | .nil => 0
  | .cons e r => max (oE e) (oEs r)
def oS : St_ → Nat
  | .set _ e => oE e
  | .sfl _ e => oE e
  | .pl _ e => oE e
  | .iff e a b => 1 + max (oE e) (max (oSs a) (oSs b))
  | .whl e a => 1 + max (oE e) (oSs a)
  | .tri a _ b => 1 + max (oSs a) (oSs b)
def oSs : Sts → Nat
  | .nil => 0
  | .cons s r => max (oS s) (oSs r)
end
mutual
/-- how many nodes -/
def nE : Ex → Nat
  | .send r _ es => 1 + nE r + nEs es
  | .up _ es => 1 + nEs es
  | .lst es => 1 + nEs es
  | .blk _ ss => 1 + nSs ss
  | _ => 1
def nEs : Exs → Nat
  | .nil => 0
  | .cons e r => nE e + nEs r
def nS : St_ → Nat
  | .set _ e => 1 + nE e
  | .sfl _ e => 1 + nE e
  | .pl _ e => 1 + nE e
  | .iff e a b => 1 + nE e + nSs a + nSs b
  | .whl e a => 1 + nE e + nSs a
  | .tri a _ b => 1 + nSs a + nSs b
def nSs : Sts → Nat
  | .nil => 0
  | .cons s r => nS s + nSs r
end
def cE : Exs → Nat
  | .nil => 0
  | .cons _ r => 1 + cE r
def cS : Sts → Nat
  | .nil => 0
  | .cons _ r => 1 + cS r
def isMsg (w : T) : Bool := isFree w || inS [mk [43], mk [45], mk [42], mk [47], mk [60], mk [61]] w
def isPl (w : T) : Bool := inS ["do", "say", "return", "raise"] w
mutual
def okE : Ex → Prop
  | .num n => -1000000000000 < n ∧ n < 1000000000000
  | .txt s => isText s = true
  | .nam w => isFree w = true
  | .fld w => isFree w = true
  | .new w => isKindName w = true
  | .send r m es => isMsg m = true ∧ okE r ∧ okEs es
  | .up m es => isFree m = true ∧ okEs es
  | .lst es => okEs es
  | .blk ps ss => ps.length ≤ 2 ∧ (∀ w ∈ ps, isFree w = true) ∧ okSs ss
  | _ => True
def okEs : Exs → Prop
  | .nil => True
  | .cons e r => okE e ∧ okEs r
def okS : St_ → Prop
  | .set w e => isFree w = true ∧ okE e
  | .sfl w e => isFree w = true ∧ okE e
  | .pl k e => isPl k = true ∧ okE e
  | .iff e a b => okE e ∧ okSs a ∧ okSs b
  | .whl e a => okE e ∧ okSs a
  | .tri a w b => isFree w = true ∧ okSs a ∧ okSs b
def okSs : Sts → Prop
  | .nil => True
  | .cons s r => okS s ∧ okSs r
end
/-- what words weigh in a layout -/
def wt (ws : List WB) : Nat := (ws.map fun q => q.1.length + 3).sum
theorem wt_app (a b : List WB) : wt (a ++ b) = wt a + wt b := by unfold wt; rw [List.map_append, List.sum_append]
theorem wt_cons (q : WB) (b : List WB) : wt (q :: b) = q.1.length + 3 + wt b := by unfold wt; rw [List.map_cons, List.sum_cons]
theorem wt_nil : wt [] = 0 := rfl
theorem free_len {w : T} (h : isFree w = true) : w.length ≤ 12 := by
  unfold isFree isSmall isName at h
  simp only [Bool.and_eq_true, decide_eq_true_eq] at h
  exact h.1.1.2
theorem kind_len {w : T} (h : isKindName w = true) : w.length ≤ 12 := by
  unfold isKindName isName at h
  simp only [Bool.and_eq_true, decide_eq_true_eq] at h
  exact h.1.2
theorem text_len {w : T} (h : isText w = true) : w.length ≤ 40 := by
  unfold isText at h
  simp only [Bool.and_eq_true, decide_eq_true_eq] at h
  exact h.1
theorem inS_len {zs : List Str} {w : T} {n : Nat} (hz : ∀ z ∈ zs, z.length ≤ n) (h : inS zs w = true) : w.length ≤ n := by
  unfold inS at h
  obtain ⟨z, hz1, hz2⟩ := List.any_eq_true.mp h
  have e := eq_of_beq hz2
  have := hz z hz1
  rw [e, mk_len] at this
  exact this
theorem msg_len {w : T} (h : isMsg w = true) : w.length ≤ 12 := by
  unfold isMsg at h
  rcases Bool.or_eq_true_iff.mp h with h | h
  · exact free_len h
  · have := inS_len (n := 1) (by decide +kernel) h
    omega
theorem pl_len {w : T} (h : isPl w = true) : w.length ≤ 6 := inS_len (by decide +kernel) h
end My
set_option Elab.async false
set_option linter.all false
set_option maxRecDepth 100000
set_option maxHeartbeats 2000000
namespace My
open PySem L2 SS
theorem ofS_app (a b : String) : tl (Str.ofString (a ++ b)) = tl (Str.ofString a) ++ tl (Str.ofString b) := by
  rw [Str.ofString_eq_toList, Str.ofString_eq_toList, Str.ofString_eq_toList]
  show (((a ++ b).toList.map Char.toNat).toArray).toList = (a.toList.map Char.toNat).toArray.toList ++ (b.toList.map Char.toNat).toArray.toList
  simp
theorem numT_neg (m : Nat) : numT (Int.negSucc m) = 45 :: TL.numL (m + 1) := by
  have e2 : toString (Int.negSucc m) = "-" ++ toString (((m + 1 : Nat) : Nat) : Int) := rfl
  show tl (Str.ofString (toString (Int.negSucc m))) = _
  rw [e2, ofS_app]
  have e3 : tl (Str.ofString (toString ((m + 1 : Nat) : Int))) = TL.numL (m + 1) := TL.tl_num (m + 1)
  rw [e3]
  have e4 : tl (Str.ofString "-") = [45] := by decide +kernel
  rw [e4]
  rfl
theorem numT_pos (m : Nat) : numT ((m : Nat) : Int) = TL.numL m := TL.tl_num m
theorem numL_head {m : Nat} : ∃ c r, TL.numL m = c :: r ∧ 48 ≤ c ∧ c ≤ 57 := by
  cases e : TL.numL m with
  | nil => exact absurd e (TL.numL_ne m)
  | cons c r =>
    have := TL.numL_digits m c (by rw [e]; exact List.mem_cons_self)
    exact ⟨c, r, rfl, this.1, this.2⟩
/-- figures of a number are read back -/
theorem numT_back (n : Int) : numOf (numT n) = n ∧ NumText.AllDigits (figsOf (numT n)) ∧ figsOf (numT n) ≠ [] := by
  cases n with
  | ofNat m =>
    have e : numT (Int.ofNat m) = TL.numL m := TL.tl_num m
    obtain ⟨c, r, hc, h1, h2⟩ := numL_head (m := m)
    have hv := TL.numL_val m
    have hd := TL.numL_digits m
    rw [e]
    rw [hc] at hv hd ⊢
    have n45 : c ≠ 45 := by omega
    have ef : figsOf (c :: r) = c :: r := by
      unfold figsOf
      split
      · rename_i h; injection h with h; exact absurd h n45
      · rfl
    have eo : numOf (c :: r) = ((NumText.digitsVal (c :: r) : Nat) : Int) := by
      unfold numOf
      split
      · rename_i h; injection h with h; exact absurd h n45
      · rfl
    rw [ef, eo, hv]
    exact ⟨rfl, hd, by simp⟩
  | negSucc m =>
    rw [numT_neg]
    show -((NumText.digitsVal (TL.numL (m + 1)) : Nat) : Int) = _ ∧ NumText.AllDigits (TL.numL (m + 1)) ∧ TL.numL (m + 1) ≠ []
    rw [TL.numL_val]
    exact ⟨rfl, TL.numL_digits _, TL.numL_ne _⟩
theorem numT_len {n : Int} (h1 : -1000000000000 < n) (h2 : n < 1000000000000) : (numT n).length ≤ 13 := by
  cases n with
  | ofNat m =>
    have e : numT (Int.ofNat m) = TL.numL m := TL.tl_num m
    rw [e]
    have := TL.numL_len (n := m) (k := 12) (by decide) (by have : (Int.ofNat m) = (m : Int) := rfl; omega)
    omega
  | negSucc m =>
    have e := numT_neg m
    rw [e]
    have := TL.numL_len (n := m + 1) (k := 12) (by decide) (by omega)
    rw [List.length_cons]
    omega
theorem plainW_len (ps : List T) : (plainW ps).length = ps.length := List.length_map _
theorem plainW_wt : ∀ (ps : List T), (∀ w ∈ ps, isFree w = true) → wt (plainW ps) ≤ 15 * ps.length
  | [], _ => by simp [plainW, wt]
  | w :: ps, h => by
    have h1 := free_len (h w List.mem_cons_self)
    have h2 := plainW_wt ps fun x hx => h x (List.mem_cons_of_mem _ hx)
    show wt ((w, false) :: plainW ps) ≤ _
    rw [wt_cons, List.length_cons]
    show w.length + 3 + wt (plainW ps) ≤ _
    omega
theorem tkl : (tk "true").length = 4 ∧ (tk "false").length = 5 ∧ (tk "none").length = 4 ∧ (tk "self").length = 4 ∧ (tk "new").length = 3 ∧ (tk "(").length = 1 ∧ (tk ")").length = 1 ∧ (tk "up").length = 2 ∧ (tk "[").length = 1 ∧ (tk "]").length = 1 ∧ (tk "{").length = 1 ∧ (tk "}").length = 1 ∧ (tk "|").length = 1 ∧ (tk ":=").length = 2 ∧ (tk "if").length = 2 ∧ (tk "then").length = 4 ∧ (tk "else").length = 4 ∧ (tk "end").length = 3 ∧ (tk "while").length = 5 ∧ (tk "try").length = 3 ∧ (tk "taken").length = 5 := by decide +kernel
mutual
theorem wE_b : ∀ e : Ex, okE e → (wE e).length ≤ 5 * nE e ∧ wt (wE e) ≤ 44 * nE e
  | .num n, h => by
    have := numT_len h.1 h.2
    simp only [wE, nE, wt_cons, wt_nil, List.length_cons, List.length_nil]
    omega
  | .txt s, h => by
    have := text_len h
    simp only [wE, nE, wt_cons, wt_nil, List.length_cons, List.length_nil]
    omega
  | .tru true, h => by
    have := tkl
    simp only [wE, nE, wt_cons, wt_nil, List.length_cons, List.length_nil]
    omega
  | .tru false, h => by
    have := tkl
    simp only [wE, nE, wt_cons, wt_nil, List.length_cons, List.length_nil]
    omega
  | .non, h => by
    have := tkl
    simp only [wE, nE, wt_cons, wt_nil, List.length_cons, List.length_nil]
    omega
  | .slf, h => by
    have := tkl
    simp only [wE, nE, wt_cons, wt_nil, List.length_cons, List.length_nil]
    omega
  | .nam w, h => by
    have := free_len h
    simp only [wE, nE, wt_cons, wt_nil, List.length_cons, List.length_nil]
    omega
  | .fld w, h => by
    have := free_len h
    simp only [wE, nE, wt_cons, wt_nil, List.length_cons, List.length_nil]
    omega
  | .new w, h => by
    have := kind_len h
    have := tkl
    simp only [wE, nE, wt_cons, wt_nil, List.length_cons, List.length_nil]
    omega
  | .send r m es, h => by
    have h0 := msg_len h.1
    have h1 := wE_b r h.2.1
    have h2 := wEs_b es h.2.2
    have := tkl
    simp only [wE, nE, wt_cons, wt_app, wt_nil, List.length_cons, List.length_append, List.length_nil]
    omega
  | .up m es, h => by
    have h0 := free_len h.1
    have h2 := wEs_b es h.2
    have := tkl
    simp only [wE, nE, wt_cons, wt_app, wt_nil, List.length_cons, List.length_append, List.length_nil]
    omega
  | .lst es, h => by
    have h2 := wEs_b es h
    have := tkl
    simp only [wE, nE, wt_cons, wt_app, wt_nil, List.length_cons, List.length_append, List.length_nil]
    omega
  | .blk ps ss, h => by
    have h0 := h.1
    have h1 := plainW_wt ps h.2.1
    have h2 := wSs_b ss h.2.2
    have := tkl
    have := plainW_len ps
    simp only [wE, nE, wt_cons, wt_app, wt_nil, List.length_cons, List.length_append, List.length_nil]
    omega
theorem wEs_b : ∀ e : Exs, okEs e → (wEs e).length ≤ 5 * nEs e ∧ wt (wEs e) ≤ 44 * nEs e
  | .nil, _ => by simp [wEs, nEs, wt]
  | .cons e r, h => by
    have h1 := wE_b e h.1
    have h2 := wEs_b r h.2
    simp only [wEs, nEs, wt_app, List.length_append]
    omega
theorem wS_b : ∀ s : St_, okS s → (wS s).length ≤ 5 * nS s ∧ wt (wS s) ≤ 44 * nS s
  | .set w e, h => by
    have h0 := free_len h.1
    have h1 := wE_b e h.2
    have := tkl
    simp only [wS, nS, wt_cons, wt_app, wt_nil, List.length_cons, List.length_append, List.length_nil]
    omega
  | .sfl w e, h => by
    have h0 := free_len h.1
    have h1 := wE_b e h.2
    have := tkl
    simp only [wS, nS, wt_cons, wt_app, wt_nil, List.length_cons, List.length_append, List.length_nil]
    omega
  | .pl w e, h => by
    have h0 := pl_len h.1
    have h1 := wE_b e h.2
    have := tkl
    simp only [wS, nS, wt_cons, wt_app, wt_nil, List.length_cons, List.length_append, List.length_nil]
    omega
  | .iff e a b, h => by
    have h1 := wE_b e h.1
    have h2 := wSs_b a h.2.1
    have h3 := wSs_b b h.2.2
    have := tkl
    simp only [wS, nS, wt_cons, wt_app, wt_nil, List.length_cons, List.length_append, List.length_nil]
    omega
  | .whl e a, h => by
    have h1 := wE_b e h.1
    have h2 := wSs_b a h.2
    have := tkl
    simp only [wS, nS, wt_cons, wt_app, wt_nil, List.length_cons, List.length_append, List.length_nil]
    omega
  | .tri a w b, h => by
    have h1 := free_len h.1
    have h2 := wSs_b a h.2.1
    have h3 := wSs_b b h.2.2
    have := tkl
    simp only [wS, nS, wt_cons, wt_app, wt_nil, List.length_cons, List.length_append, List.length_nil]
    omega
theorem wSs_b : ∀ e : Sts, okSs e → (wSs e).length ≤ 5 * nSs e ∧ wt (wSs e) ≤ 44 * nSs e
  | .nil, _ => by simp [wSs, nSs, wt]
  | .cons e r, h => by
    have h1 := wS_b e h.1
    have h2 := wSs_b r h.2
    simp only [wSs, nSs, wt_app, List.length_append]
    omega
end
end My
set_option Elab.async false
set_option linter.all false
set_option maxRecDepth 100000
set_option maxHeartbeats 2000000
namespace My
open PySem L2 SS
def Exs.snoc : Exs → Ex → Exs
  | .nil, e => .cons e .nil
  | .cons x r, e => .cons x (r.snoc e)
def Sts.snoc : Sts → St_ → Sts
  | .nil, e => .cons e .nil
  | .cons x r, e => .cons x (r.snoc e)
theorem Exs.at_snoc {H : Hp} : ∀ {es : Exs} {vs : List V} {e : Ex} {v : V}, AtEs H es vs → AtE H e v → AtEs H (es.snoc e) (vs ++ [v])
  | .nil, vs, e, v, h, he => by
    have h' : vs = [] := h
    subst h'
    exact ⟨v, [], rfl, he, rfl⟩
  | .cons x r, vs, e, v, ⟨u, us, h1, h2, h3⟩, he => by
    subst h1
    exact ⟨u, us ++ [v], rfl, h2, Exs.at_snoc h3 he⟩
theorem Sts.at_snoc {H : Hp} : ∀ {es : Sts} {vs : List V} {e : St_} {v : V}, AtSs H es vs → AtS H e v → AtSs H (es.snoc e) (vs ++ [v])
  | .nil, vs, e, v, h, he => by
    have h' : vs = [] := h
    subst h'
    exact ⟨v, [], rfl, he, rfl⟩
  | .cons x r, vs, e, v, ⟨u, us, h1, h2, h3⟩, he => by
    subst h1
    exact ⟨u, us ++ [v], rfl, h2, Sts.at_snoc h3 he⟩
theorem Exs.snoc_n : ∀ (es : Exs) (e : Ex), nEs (es.snoc e) = nEs es + nE e ∧ oEs (es.snoc e) = max (oEs es) (oE e) ∧ (okEs (es.snoc e) ↔ okEs es ∧ okE e) ∧ cE (es.snoc e) = cE es + 1 ∧ wEs (es.snoc e) = wEs es ++ wE e
  | .nil, e => by simp [Exs.snoc, nEs, oEs, okEs, cE, wEs]
  | .cons x r, e => by
    obtain ⟨h1, h2, h3, h4, h5⟩ := Exs.snoc_n r e
    simp only [Exs.snoc, nEs, oEs, okEs, cE, wEs, h1, h2, h3, h4, h5]
    refine ⟨by omega, by omega, by rw [and_assoc], by omega, by rw [List.append_assoc]⟩
theorem Sts.snoc_n : ∀ (es : Sts) (e : St_), nSs (es.snoc e) = nSs es + nS e ∧ oSs (es.snoc e) = max (oSs es) (oS e) ∧ (okSs (es.snoc e) ↔ okSs es ∧ okS e) ∧ cS (es.snoc e) = cS es + 1 ∧ wSs (es.snoc e) = wSs es ++ wS e
  | .nil, e => by simp [Sts.snoc, nSs, oSs, okSs, cS, wSs]
  | .cons x r, e => by
    obtain ⟨h1, h2, h3, h4, h5⟩ := Sts.snoc_n r e
    simp only [Sts.snoc, nSs, oSs, okSs, cS, wSs, h1, h2, h3, h4, h5]
    refine ⟨by omega, by omega, by rw [and_assoc], by omega, by rw [List.append_assoc]⟩
theorem AtEs.len {H : Hp} : ∀ {es : Exs} {vs : List V}, AtEs H es vs → vs.length = cE es
  | .nil, vs, h => by
    have h' : vs = [] := h
    subst h'
    rfl
  | .cons x r, vs, ⟨u, us, h1, h2, h3⟩ => by
    subst h1
    rw [List.length_cons, AtEs.len h3, cE]
    omega
theorem AtSs.len {H : Hp} : ∀ {es : Sts} {vs : List V}, AtSs H es vs → vs.length = cS es
  | .nil, vs, h => by
    have h' : vs = [] := h
    subst h'
    rfl
  | .cons x r, vs, ⟨u, us, h1, h2, h3⟩ => by
    subst h1
    rw [List.length_cons, AtSs.len h3, cS]
    omega
theorem AtE.on_ {H H' : Hp} {e : Ex} {v : V} (h : AtE H e v) (t : Tups H H') : AtE H' e v := AtE.on t e v h
theorem AtEs.on_ {H H' : Hp} {e : Exs} {v : List V} (h : AtEs H e v) (t : Tups H H') : AtEs H' e v := AtEs.on t e v h
theorem AtS.on_ {H H' : Hp} {e : St_} {v : V} (h : AtS H e v) (t : Tups H H') : AtS H' e v := AtS.on t e v h
theorem AtSs.on_ {H H' : Hp} {e : Sts} {v : List V} (h : AtSs H e v) (t : Tups H H') : AtSs H' e v := AtSs.on t e v h
/-- all stands but what is at p -/
def SB (p : Addr) (H H' : Hp) : Prop := ∀ b u, b ≠ p → H b = some u → H' b = some u
theorem SB.refl {p : Addr} {H : Hp} : SB p H H := fun _ _ _ h => h
theorem SB.trans {p : Addr} {H H1 H2 : Hp} (a : SB p H H1) (b : SB p H1 H2) : SB p H H2 := fun q u n h => b q u n (a q u n h)
theorem SB.same {p : Addr} {H H' : Hp} (s : Same H H') : SB p H H' := fun q u _ h => s q u h
theorem SB.upd {p : Addr} {H : Hp} (o : HO) : SB p H (upd H p o) := fun q u n h => by rw [upd_ne n]; exact h
theorem SB.tups {p : Addr} {H H' : Hp} {xs : List V} (s : SB p H H') (h : H p = some (.lst xs)) : Tups H H' := ⟨fun q ys e => s q _ (fun z => by rw [z, h] at e; cases e) e, fun q o_ u_ e => s q _ (fun z => by rw [z, h] at e; cases e) e⟩
end My
set_option Elab.async false
set_option linter.all false
set_option maxRecDepth 100000
set_option maxHeartbeats 8000000
namespace My
open PySem L2 SS
/-! methods; rows of values -/
structure Me where
  m : List Nat
  ps : List (List Nat)
  ss : Sts
def AtM (H : Hp) (m : Me) (v : V) : Prop := ∃ p vw q xs, v = .ref p ∧ H p = some (.tup [S_ "method", .str (mk m.m), vw, .ref q]) ∧ AtW H m.ps vw ∧ H q = some (.tup xs) ∧ AtSs H m.ss xs
theorem AtM.on {H H' : Hp} (t : Tups H H') {m : Me} {v : V} (h : AtM H m v) : AtM H' m v := by
  obtain ⟨p, vw, q, xs, e, h1, h2, h3, h4⟩ := h
  exact ⟨p, vw, q, xs, e, t _ _ h1, h2.on t, t _ _ h3, h4.on_ t⟩
/-- a row of things in a row of values -/
def AtL {α : Type} (R : Hp → α → V → Prop) (H : Hp) : List α → List V → Prop
  | [], vs => vs = []
  | x :: r, vs => ∃ v us, vs = v :: us ∧ R H x v ∧ AtL R H r us
theorem AtL.snoc {α : Type} {R : Hp → α → V → Prop} {H : Hp} : ∀ {xs : List α} {vs : List V} {x : α} {v : V}, AtL R H xs vs → R H x v → AtL R H (xs ++ [x]) (vs ++ [v])
  | [], vs, x, v, h, hx => by
    have h' : vs = [] := h
    subst h'
    exact ⟨v, [], rfl, hx, rfl⟩
  | y :: r, vs, x, v, ⟨u, us, h1, h2, h3⟩, hx => by
    subst h1
    exact ⟨u, us ++ [v], rfl, h2, AtL.snoc h3 hx⟩
theorem AtL.onR {α : Type} {R : Hp → α → V → Prop} {H H' : Hp} (hR : ∀ x v, R H x v → R H' x v) : ∀ {xs : List α} {vs : List V}, AtL R H xs vs → AtL R H' xs vs
  | [], vs, h => h
  | y :: r, vs, ⟨u, us, h1, h2, h3⟩ => ⟨u, us, h1, hR y u h2, AtL.onR hR h3⟩
theorem AtL.on {α : Type} {R : Hp → α → V → Prop} {H H' : Hp} (_ : Tups H H') (hR : ∀ x v, R H x v → R H' x v) {xs : List α} {vs : List V} (h : AtL R H xs vs) : AtL R H' xs vs := AtL.onR hR h
theorem AtL.len {α : Type} {R : Hp → α → V → Prop} {H : Hp} : ∀ {xs : List α} {vs : List V}, AtL R H xs vs → vs.length = xs.length
  | [], vs, h => by
    have h' : vs = [] := h
    subst h'
    rfl
  | y :: r, vs, ⟨u, us, h1, h2, h3⟩ => by
    subst h1
    rw [List.length_cons, List.length_cons, AtL.len h3]
/-! the machine's rows -/
abbrev Rw := List V
abbrev iV (n : Nat) : V := V.int (n : Nat)
/-- how many surroundings outward a name stands, and its number there -/
def findN (w : T) : List (List T) → Nat × Nat
  | [] => (0, 0)
  | ps :: r => if w ∈ ps then (0, ps.idxOf w) else ((findN w r).1 + 1, (findN w r).2)
mutual
def rwE (sur : List (List T)) : Ex → Nat → List Rw
  | .num n, a => [[iV a, S_ "push", .int n]]
  | .txt s, a => [[iV a, S_ "push", .str (mk s)]]
  | .tru b, a => [[iV a, S_ "push", .bl b]]
  | .non, a => [[iV a, S_ "push", .non]]
  | .slf, a => [[iV a, S_ "self"]]
  | .nam w, a => [[iV a, S_ "name", iV (findN w sur).1, iV (findN w sur).2]]
  | .fld w, a => [[iV a, S_ "field", .str (mk w)]]
  | .new w, a => [[iV a, S_ "new", .str (mk w)]]
  | .send r m es, a => rwE sur r (a + 1) ++ rwEs sur es (a + 1 + nE r) ++ [[iV a, S_ "send", .str (mk m), iV (cE es)]]
  | .up m es, a => rwEs sur es (a + 1) ++ [[iV a, S_ "up", .str (mk m), iV (cE es)]]
  | .lst es, a => rwEs sur es (a + 1) ++ [[iV a, S_ "list", iV (cE es)]]
  | .blk _ _, a => [[iV a, S_ "block", iV a]]
def rwEs (sur : List (List T)) : Exs → Nat → List Rw
  | .nil, _ => []
  | .cons e r, a => rwE sur e a ++ rwEs sur r (a + nE e)
end
def plW (k : T) : T := if k = tk "do" then tk "drop" else k
mutual
/-- the rows of a statement with number a, from row o on -/
def rwS (sur : List (List T)) : St_ → Nat → Nat → List Rw
  | .set w e, a, _ => [[iV a, S_ "beat"]] ++ rwE sur e (a + 1) ++ [[iV a, S_ "setname", iV (findN w sur).1, iV (findN w sur).2]]
  | .sfl w e, a, _ => [[iV a, S_ "beat"]] ++ rwE sur e (a + 1) ++ [[iV a, S_ "setfield", .str (mk w)]]
  | .pl k e, a, _ => [[iV a, S_ "beat"]] ++ rwE sur e (a + 1) ++ [[iV a, .str (mk (plW k))]]
  | .iff e x y, a, o =>
    let E := rwE sur e (a + 1)
    let X := rwSs sur x (a + 1 + nE e) (o + 2 + E.length)
    let Y := rwSs sur y (a + 1 + nE e + nSs x) (o + 3 + E.length + X.length)
    [[iV a, S_ "beat"]] ++ E ++ [[iV a, S_ "unless", iV (o + 3 + E.length + X.length)]] ++ X ++ [[iV a, S_ "jump", iV (o + 3 + E.length + X.length + Y.length)]] ++ Y
  | .whl e x, a, o =>
    let E := rwE sur e (a + 1)
    let X := rwSs sur x (a + 1 + nE e) (o + 2 + E.length)
    [[iV a, S_ "beat"]] ++ E ++ [[iV a, S_ "unless", iV (o + 3 + E.length + X.length)]] ++ X ++ [[iV a, S_ "jump", iV o]]
  | .tri x w y, a, o =>
    let X := rwSs sur x (a + 1) (o + 2)
    let Y := rwSs sur y (a + 1 + nSs x) (o + 5 + X.length)
    [[iV a, S_ "beat"], [iV a, S_ "try", iV (o + 4 + X.length)]] ++ X ++ [[iV a, S_ "untry"], [iV a, S_ "jump", iV (o + 5 + X.length + Y.length)], [iV a, S_ "setname", iV (findN w sur).1, iV (findN w sur).2]] ++ Y
def rwSs (sur : List (List T)) : Sts → Nat → Nat → List Rw
  | .nil, _, _ => []
  | .cons s r, a, o => rwS sur s a o ++ rwSs sur r (a + nS s) (o + (rwS sur s a o).length)
end
/-- a row as a tuple -/
def AtRw (H : Hp) (r : Rw) (v : V) : Prop := ∃ p, v = .ref p ∧ H p = some (.tup r)
theorem AtRw.on {H H' : Hp} {r : Rw} {v : V} (t : Tups H H') (h : AtRw H r v) : AtRw H' r v := by
  obtain ⟨p, e, h⟩ := h
  exact ⟨p, e, t _ _ h⟩
/-! names of a method: parameters, then what is set or taken, in the order of nodes, but for what a block around has -/
mutual
def stE (hid : List T) : Ex → List T
  | .send r _ es => stE hid r ++ stEs hid es
  | .up _ es => stEs hid es
  | .lst es => stEs hid es
  | .blk ps ss => stSs (ps ++ hid) ss
  | _ => []
def stEs (hid : List T) : Exs → List T
  | .nil => []
  | .cons e r => stE hid e ++ stEs hid r
def stS (hid : List T) : St_ → List T
  | .set w e => (if w ∈ hid then [] else [w]) ++ stE hid e
  | .sfl _ e => stE hid e
  | .pl _ e => stE hid e
  | .iff e a b => stE hid e ++ stSs hid a ++ stSs hid b
  | .whl e a => stE hid e ++ stSs hid a
  | .tri a w b => (if w ∈ hid then [] else [w]) ++ stSs hid a ++ stSs hid b
def stSs (hid : List T) : Sts → List T
  | .nil => []
  | .cons s r => stS hid s ++ stSs hid r
end
def addW (acc : List T) (ws : List T) : List T := ws.foldl (fun acc w => if w ∈ acc then acc else acc ++ [w]) acc
def namesM (m : Me) : List T := addW m.ps (stSs [] m.ss)
/-- the machine's rows of a method -/
def rowsM (m : Me) : List Rw := rwSs [namesM m] m.ss 0 0 ++ [[V.int (-1), S_ "push", .non], [V.int (-1), S_ "return"]]
/-! names stand -/
def inSur (w : T) (sur : List (List T)) : Prop := ∃ ns ∈ sur, w ∈ ns
mutual
def sdE (sur : List (List T)) : Ex → Prop
  | .num n => -1000000000000 < n ∧ n < 1000000000000
  | .txt s => s.length ≤ 40
  | .nam w => inSur w sur
  | .send r _ es => sdE sur r ∧ sdEs sur es
  | .up _ es => sdEs sur es
  | .lst es => sdEs sur es
  | .blk ps ss => ps.Nodup ∧ ps.length ≤ 4 ∧ sdSs (ps :: sur) ss
  | _ => True
def sdEs (sur : List (List T)) : Exs → Prop
  | .nil => True
  | .cons e r => sdE sur e ∧ sdEs sur r
def sdS (sur : List (List T)) : St_ → Prop
  | .set w e => inSur w sur ∧ sdE sur e
  | .sfl _ e => sdE sur e
  | .pl k e => isPl k = true ∧ sdE sur e
  | .iff e a b => sdE sur e ∧ sdSs sur a ∧ sdSs sur b
  | .whl e a => sdE sur e ∧ sdSs sur a
  | .tri a w b => inSur w sur ∧ sdSs sur a ∧ sdSs sur b
def sdSs (sur : List (List T)) : Sts → Prop
  | .nil => True
  | .cons s r => sdS sur s ∧ sdSs sur r
end
/-- a method whose rows can be told -/
structure okR (m : Me) : Prop where
  pd : m.ps.Nodup
  pl : m.ps.length ≤ 4
  ss : sdSs [namesM m] m.ss
  n : nSs m.ss ≤ 1000
  o : oSs m.ss ≤ 13
/-- rows_of, of the method itself -/
def spRo : Sp := fun vs H Q _ => ∃ (m : Me) (v : V), vs = [v, .int (-1)] ∧ AtM H m v ∧ okR m ∧ ∀ (H' : Hp) (p : Addr) (us : List V), Same H H' → H' p = some (.tup us) → AtL AtRw H' (rowsM m) us → Q (.ref p) H'
end My
set_option Elab.async false
set_option linter.all false
set_option maxRecDepth 100000
set_option maxHeartbeats 8000000
namespace My
open PySem L2 SS
/-! es without blocks, by names that are there -/
mutual
def gE (ns : List T) : Ex → Prop
  | .num n => -1000000000000 < n ∧ n < 1000000000000
  | .txt s => s.length ≤ 40
  | .nam w => w ∈ ns
  | .send r _ es => gE ns r ∧ gEs ns es
  | .up _ es => gEs ns es
  | .lst es => gEs ns es
  | .blk _ _ => False
  | _ => True
def gEs (ns : List T) : Exs → Prop
  | .nil => True
  | .cons e r => gE ns e ∧ gEs ns r
end
theorem gEs.snoc {ns : List T} : ∀ {es : Exs} {e : Ex}, gEs ns es → gE ns e → gEs ns (es.snoc e)
  | .nil, e, _, h => ⟨h, trivial⟩
  | .cons x r, e, ⟨h1, h2⟩, h => ⟨h1, gEs.snoc h2 h⟩
theorem wsV_at {ws : List T} {d : Int} (h0 : 0 ≤ d) (h1 : d < ((ws.length : Nat) : Int)) : ∃ w, w ∈ ws ∧ atI (wsV ws) d = some (.str (mk w)) := by
  obtain ⟨k, rfl⟩ := Int.eq_ofNat_of_zero_le h0
  have hk : k < ws.length := by omega
  exact ⟨ws[k], List.getElem_mem hk, atI_nat (by unfold wsV; rw [List.getElem?_map, List.getElem?_eq_getElem hk]; rfl)⟩
mutual
theorem rwE_len {ns : List T} {sur : List (List T)} : ∀ (e : Ex) (a : Nat), gE ns e → (rwE sur e a).length = nE e
  | .num _, _, _ => rfl
  | .txt _, _, _ => rfl
  | .tru _, _, _ => rfl
  | .non, _, _ => rfl
  | .slf, _, _ => rfl
  | .nam _, _, _ => rfl
  | .fld _, _, _ => rfl
  | .new _, _, _ => rfl
  | .send r m es, a, h => by
    show (rwE sur r (a + 1) ++ rwEs sur es (a + 1 + nE r) ++ [_]).length = 1 + nE r + nEs es
    rw [List.length_append, List.length_append, rwE_len r _ h.1, rwEs_len es _ h.2]
    show nE r + nEs es + 1 = _
    omega
  | .up m es, a, h => by
    show (rwEs sur es (a + 1) ++ [_]).length = 1 + nEs es
    rw [List.length_append, rwEs_len es _ h]
    show nEs es + 1 = _
    omega
  | .lst es, a, h => by
    show (rwEs sur es (a + 1) ++ [_]).length = 1 + nEs es
    rw [List.length_append, rwEs_len es _ h]
    show nEs es + 1 = _
    omega
  | .blk _ _, _, h => h.elim
theorem rwEs_len {ns : List T} {sur : List (List T)} : ∀ (es : Exs) (a : Nat), gEs ns es → (rwEs sur es a).length = nEs es
  | .nil, _, _ => rfl
  | .cons e r, a, h => by
    show (rwE sur e a ++ rwEs sur r (a + nE e)).length = nE e + nEs r
    rw [List.length_append, rwE_len e _ h.1, rwEs_len r _ h.2]
end
theorem rwEs_snoc {sur : List (List T)} : ∀ (es : Exs) (e : Ex) (a : Nat), rwEs sur (es.snoc e) a = rwEs sur es a ++ rwE sur e (a + nEs es)
  | .nil, e, a => by
    show rwE sur e a ++ [] = [] ++ rwE sur e (a + 0)
    rw [List.append_nil, List.nil_append, Nat.add_zero]
  | .cons x r, e, a => by
    show rwE sur x a ++ rwEs sur (r.snoc e) (a + nE x) = rwE sur x a ++ rwEs sur r (a + nE x) ++ rwE sur e (a + (nE x + nEs r))
    rw [rwEs_snoc r e (a + nE x), List.append_assoc, Nat.add_assoc]
/-- the first of es -/
def Exs.take : Nat → Exs → Exs
  | 0, _ => .nil
  | _ + 1, .nil => .nil
  | n + 1, .cons e r => .cons e (r.take n)
theorem Exs.take_snoc : ∀ (es : Exs) (i : Nat) {vs : List V} {v : V} {H : Hp}, AtEs H es vs → vs[i]? = some v → ∃ e, AtE H e v ∧ es.take (i + 1) = (es.take i).snoc e ∧ nEs (es.take i) + nE e ≤ nEs es ∧ oE e ≤ oEs es ∧ ∀ ns, gEs ns es → gE ns e
  | .nil, i, vs, v, H, h, hv => by
    have h' : vs = [] := h
    subst h'
    cases i <;> cases hv
  | .cons e r, 0, vs, v, H, ⟨u, us, e1, h1, h2⟩, hv => by
    subst e1
    cases hv
    exact ⟨e, h1, by cases r <;> rfl, by show 0 + nE e ≤ nE e + nEs r; omega, by show oE e ≤ max (oE e) (oEs r); omega, fun ns g => g.1⟩
  | .cons e r, i + 1, vs, v, H, ⟨u, us, e1, h1, h2⟩, hv => by
    subst e1
    obtain ⟨x, g1, g2, g3, g4, g5⟩ := Exs.take_snoc r i h2 hv
    exact ⟨x, g1, by show Exs.cons e (r.take (i + 1)) = Exs.cons e ((r.take i).snoc x); rw [g2], by show nE e + nEs (r.take i) + nE x ≤ nE e + nEs r; omega, by show oE x ≤ max (oE e) (oEs r); omega, fun ns g => g5 ns g.2⟩
theorem Exs.take_all : ∀ (es : Exs) {vs : List V} {H : Hp}, AtEs H es vs → es.take vs.length = es
  | .nil, vs, H, h => by
    have h' : vs = [] := h
    subst h'
    rfl
  | .cons e r, vs, H, ⟨u, us, e1, h1, h2⟩ => by
    subst e1
    show Exs.cons e (r.take us.length) = _
    rw [Exs.take_all r h2]
theorem put_row {H H1 : Hp} {fl q : Addr} {us : List V} {rows : List Rw} {r : Rw} (s1 : SB fl H H1) (f1 : H1 fl = some (.lst us)) (at1 : AtL AtRw H1 rows us) (hq : H1 q = none) :
    (upd H1 q (.tup r)) fl = some (.lst us) ∧ SB fl H (upd (upd H1 q (.tup r)) fl (.lst (us ++ [.ref q]))) ∧ AtL AtRw (upd (upd H1 q (.tup r)) fl (.lst (us ++ [.ref q]))) (rows ++ [r]) (us ++ [.ref q]) := by
  have nq : q ≠ fl := fun z => by rw [z, f1] at hq; cases hq
  have st := same_new hq (.tup r)
  have f2 := st _ _ f1
  have tt : Tups H1 (upd (upd H1 q (.tup r)) fl (.lst (us ++ [.ref q]))) := (same_tups st).trans (tups_lst f2)
  exact ⟨f2, s1.trans ((SB.same st).trans (SB.upd _)), (AtL.onR (fun _ _ z => AtRw.on tt z) at1).snoc ⟨q, rfl, by rw [upd_ne nq]; exact upd_same⟩⟩
theorem cut4 (ws : List T) : cutV (wsV ws) (some 4) none = wsV (ws.drop 4) := by
  unfold cutV
  have e : HT.sIx (wsV ws).length 0 (some 4) = min 4 ws.length := by
    have := HT.sIx_nat (wsV ws).length 0 4
    rw [show ((4 : Nat) : Int) = 4 from rfl] at this
    rw [this]
    unfold wsV
    rw [List.length_map]
  rw [e, HT.sIx_none]
  unfold wsV
  rw [List.length_map, ← List.map_drop, ← List.map_take]
  congr 1
  by_cases h : 4 ≤ ws.length
  · rw [Nat.min_eq_left h]
    exact List.take_of_length_le (by rw [List.length_drop]; omega)
  · rw [Nat.min_eq_right (by omega), Nat.sub_self, List.take_zero, List.drop_eq_nil_of_le (by omega)]
theorem wsV_idx {ns : List T} {z : T} (hz : z ∈ ns) : (wsV ns)[ns.idxOf z]? = some (.str (mk z)) ∧ ∀ (m : Nat) (z' : V), m < ns.idxOf z → (wsV ns)[m]? = some z' → eqV z' (.str (mk z)) = false := by
  have hlt : ns.idxOf z < ns.length := List.idxOf_lt_length_of_mem hz
  refine ⟨?_, fun m z' hm h => ?_⟩
  · unfold wsV
    rw [List.getElem?_map, List.getElem?_eq_getElem hlt, List.getElem_idxOf]
    rfl
  · unfold wsV at h
    have hm' : m < ns.length := by omega
    rw [List.getElem?_map, List.getElem?_eq_getElem hm'] at h
    cases Option.some.inj h
    show (mk ns[m] == mk z) = false
    have hne : ns[m] ≠ z := fun e => by
      have := List.not_of_lt_findIdx (show m < ns.findIdx (· == z) from hm)
      simp [e] at this
    exact beq_false_of_ne fun e => hne (by have := congrArg tl e; simpa using this)
theorem wsV_flat (ns : List T) : (wsV ns).all flatV = true := by
  unfold wsV
  rw [List.all_map, List.all_eq_true]
  intro x _
  rfl
theorem gEs.take {ns : List T} : ∀ {es : Exs} (i : Nat), gEs ns es → gEs ns (es.take i)
  | .nil, 0, h => trivial
  | .nil, i + 1, h => trivial
  | .cons e r, 0, h => trivial
  | .cons e r, i + 1, h => ⟨h.1, gEs.take i h.2⟩
/-- a plain worth -/
inductive Pln : V → Prop
  | int (i : Int) : Pln (.int i)
  | str (s : Str) : Pln (.str s)
  | bl (b : Bool) : Pln (.bl b)
  | non : Pln .non
/-- tuples alike, so deep, of plain worths -/
def EqD (H : Hp) : Nat → V → V → Prop
  | 0, x, y => x = y ∧ Pln x
  | d + 1, x, y => ∃ p q xs ys, x = .ref p ∧ y = .ref q ∧ H p = some (.tup xs) ∧ H q = some (.tup ys) ∧ xs.length = ys.length ∧ ys.length ≤ 5000 ∧ ∀ (i : Nat) (u v : V), xs[i]? = some u → ys[i]? = some v → EqD H d u v
theorem EqD.on {H H' : Hp} (t : Tups H H') : ∀ (d : Nat) (x y : V), EqD H d x y → EqD H' d x y
  | 0, _, _, h => h
  | d + 1, _, _, ⟨p, q, xs, ys, e1, e2, h1, h2, h3, h4, h5⟩ => ⟨p, q, xs, ys, e1, e2, t _ _ h1, t _ _ h2, h3, h4, fun i u v a b => EqD.on t d u v (h5 i u v a b)⟩
mutual
theorem gE_st {ns hid : List T} : ∀ (e : Ex), gE ns e → stE hid e = []
  | .num _, _ => rfl
  | .txt _, _ => rfl
  | .tru _, _ => rfl
  | .non, _ => rfl
  | .slf, _ => rfl
  | .nam _, _ => rfl
  | .fld _, _ => rfl
  | .new _, _ => rfl
  | .send r m es, h => by
    show stE hid r ++ stEs hid es = []
    rw [gE_st r h.1, gEs_st es h.2]
    rfl
  | .up m es, h => gEs_st es h
  | .lst es, h => gEs_st es h
  | .blk _ _, h => h.elim
theorem gEs_st {ns hid : List T} : ∀ (es : Exs), gEs ns es → stEs hid es = []
  | .nil, _ => rfl
  | .cons e r, h => by
    show stE hid e ++ stEs hid r = []
    rw [gE_st e h.1, gEs_st r h.2]
    rfl
end
mutual
theorem gE_sd {ns : List T} : ∀ (e : Ex), gE ns e → sdE [ns] e
  | .num _, h => h
  | .txt _, h => h
  | .tru _, _ => trivial
  | .non, _ => trivial
  | .slf, _ => trivial
  | .nam _, h => ⟨ns, List.mem_cons_self, h⟩
  | .fld _, _ => trivial
  | .new _, _ => trivial
  | .send r m es, h => ⟨gE_sd r h.1, gEs_sd es h.2⟩
  | .up m es, h => gEs_sd es h
  | .lst es, h => gEs_sd es h
  | .blk _ _, h => h.elim
theorem gEs_sd {ns : List T} : ∀ (es : Exs), gEs ns es → sdEs [ns] es
  | .nil, _ => trivial
  | .cons e r, h => ⟨gE_sd e h.1, gEs_sd r h.2⟩
end
/-- rows of plain worths -/
def PlR (rows : List Rw) : Prop := ∀ r ∈ rows, r.length ≤ 5 ∧ ∀ x ∈ r, Pln x
theorem PlR.app {a b : List Rw} (h : PlR a) (k : PlR b) : PlR (a ++ b) := fun r hr => (List.mem_append.mp hr).elim (h r) (k r)
theorem PlR.one {r : Rw} (h : r.length ≤ 5) (k : ∀ x ∈ r, Pln x) : PlR [r] := fun q hq => by
  have : q = r := by simpa using hq
  subst this
  exact ⟨h, k⟩
theorem PlR.nil : PlR [] := fun r h => by cases h
theorem pl_nil : ∀ x ∈ ([] : List V), Pln x := fun x h => by cases h
theorem pl_cons {y : V} {r : List V} (h : Pln y) (k : ∀ x ∈ r, Pln x) : ∀ x ∈ y :: r, Pln x := fun x hx => by
  rcases List.mem_cons.mp hx with rfl | hx
  · exact h
  · exact k x hx
mutual
theorem rwE_pln {sur : List (List T)} : ∀ (e : Ex) (a : Nat), PlR (rwE sur e a)
  | .num _, _ => .one (show (3 : Nat) ≤ 5 by decide) (pl_cons (.int _) (pl_cons (.str _) (pl_cons (.int _) pl_nil)))
  | .txt _, _ => .one (show (3 : Nat) ≤ 5 by decide) (pl_cons (.int _) (pl_cons (.str _) (pl_cons (.str _) pl_nil)))
  | .tru _, _ => .one (show (3 : Nat) ≤ 5 by decide) (pl_cons (.int _) (pl_cons (.str _) (pl_cons (.bl _) pl_nil)))
  | .non, _ => .one (show (3 : Nat) ≤ 5 by decide) (pl_cons (.int _) (pl_cons (.str _) (pl_cons .non pl_nil)))
  | .slf, _ => .one (show (2 : Nat) ≤ 5 by decide) (pl_cons (.int _) (pl_cons (.str _) pl_nil))
  | .nam _, _ => .one (show (4 : Nat) ≤ 5 by decide) (pl_cons (.int _) (pl_cons (.str _) (pl_cons (.int _) (pl_cons (.int _) pl_nil))))
  | .fld _, _ => .one (show (3 : Nat) ≤ 5 by decide) (pl_cons (.int _) (pl_cons (.str _) (pl_cons (.str _) pl_nil)))
  | .new _, _ => .one (show (3 : Nat) ≤ 5 by decide) (pl_cons (.int _) (pl_cons (.str _) (pl_cons (.str _) pl_nil)))
  | .send r m es, a => ((rwE_pln r _).app (rwEs_pln es _)).app (.one (show (4 : Nat) ≤ 5 by decide) (pl_cons (.int _) (pl_cons (.str _) (pl_cons (.str _) (pl_cons (.int _) pl_nil)))))
  | .up m es, a => (rwEs_pln es _).app (.one (show (4 : Nat) ≤ 5 by decide) (pl_cons (.int _) (pl_cons (.str _) (pl_cons (.str _) (pl_cons (.int _) pl_nil)))))
  | .lst es, a => (rwEs_pln es _).app (.one (show (3 : Nat) ≤ 5 by decide) (pl_cons (.int _) (pl_cons (.str _) (pl_cons (.int _) pl_nil))))
  | .blk _ _, _ => .one (show (3 : Nat) ≤ 5 by decide) (pl_cons (.int _) (pl_cons (.str _) (pl_cons (.int _) pl_nil)))
theorem rwEs_pln {sur : List (List T)} : ∀ (es : Exs) (a : Nat), PlR (rwEs sur es a)
  | .nil, _ => .nil
  | .cons e r, a => (rwE_pln e a).app (rwEs_pln r _)
end
theorem AtL.at {α : Type} {R : Hp → α → V → Prop} {H : Hp} : ∀ {xs : List α} {vs : List V} {i : Nat} {v : V}, AtL R H xs vs → vs[i]? = some v → ∃ x, xs[i]? = some x ∧ R H x v
  | [], vs, i, v, h, hv => by
    have h' : vs = [] := h
    subst h'
    cases hv
  | y :: r, vs, 0, v, ⟨u, us, h1, h2, h3⟩, hv => by
    subst h1
    cases hv
    exact ⟨y, rfl, h2⟩
  | y :: r, vs, i + 1, v, ⟨u, us, h1, h2, h3⟩, hv => by
    subst h1
    exact AtL.at (i := i) h3 hv
theorem eq_rows {H : Hp} {p q : Addr} {us vs : List V} {rows : List Rw} (hp : H p = some (.tup us)) (hq : H q = some (.tup vs)) (h1 : AtL AtRw H rows us) (h2 : AtL AtRw H rows vs) (hl : rows.length ≤ 5000) (hr : PlR rows) : EqD H 2 (.ref p) (.ref q) := by
  refine ⟨p, q, us, vs, rfl, rfl, hp, hq, by rw [h1.len, h2.len], by rw [h2.len]; exact hl, fun i u v hu hv => ?_⟩
  obtain ⟨r, r1, p1, rfl, hp1⟩ := h1.at hu
  obtain ⟨r', r1', p2, rfl, hp2⟩ := h2.at hv
  rw [r1] at r1'
  cases r1'
  obtain ⟨g1, g2⟩ := hr r (List.mem_of_getElem? r1)
  refine ⟨p1, p2, r, r, rfl, rfl, hp1, hp2, rfl, by omega, fun j x y hx hy => ?_⟩
  rw [hx] at hy
  cases hy
  exact ⟨rfl, g2 x (List.mem_of_getElem? hx)⟩
theorem plW_at (z : T) : atI [S_ "drop", V.str (mk z)] (if (!decide (V.str (mk z) = V.str (Str.ofString "do"))) = true then 1 else 0) = some (V.str (mk (plW z))) := by
  by_cases h : z = tk "do"
  · subst h
    rfl
  · have hv : ¬ V.str (mk z) = V.str (Str.ofString "do") := fun e => h (by
      have e1 := V.str.inj e
      have e2 := congrArg tl e1
      rw [tl_mk] at e2
      exact e2)
    rw [show decide (V.str (mk z) = V.str (Str.ofString "do")) = false from decide_eq_false hv]
    unfold plW
    rw [if_neg h]
    rfl
end My
set_option Elab.async false
set_option linter.all false
set_option maxRecDepth 100000
set_option maxHeartbeats 4000000
namespace My
open PySem L2 SS
/-! ### things as data -/
inductive Dt : Type
  | v (x : V) : Dt
  | tup (xs : List Dt) : Dt
  | lst (xs : List Dt) : Dt
  | dic : Dt
/-- one by one -/
inductive All2 {α β : Type} (R : α → β → Prop) : List α → List β → Prop
  | nil : All2 R [] []
  | cons {a : α} {b : β} {as : List α} {bs : List β} : R a b → All2 R as bs → All2 R (a :: as) (b :: bs)
theorem All2.len {α β : Type} {R : α → β → Prop} {as : List α} {bs : List β} (h : All2 R as bs) : as.length = bs.length := by
  induction h with
  | nil => rfl
  | cons _ _ ih => rw [List.length_cons, List.length_cons, ih]
theorem All2.get {α β : Type} {R : α → β → Prop} {as : List α} {bs : List β} (h : All2 R as bs) {i : Nat} {b : β} (hb : bs[i]? = some b) : ∃ a, as[i]? = some a ∧ R a b := by
  induction h generalizing i with
  | nil => simp at hb
  | cons r _ ih =>
    cases i with
    | zero => simp at hb; subst hb; exact ⟨_, rfl, r⟩
    | succ i => obtain ⟨a, h1, h2⟩ := ih (i := i) (by simpa using hb); exact ⟨a, by simpa using h1, h2⟩
theorem All2.app {α β : Type} {R : α → β → Prop} {as cs : List α} {bs ds : List β} (h : All2 R as bs) (k : All2 R cs ds) : All2 R (as ++ cs) (bs ++ ds) := by
  induction h with
  | nil => exact k
  | cons r _ ih => exact .cons r ih
theorem All2.imp {α β : Type} {R S : α → β → Prop} {as : List α} {bs : List β} (h : All2 R as bs) (k : ∀ a b, R a b → S a b) : All2 S as bs := by
  induction h with
  | nil => exact .nil
  | cons r _ ih => exact .cons (k _ _ r) ih
theorem All2.take {α β : Type} {R : α → β → Prop} : ∀ {as : List α} {bs : List β} (n : Nat), All2 R as bs → All2 R (as.take n) (bs.take n)
  | _, _, 0, _ => .nil
  | _, _, n + 1, .nil => .nil
  | _, _, n + 1, .cons r h => .cons r (h.take n)
theorem All2.drop {α β : Type} {R : α → β → Prop} : ∀ {as : List α} {bs : List β} (n : Nat), All2 R as bs → All2 R (as.drop n) (bs.drop n)
  | _, _, 0, h => h
  | _, _, n + 1, .nil => .nil
  | _, _, n + 1, .cons r h => h.drop n
/-- the data that stands there, of so many levels -/
def AtD (H : Hp) : Nat → Dt → V → Prop
  | _, .v y, x => x = y ∧ Pln y
  | 0, .tup _, _ => False
  | n + 1, .tup ds, x => ∃ p us, x = .ref p ∧ TupA H p us ∧ ds.length ≤ 100000 ∧ All2 (AtD H n) ds us
  | 0, .lst _, _ => False
  | n + 1, .lst ds, x => ∃ p us, x = .ref p ∧ H p = some (.lst us) ∧ ds.length ≤ 100000 ∧ All2 (AtD H n) ds us
  | _, .dic, x => ∃ p kvs, x = .ref p ∧ H p = some (.dK kvs)
theorem AtD.same {H H' : Hp} (s : Same H H') : ∀ {n : Nat} {d : Dt} {x : V}, AtD H n d x → AtD H' n d x
  | 0, .v y, x, h => h
  | n + 1, .v y, x, h => h
  | 0, .tup _, _, h => h.elim
  | n + 1, .tup ds, x, ⟨p, us, e, h1, h2, h3⟩ => ⟨p, us, e, TupA.same s h1, h2, h3.imp fun a b r => AtD.same s r⟩
  | 0, .lst _, _, h => h.elim
  | n + 1, .lst ds, x, ⟨p, us, e, h1, h2, h3⟩ => ⟨p, us, e, s _ _ h1, h2, h3.imp fun a b r => AtD.same s r⟩
  | 0, .dic, x, ⟨p, k, e, h⟩ => ⟨p, k, e, s _ _ h⟩
  | n + 1, .dic, x, ⟨p, k, e, h⟩ => ⟨p, k, e, s _ _ h⟩
theorem AtD.up {H : Hp} : ∀ {n : Nat} {d : Dt} {x : V}, AtD H n d x → AtD H (n + 1) d x
  | 0, .v y, x, h => h
  | n + 1, .v y, x, h => h
  | 0, .tup _, _, h => h.elim
  | n + 1, .tup ds, x, ⟨p, us, e, h1, h2, h3⟩ => ⟨p, us, e, h1, h2, h3.imp fun a b r => AtD.up r⟩
  | 0, .lst _, _, h => h.elim
  | n + 1, .lst ds, x, ⟨p, us, e, h1, h2, h3⟩ => ⟨p, us, e, h1, h2, h3.imp fun a b r => AtD.up r⟩
  | 0, .dic, x, h => h
  | n + 1, .dic, x, h => h
theorem AtD.mono {H : Hp} {n m : Nat} (h : n ≤ m) {d : Dt} {x : V} (a : AtD H n d x) : AtD H m d x := by
  induction h with
  | refl => exact a
  | step _ ih => exact ih.up
/-- whether data are the same, kind for kind -/
def smD : Nat → Dt → Dt → Bool
  | _, .v x, .v y => decide (x = y)
  | 0, .tup xs, .tup ys => false
  | n + 1, .tup xs, .tup ys => decide (xs.length = ys.length) && (List.zipWith (smD n) xs ys).all id
  | _, _, _ => false
theorem pln_ths {H : Hp} {x : V} (h : Pln x) : ∃ s, ThS H x s ∧ s ≠ .oth ∧ s ≠ .tup := by
  cases h with
  | int i => exact ⟨_, .num i, by decide, by decide⟩
  | str z => exact ⟨_, .txt z, by decide, by decide⟩
  | bl b => exact ⟨_, .tru b, by decide, by decide⟩
  | non => exact ⟨_, .non, by decide, by decide⟩
/-- the sort of data -/
def Dt.s : Dt → Option Srt
  | .v _ => none
  | .tup _ => some .tup
  | .lst _ => some .oth
  | .dic => some .oth
theorem AtD.ths {H : Hp} : ∀ {n : Nat} {d : Dt} {x : V}, AtD H n d x → ∃ s, ThS H x s ∧ (d.s = none → s ≠ .oth ∧ s ≠ .tup) ∧ (∀ t, d.s = some t → s = t)
  | n, .v y, x, h => by
    obtain ⟨e, hp⟩ : x = y ∧ Pln y := by cases n <;> exact h
    subst e
    obtain ⟨s, h, a, b⟩ := pln_ths (H := H) hp
    exact ⟨s, h, fun _ => ⟨a, b⟩, fun _ e => (by cases e)⟩
  | 0, .tup _, _, h => h.elim
  | n + 1, .tup ds, x, ⟨p, us, e, h1, _⟩ => by subst e; exact ⟨.tup, .tup h1, fun e => (by cases e), fun _ e => (by cases e; rfl)⟩
  | 0, .lst _, _, h => h.elim
  | n + 1, .lst ds, x, ⟨p, us, e, h1, _⟩ => by subst e; exact ⟨.oth, .lst h1, fun e => (by cases e), fun _ e => (by cases e; rfl)⟩
  | n, .dic, x, h => by
    obtain ⟨p, k, e, h1⟩ : ∃ p kvs, x = .ref p ∧ H p = some (.dK kvs) := by cases n <;> exact h
    subst e
    exact ⟨.oth, .dK h1, fun e => (by cases e), fun _ e => (by cases e; rfl)⟩
theorem sm_v (n : Nat) (x y : V) : smD n (.v x) (.v y) = decide (x = y) := by cases n <;> rfl
/-- of unlike sorts -/
theorem sm_un {H : Hp} {n : Nat} {d e : Dt} {x y : V} (hb : smD n d e = false) (h : AtD H n d x) (k : AtD H n e y) (c : d.s = some .oth ∨ ((d.s ≠ none → d.s ≠ e.s) ∧ (d.s = none → e.s ≠ none))) : SmR H n x y (smD n d e) := by
  obtain ⟨s, h1, h2, h3⟩ := AtD.ths h
  obtain ⟨t, k1, k2, k3⟩ := AtD.ths k
  rw [hb]
  rcases c with c | ⟨c1, c2⟩
  · exact SmR.look (.inl ⟨s, t, h1, k1, .inl (h3 _ c), rfl⟩)
  · refine SmR.look (.inl ⟨s, t, h1, k1, .inr fun z => ?_, rfl⟩)
    subst z
    cases hd : d.s with
    | none =>
      cases he : e.s with
      | none => exact c2 hd he
      | some t =>
        have e1 := k3 t he
        have := h2 hd
        cases e with
        | v _ => cases he
        | tup _ => cases he; exact this.2 e1
        | lst _ => cases he; exact this.1 e1
        | dic => cases he; exact this.1 e1
    | some a =>
      have e1 := h3 a hd
      cases he : e.s with
      | none =>
        have := k2 he
        cases d with
        | v _ => cases hd
        | tup _ => cases hd; exact this.2 e1
        | lst _ => cases hd; exact this.1 e1
        | dic => cases hd; exact this.1 e1
      | some b =>
        have e2 := k3 b he
        exact c1 (by rw [hd]; intro z; cases z) (by rw [hd, he, ← e1, ← e2])
theorem sm_at {H : Hp} : ∀ (n : Nat) {d e : Dt} {x y : V}, AtD H n d x → AtD H n e y → SmR H n x y (smD n d e)
  | n, .v a, .v b, x, y, h, k => by
    obtain ⟨e1, hp⟩ : x = a ∧ Pln a := by cases n <;> exact h
    obtain ⟨e2, kp⟩ : y = b ∧ Pln b := by cases n <;> exact k
    subst e1
    subst e2
    obtain ⟨s, h1, h2, h3⟩ := pln_ths (H := H) hp
    obtain ⟨t, k1, k2, k3⟩ := pln_ths (H := H) kp
    rw [sm_v]
    by_cases c : s = t
    · subst c
      exact SmR.look (.inr (.inl ⟨s, h1, k1, h2, h3, rfl⟩))
    · have : decide (x = y) = false := decide_eq_false fun e => c (by subst e; exact ThS.det h1 k1)
      rw [this]
      exact SmR.look (.inl ⟨s, t, h1, k1, .inr c, rfl⟩)
  | 0, .tup _, _, _, _, h, _ => h.elim
  | 0, .v _, .tup _, _, _, _, k => k.elim
  | n + 1, .tup ds, .tup es, x, y, ⟨p, us, e1, h1, h2, h3⟩, ⟨q, vs, e2, k1, k2, k3⟩ => by
    subst e1
    subst e2
    have l1 := h3.len
    have l2 := k3.len
    by_cases c : ds.length = es.length
    · have e : smD (n + 1) (.tup ds) (.tup es) = (List.zipWith (smD n) ds es).all id := by
        show (decide (ds.length = es.length) && _) = _
        rw [decide_eq_true c, Bool.true_and]
      rw [e]
      refine .inr ⟨p, q, us, vs, List.zipWith (smD n) ds es, rfl, rfl, h1, k1, by omega, by rw [List.length_zipWith]; omega, by omega, rfl, fun i u v b hu hv hb => ?_⟩
      obtain ⟨d, hd, rd⟩ := h3.get hu
      obtain ⟨e, he, re⟩ := k3.get hv
      rw [List.getElem?_zipWith, hd, he] at hb
      have := Option.some.inj hb
      rw [← this]
      exact sm_at n rd re
    · have e : smD (n + 1) (.tup ds) (.tup es) = false := by
        show (decide (ds.length = es.length) && _) = _
        rw [decide_eq_false c, Bool.false_and]
      rw [e]
      exact .inl (.inr (.inr ⟨p, q, us, vs, rfl, rfl, h1, k1, by omega, rfl⟩))
  | n + 1, .v a, .tup es, x, y, h, k => sm_un rfl h k (.inr ⟨(fun z => absurd rfl z), (fun _ => (by intro z; cases z))⟩)
  | n + 1, .tup ds, .v b, x, y, h, k => sm_un rfl h k (.inr ⟨(fun _ => (by intro z; cases z)), (fun z => (by cases z))⟩)
  | n, .lst ds, e, x, y, h, k => sm_un (by cases n <;> cases e <;> rfl) h k (.inl rfl)
  | n, .dic, e, x, y, h, k => sm_un (by cases n <;> cases e <;> rfl) h k (.inl rfl)
  | n, .v a, .lst es, x, y, h, k => sm_un (by cases n <;> rfl) h k (.inr ⟨(fun z => absurd rfl z), (fun _ => (by intro z; cases z))⟩)
  | n, .v a, .dic, x, y, h, k => sm_un (by cases n <;> rfl) h k (.inr ⟨(fun z => absurd rfl z), (fun _ => (by intro z; cases z))⟩)
  | n + 1, .tup ds, .lst es, x, y, h, k => sm_un rfl h k (.inr ⟨(fun _ => (by intro z; cases z)), (fun z => (by cases z))⟩)
  | n + 1, .tup ds, .dic, x, y, h, k => sm_un rfl h k (.inr ⟨(fun _ => (by intro z; cases z)), (fun z => (by cases z))⟩)
/-! rows as data -/
def dRow (r : Rw) : Dt := .tup (r.map .v)
def dRows (rs : List Rw) : Dt := .tup (rs.map dRow)
theorem all2_pln {H : Hp} {n : Nat} : ∀ {r : List V}, (∀ x ∈ r, Pln x) → All2 (AtD H n) (r.map .v) r
  | [], _ => .nil
  | x :: r, h => .cons (by cases n <;> exact ⟨rfl, h x List.mem_cons_self⟩) (all2_pln fun y hy => h y (List.mem_cons_of_mem _ hy))
theorem dRow_at {H : Hp} {r : Rw} {v : V} (h : AtRw H r v) (hr : r.length ≤ 5 ∧ ∀ x ∈ r, Pln x) : AtD H 1 (dRow r) v := by
  obtain ⟨p, rfl, hp⟩ := h
  exact ⟨p, r, rfl, .inl hp, by rw [List.length_map]; omega, all2_pln hr.2⟩
theorem all2_rows {H : Hp} : ∀ {rs : List Rw} {us : List V}, AtL AtRw H rs us → PlR rs → All2 (AtD H 1) (rs.map dRow) us
  | [], us, h, _ => by
    have h' : us = [] := h
    subst h'
    exact .nil
  | r :: rs, us, ⟨v, vs, e, h1, h2⟩, hp => by
    subst e
    exact .cons (dRow_at h1 (hp r List.mem_cons_self)) (all2_rows h2 fun x hx => hp x (List.mem_cons_of_mem _ hx))
theorem dRows_at {H : Hp} {p : Addr} {rs : List Rw} {us : List V} (hp : H p = some (.tup us)) (h : AtL AtRw H rs us) (hr : PlR rs) (hl : rs.length ≤ 100000) : AtD H 2 (dRows rs) (.ref p) :=
  ⟨p, us, rfl, .inl hp, by rw [List.length_map]; exact hl, all2_rows h hr⟩
/-- unlike at one place -/
theorem sm_off {n : Nat} {xs ys : List Dt} {i : Nat} {a b : Dt} (ha : xs[i]? = some a) (hb : ys[i]? = some b) (h : smD n a b = false) : smD (n + 1) (.tup xs) (.tup ys) = false := by
  show (decide (xs.length = ys.length) && (List.zipWith (smD n) xs ys).all id) = false
  have hz : (List.zipWith (smD n) xs ys)[i]? = some false := by rw [List.getElem?_zipWith, ha, hb, ← h]
  have : (List.zipWith (smD n) xs ys).all id = false := List.all_eq_false.mpr ⟨false, List.mem_of_getElem? hz, by decide⟩
  rw [this, Bool.and_false]
theorem sm_lenD {n : Nat} {xs ys : List Dt} (h : xs.length ≠ ys.length) : smD (n + 1) (.tup xs) (.tup ys) = false := by
  show (decide (xs.length = ys.length) && _) = false
  rw [decide_eq_false h, Bool.false_and]
theorem sm_rows_ne {n : Nat} : ∀ {r s : List V}, r ≠ s → smD (n + 1) (dRow r) (dRow s) = false := fun {r s} h => by
  by_cases c : r.length = s.length
  · have : ∃ i : Nat, r[i]? ≠ s[i]? := by
      by_cases z : ∃ i : Nat, r[i]? ≠ s[i]?
      · exact z
      · exact absurd (List.ext_getElem? fun i => by
          by_cases y : r[i]? = s[i]?
          · exact y
          · exact absurd ⟨i, y⟩ z) h
    obtain ⟨i, hi⟩ := this
    have hlt : i < r.length := by
      by_cases z : i < r.length
      · exact z
      · rw [List.getElem?_eq_none (by omega), List.getElem?_eq_none (by omega)] at hi; exact absurd rfl hi
    have h1 : r[i]? = some r[i] := List.getElem?_eq_getElem hlt
    have h2 : s[i]? = some (s[i]'(by omega)) := List.getElem?_eq_getElem (by omega)
    refine sm_off (i := i) (a := .v r[i]) (b := .v (s[i]'(by omega))) (by rw [List.getElem?_map, h1]; rfl) (by rw [List.getElem?_map, h2]; rfl) ?_
    rw [sm_v]
    exact decide_eq_false fun z => hi (by rw [h1, h2, z])
  · exact sm_lenD (by rw [List.length_map, List.length_map]; exact c)
end My
set_option Elab.async false
set_option linter.all false
set_option maxRecDepth 100000
set_option maxHeartbeats 4000000
namespace My
open PySem L2 SS
/-! ### what evaluates to what data; what stood stands -/
def EvD (te : TE) (σ : L2.St) (H : Hp) (n : Nat) (d : Dt) : Prop := ∀ H1, Same H H1 → ∀ Q : VK, (∀ v H2, Same H1 H2 → AtD H2 n d v → Q v H2) → te σ H1 Q
def EvDs (ta : TA) (σ : L2.St) (H : Hp) (n : Nat) (ds : List Dt) : Prop := ∀ H1, Same H H1 → ∀ Q : List V → Hp → Prop, (∀ vs H2, Same H1 H2 → All2 (AtD H2 n) ds vs → Q vs H2) → ta σ H1 Q
theorem All2.same {H H' : Hp} {n : Nat} {ds : List Dt} {vs : List V} (s : Same H H') (h : All2 (AtD H n) ds vs) : All2 (AtD H' n) ds vs := h.imp fun a b r => AtD.same s r
section
variable {σ : L2.St} {H : Hp} {n : Nat} {d : Dt} {ds es : List Dt} {te tb : TE} {ta : TA}
theorem EvD.mono {H' : Hp} (s : Same H H') (h : EvD te σ H n d) : EvD te σ H' n d := fun H1 s1 Q q => h H1 (s.trans s1) Q q
theorem EvDs.mono {H' : Hp} (s : Same H H') (h : EvDs ta σ H n ds) : EvDs ta σ H' n ds := fun H1 s1 Q q => h H1 (s.trans s1) Q q
theorem atD_v {v : V} (h : Pln v) : AtD H n (.v v) v := by cases n <;> exact ⟨rfl, h⟩
theorem atD_pl {v w : V} (h : AtD H n (.v v) w) : w = v ∧ Pln v := by cases n <;> exact h
theorem evd_c {v : V} (h : Pln v) : EvD (tC v) σ H n (.v v) := fun H1 s1 Q q => q v H1 (Same.refl _) (atD_v h)
theorem evd_var {i : Nat} {v : V} (h : σ[i]? = some (some v)) (a : AtD H n d v) : EvD (tVar i) σ H n d := fun H1 s1 Q q => ⟨v, h, q v H1 (Same.refl _) (a.same s1)⟩
theorem evds_nil : EvDs tNil σ H n [] := fun H1 s1 Q q => q [] H1 (Same.refl _) .nil
theorem evds_cons (h : EvD te σ H n d) (k : EvDs ta σ H n ds) : EvDs (tCons te ta) σ H n (d :: ds) := fun H1 s1 Q q => h H1 s1 _ fun v H2 s2 a => k H2 (s1.trans s2) _ fun vs H3 s3 b => q (v :: vs) H3 (s2.trans s3) (.cons (a.same s3) b)
theorem evd_tup (h : EvDs ta σ H n ds) (hl : ds.length ≤ 100000) : EvD (tTup ta) σ H (n + 1) (.tup ds) := fun H1 s1 Q q => h H1 s1 _ fun vs H2 s2 a => by
  refine ⟨by rw [← a.len]; exact Evl.sz_of hl, fun p hp => ?_⟩
  have s3 := same_new hp (.tup vs)
  exact q _ _ (s2.trans s3) ⟨p, vs, rfl, .inl upd_same, hl, a.same s3⟩
theorem evd_lst (h : EvDs ta σ H n ds) (hl : ds.length ≤ 100000) : EvD (tLst ta) σ H (n + 1) (.lst ds) := fun H1 s1 Q q => h H1 s1 _ fun vs H2 s2 a => by
  refine ⟨by rw [← a.len]; exact Evl.sz_of hl, fun p hp => ?_⟩
  have s3 := same_new hp (.lst vs)
  exact q _ _ (s2.trans s3) ⟨p, vs, rfl, upd_same, hl, a.same s3⟩
theorem evd_cat (h : EvD te σ H (n + 1) (.lst ds)) (k : EvD tb σ H (n + 1) (.lst es)) (hl : ds.length + es.length ≤ 100000) : EvD (tOp rCat te tb) σ H (n + 1) (.lst (ds ++ es)) := fun H1 s1 Q q => h H1 s1 _ fun v H2 s2 a => k H2 (s1.trans s2) _ fun w H3 s3 b => by
  obtain ⟨p, us, rfl, hp, _, h1⟩ := a
  obtain ⟨r, ws, rfl, hr, _, h2⟩ := b
  have l1 := h1.len
  have l2 := h2.len
  refine ⟨p, r, us, ws, rfl, rfl, s3 _ _ hp, hr, Evl.sz_of (by omega), fun t ht => ?_⟩
  have s4 := same_new ht (.lst (us ++ ws))
  exact q _ _ (s2.trans (s3.trans s4)) ⟨t, us ++ ws, rfl, upd_same, by rw [List.length_append]; exact hl, ((h1.same s3).app h2).same s4⟩
theorem evd_len {K : PySem.W.Frag} (h : EvD te σ H (n + 1) (.lst ds)) : EvD (tCB (Evl.rLenS K) (tCons te tNil)) σ H n (.v (.int (ds.length : Nat))) := fun H1 s1 Q q => h H1 s1 _ fun v H2 s2 a => by
  obtain ⟨p, us, rfl, hp, _, h1⟩ := a
  refine ⟨p, us, rfl, .inl (SqL.of hp), ?_⟩
  rw [← h1.len]
  exact q _ H2 s2 (atD_v (.int _))
theorem evd_i0 {g : Int → Int → V} {i j : Int} (h : EvD te σ H n (.v (.int i))) (k : EvD tb σ H n (.v (.int j))) (hp : Pln (g i j)) : EvD (tOp (rI0 g) te tb) σ H n (.v (g i j)) := fun H1 s1 Q q => h H1 s1 _ fun v H2 s2 a => k H2 (s1.trans s2) _ fun w H3 s3 b => by
  obtain ⟨rfl, _⟩ := atD_pl a
  obtain ⟨rfl, _⟩ := atD_pl b
  exact ⟨i, j, rfl, rfl, q _ H3 (s2.trans s3) (atD_v hp)⟩
theorem evd_neg {i : Int} (h : EvD te σ H n (.v (.int i))) : EvD (tUn (rU fun i => .int (-i)) te) σ H n (.v (.int (-i))) := fun H1 s1 Q q => h H1 s1 _ fun v H2 s2 a => by
  obtain ⟨rfl, _⟩ := atD_pl a
  exact ⟨i, rfl, q _ H2 s2 (atD_v (.int _))⟩
/-! statements -/
variable {D : Ends} {tz : TS}
theorem sd_ret (h : EvD te σ H n d) (k : ∀ v H1, Same H H1 → AtD H1 n d v → D.rt v H1) : tRet te D σ H := h H (Same.refl _) _ fun v H1 s a => k v H1 s a
theorem qn_asg {bk ct : L2.St → Hp → Prop} {rt : VK} {i : Nat} (h : EvD te σ H n d) (k : ∀ v H1, Same H H1 → AtD H1 n d v → tz D (σ.set i (some v)) H1) : (Ends.mk (tSeq (tAsg te (gName i)) tz D) rt bk ct).nx σ H := h H (Same.refl _) _ fun v H1 s a => k v H1 s a
theorem qd_asg {i : Nat} (h : EvD te σ H n d) (k : ∀ v H1, Same H H1 → AtD H1 n d v → tz D (σ.set i (some v)) H1) : tSeq (tAsg te (gName i)) tz D σ H := h H (Same.refl _) _ fun v H1 s a => k v H1 s a
end
/-! trees as data -/
abbrev dK (s : String) : Dt := .v (S_ s)
abbrev dT (z : List Nat) : Dt := .v (.str (mk z))
mutual
def deE : Ex → Dt
  | .num n => .tup [dK "number", .v (.int n)]
  | .txt s => .tup [dK "text", dT s]
  | .tru b => .tup [dK "truth", .v (.bl b)]
  | .non => .tup [dK "none"]
  | .slf => .tup [dK "self"]
  | .nam w => .tup [dK "name", dT w]
  | .fld w => .tup [dK "field", dT w]
  | .new w => .tup [dK "new", dT w]
  | .send r m es => .tup [dK "send", deE r, dT m, .tup (deEs es)]
  | .up m es => .tup [dK "up", dT m, .tup (deEs es)]
  | .lst es => .tup [dK "list", .tup (deEs es)]
  | .blk ps ss => .tup [dK "block", .tup (ps.map dT), .tup (deSs ss)]
def deEs : Exs → List Dt
  | .nil => []
  | .cons e r => deE e :: deEs r
def deS : St_ → Dt
  | .set w e => .tup [dK "set", dT w, deE e]
  | .sfl w e => .tup [dK "setfield", dT w, deE e]
  | .pl k e => .tup [dT k, deE e]
  | .iff e a b => .tup [dK "if", deE e, .tup (deSs a), .tup (deSs b)]
  | .whl e a => .tup [dK "while", deE e, .tup (deSs a)]
  | .tri a w b => .tup [dK "try", .tup (deSs a), dT w, .tup (deSs b)]
def deSs : Sts → List Dt
  | .nil => []
  | .cons e r => deS e :: deSs r
end
/-! no blocks in it -/
mutual
def nbE : Ex → Prop
  | .send r _ es => nbE r ∧ nbEs es
  | .up _ es => nbEs es
  | .lst es => nbEs es
  | .blk _ _ => False
  | _ => True
def nbEs : Exs → Prop
  | .nil => True
  | .cons e r => nbE e ∧ nbEs r
def nbS : St_ → Prop
  | .set _ e => nbE e
  | .sfl _ e => nbE e
  | .pl _ e => nbE e
  | .iff e a b => nbE e ∧ nbSs a ∧ nbSs b
  | .whl e a => nbE e ∧ nbSs a
  | .tri a _ b => nbSs a ∧ nbSs b
def nbSs : Sts → Prop
  | .nil => True
  | .cons e r => nbS e ∧ nbSs r
end
theorem atd_tup {H : Hp} {n : Nat} {ds : List Dt} {v : V} (h : AtD H n (.tup ds) v) : ∃ m p us, n = m + 1 ∧ v = .ref p ∧ TupA H p us ∧ All2 (AtD H m) ds us := by
  cases n with
  | zero => exact h.elim
  | succ m => obtain ⟨p, us, e, h1, _, h2⟩ := h; exact ⟨m, p, us, rfl, e, h1, h2⟩
theorem all2_1 {α β : Type} {R : α → β → Prop} {a : α} {bs : List β} (h : All2 R [a] bs) : ∃ b, bs = [b] ∧ R a b := by
  cases h with
  | cons r k => cases k; exact ⟨_, rfl, r⟩
theorem all2_c {α β : Type} {R : α → β → Prop} {a : α} {as : List α} {bs : List β} (h : All2 R (a :: as) bs) : ∃ b cs, bs = b :: cs ∧ R a b ∧ All2 R as cs := by
  cases h with
  | cons r k => exact ⟨_, _, rfl, r, k⟩
theorem all2_n {α β : Type} {R : α → β → Prop} {bs : List β} (h : All2 R ([] : List α) bs) : bs = [] := by cases h; rfl
end My
set_option Elab.async false
set_option linter.all false
set_option maxRecDepth 100000
set_option maxHeartbeats 4000000
namespace L2
open PySem PySem.Spec PyProof.Rows
theorem call_str_bl {X : Cx} : CallR X (.type "str") (fun xs H Q => ∃ b : Bool, xs = [.bl b] ∧ Q (.str (if b = true then Str.ofString "True" else Str.ofString "False")) H) := by
  intro pins s σ H xs us Q I r h
  obtain ⟨b, rfl, q⟩ := h
  obtain ⟨u, rfl, rx⟩ := vals1 r
  cases rx
  exact P.str_of_bool ⟨.str (if b = true then Str.ofString "True" else Str.ofString "False"), H, I.tok _, ⟨_, rfl⟩, q⟩
end L2
namespace My
open PySem L2 SS
theorem All2.getA {α β : Type} {R : α → β → Prop} {as : List α} {bs : List β} (h : All2 R as bs) {i : Nat} {a : α} (ha : as[i]? = some a) : ∃ b, bs[i]? = some b ∧ R a b := by
  induction h generalizing i with
  | nil => simp at ha
  | cons r _ ih =>
    cases i with
    | zero => simp at ha; subst ha; exact ⟨_, rfl, r⟩
    | succ i => obtain ⟨b, h1, h2⟩ := ih (i := i) (by simpa using ha); exact ⟨b, by simpa using h1, h2⟩
theorem All2.atI {α β : Type} {R : α → β → Prop} {as : List α} {bs : List β} (h : All2 R as bs) {i : Int} {a : α} (ha : L2.atI as i = some a) : ∃ b, L2.atI bs i = some b ∧ R a b := by
  unfold L2.atI at ha ⊢
  rw [h.len] at ha
  cases hx : ixN bs.length i with
  | none => rw [hx] at ha; cases ha
  | some j => rw [hx] at ha; exact h.getA ha
/-- a part of a list -/
def cutD {α : Type} (xs : List α) (lo hi : Option Int) : List α := List.take (HT.sIx xs.length xs.length hi - HT.sIx xs.length 0 lo) (List.drop (HT.sIx xs.length 0 lo) xs)
theorem cutD_V (xs : List V) (lo hi : Option Int) : cutV xs lo hi = cutD xs lo hi := rfl
theorem cutD_len {α : Type} (xs : List α) (lo hi : Option Int) : (cutD xs lo hi).length ≤ xs.length := by
  unfold cutD
  rw [List.length_take, List.length_drop]
  omega
theorem cutD_pre {α : Type} {xs : List α} {k : Nat} (h : k ≤ xs.length) : cutD xs none (some (k : Nat)) = xs.take k := by
  unfold cutD HT.sIx
  simp only
  rw [if_neg (by omega), List.drop_zero, Nat.sub_zero, Int.toNat_natCast, Nat.min_eq_left h]
theorem cutD_suf {α : Type} {xs : List α} {k : Nat} (h : k ≤ xs.length) : cutD xs (some (k : Nat)) none = xs.drop k := by
  unfold cutD HT.sIx
  simp only
  rw [if_neg (by omega), Int.toNat_natCast, Nat.min_eq_left h]
  exact List.take_of_length_le (by rw [List.length_drop]; omega)
theorem All2.cut {α β : Type} {R : α → β → Prop} {as : List α} {bs : List β} (h : All2 R as bs) (lo hi : Option Int) : All2 R (cutD as lo hi) (cutD bs lo hi) := by
  unfold cutD
  rw [h.len]
  exact (h.drop _).take _
theorem cutD_map {α β : Type} (f : α → β) (xs : List α) (lo hi : Option Int) : (cutD xs lo hi).map f = cutD (xs.map f) lo hi := by
  unfold cutD
  rw [List.length_map, List.map_take, List.map_drop]
def EvO (to : TO) (σ : L2.St) (H : Hp) (o : Option Int) : Prop := ∀ H1, Same H H1 → ∀ Q : Option Int → Hp → Prop, (∀ H2, Same H1 H2 → Q o H2) → to σ H1 Q
section
variable {σ : L2.St} {H : Hp} {n : Nat} {d : Dt} {ds es : List Dt} {te tb : TE} {ta : TA} {K : PySem.W.Frag}
theorem evo_none : EvO tNoPart σ H none := fun H1 s1 Q q => q H1 (Same.refl _)
theorem evo_some {i : Int} (h : EvD te σ H 0 (.v (.int i))) : EvO (tPart te) σ H (some i) := fun H1 s1 Q q => h H1 s1 _ fun v H2 s2 a => by
  obtain ⟨rfl, _⟩ := atD_pl a
  exact ⟨i, rfl, q H2 s2⟩
theorem evd_pure {y : V} (h : ∀ H1, Same H H1 → ∀ Q : VK, Q y H1 → te σ H1 Q) (hp : Pln y) : EvD te σ H n (.v y) := fun H1 s1 Q q => h H1 s1 Q (q y H1 (Same.refl _) (atD_v hp))
theorem evd_cb1 {r : List V → Hp → VK → Prop} {x y : V} (h : EvD te σ H n (.v x)) (hr : ∀ H (Q : VK), Q y H → r [x] H Q) (hp : Pln y) : EvD (tCB r (tCons te tNil)) σ H n (.v y) := fun H1 s1 Q q => h H1 s1 _ fun v H2 s2 a => by
  obtain ⟨rfl, _⟩ := atD_pl a
  exact hr H2 Q (q y H2 s2 (atD_v hp))
theorem evd_op {r : R2} {x y z : V} (h : EvD te σ H n (.v x)) (k : EvD tb σ H n (.v y)) (hr : ∀ H (Q : VK), Q z H → r x y H Q) (hp : Pln z) : EvD (tOp r te tb) σ H n (.v z) := fun H1 s1 Q q => h H1 s1 _ fun v H2 s2 a => k H2 (s1.trans s2) _ fun w H3 s3 b => by
  obtain ⟨rfl, _⟩ := atD_pl a
  obtain ⟨rfl, _⟩ := atD_pl b
  exact hr H3 Q (q z H3 (s2.trans s3) (atD_v hp))
theorem evd_ixL {i : Int} (h : EvD te σ H (n + 1) (.lst ds)) (k : EvD tb σ H n (.v (.int i))) (hd : L2.atI ds i = some d) : EvD (tOp (rIxL K) te tb) σ H n d := fun H1 s1 Q q => h H1 s1 _ fun v H2 s2 a => k H2 (s1.trans s2) _ fun w H3 s3 b => by
  obtain ⟨p, us, rfl, hp, _, h1⟩ := a
  obtain ⟨rfl, _⟩ := atD_pl b
  obtain ⟨x, hx, ax⟩ := h1.atI hd
  exact ⟨p, us, i, x, rfl, rfl, SqL.of (s3 _ _ hp), hx, q x H3 (s2.trans s3) (ax.same s3)⟩
theorem evd_ixT {i : Int} (h : EvD te σ H (n + 1) (.tup ds)) (k : EvD tb σ H n (.v (.int i))) (hd : L2.atI ds i = some d) : EvD (tOp (rIxT K) te tb) σ H n d := fun H1 s1 Q q => h H1 s1 _ fun v H2 s2 a => k H2 (s1.trans s2) _ fun w H3 s3 b => by
  obtain ⟨p, us, rfl, hp, _, h1⟩ := a
  obtain ⟨rfl, _⟩ := atD_pl b
  obtain ⟨x, hx, ax⟩ := h1.atI hd
  exact ⟨p, us, i, x, rfl, rfl, TupA.sq (TupA.same s3 hp), hx, q x H3 (s2.trans s3) (ax.same s3)⟩
theorem evd_slL {tl th : TO} {lo hi : Option Int} (h : EvD te σ H (n + 1) (.lst ds)) (hl : EvO tl σ H lo) (hh : EvO th σ H hi) : EvD (tSl (rSlL K) te tl th) σ H (n + 1) (.lst (cutD ds lo hi)) := fun H1 s1 Q q => h H1 s1 _ fun v H2 s2 a => hl H2 (s1.trans s2) _ fun H3 s3 => hh H3 (s1.trans (s2.trans s3)) _ fun H4 s4 => by
  obtain ⟨p, us, rfl, hp, l0, h1⟩ := a
  have s24 := s3.trans s4
  refine ⟨p, us, rfl, SqL.of (s24 _ _ hp), fun r hr => ?_⟩
  have s5 := same_new hr (.lst (cutV us lo hi))
  exact q _ _ (s2.trans (s24.trans s5)) ⟨r, _, rfl, upd_same, by have := cutD_len ds lo hi; omega, ((h1.same (s24.trans s5)).cut lo hi)⟩
theorem evd_slT {tl th : TO} {lo hi : Option Int} (h : EvD te σ H (n + 1) (.tup ds)) (hl : EvO tl σ H lo) (hh : EvO th σ H hi) (hne : ¬(HT.sIx ds.length 0 lo = 0 ∧ HT.sIx ds.length ds.length hi = ds.length)) : EvD (tSl (rSlT K) te tl th) σ H (n + 1) (.tup (cutD ds lo hi)) := fun H1 s1 Q q => h H1 s1 _ fun v H2 s2 a => hl H2 (s1.trans s2) _ fun H3 s3 => hh H3 (s1.trans (s2.trans s3)) _ fun H4 s4 => by
  obtain ⟨p, us, rfl, hp, l0, h1⟩ := a
  have s24 := s3.trans s4
  have hlen := h1.len
  refine ⟨p, us, rfl, TupA.sq (TupA.same s24 hp), by rw [← hlen]; exact hne, fun r hr => ?_⟩
  have s5 := same_new hr (.tup (cutV us lo hi))
  exact q _ _ (s2.trans (s24.trans s5)) ⟨r, _, rfl, .inl upd_same, by have := cutD_len ds lo hi; omega, ((h1.same (s24.trans s5)).cut lo hi)⟩
theorem evd_tupof (h : EvD te σ H (n + 1) (.lst ds)) : EvD (tCB (fun xs H Q => ∃ p ys, xs = [V.ref p] ∧ ((SqL K H p ys ∧ ∀ (l : Addr), H l = none → Q (V.ref l) (upd H l (HO.tup ys))) ∨ SqT K H p ys ∧ Q (V.ref p) H)) (tCons te tNil)) σ H (n + 1) (.tup ds) := fun H1 s1 Q q => h H1 s1 _ fun v H2 s2 a => by
  obtain ⟨p, us, rfl, hp, l0, h1⟩ := a
  refine ⟨p, us, rfl, .inl ⟨SqL.of hp, fun r hr => ?_⟩⟩
  have s3 := same_new hr (.tup us)
  exact q _ _ (s2.trans s3) ⟨r, us, rfl, .inl upd_same, l0, h1.same s3⟩
theorem evd_lstofT (h : EvD te σ H (n + 1) (.tup ds)) : EvD (tCB (fun xs H Q => ∃ p ys, xs = [V.ref p] ∧ (SqL K H p ys ∨ SqT K H p ys) ∧ ∀ (l : Addr), H l = none → Q (V.ref l) (upd H l (HO.lst ys))) (tCons te tNil)) σ H (n + 1) (.lst ds) := fun H1 s1 Q q => h H1 s1 _ fun v H2 s2 a => by
  obtain ⟨p, us, rfl, hp, l0, h1⟩ := a
  refine ⟨p, us, rfl, .inr (TupA.sq hp), fun r hr => ?_⟩
  have s3 := same_new hr (.lst us)
  exact q _ _ (s2.trans s3) ⟨r, us, rfl, upd_same, l0, h1.same s3⟩
theorem evd_lstofL (h : EvD te σ H (n + 1) (.lst ds)) : EvD (tCB (fun xs H Q => ∃ p ys, xs = [V.ref p] ∧ (SqL K H p ys ∨ SqT K H p ys) ∧ ∀ (l : Addr), H l = none → Q (V.ref l) (upd H l (HO.lst ys))) (tCons te tNil)) σ H (n + 1) (.lst ds) := fun H1 s1 Q q => h H1 s1 _ fun v H2 s2 a => by
  obtain ⟨p, us, rfl, hp, l0, h1⟩ := a
  refine ⟨p, us, rfl, .inl (SqL.of hp), fun r hr => ?_⟩
  have s3 := same_new hr (.lst us)
  exact q _ _ (s2.trans s3) ⟨r, us, rfl, upd_same, l0, h1.same s3⟩
theorem evd_catT (h : EvD te σ H (n + 1) (.tup ds)) (k : EvD tb σ H (n + 1) (.tup es)) (hl : ds.length + es.length ≤ 100000) : EvD (tOp (rCatA K) te tb) σ H (n + 1) (.tup (ds ++ es)) := fun H1 s1 Q q => h H1 s1 _ fun v H2 s2 a => k H2 (s1.trans s2) _ fun w H3 s3 b => by
  obtain ⟨p, us, rfl, hp, l1, h1⟩ := a
  obtain ⟨r, ws, rfl, hr, l2, h2⟩ := b
  have e1 := h1.len
  have e2 := h2.len
  refine ⟨p, r, us, ws, rfl, rfl, TupA.sq (TupA.same s3 hp), TupA.sq hr, Evl.sz_of (by omega), fun z => ?_, fun z z2 => ?_, fun z z2 t ht => ?_⟩
  · subst z
    have : ds = [] := List.eq_nil_of_length_eq_zero e1
    subst this
    exact q _ _ (s2.trans s3) ⟨r, ws, rfl, hr, l2, h2⟩
  · subst z2
    have : es = [] := List.eq_nil_of_length_eq_zero e2
    subst this
    rw [List.append_nil] at q
    exact q _ _ (s2.trans s3) ⟨p, us, rfl, TupA.same s3 hp, l1, h1.same s3⟩
  · have s4 := same_new ht (.tup (us ++ ws))
    exact q _ _ (s2.trans (s3.trans s4)) ⟨t, us ++ ws, rfl, .inl upd_same, by rw [List.length_append]; exact hl, ((h1.same s3).app h2).same s4⟩
theorem ad_asg {D : Ends} {i : Nat} (h : EvD te σ H n d) (k : ∀ v H1, Same H H1 → AtD H1 n d v → D.nx (σ.set i (some v)) H1) : tAsg te (gName i) D σ H := h H (Same.refl _) _ fun v H1 s a => k v H1 s a
theorem qn_ret {D : Ends} {bk ct : L2.St → Hp → Prop} {rt : VK} (h : EvD te σ H n d) (k : ∀ v H1, Same H H1 → AtD H1 n d v → D.rt v H1) : (Ends.mk (tRet te D) rt bk ct).nx σ H := h H (Same.refl _) _ fun v H1 s a => k v H1 s a
theorem evd_dnew : EvD tDNewK σ H n .dic := fun H1 s1 Q q => fun p hp => q _ _ (same_new hp _) (by cases n <;> exact ⟨p, _, rfl, upd_same⟩)
theorem evd_cast {e : Dt} (h : EvD te σ H n d) (he : d = e) : EvD te σ H n e := he ▸ h
end
end My
set_option Elab.async false
set_option linter.all false
set_option maxRecDepth 100000
set_option maxHeartbeats 4000000
namespace My
open PySem L2 SS
/-! ### truths, tests, calls and comprehensions, in one step each -/
/-- data without lists and dicts -/
inductive NlD : Dt → Prop
  | v {x : V} : NlD (.v x)
  | tup {ds : List Dt} (h : ∀ d ∈ ds, NlD d) : NlD (.tup ds)
theorem All2.impM {α β : Type} {R S : α → β → Prop} {as : List α} {bs : List β} (h : All2 R as bs) (k : ∀ a ∈ as, ∀ b, R a b → S a b) : All2 S as bs := by
  induction h with
  | nil => exact .nil
  | cons r _ ih => exact .cons (k _ List.mem_cons_self _ r) (ih fun a ha => k a (List.mem_cons_of_mem _ ha))
theorem TupA.tups {H H' : Hp} {p : Addr} {us : List V} (t : Tups H H') (h : TupA H p us) : TupA H' p us := h.elim (fun h => .inl (t.tup _ _ h)) fun ⟨o, h⟩ => .inr ⟨o, t.frz _ _ _ h⟩
theorem AtD.tups {H H' : Hp} (t : Tups H H') : ∀ {n : Nat} {d : Dt} {x : V}, AtD H n d x → NlD d → AtD H' n d x
  | 0, .v y, x, h, _ => h
  | n + 1, .v y, x, h, _ => h
  | 0, .tup _, _, h, _ => h.elim
  | n + 1, .tup ds, x, ⟨p, us, e, h1, h2, h3⟩, k => ⟨p, us, e, TupA.tups t h1, h2, h3.impM fun a ha b r => AtD.tups t r (by cases k with | tup k => exact k a ha)⟩
  | _, .lst _, _, _, k => nomatch k
  | _, .dic, _, _, k => nomatch k
theorem all2_bl {H : Hp} {n : Nat} {g : Dt → Bool} : ∀ {ds : List Dt} {us : List V}, All2 (AtD H n) (ds.map fun d => .v (.bl (g d))) us → us = (ds.map g).map V.bl
  | [], us, h => all2_n h
  | d :: r, us, h => by
    obtain ⟨b, cs, rfl, r1, h⟩ := all2_c h
    rw [all2_bl h, (atD_pl r1).1]
    rfl
def EvT (tt : TT) (σ : L2.St) (H : Hp) (b : Bool) : Prop := ∀ H1, Same H H1 → ∀ Q : Bool → Hp → Prop, (∀ H2, Same H1 H2 → Q b H2) → tt σ H1 Q
/-- what isinstance sees of data -/
def Dt.srt : Dt → Srt
  | .v (.int _) => .num
  | .v (.bl _) => .tru
  | .v (.str _) => .txt
  | .v _ => .non
  | .tup _ => .tup
  | .lst _ => .oth
  | .dic => .oth
theorem AtD.srt {H : Hp} : ∀ {n : Nat} {d : Dt} {x : V}, AtD H n d x → ThS H x d.srt
  | n, .v y, x, h => by
    obtain ⟨e, hp⟩ : x = y ∧ Pln y := by cases n <;> exact h
    subst e
    cases hp with
    | int i => exact .num i
    | str z => exact .txt z
    | bl b => exact .tru b
    | non => exact .non
  | 0, .tup _, _, h => h.elim
  | n + 1, .tup ds, x, ⟨p, us, e, h1, _⟩ => by subst e; exact .tup h1
  | 0, .lst _, _, h => h.elim
  | n + 1, .lst ds, x, ⟨p, us, e, h1, _⟩ => by subst e; exact .lst h1
  | n, .dic, x, h => by
    obtain ⟨p, k, e, h1⟩ : ∃ p kvs, x = .ref p ∧ H p = some (.dK kvs) := by cases n <;> exact h
    subst e
    exact .dK h1
/-- data that can be handed to a def: its answer is a truth told by the data -/
def spG1 (m : Nat) (S : Dt → Prop) (g : Dt → Bool) : Sp := fun vs H Q _ => ∃ d v, vs = [v] ∧ AtD H m d v ∧ S d ∧ ∀ H', Same H H' → Q (.bl (g d)) H'
def spG2 (m : Nat) (S : Dt → V → Prop) (g : Dt → V → Bool) : Sp := fun vs H Q _ => ∃ d v u, vs = [v, u] ∧ Pln u ∧ AtD H m d v ∧ S d u ∧ ∀ H', Same H H' → Q (.bl (g d u)) H'
section
variable {σ : L2.St} {H : Hp} {n m : Nat} {d : Dt} {ds es : List Dt} {te tb tc tl : TE} {ta : TA} {tt tu : TT} {K : PySem.W.Frag} {a b c : Bool}
theorem EvD.lv (h : EvD te σ H n d) (hm : n ≤ m) : EvD te σ H m d := fun H1 s1 Q q => h H1 s1 Q fun v H2 s2 r => q v H2 s2 (r.mono hm)
theorem evd_and (h : EvD te σ H n (.v (.bl a))) (k : a = true → EvD tb σ H n (.v (.bl b))) : EvD (tAndV te tb) σ H n (.v (.bl (a && b))) := fun H1 s1 Q q => h H1 s1 _ fun v H2 s2 r => by
  obtain ⟨rfl, _⟩ := atD_pl r
  refine ⟨_, rfl, ?_⟩
  cases a with
  | true => exact iteT (k rfl H2 (s1.trans s2) Q fun w H3 s3 r => q w H3 (s2.trans s3) r)
  | false => exact iteF (q _ H2 s2 (atD_v (.bl _)))
theorem evd_or (h : EvD te σ H n (.v (.bl a))) (k : a = false → EvD tb σ H n (.v (.bl b))) : EvD (tOrV te tb) σ H n (.v (.bl (a || b))) := fun H1 s1 Q q => h H1 s1 _ fun v H2 s2 r => by
  obtain ⟨rfl, _⟩ := atD_pl r
  refine ⟨_, rfl, ?_⟩
  cases a with
  | true => exact iteT (q _ H2 s2 (atD_v (.bl _)))
  | false => exact iteF (k rfl H2 (s1.trans s2) Q fun w H3 s3 r => q w H3 (s2.trans s3) r)
theorem evd_not (h : EvD te σ H n (.v (.bl a))) : EvD (tNotV te) σ H n (.v (.bl !a)) := fun H1 s1 Q q => h H1 s1 _ fun v H2 s2 r => by
  obtain ⟨rfl, _⟩ := atD_pl r
  exact ⟨_, rfl, q _ H2 s2 (atD_v (.bl _))⟩
theorem evd_isi {T : String} (h : EvD te σ H n d) (hT : T = "bool" ∨ T = "int" ∨ T = "str" ∨ T = "tuple") : EvD (tCB (rIsi K) (tCons te (tCons (tC (.ty T)) tNil))) σ H m (.v (.bl (d.srt.isT T))) := fun H1 s1 Q q => h H1 s1 _ fun v H2 s2 r => by
  obtain ⟨t, ty, ht⟩ := r.srt.ty (K := K)
  obtain ⟨k1, k2, k3, k4⟩ := Srt.kit (K := K) ht
  rcases hT with rfl | rfl | rfl | rfl
  · exact ⟨_, _, _, _, _, rfl, .ty "bool", ty, k1, q _ H2 s2 (atD_v (.bl _))⟩
  · exact ⟨_, _, _, _, _, rfl, .ty "int", ty, k2, q _ H2 s2 (atD_v (.bl _))⟩
  · exact ⟨_, _, _, _, _, rfl, .ty "str", ty, k3, q _ H2 s2 (atD_v (.bl _))⟩
  · exact ⟨_, _, _, _, _, rfl, .ty "tuple", ty, k4, q _ H2 s2 (atD_v (.bl _))⟩
theorem evd_isN (h : EvD te σ H n d) : EvD (tOp (fun x y H Q => y = V.non ∧ Q (V.bl (decide (x = V.non))) H) te (tC .non)) σ H m (.v (.bl (decide (d.srt = .non)))) := fun H1 s1 Q q => h H1 s1 _ fun v H2 s2 r => by
  refine ⟨rfl, ?_⟩
  rw [r.srt.none]
  exact q _ H2 s2 (atD_v (.bl _))
theorem evd_lenT (h : EvD te σ H (n + 1) (.tup ds)) : EvD (tCB (Evl.rLenS K) (tCons te tNil)) σ H m (.v (.int (ds.length : Nat))) := fun H1 s1 Q q => h H1 s1 _ fun v H2 s2 r => by
  obtain ⟨p, us, rfl, hp, _, h1⟩ := r
  refine ⟨p, us, rfl, .inr (TupA.sq hp), ?_⟩
  rw [← h1.len]
  exact q _ H2 s2 (atD_v (.int _))
theorem evd_if (h : EvT tt σ H c) (k : c = true → EvD te σ H n d) (k' : c = false → EvD tb σ H n d) : EvD (tIf tt te tb) σ H n d := fun H1 s1 Q q => h H1 s1 _ fun H2 s2 => by
  cases c with
  | true => exact iteT (k rfl H2 (s1.trans s2) Q fun w H3 s3 r => q w H3 (s2.trans s3) r)
  | false => exact iteF (k' rfl H2 (s1.trans s2) Q fun w H3 s3 r => q w H3 (s2.trans s3) r)
theorem evt_b (h : EvD te σ H n (.v (.bl a))) : EvT (tB te) σ H a := fun H1 s1 Q q => h H1 s1 _ fun v H2 s2 r => by
  obtain ⟨rfl, _⟩ := atD_pl r
  exact ⟨_, rfl, q H2 s2⟩
theorem evt_t (h : EvD te σ H n (.v (.bl a))) : EvT (tTest te) σ H a := fun H1 s1 Q q => h H1 s1 _ fun v H2 s2 r => by
  obtain ⟨rfl, _⟩ := atD_pl r
  exact ⟨_, rfl, q H2 s2⟩
theorem evt_not (h : EvT tt σ H a) : EvT (tNot tt) σ H !a := fun H1 s1 Q q => h H1 s1 _ q
theorem evt_and (h : EvT tt σ H a) (k : a = true → EvT tu σ H b) : EvT (tAnd tt tu) σ H (a && b) := fun H1 s1 Q q => h H1 s1 _ fun H2 s2 => by
  cases a with
  | true => exact iteT (k rfl H2 (s1.trans s2) Q fun H3 s3 => q H3 (s2.trans s3))
  | false => exact iteF (q H2 s2)
theorem evt_or (h : EvT tt σ H a) (k : a = false → EvT tu σ H b) : EvT (tOr tt tu) σ H (a || b) := fun H1 s1 Q q => h H1 s1 _ fun H2 s2 => by
  cases a with
  | true => exact iteT (q H2 s2)
  | false => exact iteF (k rfl H2 (s1.trans s2) Q fun H3 s3 => q H3 (s2.trans s3))
theorem evd_c1 {S : Dt → Prop} {g : Dt → Bool} {E : XK} (h : EvD te σ H m d) (hs : S d) : EvD (tCall (spG1 m S g) [] E (tCons te tNil)) σ H n (.v (.bl (g d))) := fun H1 s1 Q q => h H1 s1 _ fun v H2 s2 r => ⟨d, v, rfl, r, hs, fun H3 s3 => q _ H3 (s2.trans s3) (atD_v (.bl _))⟩
theorem evd_c2 {S : Dt → V → Prop} {g : Dt → V → Bool} {E : XK} {u : V} (h : EvD te σ H m d) (k : EvD tb σ H m (.v u)) (hs : S d u) : EvD (tCall (spG2 m S g) [] E (tCons te (tCons tb tNil))) σ H n (.v (.bl (g d u))) := fun H1 s1 Q q => h H1 s1 _ fun v H2 s2 r => k H2 (s1.trans s2) _ fun w H3 s3 r' => by
  obtain ⟨rfl, hp⟩ := atD_pl r'
  exact ⟨d, v, _, rfl, hp, r.same s3, hs, fun H4 s4 => q _ H4 (s2.trans (s3.trans s4)) (atD_v (.bl _))⟩
/-- [e for x in t] -/
theorem evd_lcT {i : Nat} {ws : List Nat} {f : Dt → Dt} (h : EvD tl σ H (m + 1) (.tup ds)) (hw : ∀ x : Option V, wipe ((wipe σ ws).set i x) ws = wipe σ ws) (he : ∀ d ∈ ds, ∀ x H2, Same H H2 → AtD H2 m d x → EvD te ((wipe σ ws).set i (some x)) H2 n (f d)) (hn : ∀ d ∈ ds, NlD (f d)) : EvD (tLc (iTup K tl) (gName i) tYes te ws) σ H (n + 1) (.lst (ds.map f)) := fun H1 s1 Q q => h H1 s1 _ fun v H2 s2 r => by
  obtain ⟨p, us, rfl, hp, hl, al⟩ := r
  have lu := al.len
  refine ⟨p, rfl, ⟨us, TupA.sq hp⟩, fun D hD => ?_⟩
  refine lc_tup (xs := us) (fun i Hn => Same H2 Hn ∧ ∃ acc, Hn D = some (.lst acc) ∧ All2 (AtD Hn n) ((ds.take i).map f) acc) ⟨same_new hD _, [], upd_same, .nil⟩ (fun i Hn _ ⟨s, _⟩ => TupA.sq (TupA.same s hp)) ?_ ?_
  · rintro i x Hn hx ⟨s, acc, hacc, hal⟩
    refine ⟨hw _, ?_⟩
    unfold tYes
    simp only [if_true]
    obtain ⟨d, hd, ad⟩ := al.get hx
    refine he d (List.mem_of_getElem? hd) x Hn (s1.trans (s2.trans s)) (ad.same s) Hn (Same.refl _) _ fun y H3 s3 ay => ?_
    have hacc3 := s3 _ _ hacc
    have hlen := hal.len
    rw [List.length_map, List.length_take] at hlen
    have hi : i < us.length := by
      by_cases c : i < us.length
      · exact c
      · rw [List.getElem?_eq_none (by omega)] at hx; cases hx
    refine ⟨acc, hacc3, by rw [sizeLine_eq]; omega, same_upd (s.trans s3) hD _, acc ++ [y], upd_same, ?_⟩
    have e : (ds.take (i + 1)).map f = (ds.take i).map f ++ [f d] := by rw [List.take_add_one, hd, List.map_append]; rfl
    have tt := tups_lst (ys := acc ++ [y]) hacc3
    rw [e]
    refine All2.app ((hal.same s3).impM fun a ha b r => AtD.tups tt r ?_) (.cons (AtD.tups tt ay (hn d (List.mem_of_getElem? hd))) .nil)
    obtain ⟨d', hd', rfl⟩ := List.mem_map.mp ha
    exact hn d' (List.mem_of_mem_take hd')
  · rintro Hn ⟨s, acc, hacc, hal⟩
    have e : us.length = ds.length := lu.symm
    rw [e, List.take_length] at hal
    exact q _ Hn (s2.trans s) ⟨D, acc, rfl, hacc, by rw [List.length_map]; exact hl, hal⟩
/-- all of a list of truths -/
theorem evd_all {g : Dt → Bool} (h : EvD te σ H (n + 1) (.lst (ds.map fun d => .v (.bl (g d))))) : EvD (tCB (rAll K) (tCons te tNil)) σ H m (.v (.bl (ds.all g))) := fun H1 s1 Q q => h H1 s1 _ fun v H2 s2 r => by
  obtain ⟨p, us, rfl, hp, _, al⟩ := r
  have e := all2_bl al
  refine ⟨p, ds.map g, rfl, SqL.of (by rw [hp, e]), ?_⟩
  have : (ds.map g).all id = ds.all g := by rw [List.all_map]; rfl
  rw [this]
  exact q _ H2 s2 (atD_v (.bl _))
/-- all([t for x in tuple]) -/
theorem evd_allT {i : Nat} {ws : List Nat} {g : Dt → Bool} (h : EvD tl σ H (m + 1) (.tup ds)) (hw : ∀ x : Option V, wipe ((wipe σ ws).set i x) ws = wipe σ ws) (he : ∀ d ∈ ds, ∀ x H2, Same H H2 → AtD H2 m d x → EvD te ((wipe σ ws).set i (some x)) H2 0 (.v (.bl (g d)))) : EvD (tCB (rAll K) (tCons (tLc (iTup K tl) (gName i) tYes te ws) tNil)) σ H n (.v (.bl (ds.all g))) := evd_all (evd_lcT h hw he fun _ _ => .v)
theorem evd_eqI {i j : Int} (h : EvD te σ H n (.v (.int i))) (k : EvD tb σ H n (.v (.int j))) : EvD (tOp rEq te tb) σ H n (.v (.bl (decide (V.int i = V.int j)))) := evd_op h k (fun H Q q => ⟨rfl, q⟩) (.bl _)
theorem evd_eqS {x y : Str} (h : EvD te σ H n (.v (.str x))) (k : EvD tb σ H n (.v (.str y))) : EvD (tOp rEq te tb) σ H n (.v (.bl (decide (V.str x = V.str y)))) := evd_op h k (fun H Q q => ⟨rfl, q⟩) (.bl _)
theorem evd_chainI {f g : Int → Int → Bool} {i j k : Int} (h1 : EvD te σ H n (.v (.int i))) (h2 : EvD tb σ H n (.v (.int j))) (h3 : EvD tc σ H n (.v (.int k))) : EvD (tChain (rI0 fun i j => .bl (f i j)) (rI0 fun i j => .bl (g i j)) te tb tc) σ H n (.v (.bl (f i j && g j k))) := fun H1 s1 Q q => h1 H1 s1 _ fun v H2 s2 r => h2 H2 (s1.trans s2) _ fun w H3 s3 r' => by
  obtain ⟨rfl, _⟩ := atD_pl r
  obtain ⟨rfl, _⟩ := atD_pl r'
  refine ⟨_, _, rfl, rfl, _, rfl, ?_⟩
  have s23 := s2.trans s3
  cases hf : f i j with
  | true =>
    refine iteT (h3 H3 (s1.trans s23) _ fun u H4 s4 r'' => ?_)
    obtain ⟨rfl, _⟩ := atD_pl r''
    exact ⟨_, _, rfl, rfl, by have := q (.bl (f i j && g j k)) H4 (s23.trans s4) (atD_v (.bl _)); rw [hf, Bool.true_and] at this; exact this⟩
  | false => exact iteF (by have := q (.bl (f i j && g j k)) H3 s23 (atD_v (.bl _)); rw [hf, Bool.false_and] at this; exact this)
/-- what a def of tests and answers tells -/
def EvS (ts : TS) (σ : L2.St) (H : Hp) (b : Bool) : Prop := ∀ H1, Same H H1 → ∀ D : Ends, (∀ H2, Same H1 H2 → D.rt (.bl b) H2) → ts D σ H1
variable {ts tz : TS}
theorem evs_ret (h : EvD te σ H 0 (.v (.bl b))) : EvS (L2.tRet te) σ H b := fun H1 s1 D q => h H1 s1 _ fun v H2 s2 r => by
  obtain ⟨rfl, _⟩ := atD_pl r
  exact q H2 s2
theorem evs_if (h : EvT tt σ H c) (k : c = true → EvS ts σ H a) (k' : c = false → EvS tz σ H b) : EvS (tSeq (tIfS tt ts tNext) tz) σ H (if c then a else b) := fun H1 s1 D q => h H1 s1 _ fun H2 s2 => by
  cases c with
  | true => exact iteT (k rfl H2 (s1.trans s2) _ fun H3 s3 => q H3 (s2.trans s3))
  | false => exact iteF (k' rfl H2 (s1.trans s2) _ fun H3 s3 => q H3 (s2.trans s3))
theorem EvS.go {D : Ends} (h : EvS ts σ H b) (k : ∀ H1, Same H H1 → D.rt (.bl b) H1) : ts D σ H := h H (Same.refl _) D k
theorem EvS.as (h : EvS ts σ H a) (e : a = b) : EvS ts σ H b := e ▸ h
theorem evd_as (h : EvD te σ H n (.v (.bl a))) (e : a = b) : EvD te σ H n (.v (.bl b)) := e ▸ h
end
end My
set_option Elab.async false
set_option linter.all false
set_option maxRecDepth 100000
set_option maxHeartbeats 4000000
namespace My
open PySem L2 SS
/-! ### defs that answer data; stars; comprehensions with a test -/
def EvR (ts : TS) (σ : L2.St) (H : Hp) (n : Nat) (d : Dt) : Prop := ∀ H1, Same H H1 → ∀ D : Ends, (∀ v H2, Same H1 H2 → AtD H2 n d v → D.rt v H2) → ts D σ H1
def spV1 (m : Nat) (S : Dt → Prop) (k : Nat) (g : Dt → Dt) : Sp := fun vs H Q _ => ∃ d v, vs = [v] ∧ AtD H m d v ∧ S d ∧ ∀ v' H', Same H H' → AtD H' k (g d) v' → Q v' H'
def spV2 (m : Nat) (S : Dt → Dt → Prop) (k : Nat) (g : Dt → Dt → Dt) : Sp := fun vs H Q _ => ∃ d e v u, vs = [v, u] ∧ AtD H m d v ∧ AtD H m e u ∧ S d e ∧ ∀ v' H', Same H H' → AtD H' k (g d e) v' → Q v' H'
section
variable {σ : L2.St} {H : Hp} {n m k : Nat} {d e : Dt} {ds es : List Dt} {te tb tl : TE} {ta : TA} {tt : TT} {ts tz : TS} {K : PySem.W.Frag} {a b c : Bool}
theorem evr_ret (h : EvD te σ H n d) : EvR (L2.tRet te) σ H n d := fun H1 s1 D q => h H1 s1 _ q
theorem evr_if (h : EvT tt σ H c) (k : c = true → EvR ts σ H n d) (k' : c = false → EvR tz σ H n d) : EvR (tSeq (tIfS tt ts tNext) tz) σ H n d := fun H1 s1 D q => h H1 s1 _ fun H2 s2 => by
  cases c with
  | true => exact iteT (k rfl H2 (s1.trans s2) _ fun v H3 s3 => q v H3 (s2.trans s3))
  | false => exact iteF (k' rfl H2 (s1.trans s2) _ fun v H3 s3 => q v H3 (s2.trans s3))
theorem evr_asg {i : Nat} (h : EvD te σ H m e) (k : ∀ v H1, Same H H1 → AtD H1 m e v → EvR tz (σ.set i (some v)) H1 n d) : EvR (tSeq (tAsg te (gName i)) tz) σ H n d := fun H1 s1 D q => h H1 s1 _ fun v H2 s2 r => k v H2 (s1.trans s2) r H2 (Same.refl _) _ fun w H3 s3 => q w H3 (s2.trans s3)
theorem evs_asg {i : Nat} (h : EvD te σ H m e) (k : ∀ v H1, Same H H1 → AtD H1 m e v → EvS tz (σ.set i (some v)) H1 b) : EvS (tSeq (tAsg te (gName i)) tz) σ H b := fun H1 s1 D q => h H1 s1 _ fun v H2 s2 r => k v H2 (s1.trans s2) r H2 (Same.refl _) _ fun H3 s3 => q H3 (s2.trans s3)
theorem EvR.go {D : Ends} (h : EvR ts σ H n d) (k : ∀ v H1, Same H H1 → AtD H1 n d v → D.rt v H1) : ts D σ H := h H (Same.refl _) D k
theorem evds_star (h : EvD te σ H (n + 1) (.tup ds)) (k : EvDs ta σ H n es) : EvDs (StX.tStar K te ta) σ H n (ds ++ es) := fun H1 s1 Q q => h H1 s1 _ fun v H2 s2 r => by
  obtain ⟨p, us, rfl, hp, _, al⟩ := r
  exact ⟨p, us, rfl, .inl (TupA.sq hp), k H2 (s1.trans s2) _ fun vs H3 s3 r' => q _ H3 (s2.trans s3) ((al.same s3).app r')⟩
theorem evd_v1 {S : Dt → Prop} {g : Dt → Dt} {E : XK} (h : EvD te σ H m d) (hs : S d) : EvD (tCall (spV1 m S k g) [] E (tCons te tNil)) σ H k (g d) := fun H1 s1 Q q => h H1 s1 _ fun v H2 s2 r => ⟨d, v, rfl, r, hs, fun v' H3 s3 r' => q _ H3 (s2.trans s3) r'⟩
theorem evd_v2 {S : Dt → Dt → Prop} {g : Dt → Dt → Dt} {E : XK} (h : EvD te σ H m d) (h' : EvD tb σ H m e) (hs : S d e) : EvD (tCall (spV2 m S k g) [] E (tCons te (tCons tb tNil))) σ H k (g d e) := fun H1 s1 Q q => h H1 s1 _ fun v H2 s2 r => h' H2 (s1.trans s2) _ fun u H3 s3 r' => ⟨d, e, v, u, rfl, r.same s3, r', hs, fun v' H4 s4 r'' => q _ H4 (s2.trans (s3.trans s4)) r''⟩
/-- [e for x in t if c] -/
theorem evd_lcTif {i : Nat} {ws : List Nat} {f : Dt → Dt} {g : Dt → Bool} (h : EvD tl σ H (m + 1) (.tup ds)) (hw : ∀ x : Option V, wipe ((wipe σ ws).set i x) ws = wipe σ ws) (ht : ∀ d ∈ ds, ∀ x H2, Same H H2 → AtD H2 m d x → EvT tt ((wipe σ ws).set i (some x)) H2 (g d)) (he : ∀ d ∈ ds, g d = true → ∀ x H2, Same H H2 → AtD H2 m d x → EvD te ((wipe σ ws).set i (some x)) H2 n (f d)) (hn : ∀ d ∈ ds, g d = true → NlD (f d)) : EvD (tLc (iTup K tl) (gName i) tt te ws) σ H (n + 1) (.lst ((ds.filter g).map f)) := fun H1 s1 Q q => h H1 s1 _ fun v H2 s2 r => by
  obtain ⟨p, us, rfl, hp, hl, al⟩ := r
  have lu := al.len
  refine ⟨p, rfl, ⟨us, TupA.sq hp⟩, fun D hD => ?_⟩
  refine lc_tup (xs := us) (fun i Hn => Same H2 Hn ∧ ∃ acc, Hn D = some (.lst acc) ∧ All2 (AtD Hn n) (((ds.take i).filter g).map f) acc) ⟨same_new hD _, [], upd_same, .nil⟩ (fun i Hn _ ⟨s, _⟩ => TupA.sq (TupA.same s hp)) ?_ ?_
  · rintro i x Hn hx ⟨s, acc, hacc, hal⟩
    refine ⟨hw _, ?_⟩
    obtain ⟨d, hd, ad⟩ := al.get hx
    have hdm := List.mem_of_getElem? hd
    have sH := s1.trans (s2.trans s)
    have hi : i < us.length := by
      by_cases c : i < us.length
      · exact c
      · rw [List.getElem?_eq_none (by omega)] at hx; cases hx
    have e : (ds.take (i + 1)).filter g = (ds.take i).filter g ++ (if g d = true then [d] else []) := by
      rw [List.take_add_one, hd, List.filter_append]
      cases hg : g d with
      | true => simp [hg]
      | false => simp [hg]
    refine ht d hdm x Hn sH (ad.same s) Hn (Same.refl _) _ fun H3 s3 => ?_
    by_cases hg : g d = true
    · rw [if_pos hg]
      rw [if_pos hg] at e
      refine he d hdm hg x H3 (sH.trans s3) ((ad.same s).same s3) H3 (Same.refl _) _ fun y H4 s4 ay => ?_
      have s34 := s3.trans s4
      have hacc4 := s34 _ _ hacc
      have hlen := hal.len
      have hf : ((ds.take i).filter g).length ≤ i := Nat.le_trans (List.length_filter_le _ _) (by rw [List.length_take]; omega)
      rw [List.length_map] at hlen
      refine ⟨acc, hacc4, by rw [sizeLine_eq]; omega, same_upd (s.trans s34) hD _, acc ++ [y], upd_same, ?_⟩
      have tt := tups_lst (ys := acc ++ [y]) hacc4
      rw [e, List.map_append]
      refine All2.app ((hal.same s34).impM fun a ha b r => AtD.tups tt r ?_) (.cons (AtD.tups tt ay (hn d hdm hg)) .nil)
      obtain ⟨d', hd', rfl⟩ := List.mem_map.mp ha
      obtain ⟨h1, h2⟩ := List.mem_filter.mp hd'
      exact hn d' (List.mem_of_mem_take h1) h2
    · rw [if_neg hg]
      rw [if_neg hg, List.append_nil] at e
      exact ⟨s.trans s3, acc, s3 _ _ hacc, by rw [e]; exact hal.same s3⟩
  · rintro Hn ⟨s, acc, hacc, hal⟩
    have e : us.length = ds.length := lu.symm
    rw [e, List.take_length] at hal
    refine q _ Hn (s2.trans s) ⟨D, acc, rfl, hacc, ?_, hal⟩
    rw [List.length_map]
    exact Nat.le_trans (List.length_filter_le _ _) hl
end
end My
set_option Elab.async false
set_option linter.all false
set_option maxRecDepth 100000
set_option maxHeartbeats 4000000
namespace My
open PySem L2 SS
/-! ### comprehensions with any target; over zip -/
section
variable {σ : L2.St} {H : Hp} {n m k : Nat} {d e : Dt} {ds es : List Dt} {te tb tl : TE} {ta : TA} {tt : TT} {ts tz : TS} {tg : TG} {K : PySem.W.Frag} {a b c : Bool}
theorem evd_lcG {ws : List Nat} {f : Dt → Dt} (h : EvD tl σ H (m + 1) (.tup ds)) (he : ∀ d ∈ ds, ∀ x H2, Same H H2 → AtD H2 m d x → ∀ R : L2.St → Hp → Prop, (∀ σ2 H3, Same H2 H3 → wipe σ2 ws = wipe σ ws → EvD te σ2 H3 n (f d) → R σ2 H3) → tg x (wipe σ ws) H2 R) (hn : ∀ d ∈ ds, NlD (f d)) : EvD (tLc (iTup K tl) tg tYes te ws) σ H (n + 1) (.lst (ds.map f)) := fun H1 s1 Q q => h H1 s1 _ fun v H2 s2 r => by
  obtain ⟨p, us, rfl, hp, hl, al⟩ := r
  have lu := al.len
  refine ⟨p, rfl, ⟨us, TupA.sq hp⟩, fun D hD => ?_⟩
  refine lc_tup (xs := us) (fun i Hn => Same H2 Hn ∧ ∃ acc, Hn D = some (.lst acc) ∧ All2 (AtD Hn n) ((ds.take i).map f) acc) ⟨same_new hD _, [], upd_same, .nil⟩ (fun i Hn _ ⟨s, _⟩ => TupA.sq (TupA.same s hp)) ?_ ?_
  · rintro i x Hn hx ⟨s, acc, hacc, hal⟩
    obtain ⟨d, hd, ad⟩ := al.get hx
    refine he d (List.mem_of_getElem? hd) x Hn (s1.trans (s2.trans s)) (ad.same s) _ fun σ2 H5 s5 hw hev => ⟨hw, ?_⟩
    unfold tYes
    simp only [if_true]
    refine hev H5 (Same.refl _) _ fun y H3 s3' ay => ?_
    have s3 := s5.trans s3'
    have hacc3 := s3 _ _ hacc
    have hlen := hal.len
    rw [List.length_map, List.length_take] at hlen
    have hi : i < us.length := by
      by_cases c : i < us.length
      · exact c
      · rw [List.getElem?_eq_none (by omega)] at hx; cases hx
    refine ⟨acc, hacc3, by rw [sizeLine_eq]; omega, same_upd (s.trans s3) hD _, acc ++ [y], upd_same, ?_⟩
    have e : (ds.take (i + 1)).map f = (ds.take i).map f ++ [f d] := by rw [List.take_add_one, hd, List.map_append]; rfl
    have tt := tups_lst (ys := acc ++ [y]) hacc3
    rw [e]
    refine All2.app ((hal.same s3).impM fun a ha b r => AtD.tups tt r ?_) (.cons (AtD.tups tt ay (hn d (List.mem_of_getElem? hd))) .nil)
    obtain ⟨d', hd', rfl⟩ := List.mem_map.mp ha
    exact hn d' (List.mem_of_mem_take hd')
  · rintro Hn ⟨s, acc, hacc, hal⟩
    have e : us.length = ds.length := lu.symm
    rw [e, List.take_length] at hal
    exact q _ Hn (s2.trans s) ⟨D, acc, rfl, hacc, by rw [List.length_map]; exact hl, hal⟩
theorem evd_allG {ws : List Nat} {g : Dt → Bool} (h : EvD tl σ H (m + 1) (.tup ds)) (he : ∀ d ∈ ds, ∀ x H2, Same H H2 → AtD H2 m d x → ∀ R : L2.St → Hp → Prop, (∀ σ2 H3, Same H2 H3 → wipe σ2 ws = wipe σ ws → EvD te σ2 H3 0 (.v (.bl (g d))) → R σ2 H3) → tg x (wipe σ ws) H2 R) : EvD (tCB (rAll K) (tCons (tLc (iTup K tl) tg tYes te ws) tNil)) σ H n (.v (.bl (ds.all g))) := evd_all (evd_lcG h he fun _ _ => .v)
theorem evd_lcL {ws : List Nat} {f : Dt → Dt} (h : EvD tl σ H (m + 1) (.lst ds)) (he : ∀ d ∈ ds, ∀ x H2, Same H H2 → AtD H2 m d x → ∀ R : L2.St → Hp → Prop, (∀ σ2 H3, Same H2 H3 → wipe σ2 ws = wipe σ ws → EvD te σ2 H3 n (f d) → R σ2 H3) → tg x (wipe σ ws) H2 R) (hn : ∀ d ∈ ds, NlD (f d)) : EvD (tLc (iList K tl) tg tYes te ws) σ H (n + 1) (.lst (ds.map f)) := fun H1 s1 Q q => h H1 s1 _ fun v H2 s2 r => by
  obtain ⟨p, us, rfl, hp, hl, al⟩ := r
  have lu := al.len
  refine ⟨p, rfl, ⟨us, SqL.of hp⟩, fun D hD => ?_⟩
  refine lc_list (xs := us) (fun i Hn => Same H2 Hn ∧ ∃ acc, Hn D = some (.lst acc) ∧ All2 (AtD Hn n) ((ds.take i).map f) acc) ⟨same_new hD _, [], upd_same, .nil⟩ (fun i Hn _ ⟨s, _⟩ => SqL.of (s _ _ hp)) ?_ ?_
  · rintro i x Hn hx ⟨s, acc, hacc, hal⟩
    obtain ⟨d, hd, ad⟩ := al.get hx
    refine he d (List.mem_of_getElem? hd) x Hn (s1.trans (s2.trans s)) (ad.same s) _ fun σ2 H5 s5 hw hev => ⟨hw, ?_⟩
    unfold tYes
    simp only [if_true]
    refine hev H5 (Same.refl _) _ fun y H3 s3' ay => ?_
    have s3 := s5.trans s3'
    have hacc3 := s3 _ _ hacc
    have hlen := hal.len
    rw [List.length_map, List.length_take] at hlen
    have hi : i < us.length := by
      by_cases c : i < us.length
      · exact c
      · rw [List.getElem?_eq_none (by omega)] at hx; cases hx
    refine ⟨acc, hacc3, by rw [sizeLine_eq]; omega, same_upd (s.trans s3) hD _, acc ++ [y], upd_same, ?_⟩
    have e : (ds.take (i + 1)).map f = (ds.take i).map f ++ [f d] := by rw [List.take_add_one, hd, List.map_append]; rfl
    have tt := tups_lst (ys := acc ++ [y]) hacc3
    rw [e]
    refine All2.app ((hal.same s3).impM fun a ha b r => AtD.tups tt r ?_) (.cons (AtD.tups tt ay (hn d (List.mem_of_getElem? hd))) .nil)
    obtain ⟨d', hd', rfl⟩ := List.mem_map.mp ha
    exact hn d' (List.mem_of_mem_take hd')
  · rintro Hn ⟨s, acc, hacc, hal⟩
    have e : us.length = ds.length := lu.symm
    rw [e, List.take_length] at hal
    exact q _ Hn (s2.trans s) ⟨D, acc, rfl, hacc, by rw [List.length_map]; exact hl, hal⟩
theorem evd_allL {ws : List Nat} {g : Dt → Bool} (h : EvD tl σ H (m + 1) (.lst ds)) (he : ∀ d ∈ ds, ∀ x H2, Same H H2 → AtD H2 m d x → ∀ R : L2.St → Hp → Prop, (∀ σ2 H3, Same H2 H3 → wipe σ2 ws = wipe σ ws → EvD te σ2 H3 0 (.v (.bl (g d))) → R σ2 H3) → tg x (wipe σ ws) H2 R) : EvD (tCB (rAll K) (tCons (tLc (iList K tl) tg tYes te ws) tNil)) σ H n (.v (.bl (ds.all g))) := evd_all (evd_lcL h he fun _ _ => .v)
theorem evt_as (h : EvT tt σ H a) (e : a = b) : EvT tt σ H b := e ▸ h
/-- a target of two names, a pair -/
theorem tg_pair {i j : Nat} {H2 : Hp} {x : V} {p q : Dt} {R : L2.St → Hp → Prop} (h : AtD H2 (m + 1) (.tup [p, q]) x) (k : ∀ u v, AtD H2 m p u → AtD H2 m q v → R ((σ.set i (some u)).set j (some v)) H2) : gTup K 2 (gCons (gName i) (gCons (gName j) gNil)) x σ H2 R := by
  obtain ⟨t, us, rfl, ht, _, al⟩ := h
  obtain ⟨u, cs, rfl, r1, al⟩ := all2_c al
  obtain ⟨v, rfl, r2⟩ := all2_1 al
  exact ⟨t, _, rfl, TupA.sq ht, rfl, _, _, rfl, _, _, rfl, rfl, k u v r1 r2⟩
theorem evd_tupofT (h : EvD te σ H (n + 1) (.tup ds)) : EvD (tCB (fun xs H Q => ∃ p ys, xs = [V.ref p] ∧ ((SqL K H p ys ∧ ∀ (l : Addr), H l = none → Q (V.ref l) (upd H l (HO.tup ys))) ∨ SqT K H p ys ∧ Q (V.ref p) H)) (tCons te tNil)) σ H (n + 1) (.tup ds) := fun H1 s1 Q q => h H1 s1 _ fun v H2 s2 a => by
  obtain ⟨p, us, rfl, hp, l0, h1⟩ := a
  exact ⟨p, us, rfl, .inr ⟨TupA.sq hp, q _ _ s2 ⟨p, us, rfl, hp, l0, h1⟩⟩⟩
/-- a slice of a tuple, be it the whole -/
theorem evd_slA {tl th : TO} {lo hi : Option Int} (h : EvD te σ H (n + 1) (.tup ds)) (hl : EvO tl σ H lo) (hh : EvO th σ H hi) : EvD (tSl (rSlA K) te tl th) σ H (n + 1) (.tup (cutD ds lo hi)) := fun H1 s1 Q q => h H1 s1 _ fun v H2 s2 a => hl H2 (s1.trans s2) _ fun H3 s3 => hh H3 (s1.trans (s2.trans s3)) _ fun H4 s4 => by
  obtain ⟨p, us, rfl, hp, l0, h1⟩ := a
  have s24 := s3.trans s4
  have hlen := h1.len
  refine ⟨p, us, rfl, TupA.sq (TupA.same s24 hp), fun c => ?_, fun c r hr => ?_⟩
  · have e : cutD ds lo hi = ds := by
      unfold cutD
      rw [hlen, c.1, c.2, ← hlen, Nat.sub_zero, List.drop_zero, List.take_length]
    rw [e] at q
    exact q _ _ (s2.trans s24) ⟨p, us, rfl, TupA.same s24 hp, l0, h1.same s24⟩
  · have s5 := same_new hr (.tup (cutV us lo hi))
    exact q _ _ (s2.trans (s24.trans s5)) ⟨r, _, rfl, .inl upd_same, by have := cutD_len ds lo hi; omega, ((h1.same (s24.trans s5)).cut lo hi)⟩
/-- [e for x, y in zip(t, u)] -/
theorem evd_lcZ {i j : Nat} {ws : List Nat} {f : Dt → Dt → Dt} (h : EvD te σ H (m + 1) (.tup ds)) (h' : EvD tb σ H (m + 1) (.tup es)) (hw : ∀ x y : Option V, wipe (((wipe σ ws).set i x).set j y) ws = wipe σ ws) (he : ∀ d e, (d, e) ∈ ds.zip es → ∀ x y H2, Same H H2 → AtD H2 m d x → AtD H2 m e y → EvD tl (((wipe σ ws).set i (some x)).set j (some y)) H2 n (f d e)) (hn : ∀ d e, (d, e) ∈ ds.zip es → NlD (f d e)) : EvD (tLc (RZ.iZipA K (tCons te (tCons tb tNil))) (gTup K 2 (gCons (gName i) (gCons (gName j) gNil))) tYes tl ws) σ H (n + 1) (.lst ((ds.zip es).map fun z => f z.1 z.2)) := fun H1 s1 Q q => h H1 s1 _ fun v H2 s2 r => h' H2 (s1.trans s2) _ fun v' H3 s3 r' => by
  obtain ⟨p, us, rfl, hp2, hl, al2⟩ := r
  obtain ⟨p', us', rfl, hp', hl', al'⟩ := r'
  have hp := TupA.same s3 hp2
  have al := al2.same s3
  have lu := al.len
  have lu' := al'.len
  refine ⟨p, p', us, us', rfl, .inr ⟨TupA.sq hp, TupA.sq hp', fun D hD => ?_⟩⟩
  refine lc_it (walk_zipT (a := p) (b := p') (xs := us) (ys := us') rfl) (fun i Hn => Same H3 Hn ∧ ∃ acc, Hn D = some (.lst acc) ∧ All2 (AtD Hn n) (((ds.zip es).take i).map fun z => f z.1 z.2) acc) ⟨same_new hD _, [], upd_same, .nil⟩ (fun i Hn _ h => ⟨TupA.sq (TupA.same h.1 hp), TupA.sq (TupA.same h.1 hp')⟩) ?_ ?_
  · rintro i' z Hn Hm hi ⟨s, acc, hacc, hal⟩ ⟨T, u, v, rfl, hT, rfl, hu, hv⟩
    have sT := same_new hT (.tup [u, v])
    have fT : upd Hn T (.tup [u, v]) T = some (.tup [u, v]) := upd_same
    generalize upd Hn T (.tup [u, v]) = H5 at sT fT ⊢
    obtain ⟨d, hd, ad⟩ := al.get hu
    obtain ⟨e, he', ae⟩ := al'.get hv
    have hz : (ds.zip es)[i']? = some (d, e) := by rw [List.getElem?_zip_eq_some]; exact ⟨hd, he'⟩
    have hzm := List.mem_of_getElem? hz
    have s5 := s.trans sT
    refine ⟨T, _, rfl, SqT.of fT, rfl, _, _, rfl, _, _, rfl, rfl, hw _ _, ?_⟩
    unfold tYes
    simp only [if_true]
    refine he d e hzm u v H5 (s1.trans (s2.trans (s3.trans s5))) (ad.same s5) (ae.same s5) H5 (Same.refl _) _ fun y H6 s6 ay => ?_
    have s56 := sT.trans s6
    have hacc6 := s56 _ _ hacc
    have hlen := hal.len
    rw [List.length_map, List.length_take] at hlen
    refine ⟨acc, hacc6, by rw [sizeLine_eq]; omega, same_upd (s.trans s56) hD _, acc ++ [y], upd_same, ?_⟩
    have e1 : ((ds.zip es).take (i' + 1)).map (fun z => f z.1 z.2) = ((ds.zip es).take i').map (fun z => f z.1 z.2) ++ [f d e] := by rw [List.take_add_one, hz, List.map_append]; rfl
    have tt := tups_lst (ys := acc ++ [y]) hacc6
    rw [e1]
    refine All2.app ((hal.same s56).impM fun a ha b r => AtD.tups tt r ?_) (.cons (AtD.tups tt ay (hn d e hzm)) .nil)
    obtain ⟨⟨d', e''⟩, hd', rfl⟩ := List.mem_map.mp ha
    exact hn d' e'' (List.mem_of_mem_take hd')
  · rintro Hn ⟨s, acc, hacc, hal⟩
    have e : min us.length us'.length = (ds.zip es).length := by rw [List.length_zip, lu, lu']
    rw [e, List.take_length] at hal
    exact q _ Hn (s2.trans (s3.trans s)) ⟨D, acc, rfl, hacc, by rw [List.length_map, ← e]; omega, hal⟩
theorem evd_lenL (h : EvD te σ H (n + 1) (.lst ds)) : EvD (tCB (Evl.rLenS K) (tCons te tNil)) σ H m (.v (.int (ds.length : Nat))) := fun H1 s1 Q q => h H1 s1 _ fun v H2 s2 r => by
  obtain ⟨p, us, rfl, hp, _, h1⟩ := r
  refine ⟨p, us, rfl, .inl (SqL.of hp), ?_⟩
  rw [← h1.len]
  exact q _ H2 s2 (atD_v (.int _))
theorem evd_lenSet {ns : List Int} (h : EvD te σ H (n + 1) (.lst (ns.map fun i => .v (.int i)))) (hn : ns.Nodup) (hl : ns.length ≤ 4000) : EvD (RZ.tLenSetI K te) σ H m (.v (.int (ns.length : Nat))) := fun H1 s1 Q q => h H1 s1 _ fun v H2 s2 r => by
  obtain ⟨p, us, rfl, hp, _, al⟩ := r
  have e : us = ns.map V.int := by
    clear hp h q hn hl
    rename_i hlz
    clear hlz
    induction ns generalizing us with
    | nil => exact all2_n al
    | cons z zs ih =>
      obtain ⟨b, cs, rfl, r1, al⟩ := all2_c al
      rw [ih cs al, (atD_pl r1).1]
      rfl
  exact ⟨p, ns, rfl, SqL.of (by rw [hp, e]), hn, hl, q _ H2 s2 (atD_v (.int _))⟩
theorem evd_allP {α : Type} {zs : List α} {g : α → Bool} (h : EvD te σ H (n + 1) (.lst (zs.map fun z => .v (.bl (g z))))) : EvD (tCB (rAll K) (tCons te tNil)) σ H m (.v (.bl (zs.all g))) := fun H1 s1 Q q => h H1 s1 _ fun v H2 s2 r => by
  obtain ⟨p, us, rfl, hp, hlz, al⟩ := r
  have e : us = (zs.map g).map V.bl := by
    clear hp h q hlz
    induction zs generalizing us with
    | nil => exact all2_n al
    | cons z zs ih =>
      obtain ⟨b, cs, rfl, r1, al⟩ := all2_c al
      rw [ih cs al, (atD_pl r1).1]
      rfl
  refine ⟨p, zs.map g, rfl, SqL.of (by rw [hp, e]), ?_⟩
  have : (zs.map g).all id = zs.all g := by rw [List.all_map]; rfl
  rw [this]
  exact q _ H2 s2 (atD_v (.bl _))
theorem evd_allZ {i j : Nat} {ws : List Nat} {g : Dt → Dt → Bool} (h : EvD te σ H (m + 1) (.tup ds)) (h' : EvD tb σ H (m + 1) (.tup es)) (hw : ∀ x y : Option V, wipe (((wipe σ ws).set i x).set j y) ws = wipe σ ws) (he : ∀ d e, (d, e) ∈ ds.zip es → ∀ x y H2, Same H H2 → AtD H2 m d x → AtD H2 m e y → EvD tl (((wipe σ ws).set i (some x)).set j (some y)) H2 0 (.v (.bl (g d e)))) : EvD (tCB (rAll K) (tCons (tLc (RZ.iZipA K (tCons te (tCons tb tNil))) (gTup K 2 (gCons (gName i) (gCons (gName j) gNil))) tYes tl ws) tNil)) σ H n (.v (.bl ((ds.zip es).all fun z => g z.1 z.2))) := evd_allP (g := fun z : Dt × Dt => g z.1 z.2) (evd_lcZ (K := K) (f := fun d e => .v (.bl (g d e))) (n := 0) h h' hw he fun _ _ _ => .v)
end
end My

set_option Elab.async false
set_option linter.all false
set_option maxRecDepth 100000
set_option maxHeartbeats 4000000
namespace My
open PySem L2 SS
theorem sqL_same {K : PySem.W.Frag} {H H' : Hp} {a : Addr} {xs : List V} (h : SqL K H a xs) (s : Same H H') : SqL K H' a xs := h.imp (fun r => r.elim (fun h => .inl (s _ _ h)) fun ⟨o, h⟩ => .inr ⟨o, s _ _ h⟩) fun h => h
theorem asg_go {te : TE} {tz : TS} {D : Ends} {σ : L2.St} {H : Hp} {i : Nat} (h : te σ H fun v H1 => tz D (σ.set i (some v)) H1) : tSeq (tAsg te (gName i)) tz D σ H := h
theorem asg_1 {te : TE} {D : Ends} {σ : L2.St} {H : Hp} {i : Nat} (h : te σ H fun v H1 => D.nx (σ.set i (some v)) H1) : tAsg te (gName i) D σ H := h
theorem ret_go {te : TE} {D : Ends} {σ : L2.St} {H : Hp} (h : te σ H D.rt) : L2.tRet te D σ H := h
/-! ### all stands but some lists -/
def SX (B : List Addr) (H H' : Hp) : Prop := ∀ b u, b ∉ B → H b = some u → H' b = some u
theorem SX.refl {B : List Addr} {H : Hp} : SX B H H := fun _ _ _ h => h
theorem SX.trans {B : List Addr} {H H1 H2 : Hp} (a : SX B H H1) (b : SX B H1 H2) : SX B H H2 := fun q u n h => b q u n (a q u n h)
theorem SX.same {B : List Addr} {H H' : Hp} (s : Same H H') : SX B H H' := fun q u _ h => s q u h
theorem SX.upd {B : List Addr} {p : Addr} {H : Hp} (o : HO) (hp : p ∈ B) : SX B H (upd H p o) := fun q u n h => by rw [upd_ne (fun e => n (by rw [e]; exact hp))]; exact h
theorem SX.new {B : List Addr} {H H1 : Hp} {q : Addr} {o : HO} (s : SX B H H1) (h : H1 q = none) : SX B H (L2.upd H1 q o) := s.trans (SX.same (same_new h _))
theorem SX.more {B C : List Addr} {H H' : Hp} (s : SX B H H') (h : ∀ b ∈ B, b ∈ C) : SX C H H' := fun q u n e => s q u (fun z => n (h q z)) e
/-- nothing that is new was there -/
theorem SX.free {B : List Addr} {H H' : Hp} (s : SX B H H') (hB : ∀ b ∈ B, H' b ≠ none) {q : Addr} (h : H' q = none) : H q = none := by
  cases e : H q with
  | none => rfl
  | some u =>
    by_cases c : q ∈ B
    · exact absurd h (hB q c)
    · rw [s q u c e] at h
      cases h
/-- what changes are lists -/
def Lsts (B : List Addr) (H : Hp) : Prop := ∀ b ∈ B, ∃ xs, H b = some (.lst xs)
theorem Lsts.tups {B : List Addr} {H H' : Hp} (l : Lsts B H) (s : SX B H H') : Tups H H' := by
  refine ⟨fun q ys e => s q _ (fun z => ?_) e, fun q o u e => s q _ (fun z => ?_) e⟩
  · obtain ⟨xs, h⟩ := l q z
    rw [h] at e
    cases e
  · obtain ⟨xs, h⟩ := l q z
    rw [h] at e
    cases e
theorem Lsts.ne {B : List Addr} {H : Hp} (l : Lsts B H) {q : Addr} (h : H q = none) : q ∉ B := fun z => by
  obtain ⟨xs, e⟩ := l q z
  rw [e] at h
  cases h
theorem Lsts.some {B : List Addr} {H : Hp} (l : Lsts B H) : ∀ b ∈ B, H b ≠ none := fun b hb => by
  obtain ⟨xs, e⟩ := l b hb
  rw [e]
  exact fun z => by cases z
theorem FrzT.sx {B : List Addr} {H H' : Hp} {p : Addr} {xs : List V} (l : Lsts B H) (s : SX B H H') (h : FrzT H p xs) : FrzT H' p xs := by
  obtain ⟨ob, h1, h2⟩ := h
  refine ⟨ob, s p _ (fun z => ?_) h1, h2⟩
  obtain ⟨ys, e⟩ := l p z
  rw [e] at h1
  cases h1
theorem SX.late {B : List Addr} {H H' : Hp} {q : Addr} (s : SX B H H') (h : H q = none) (o : HO) : SX B H (L2.upd H' q o) := fun b u n e => by rw [upd_ne (ne_of_none e h)]; exact s b u n e
/-! ### the deck of digits and cells -/
def DkQ (H : Hp) (p l m : Addr) (a : Nat) : Prop := ∃ (a' : Nat) (xs ms : List Int), a' ≤ a ∧ H p = some (.lst [.ref l, .ref m, .int (a' : Nat)]) ∧ H l = some (.lst (xs.map V.int)) ∧ H m = some (.lst (ms.map V.int)) ∧ p ≠ l ∧ p ≠ m ∧ l ≠ m ∧ ms ≠ [] ∧ ∀ v ∈ ms, 0 ≤ v ∧ v < 2147483629
section
variable {H H' : Hp} {p l m q : Addr} {a b : Nat}
theorem DkQ.mono (d : DkQ H p l m a) (h : a ≤ b) : DkQ H p l m b := by
  obtain ⟨a', xs, ms, h1, r⟩ := d
  exact ⟨a', xs, ms, by omega, r⟩
theorem DkQ.same (d : DkQ H p l m a) (s : Same H H') : DkQ H' p l m a := by
  obtain ⟨a', xs, ms, h1, h2, h3, h4, r⟩ := d
  exact ⟨a', xs, ms, h1, s _ _ h2, s _ _ h3, s _ _ h4, r⟩
theorem DkQ.lsts (d : DkQ H p l m a) : Lsts [p, l] H := by
  obtain ⟨a', xs, ms, h1, h2, h3, h4, r⟩ := d
  intro b hb
  simp only [List.mem_cons, List.not_mem_nil, or_false] at hb
  rcases hb with rfl | rfl
  · exact ⟨_, h2⟩
  · exact ⟨_, h3⟩
theorem DkQ.ne (d : DkQ H p l m a) (h : H q = none) : q ∉ [p, l, m] := by
  obtain ⟨a', xs, ms, h1, h2, h3, h4, r⟩ := d
  simp only [List.mem_cons, List.not_mem_nil, or_false, not_or]
  exact ⟨fun e => (by rw [e, h2] at h; cases h), fun e => (by rw [e, h3] at h; cases h), fun e => (by rw [e, h4] at h; cases h)⟩
/-- another object is changed -/
theorem DkQ.set (d : DkQ H p l m a) (h : q ∉ [p, l, m]) (o : HO) : DkQ (upd H q o) p l m a := by
  obtain ⟨a', xs, ms, h1, h2, h3, h4, r⟩ := d
  simp only [List.mem_cons, List.not_mem_nil, or_false, not_or] at h
  exact ⟨a', xs, ms, h1, by rw [upd_ne (Ne.symm h.1)]; exact h2, by rw [upd_ne (Ne.symm h.2.1)]; exact h3, by rw [upd_ne (Ne.symm h.2.2)]; exact h4, r⟩
theorem ne2 (h : q ∉ [p, l, m]) : q ∉ [p, l] := by
  simp only [List.mem_cons, List.not_mem_nil, or_false, not_or] at h ⊢
  exact ⟨h.1, h.2.1⟩
/-- numbers away from the deck -/
def NsA (H : Hp) (p l q : Addr) (ss : List Int) : Prop := H q = some (.lst (ss.map V.int)) ∧ q ∉ [p, l] ∧ (∀ i ∈ ss, 0 ≤ i ∧ i ≤ 1000000000000000000000000) ∧ ss.length ≤ 1000
theorem NsA.sx {ss : List Int} (h : NsA H p l q ss) (s : SX [p, l] H H') : NsA H' p l q ss := ⟨s _ _ h.2.1 h.1, h.2⟩
end
/-- leaves that are written in few signs -/
def leafOk (x : V) : Bool := match x with
  | .non => true
  | .bl _ => true
  | .int i => decide (-1000000000000000000000000 ≤ i) && decide (i ≤ 1000000000000000000000000)
  | .str z => decide ((reprText z).length ≤ 2002)
  | _ => false
inductive LfOk : Dt → Prop
  | v {x : V} (h : leafOk x = true) : LfOk (.v x)
  | tup {ds : List Dt} (h : ∀ d ∈ ds, LfOk d) : LfOk (.tup ds)
theorem lf_u {ds : List Dt} (h : LfOk (.tup ds)) : ∀ d ∈ ds, LfOk d := by
  cases h with
  | tup h => exact h
theorem lf_i {i : Int} (h0 : -1000000000000000000000000 ≤ i) (h1 : i ≤ 1000000000000000000000000) : LfOk (.v (.int i)) := .v (by show (decide _ && decide _) = true; rw [decide_eq_true h0, decide_eq_true h1]; rfl)
theorem lf_s {z : Str} (hl : z.length ≤ 200) (hs : ∀ c ∈ tl z, c < 256) : LfOk (.v (.str z)) := .v (by
  have := StrLaws.reprText_len z fun c hc => Nat.lt_trans (hs c hc) (by decide)
  exact decide_eq_true (by omega))
end My
set_option Elab.async false
set_option linter.all false
set_option maxRecDepth 100000
set_option maxHeartbeats 4000000
/-! ### a, *b = e; del xs[:n]; d.get(k) of a written dict -/
namespace L2
open PySem PySem.Spec PySem.Calls PyProof.Rows
section
variable {prog : Program} {w : World} {A : Around} {E : Value → Shared → Prop} {s : Shared}
theorem star_after {I l : Addr} {items : Array Value} {i : Nat} {Q : List Value → Shared → Prop} {T : String} {St : Nat → Heap → Prop} {hp : Heap}
    (tn : T = "list_iterator" ∨ T = "tuple_iterator") (W : Walks prog w A.in1 I [I, l] [I] items.size (fun i v => items[i]? = some v) St) (hT : ∀ i (u : Shared), St i u.heap → u.TypeIs (.ref I) T)
    (hi : i ≤ items.size) (hz : items.size ≤ sizeLine) (st : St i hp) (hI : I < hp.objs.size) (hl : l < hp.objs.size)
    (hQ : ∀ (h' : Heap) (tk : Nat), (∀ b o, b ≠ I → hp.get? b = some o → h'.get? b = some o) → Q (items.toList.take i ++ [.ref h'.objs.size]) { s with heap := h'.push { cls := .type "list", data := .seq (items.toList.drop i).toArray }, toks := tk }) :
    wpAny (model prog w) A (do
      let rest ← holding (items.toList.take i) (collect (.ref I))
      let after := i + 1 - 1 - i
      if rest.length < after then
        rule "unpack.star.too-few"
        raiseError "ValueError" s!"not enough values to unpack (expected at least {i + 1 - 1}, got {i + rest.length})"
      let mid := rest.length - after
      return items.toList.take i ++ [← newList (rest.take mid)] ++ rest.drop mid) Q E { s with heap := hp } := by
  have tm : T = "str_ascii_iterator" ∨ T = "str_iterator" ∨ T = "list_iterator" ∨ T = "tuple_iterator" := .inr (.inr tn)
  refine wpAny_bind (wpAny_holding (PySem.W.kun_collect tm W hT hi st hI hl (fun h' tk hk => ?_) hz))
  have e0 : i + 1 - 1 - i = 0 := by omega
  simp only [e0, Nat.not_lt_zero, if_false, Nat.sub_zero, List.take_length, List.drop_length, List.append_nil]
  refine wpAny_bind ?_
  refine wpAny_newObj_type (wpAny_pure (hQ h' tk hk)) ?_
  show (items.toList.drop i).toArray.size ≤ sizeLine
  rw [List.size_toArray, List.length_drop, Array.length_toList]
  omega
theorem star_items {l : Addr} {items : Array Value} {i : Nat} {Q : List Value → Shared → Prop} (kind : s.heap.IsList l items ∨ IsTup s.heap l items) (hh : A.handled = none) (hi : i ≤ items.size) (hz : items.size ≤ sizeLine)
    (hQ : ∀ (h' : Heap) (tk : Nat), (∀ b o, s.heap.get? b = some o → h'.get? b = some o) → Q (items.toList.take i ++ [.ref h'.objs.size]) { s with heap := h'.push { cls := .type "list", data := .seq (items.toList.drop i).toArray }, toks := tk }) :
    wpAny (model prog w) A (unpackItems (.ref l) (i + 1) (some i)) Q E s := by
  have there : l < s.heap.objs.size := by
    rcases kind with ⟨o, ho, _⟩ | ⟨o, ho, _⟩ <;> exact Heap.lt_size ho
  have far : l ≠ s.heap.objs.size := Nat.ne_of_lt there
  have many : ¬ (items.toList.take i).length < i := by
    rw [List.length_take, Array.length_toList]
    omega
  unfold unpackItems notIterableAtAll
  rcases kind with isl | ist
  · refine wpAny_bind (wpAny_bind ?_)
    refine wpAny_specialOf isl.typeIs slot_list_iter.lookup (wpAny_pure ?_)
    simp only [Bool.false_eq_true, if_false]
    refine wpAny_bind (wpAny_holding (wpAny_pyIter_list isl ?_))
    refine wpAny_bind (wpAny_holding (PySem.W.kun_draw far i 0 _ _ ⟨_, Heap.get?_push_size _ rfl, rfl, rfl⟩ (isl.push _) (by omega) fun h1 it1 same1 => ?_))
    have ls1 : h1.IsList l items := Heap.IsList.extBut (isl.push _) same1.extBut far
    rw [List.drop_zero, if_neg many]
    rw [Nat.zero_add] at it1
    have z1 := it1
    have z2 := ls1
    obtain ⟨oi, hoi, _⟩ := z1
    obtain ⟨ol, hol, _⟩ := z2
    exact star_after (T := "list_iterator") (.inl rfl) (Walks.list (A := A.in1) hh s.heap.objs.size l far items) (fun j u st => st.1.typeIs) hi hz ⟨it1, ls1⟩ (Heap.lt_size hoi) (Heap.lt_size hol) fun h' tk hk => hQ h' tk fun b o e => hk b o (Nat.ne_of_lt (Heap.lt_size e)) (same1.extBut b o (Nat.ne_of_lt (Heap.lt_size e)) (Heap.get?_push_of_some _ e))
  · refine wpAny_bind (wpAny_bind ?_)
    refine wpAny_specialOf ist.typeIs slot_tuple_iter.lookup (wpAny_pure ?_)
    simp only [Bool.false_eq_true, if_false]
    refine wpAny_bind (wpAny_holding (iter_tuple ist ?_))
    refine wpAny_bind (wpAny_holding (draw_tuple far i 0 _ _ ⟨_, Heap.get?_push_size _ rfl, rfl, rfl⟩ (ist.push _) (by omega) fun h1 it1 same1 => ?_))
    have ls1 : IsTup h1 l items := IsTup.extBut (ist.push _) same1.extBut far
    rw [List.drop_zero, if_neg many]
    rw [Nat.zero_add] at it1
    have z1 := it1
    have z2 := ls1
    obtain ⟨oi, hoi, _⟩ := z1
    obtain ⟨ol, hol, _⟩ := z2
    exact star_after (T := "tuple_iterator") (.inr rfl) (Walks.tuple (A := A.in1) hh s.heap.objs.size l far items) (fun j u st => st.1.typeIs) hi hz ⟨it1, ls1⟩ (Heap.lt_size hoi) (Heap.lt_size hol) fun h' tk hk => hQ h' tk fun b o e => hk b o (Nat.ne_of_lt (Heap.lt_size e)) (same1.extBut b o (Nat.ne_of_lt (Heap.lt_size e)) (Heap.get?_push_of_some _ e))
end
section
variable {X : Cx} {pos : Pos}
/-- .., *b as the last of the targets: a new list -/
theorem pgs_star {e : Expr} {p : Pos} {t : TG} (h : PG X e t) (hs : (assignEach [.Starred e p] X.env).map (·.2) = [assign e X.env] := by rfl) : PGs X [.Starred e p] (gCons t gNil) := by
  refine ⟨fun pins s σ H vs us Q I r want => ?_⟩
  obtain ⟨v, vr, rfl, want⟩ := want
  cases r with
  | cons r rr =>
    rw [hs]
    refine assignInOrder_cons (thn (h.run pins s σ H _ _ _ I r want) fun _ s1 ⟨σ1, H1, I1, q1⟩ => ?_)
    obtain ⟨rfl, q1⟩ := q1
    cases rr
    exact assignInOrder_nil ⟨σ1, H1, I1, q1⟩
def gTupS (K : PySem.W.Frag) (i : Nat) (t : TGs) : TG := fun v σ H Q => ∃ a xs, v = .ref a ∧ (SqL K H a xs ∨ SqT K H a xs) ∧ i ≤ xs.length ∧ ∀ p, H p = none → t (xs.take i ++ [.ref p]) σ (upd H p (.lst (xs.drop i))) Q
theorem pg_tupS {es : List Expr} {k i : Nat} {t : TGs} (hc : X.calm = true) (h : PGs X es t) (hn : (assignEach es X.env).length = i + 1 := by rfl) (hst : (assignEach es X.env).findIdx? (·.1) = some i := by rfl) : PG X (.Tuple es k pos) (gTupS X.K i t) := by
  refine ⟨fun pins s σ H v u Q I r want => ?_⟩
  obtain ⟨a, xs, rfl, sq, hi, want⟩ := want
  cases r
  obtain ⟨its, rv, kind, hz⟩ : ∃ its : List Value, Vals xs its ∧ (s.heap.IsList a its.toArray ∨ IsTup s.heap a its.toArray) ∧ xs.length ≤ sizeLine := by
    rcases sq with sq | sq
    · obtain ⟨its, r, pl, z⟩ := I.list sq
      exact ⟨its, r, .inl pl.isList, z⟩
    · obtain ⟨its, r, pl, z⟩ := I.tuple sq
      exact ⟨its, r, .inr pl, z⟩
  have hl := rv.length
  rw [assign_Tuple]
  refine wpAny_bind (wpAny_standAt ?_)
  unfold unpack
  rw [hn, hst]
  refine wpAny_bind (wpAny_holding (star_items kind (I.ok.hd hc) (by rw [List.size_toArray]; omega) (by rw [List.size_toArray]; omega) fun h' tk keep => ?_))
  have I1 : Inv X pins σ H { s with heap := h', toks := tk } := I.kept (t' := tk) keep
  have fresh : H h'.objs.size = none := I1.hok.fresh (Nat.le_refl _)
  have I2 : Inv X pins σ (upd H h'.objs.size (.lst (xs.drop i))) { s with heap := h'.push { cls := .type "list", data := .seq (its.drop i).toArray }, toks := tk } := by
    refine I1.laid (t' := tk) (a := h'.objs.size) (o := .lst (xs.drop i)) (fun b o e => Heap.get?_push_of_some _ e) (Nat.le_refl _) ⟨?_, its.drop i, 0, rv.drop i, Heap.get?_push_size _ rfl⟩
    rw [List.length_drop]
    omega
  exact h.run pins _ σ _ (xs.take i ++ [.ref h'.objs.size]) _ Q I2 (Vals.append (rv.take i) (.cons (show RelV (.ref h'.objs.size) (.ref h'.objs.size) from rfl) .nil)) (want _ fresh)
end
end L2
namespace L2
open PySem PySem.Spec PySem.Calls PyProof.Rows
section
variable {X : Cx} {pos : Pos}
/-- (a, b, ..) = a list of that length -/
def gTupL (K : PySem.W.Frag) (n : Nat) (t : TGs) : TG := fun v σ H Q => ∃ a xs, v = .ref a ∧ SqL K H a xs ∧ xs.length = n ∧ t xs σ H Q
theorem pg_tupL {es : List Expr} {k n : Nat} {t : TGs} (hc : X.calm = true) (h : PGs X es t) (hn : (assignEach es X.env).length = n := by rfl) (hst : (assignEach es X.env).findIdx? (·.1) = none := by rfl) : PG X (.Tuple es k pos) (gTupL X.K n t) := by
  refine ⟨fun pins s σ H v u Q I r want => ?_⟩
  obtain ⟨a, xs, rfl, sq, hl, want⟩ := want
  cases r
  obtain ⟨its, rv, pl, hz⟩ := I.list sq
  have hlen := rv.length
  rw [assign_Tuple]
  refine wpAny_bind (wpAny_standAt ?_)
  unfold unpack
  rw [hn, hst, show n = its.toArray.size by rw [List.size_toArray]; omega]
  refine wpAny_bind (wpAny_holding (PySem.W.kun_itemsOf (I.ok.hd hc) pl.isList fun h' hx => ?_))
  have I1 : Inv X pins σ H { s with heap := h' } := I.kept (t' := s.toks) fun b o e => hx b o (Nat.ne_of_lt (Heap.lt_size e)) e
  exact h.run pins _ σ H xs _ Q I1 (by simpa using rv) want
end
/-! ### d.get(k) of a written dict -/
def tKGet (K : PySem.W.Frag) (w : World) (td ty : TE) : TE := fun σ H Q => td σ H fun x H1 => ∃ a, x = .ref a ∧ (∃ es n, K.lookup a = some ⟨.type "dict", none, .dict es n, #[]⟩) ∧ ty σ H1 fun y H2 => ∃ z v, y = .str z ∧ (a == sysModules) = false ∧ KDct K w a z v ∧ Q v H2
section
variable {X : Cx} {o e f : Expr} {apos cpos : Pos} {td ty tx : TE}
theorem pe_kget (ho : PE X o td) (he : PE X e ty) (m : M1 X o "get" apos e cpos) : PE X (.Call (.Attribute o "get" apos) [e] [] cpos) (tKGet X.K X.w td ty) := by
  refine ⟨fun pins s σ H Q I h => ?_⟩
  refine wpAny_Call_method m.base m.few m.line PySem.F.plainAttrs_dict PySem.F.slot_dict_get PySem.F.type_dict_get (thn (ho.run pins s σ H _ I h) fun u s1 got => ?_)
  obtain ⟨x, H1, I1, rx, a, rfl, ⟨es, n, lk⟩, q1⟩ := got
  obtain rfl : u = Value.ref a := rx
  have there := I1.kIn a _ lk
  refine ⟨⟨_, there, rfl⟩, ?_, ?_⟩
  · intro b eb
    cases eb
    exact ⟨_, there, rfl⟩
  rw [m.trees]
  refine Calls.callWith_builtin rfl (Calls.evalArgs_plain (Calls.spliced_cons (thn (he.run pins s1 σ H1 _ I1 q1) fun iv s2 got => Calls.spliced_nil ?_)))
  obtain ⟨y, H2, I2, ry, z, v, rfl, low, ⟨es2, n2, u2, lk2, lit, ns, ru⟩, q2⟩ := got
  obtain ⟨t, rfl⟩ := (show ∃ t, iv = Value.str z t from ry)
  have mp := PySem.W.mapOf_K (prog := X.prog) (w := X.w) I2.kIn lk2 lit
  have fnd := PySem.W.find_K lk2 ns
  refine call_meetsIn PySem.F.slot_dict_get mp.typeIs PySem.F.entry_dict_get (PySem.F.args_dict_get_2 _ _) (meets_dict_get (strKind X.prog X.w) a (strKind_is X.prog X.w z t) low) ⟨_, mp, ?_⟩
  rw [fnd]
  exact ⟨v, H2, I2.tok _, ru, q2⟩
end
end L2
set_option Elab.async false
set_option linter.all false
set_option maxRecDepth 100000
set_option maxHeartbeats 4000000
namespace L2
open PySem PySem.Spec PyProof.Rows
theorem fm_drop {α : Type} {p : Nat → Bool} {c : Nat} (hp : ∀ k, p k = decide (k < c)) : ∀ (l : List α) (o : Nat), (l.zipIdx o).filterMap (fun z => if p z.2 = true then none else some z.1) = l.drop (c - o)
  | [], o => by simp
  | a :: l, o => by
    have ih := fm_drop hp l (o + 1)
    rw [List.zipIdx_cons, List.filterMap_cons]
    by_cases h : o < c
    · have e : p o = true := by rw [hp]; exact decide_eq_true h
      simp only [e, if_true]
      rw [ih, show c - o = (c - (o + 1)) + 1 by omega, List.drop_succ_cons]
    · have e : p o = false := by rw [hp]; exact decide_eq_false h
      simp only [e, Bool.false_eq_true, if_false]
      rw [ih, show c - o = 0 by omega, show c - (o + 1) = 0 by omega]
      rfl
def cutPre (c : Nat) (xs : Array Value) : Array Value := (xs.toList.zipIdx.filterMap fun z => if (decide ((0 : Int) ≤ (z.2 : Int)) && decide ((z.2 : Int) < (c : Int)) && (((z.2 : Int) - 0) % 1 == 0)) = true then none else some z.1).toArray
theorem key {c : Nat} (xs : Array Value) : cutPre c xs = (xs.toList.drop c).toArray := by
  have hp : ∀ k : Nat, (decide ((0 : Int) ≤ (k : Int)) && decide ((k : Int) < (c : Int)) && (((k : Int) - 0) % 1 == 0)) = decide (k < c) := fun k => by
    have e1 : decide ((0 : Int) ≤ (k : Int)) = true := decide_eq_true (by omega)
    have e2 : ((((k : Int) - 0) % 1 == 0)) = true := by simp [Int.emod_one]
    rw [e1, e2, Bool.true_and, Bool.and_true, Bool.eq_iff_iff, decide_eq_true_eq, decide_eq_true_eq]
    omega
  unfold cutPre
  rw [fm_drop (p := fun k => (decide ((0 : Int) ≤ (k : Int)) && decide ((k : Int) < (c : Int)) && (((k : Int) - 0) % 1 == 0))) hp]
  rfl
section
variable {prog : Program} {w : World} {A : Around} {E : Value → Shared → Prop} {s : Shared}
theorem bounds_pre {c n : Nat} (hc : c ≤ n) : sliceBounds none (some (c : Int)) none n = (0, (c : Int), 1) := by
  unfold sliceBounds
  have h2 : ¬ ((c : Int) < 0) := by omega
  simp only [Option.getD_none, h2, if_false, show (1 : Int) > 0 by decide, if_true]
  congr 2
  omega
theorem delItem_pre {l sl : Addr} {items : Array Value} {n : Nat} {vl vu : Value} {c : Nat} {Q : Unit → Shared → Prop} (at_ : s.heap.get? l = some { cls := .type "list", data := .seq items n })
    (hs : s.heap.IsSliceOf sl vl vu .none) (pl : IsPart vl none) (pu : IsPart vu (some (c : Int))) (hc : c ≤ items.size) (hsz : items.size ≤ sizeLine)
    (h : ∀ f : Array Value → Array Value, f items = (items.toList.drop c).toArray → Q () { s with heap := s.heap.update l (Obj.mapSeq f) }) : wpAny (model prog w) A (delItem (.ref l) (.ref sl)) Q E s := by
  have isl : s.heap.IsList l items := PySem.IsL.isList at_
  obtain ⟨os, hos, hcs, hds⟩ := id hs
  have tsl : s.TypeIs (.ref sl) "slice" := ⟨os, hos, hcs⟩
  refine wpAny_delItem_slot isl.typeIs (by decide) PySem.F.slot_list_delitem ?_
  refine wpAny_call_entry PySem.F.slot_list_delitem isl.typeIs PySem.F.entry_list_delitem ?_ (PySem.F.args_list_delitem_2 _ _)
  show wpAny _ _ (Builtin.List.listSubscript? (.ref sl) >>= _) _ _ s
  refine wpAny_bind ?_
  unfold Builtin.List.listSubscript?
  refine wpAny_bind (wpAny_specialOf tsl slice_no_index ?_)
  simp only [Option.isNone_none, if_true]
  refine wpAny_pure ?_
  show wpAny _ _ (typeOf (.ref sl) >>= _) _ _ s
  refine wpAny_bind (wpAny_typeOf tsl ?_)
  first
    | rw [if_neg (by decide)]
    | refine PySem.W.KFB.if_not (by decide) ?_
  rw [listSliceParts_eq]
  refine wpAny_bind (wpAny_bind (wpAny_field hos hds (x := .none) rfl (wpAny_bind (wpAny_listPart .none ?_))))
  rw [if_neg (show ¬ ((rawPart none == rawInt 0) = true) from Bool.false_ne_true)]
  refine wpAny_bind (wpAny_field hos hds (x := vl) rfl (wpAny_bind (wpAny_listPart pl ?_)))
  refine wpAny_bind (wpAny_field hos hds (x := vu) rfl (wpAny_bind (wpAny_listPart pu (wpAny_pure ?_))))
  refine wpAny_bind (m := Builtin.List.listItems (.ref l)) ?_
  unfold Builtin.List.listItems
  refine wpAny_bind (wpAny_seqItems at_ rfl (wpAny_pure ?_))
  refine wpAny_bind (wpAny_of_eq ((sliceIndices_raw none (some (c : Int)) none items.size (by simp)).trans (congrArg (pure : Int × Int × Int → Sem (Int × Int × Int)) (bounds_pre hc))) ?_)
  refine wpAny_bind (wpAny_rule ?_)
  refine wpAny_bind (m := updateSeq l (cutPre c)) ?_
  refine wpAny_updateSeq (hz := hsz) (_hz' := ?_) at_ rfl ?_
  · refine wpAny_bind (wpAny_letGo ?_)
    have fin := h (cutPre c) (key items)
    exact wpAny_pure ⟨.none, rfl, fin⟩
  · show (cutPre c items).size ≤ sizeLine + 1
    rw [key items, List.size_toArray, List.length_drop, Array.length_toList]
    omega
end
section
variable {X : Cx} {pos : Pos}
/-- del xs[:n] of a list -/
def tDelPre (to tn : TE) : TS := fun D σ H => to σ H fun x H1 => tPart tn σ H1 fun y H2 => ∃ (l : Addr) (xs : List V) (c : Nat), x = .ref l ∧ y = some (c : Int) ∧ H2 l = some (.lst xs) ∧ c ≤ xs.length ∧ D.nx σ (upd H2 l (.lst (xs.drop c)))
theorem ps_delPre {o e : Expr} {to tn : TE} {p2 tpos : Pos} (ho : PE X o to) (he : PE X e tn) : PS X (.Delete [.Subscript o (.Slice none (some e) none p2) tpos] pos) (tDelPre to tn) := by
  refine ⟨fun pins s σ H D I want => ?_⟩
  refine wpAny_Delete (wpAny_deleteEach_cons (wpAny_delete_Subscript (thn (ho.run pins s σ H _ I want) fun u s1 ⟨x, H1, I1, rx, q1⟩ => ?_)))
  refine wpAny_Slice ?_
  rw [evalPart_none]
  refine wpAny_pure ?_
  refine thn ((po_some he).run pins s1 σ H1 _ I1 q1) fun vu s3 got => ?_
  obtain ⟨ou, H3, I3, pu, l, xs, c, rfl, rfl, hH, hc, q3⟩ := got
  obtain rfl : u = Value.ref l := rx
  refine wpAny_pure ?_
  have I4 : Inv X pins σ H3 { s3 with heap := s3.heap.push { cls := .type "slice", data := .fields #[.none, vu, .none] } } := I3.kept (t' := s3.toks) fun b ob q => Heap.get?_push_of_some _ q
  obtain ⟨z, its, n, r, hl, e⟩ := I4.lstM hH
  refine delItem_pre (c := c) e (Heap.IsSliceOf.new ..) .none pu (by rw [List.size_toArray]; omega) (by rw [List.size_toArray]; omega) fun f hf => wpAny_deleteEach_nil ⟨σ, _, ?_, q3⟩
  exact I4.lset (its' := its.drop c) (t' := s3.toks) hH e hf (r.drop c) (by rw [List.length_drop]; omega)
end
end L2
set_option Elab.async false
set_option linter.all false
set_option maxRecDepth 100000
set_option maxHeartbeats 4000000
namespace L2
open PySem PySem.Spec PyProof.Rows
/-- what str() makes of a plain worth but a truth -/
def strV : V → Str
  | .str z => z
  | .int i => Str.ofString (toString i)
  | .bl b => if b = true then Str.ofString "True" else Str.ofString "False"
  | _ => Str.ofString "None"
theorem call_strA {X : Cx} : CallR X (.type "str") (fun xs H Q => ∃ v, xs = [v] ∧ My.Pln v ∧ (∀ i, v = .int i → i.natAbs.log2 < 1920) ∧ Q (.str (strV v)) H) := by
  intro pins s σ H xs us Q I r h
  obtain ⟨v, rfl, hp, hi, q⟩ := h
  obtain ⟨u, rfl, rx⟩ := vals1 r
  cases hp with
  | int i =>
    obtain ⟨t, rfl⟩ := rx
    exact PySem.P.str_of_int (hi i rfl) ⟨.str _, H, I.tok _, ⟨_, rfl⟩, q⟩
  | str z =>
    obtain ⟨t, rfl⟩ := rx
    exact PySem.P.str_of_str ⟨.str _, H, I, ⟨_, rfl⟩, q⟩
  | bl b =>
    cases rx
    refine PySem.P.str_of_bool ⟨.str (if b = true then Str.ofString "True" else Str.ofString "False"), H, I.tok _, ⟨_, rfl⟩, q⟩
  | non =>
    cases rx
    exact PySem.P.str_of_none ⟨.str _, H, I.tok _, ⟨_, rfl⟩, q⟩
end L2
namespace My
open PySem L2 SS
/-! ### texts in the calculus of data; defs by a relation -/
abbrev tS (z : Str) : Dt := .v (.str z)
/-- a def that only tells: data to data -/
def spR (m k : Nat) (R : List Dt → Dt → Prop) : Sp := fun vs H Q _ => ∃ ds d, All2 (AtD H m) ds vs ∧ R ds d ∧ ∀ v' H', Same H H' → AtD H' k d v' → Q v' H'
section
variable {σ : L2.St} {H : Hp} {n m k : Nat} {d e : Dt} {ds es : List Dt} {te tb tl : TE} {ta : TA} {tt : TT} {ts tz : TS} {K : PySem.W.Frag} {a b c : Bool}
theorem evd_r {R : List Dt → Dt → Prop} {E : XK} (h : EvDs ta σ H m ds) (hr : R ds d) : EvD (tCall (spR m k R) [] E ta) σ H k d := fun H1 s1 Q q => h H1 s1 _ fun vs H2 s2 r => ⟨ds, d, by rw [List.append_nil]; exact r, hr, fun v' H3 s3 r' => q _ H3 (s2.trans s3) r'⟩
theorem evd_to (h : EvD te σ H n d) (e1 : d = e) : EvD te σ H n e := e1 ▸ h
theorem EvDs.lv (h : EvDs ta σ H n ds) (hm : n ≤ m) : EvDs ta σ H m ds := fun H1 s1 Q q => h H1 s1 Q fun v H2 s2 r => q v H2 s2 (r.imp fun _ _ => AtD.mono hm)
theorem evds_starL (h : EvD te σ H (n + 1) (.lst ds)) (k : EvDs ta σ H n es) : EvDs (StX.tStar K te ta) σ H n (ds ++ es) := fun H1 s1 Q q => h H1 s1 _ fun v H2 s2 r => by
  obtain ⟨p, us, rfl, hp, _, al⟩ := r
  exact ⟨p, us, rfl, .inr (SqL.of hp), k H2 (s1.trans s2) _ fun vs H3 s3 r' => q _ H3 (s2.trans s3) ((al.same s3).app r')⟩
theorem evd_addS {x y : Str} (h : EvD te σ H n (.v (.str x))) (k : EvD tb σ H n (.v (.str y))) (hz : (x ++ y).length ≤ 100000) : EvD (tOp (fun x y H Q => ∃ i j, x = .str i ∧ y = .str j ∧ i.length + j.length ≤ sizeLine ∧ Q (.str (i ++ j)) H) te tb) σ H n (.v (.str (x ++ y))) := evd_op h k (fun H Q q => ⟨_, _, rfl, rfl, by rw [sizeLine_eq]; have : x.length + y.length = (x ++ y).length := (Str.length_append x y).symm; omega, q⟩) (.str _)
theorem all2_strs {H : Hp} {n : Nat} : ∀ {zs : List Str} {us : List V}, All2 (AtD H n) (zs.map tS) us → us = zs.map V.str
  | [], us, h => all2_n h
  | z :: zs, us, h => by
    obtain ⟨b, cs, rfl, r1, h⟩ := all2_c h
    rw [all2_strs h, (atD_pl r1).1]
    rfl
theorem strs_all2 {H : Hp} {n : Nat} : ∀ (zs : List Str), All2 (AtD H n) (zs.map tS) (zs.map V.str)
  | [] => .nil
  | z :: zs => .cons (atD_v (.str z)) (strs_all2 zs)
theorem evd_join {s : Str} {zs : List Str} (h : EvD te σ H (n + 1) (.v (.str s))) (k : EvD tb σ H (n + 1) (.lst (zs.map tS))) (hz : (zs.map (·.length)).sum + zs.length * s.length ≤ 1000000) : EvD (tM1 (fun x xs H Q => ∃ a p, ∃ ys : List Str, x = .str a ∧ xs = [.ref p] ∧ (SqL K H p (ys.map V.str) ∨ SqT K H p (ys.map V.str)) ∧ (ys.map (·.length)).sum + ys.length * a.length ≤ 16777216 ∧ Q (.str (Txt.join a ys)) H) te tb) σ H m (.v (.str (Txt.join s zs))) := fun H1 s1 Q q => h H1 s1 _ fun v H2 s2 r => by
  obtain ⟨rfl, _⟩ := atD_pl r
  refine ⟨⟨_, rfl⟩, k H2 (s1.trans s2) _ fun w H3 s3 r' => ?_⟩
  obtain ⟨p, us, rfl, hp, _, al⟩ := r'
  rw [all2_strs al] at hp
  exact ⟨s, p, zs, rfl, rfl, .inl (SqL.of hp), by omega, q _ H3 (s2.trans s3) (atD_v (.str _))⟩
theorem evd_split {x s : Str} (h : EvD te σ H (n + 1) (.v (.str x))) (k : EvD tb σ H (n + 1) (.v (.str s))) (h0 : (s.length == 0) = false) (hz : x.length ≤ 50000) : EvD (tM1 (fun x xs H Q => ∃ a b, x = .str a ∧ xs = [.str b] ∧ (b.length == 0) = false ∧ a.length + 2 ≤ sizeLine ∧ rNewStrs (Txt.split a b) H Q) te tb) σ H (n + 1) (.lst ((Txt.split x s).map tS)) := fun H1 s1 Q q => h H1 s1 _ fun v H2 s2 r => by
  obtain ⟨rfl, _⟩ := atD_pl r
  refine ⟨⟨_, rfl⟩, k H2 (s1.trans s2) _ fun w H3 s3 r' => ?_⟩
  obtain ⟨rfl, _⟩ := atD_pl r'
  refine ⟨x, s, rfl, rfl, h0, by rw [sizeLine_eq]; omega, fun p hp => ?_⟩
  have s4 := same_new hp (.lst ((Txt.split x s).map V.str))
  have le := PyProof.Rows.split_le x s
  exact q _ _ (s2.trans (s3.trans s4)) ⟨p, _, rfl, upd_same, by rw [List.length_map]; omega, strs_all2 _⟩
theorem evd_part {x s : Str} {x1 x2 x3 : Str} (h : EvD te σ H (n + 1) (.v (.str x))) (k : EvD tb σ H (n + 1) (.v (.str s))) (h0 : (s.length == 0) = false) (hz : x.length ≤ 100000) (e : Txt.partition x s = (x1, x2, x3)) : EvD (tM1 (fun x xs H Q => ∃ a b, x = .str a ∧ xs = [.str b] ∧ (b.length == 0) = false ∧ a.length ≤ sizeLine ∧ ∀ p, H p = none → Q (.ref p) (upd H p (.tup [.str (Txt.partition a b).1, .str (Txt.partition a b).2.1, .str (Txt.partition a b).2.2]))) te tb) σ H (n + 1) (.tup [tS x1, tS x2, tS x3]) := fun H1 s1 Q q => h H1 s1 _ fun v H2 s2 r => by
  obtain ⟨rfl, _⟩ := atD_pl r
  refine ⟨⟨_, rfl⟩, k H2 (s1.trans s2) _ fun w H3 s3 r' => ?_⟩
  obtain ⟨rfl, _⟩ := atD_pl r'
  refine ⟨x, s, rfl, rfl, h0, by rw [sizeLine_eq]; omega, fun p hp => ?_⟩
  rw [e]
  exact q _ _ (s2.trans (s3.trans (same_new hp _))) ⟨p, _, rfl, .inl upd_same, Nat.le_of_ble_eq_true rfl, .cons (atD_v (.str _)) (.cons (atD_v (.str _)) (.cons (atD_v (.str _)) .nil))⟩
theorem evd_m1b {g : Str → Str → Bool} {x s : Str} (h : EvD te σ H n (.v (.str x))) (k : EvD tb σ H n (.v (.str s))) : EvD (tM1 (fun x xs H Q => ∃ a b, x = .str a ∧ xs = [.str b] ∧ Q (.bl (g a b)) H) te tb) σ H m (.v (.bl (g x s))) := fun H1 s1 Q q => h H1 s1 _ fun v H2 s2 r => by
  obtain ⟨rfl, _⟩ := atD_pl r
  refine ⟨⟨_, rfl⟩, k H2 (s1.trans s2) _ fun w H3 s3 r' => ?_⟩
  obtain ⟨rfl, _⟩ := atD_pl r'
  exact ⟨x, s, rfl, rfl, q _ H3 (s2.trans s3) (atD_v (.bl _))⟩
theorem evd_slS {x : Str} {tl th : TO} {lo hi : Option Int} (h : EvD te σ H n (.v (.str x))) (hl : EvO tl σ H lo) (hh : EvO th σ H hi) (hz : x.length ≤ 100000) : EvD (tSl rSlS te tl th) σ H n (.v (.str (cutS x lo hi))) := fun H1 s1 Q q => h H1 s1 _ fun v H2 s2 r => hl H2 (s1.trans s2) _ fun H3 s3 => hh H3 (s1.trans (s2.trans s3)) _ fun H4 s4 => by
  obtain ⟨rfl, _⟩ := atD_pl r
  exact ⟨x, rfl, by rw [sizeLine_eq]; omega, q _ H4 (s2.trans (s3.trans s4)) (atD_v (.str _))⟩
/-! f-strings: parts that are texts -/
def EvJ (ts : List TE) (σ : L2.St) (H : Hp) (zs : List Str) : Prop := ∀ acc H1, Same H H1 → ∀ Q : Str → Hp → Prop, acc.length + ((zs.map (·.length)).sum) ≤ 100000 → (∀ H2, Same H1 H2 → Q (zs.foldl (· ++ ·) acc) H2) → tJs ts acc σ H1 Q
theorem evj_nil : EvJ [] σ H [] := fun acc H1 s1 Q hz q => q H1 (Same.refl _)
theorem evj_cons {z : Str} {zs : List Str} {us : List TE} (h : EvD te σ H 0 (.v (.str z))) (k : EvJ us σ H zs) : EvJ (te :: us) σ H (z :: zs) := fun acc H1 s1 Q hz q => h H1 s1 _ fun v H2 s2 r => by
  obtain ⟨rfl, _⟩ := atD_pl r
  rw [List.map_cons, List.sum_cons] at hz
  have e : (acc ++ z).length = acc.length + z.length := Str.length_append acc z
  exact ⟨z, rfl, by rw [sizeLine_eq]; omega, k (acc ++ z) H2 (s1.trans s2) Q (by omega) fun H3 s3 => q H3 (s2.trans s3)⟩
theorem evd_fmtS {z : Str} (h : EvD te σ H n (.v (.str z))) (hz : z.length ≤ 100000) : EvD (tFmt te) σ H 0 (.v (.str z)) := fun H1 s1 Q q => h H1 s1 _ fun v H2 s2 r => by
  obtain ⟨rfl, _⟩ := atD_pl r
  exact .inl ⟨z, rfl, by rw [sizeLine_eq]; omega, q _ H2 s2 (atD_v (.str _))⟩
theorem evd_joined {us : List TE} {zs : List Str} (h : EvJ us σ H zs) (hz : (zs.map (·.length)).sum ≤ 100000) : EvD (fun σ H Q => tJs us Str.empty σ H fun out H1 => Q (.str out) H1) σ H n (.v (.str (zs.foldl (· ++ ·) Str.empty))) := fun H1 s1 Q q => h Str.empty H1 s1 _ (by show 0 + _ ≤ _; omega) fun H2 s2 => q _ H2 s2 (atD_v (.str _))
/-! targets -/
/-- a, .., *b -/
theorem evr_star {i : Nat} {gs : TGs} {us : List Dt} (h : EvD te σ H (m + 1) (.lst us) ∨ EvD te σ H (m + 1) (.tup us)) (hi : i ≤ us.length) (k : ∀ vs p H1, Same H H1 → vs.length = i → All2 (AtD H1 m) (us.take i) vs → AtD H1 (m + 1) (.lst (us.drop i)) (.ref p) → ∀ D, (∀ v H2, Same H1 H2 → AtD H2 n d v → D.rt v H2) → gs (vs ++ [.ref p]) σ H1 fun σ' H' => tz D σ' H') : EvR (tSeq (tAsg te (gTupS K i gs)) tz) σ H n d := by
  have go : ∀ (H1 : Hp), Same H H1 → ∀ D : Ends, (∀ v H2, Same H1 H2 → AtD H2 n d v → D.rt v H2) → ∀ a vs H2, Same H1 H2 → (H2 a = some (.lst vs) ∨ TupA H2 a vs) → us.length ≤ 100000 → All2 (AtD H2 m) us vs → gTupS K i gs (.ref a) σ H2 fun σ' H' => tz D σ' H' := fun H1 s1 D q a vs H2 s2 hs hl al => by
    refine ⟨a, vs, rfl, hs.elim (fun h => .inl (SqL.of h)) (fun h => .inr (TupA.sq h)), by rw [← al.len]; exact hi, fun p hp => ?_⟩
    have s3 := same_new hp (.lst (vs.drop i))
    have al3 := al.same s3
    refine k (vs.take i) p _ (s1.trans (s2.trans s3)) (by rw [List.length_take, ← al.len]; omega) (al3.take i) ⟨p, _, rfl, upd_same, by rw [List.length_drop]; omega, al3.drop i⟩ D fun v H4 s4 => q v H4 (s2.trans (s3.trans s4))
  rcases h with h | h
  · exact fun H1 s1 D q => h H1 s1 _ fun v H2 s2 r => by
      obtain ⟨a, vs, rfl, hv, hl, al⟩ := r
      exact go H1 s1 D q a vs H2 s2 (.inl hv) hl al
  · exact fun H1 s1 D q => h H1 s1 _ fun v H2 s2 r => by
      obtain ⟨a, vs, rfl, hv, hl, al⟩ := r
      exact go H1 s1 D q a vs H2 s2 (.inr hv) hl al
/-- a, b, .. = a list or a tuple -/
theorem evr_unL {i : Nat} {gs : TGs} {us : List Dt} (h : EvD te σ H (m + 1) (.lst us)) (hi : us.length = i) (k : ∀ vs H1, Same H H1 → All2 (AtD H1 m) us vs → ∀ D, (∀ v H2, Same H1 H2 → AtD H2 n d v → D.rt v H2) → gs vs σ H1 fun σ' H' => tz D σ' H') : EvR (tSeq (tAsg te (gTupL K i gs)) tz) σ H n d := fun H1 s1 D q => h H1 s1 _ fun v H2 s2 r => by
  obtain ⟨a, vs, rfl, hv, hl, al⟩ := r
  exact ⟨a, vs, rfl, SqL.of hv, by rw [← al.len]; exact hi, k vs H2 (s1.trans s2) al D fun v H3 s3 => q v H3 (s2.trans s3)⟩
theorem evr_unT {i : Nat} {gs : TGs} {us : List Dt} (h : EvD te σ H (m + 1) (.tup us)) (hi : us.length = i) (k : ∀ vs H1, Same H H1 → All2 (AtD H1 m) us vs → ∀ D, (∀ v H2, Same H1 H2 → AtD H2 n d v → D.rt v H2) → gs vs σ H1 fun σ' H' => tz D σ' H') : EvR (tSeq (tAsg te (gTup K i gs)) tz) σ H n d := fun H1 s1 D q => h H1 s1 _ fun v H2 s2 r => by
  obtain ⟨a, vs, rfl, hv, hl, al⟩ := r
  exact ⟨a, vs, rfl, TupA.sq hv, by rw [← al.len]; exact hi, k vs H2 (s1.trans s2) al D fun v H3 s3 => q v H3 (s2.trans s3)⟩
theorem EvR.run {D : Ends} (h : EvR ts σ H n d) (q : ∀ v H2, Same H H2 → AtD H2 n d v → D.rt v H2) : ts D σ H := h H (Same.refl _) D q
/-- if whose two ways both answer, one of them known -/
theorem evr_ifT (h : EvT tt σ H true) (k : EvR ts σ H n d) : EvR (tSeq (tIfS tt ts tNext) tz) σ H n d := evr_if h (fun _ => k) fun z => (by cases z)
theorem evr_ifF (h : EvT tt σ H false) (k : EvR tz σ H n d) : EvR (tSeq (tIfS tt ts tNext) tz) σ H n d := evr_if h (fun z => (by cases z)) fun _ => k
theorem evt_lenL (h : EvD te σ H (n + 1) (.lst ds)) : EvT (fun σ H Q => te σ H fun x H' => ∃ k, TruV K x H' k ∧ Q k H') σ H (!ds.isEmpty) := fun H1 s1 Q q => h H1 s1 _ fun v H2 s2 r => by
  obtain ⟨p, us, rfl, hp, _, al⟩ := r
  have e : us.isEmpty = ds.isEmpty := by cases al <;> rfl
  exact ⟨_, .inl ⟨us, SqL.of hp, by rw [e]⟩, q H2 s2⟩
theorem evt_strT {z : Str} (h : EvD te σ H n (.v (.str z))) (hz : z.length ≤ 100000) : EvT (fun σ H Q => te σ H fun x H' => ∃ k, TruV K x H' k ∧ Q k H') σ H (((z.length : Nat) : Int) != 0) := fun H1 s1 Q q => h H1 s1 _ fun v H2 s2 r => by
  obtain ⟨rfl, _⟩ := atD_pl r
  exact ⟨_, ⟨by rw [sizeLine_eq]; omega, rfl⟩, q H2 s2⟩
end
end My
set_option Elab.async false
set_option linter.all false
set_option maxRecDepth 100000
set_option maxHeartbeats 4000000
namespace My
open PySem L2 SS
/-! ### deeds, their words and rows -/
def isPage (l : T) : Bool := isName l SMALL SMALL
def isMsgD (l : T) : Bool := isFree l || L_MESSAGE_MARKS.any fun k => k == mk l
inductive Dd
  | begin (k : Option Str) (m : Str) (ws : List V)
  | run (n : Nat) (ms : List (Str × Nat))
  | again (k : Nat)
  | name (k : Nat) (n : Str) (v : V)
  | gone (k m : Str)
  | field (k n : Str) (v : V)
  | lost (k n : Str)
  | under (k j : Str)
  | load (p t : Str)
  | sweep
  | forget
def okV : V → Bool
  | .int i => decide (-1000000000000 < i) && decide (i < 1000000000000)
  | .str z => isText (tl z)
  | .bl _ => true
  | .non => true
  | _ => false
def Dd.ok : Dd → Prop
  | .begin k m ws => (∀ z, k = some z → isKindName (tl z) = true) ∧ isMsgD (tl m) = true ∧ (∀ v ∈ ws, okV v = true) ∧ ws.length ≤ 5
  | .run n ms => n ≤ 2000 ∧ (∀ q ∈ ms, isPage (tl q.1) = true ∧ 1 ≤ q.2 ∧ q.2 ≤ 300) ∧ ms.length ≤ 3
  | .again k => k ≤ 100000000000
  | .name k n v => k ≤ 100000000000 ∧ isFree (tl n) = true ∧ okV v = true
  | .gone k m => isKindName (tl k) = true ∧ isMsgD (tl m) = true
  | .field k n v => isKindName (tl k) = true ∧ isFree (tl n) = true ∧ okV v = true
  | .lost k n => isKindName (tl k) = true ∧ isFree (tl n) = true
  | .under k j => isKindName (tl k) = true ∧ isKindName (tl j) = true
  | .load p t => isPage (tl p) = true ∧ t.length ≤ 150 ∧ ∀ c ∈ tl t, c < 256
  | _ => True
/-! as data -/
abbrev kS (s : String) : Dt := tS (Str.ofString s)
abbrev dNat (n : Nat) : Dt := .v (.int ((n : Nat) : Int))
def optS : Option Str → V
  | none => .non
  | some z => .str z
def dMark (q : Str × Nat) : Dt := .tup [tS q.1, dNat q.2]
def Dd.hd : Dd → String
  | .begin .. => "begin"
  | .run .. => "run"
  | .again .. => "again"
  | .name .. => "name"
  | .gone .. => "gone"
  | .field .. => "field"
  | .lost .. => "lost"
  | .under .. => "under"
  | .load .. => "load"
  | .sweep => "sweep"
  | .forget => "forget"
def Dd.rest : Dd → List Dt
  | .begin k m ws => [.v (optS k), tS m, .tup (ws.map .v)]
  | .run n ms => [dNat n, .tup (ms.map dMark)]
  | .again k => [dNat k]
  | .name k n v => [dNat k, tS n, .v v]
  | .gone k m => [tS k, tS m]
  | .field k n v => [tS k, tS n, .v v]
  | .lost k n => [tS k, tS n]
  | .under k j => [tS k, tS j]
  | .load p t => [tS p, tS t]
  | .sweep => []
  | .forget => []
def Dd.dt (d : Dd) : Dt := .tup (kS d.hd :: d.rest)
/-! its words -/
def numS (n : Nat) : Str := Str.ofString (toString ((n : Nat) : Int))
def wordV : V → Str
  | .str z => mk (39 :: tl z)
  | .int i => Str.ofString (toString i)
  | .bl b => if b = true then Str.ofString "true" else Str.ofString "false"
  | _ => Str.ofString "none"
def wordM (q : Str × Nat) : Str := q.1 ++ Str.ofString ":" ++ numS q.2
def Dd.ws : Dd → List Str
  | .begin k m ws => k.getD (Str.ofString "-") :: m :: ws.map wordV
  | .run n ms => numS n :: ms.map wordM
  | .again k => [numS k]
  | .name k n v => [numS k, n, wordV v]
  | .gone k m => [k, m]
  | .field k n v => [k, n, wordV v]
  | .lost k n => [k, n]
  | .under k j => [k, j]
  | .load p _ => [p]
  | .sweep => []
  | .forget => []
def Dd.row (d : Dd) : Str := Txt.join (Str.ofString " ") (Str.ofString d.hd :: d.ws)
def blankS (r : Str) : Str := mk (32 :: tl r)
def Dd.more : Dd → List Str
  | .load _ t => (Txt.split t nl).map blankS
  | _ => []
def Dd.rows (d : Dd) : List Str := d.row :: d.more
def flatT (rs : List Str) : T := (rs.map fun r => tl r ++ [10]).flatten
def flatS (rs : List Str) : Str := mk (flatT rs)
/-! ### facts of words -/
theorem only_mem {l S : T} (h : hasOnly l S = true) {c : Nat} (hc : c ∈ l) : c ∈ S := of_decide_eq_true (List.all_eq_true.mp h c hc)
theorem name_only {l f S : T} (h : isName l f S = true) : hasOnly l S = true ∧ l.length ≤ 12 ∧ 1 ≤ l.length ∧ l.getD 0 0 ∈ f := by
  unfold isName at h
  rw [Bool.and_eq_true, Bool.and_eq_true] at h
  have h1 := of_decide_eq_true h.1
  exact ⟨h.2.2, h1.2, h1.1, of_decide_eq_true h.2.1⟩
/-- a word: few signs, no blank, no row's end, none of 256 on, and no quote ahead -/
structure Wd (z : Str) : Prop where
  len : z.length ≤ 41
  b : 32 ∉ tl z
  r : 10 ∉ tl z
  s : ∀ c ∈ tl z, c < 256
theorem wd_only {z : Str} {S : T} (h : hasOnly (tl z) S = true) (hl : z.length ≤ 41) (h1 : 32 ∉ S) (h2 : 10 ∉ S) (h3 : ∀ c ∈ S, c < 256) : Wd z :=
  ⟨hl, fun c => h1 (only_mem h c), fun c => h2 (only_mem h c), fun c hc => h3 c (only_mem h hc)⟩
theorem wd_kind {z : Str} (h : isKindName (tl z) = true) : Wd z := by
  obtain ⟨h1, h2, _⟩ := name_only h
  rw [len_tl] at h2
  exact wd_only h1 (by omega) (by decide +kernel) (by decide +kernel) (by decide +kernel)
theorem wd_small {z : Str} (h : isSmall (tl z) = true) : Wd z := by
  obtain ⟨h1, h2, _⟩ := name_only h
  rw [len_tl] at h2
  exact wd_only h1 (by omega) (by decide +kernel) (by decide +kernel) (by decide +kernel)
theorem wd_page {z : Str} (h : isPage (tl z) = true) : Wd z := by
  obtain ⟨h1, h2, _⟩ := name_only h
  rw [len_tl] at h2
  exact wd_only h1 (by omega) (by decide +kernel) (by decide +kernel) (by decide +kernel)
theorem free_small {l : T} (h : isFree l = true) : isSmall l = true := (Bool.and_eq_true _ _ ▸ (show (isSmall l && _) = true from h)).1
theorem wd_free {z : Str} (h : isFree (tl z) = true) : Wd z := wd_small (free_small h)
theorem wd_msg {z : Str} (h : isMsgD (tl z) = true) : Wd z := by
  unfold isMsgD at h
  rcases Bool.or_eq_true _ _ ▸ h with h | h
  · exact wd_free h
  · obtain ⟨k, hk, e⟩ := List.any_eq_true.mp h
    have e : k = z := by rw [eq_of_beq e, mk_tl]
    subst e
    have all : ∀ k ∈ L_MESSAGE_MARKS, k.length ≤ 41 ∧ 32 ∉ tl k ∧ 10 ∉ tl k ∧ ∀ c ∈ tl k, c < 256 := by decide +kernel
    obtain ⟨a1, a2, a3, a4⟩ := all k hk
    exact ⟨a1, a2, a3, a4⟩
theorem tl_numS (n : Nat) : tl (numS n) = TL.numL n := TL.tl_num n
theorem numS_len {n k : Nat} (hk : 0 < k) (h : n < 10 ^ k) : (numS n).length ≤ k := by
  rw [← len_tl, tl_numS]
  exact TL.numL_len hk h
theorem wd_num {n : Nat} (h : n ≤ 100000000000) : Wd (numS n) := by
  refine ⟨Nat.le_trans (numS_len (k := 12) (by decide) (by omega)) (by decide), ?_, ?_, fun c hc => ?_⟩
  · rw [tl_numS]
    exact TL.numL_free (by decide)
  · rw [tl_numS]
    exact TL.numL_free (by decide)
  · rw [tl_numS] at hc
    have := TL.numL_digits n c hc
    omega
theorem int_signs (i : Int) : Str.ofString (toString i) = if i < 0 then mk (45 :: tl (numS i.natAbs)) else numS i.natAbs := by
  by_cases h : i < 0
  · rw [if_pos h]
    obtain ⟨n, rfl⟩ : ∃ n : Nat, i = -((n + 1 : Nat) : Int) := ⟨i.natAbs - 1, by omega⟩
    apply TL.ext_tl
    have e : (-((n + 1 : Nat) : Int)).natAbs = n + 1 := by omega
    rw [e]
    have e2 : (toString (-((n + 1 : Nat) : Int)) : String) = "-" ++ toString ((n + 1 : Nat) : Int) := rfl
    rw [e2]
    show TL.tl (Str.ofString ("-" ++ toString ((n + 1 : Nat) : Int))) = 45 :: TL.tl (Str.ofString (toString ((n + 1 : Nat) : Int)))
    rw [TL.tl_ofString, String.toList_append, List.map_append, ← TL.tl_ofString, ← TL.tl_ofString]
    rfl
  · rw [if_neg h]
    unfold numS
    congr 2
    omega
theorem wd_int {i : Int} (h0 : -1000000000000 < i) (h1 : i < 1000000000000) : Wd (Str.ofString (toString i)) := by
  have hl := numS_len (n := i.natAbs) (k := 12) (by decide) (by omega)
  have hd := TL.numL_digits i.natAbs
  have f1 : 32 ∉ tl (numS i.natAbs) := by rw [tl_numS]; exact TL.numL_free (by decide)
  have f2 : 10 ∉ tl (numS i.natAbs) := by rw [tl_numS]; exact TL.numL_free (by decide)
  have f3 : ∀ c ∈ tl (numS i.natAbs), c < 256 := fun c hc => by
    rw [tl_numS] at hc
    have := hd c hc
    omega
  rw [int_signs]
  split
  · refine ⟨?_, by simpa using f1, by simpa using f2, fun c hc => ?_⟩
    · rw [mk_len, List.length_cons, len_tl]
      omega
    · rcases List.mem_cons.mp (show c ∈ 45 :: tl (numS i.natAbs) from hc) with h | h
      · omega
      · exact f3 c h
  · exact ⟨by omega, f1, f2, f3⟩
theorem wd_V {v : V} (h : okV v = true) : Wd (wordV v) := by
  cases v with
  | int i =>
    have := Bool.and_eq_true _ _ ▸ (show (decide (-1000000000000 < i) && decide (i < 1000000000000)) = true from h)
    exact wd_int (of_decide_eq_true this.1) (of_decide_eq_true this.2)
  | str z =>
    have := Bool.and_eq_true _ _ ▸ (show (decide ((tl z).length ≤ 40) && hasOnly (tl z) TEXTS) = true from h)
    have hl := of_decide_eq_true this.1
    have h1 : 32 ∉ TEXTS := by decide +kernel
    have h2 : 10 ∉ TEXTS := by decide +kernel
    have h3 : ∀ c ∈ TEXTS, c < 256 := by decide +kernel
    refine ⟨by show (mk (39 :: tl z)).length ≤ 41; rw [mk_len, List.length_cons]; omega, fun c => ?_, fun c => ?_, fun c hc => ?_⟩
    · rcases List.mem_cons.mp (show 32 ∈ 39 :: tl z from c) with c | c
      · omega
      · exact h1 (only_mem this.2 c)
    · rcases List.mem_cons.mp (show 10 ∈ 39 :: tl z from c) with c | c
      · omega
      · exact h2 (only_mem this.2 c)
    · rcases List.mem_cons.mp (show c ∈ 39 :: tl z from hc) with c | c
      · omega
      · exact h3 _ (only_mem this.2 c)
  | bl b => cases b <;> exact ⟨by decide +kernel, by decide +kernel, by decide +kernel, by decide +kernel⟩
  | non => exact ⟨by decide +kernel, by decide +kernel, by decide +kernel, by decide +kernel⟩
  | _ => cases h
theorem tl_app (a b : Str) : tl (a ++ b) = tl a ++ tl b := TL.tl_append a b
theorem wd_M {q : Str × Nat} (h : isPage (tl q.1) = true ∧ 1 ≤ q.2 ∧ q.2 ≤ 300) : Wd (wordM q) := by
  have h1 := wd_page h.1
  obtain ⟨_, hl, _⟩ := name_only h.1
  rw [len_tl] at hl
  have h2 := wd_num (n := q.2) (by omega)
  have hn := numS_len (n := q.2) (k := 3) (by decide) (by omega)
  have e : tl (wordM q) = tl q.1 ++ ([58] ++ tl (numS q.2)) := by
    unfold wordM
    rw [tl_app, tl_app, List.append_assoc]
    congr 1
  refine ⟨?_, ?_, ?_, fun c hc => ?_⟩
  · rw [← len_tl, e, List.length_append, List.length_append, len_tl, len_tl]
    show q.1.length + (1 + _) ≤ 41
    omega
  · rw [e]
    simp only [List.mem_append, List.mem_singleton, not_or]
    exact ⟨h1.b, by decide, h2.b⟩
  · rw [e]
    simp only [List.mem_append, List.mem_singleton, not_or]
    exact ⟨h1.r, by decide, h2.r⟩
  · rw [e] at hc
    simp only [List.mem_append, List.mem_singleton] at hc
    rcases hc with hc | hc | hc
    · exact h1.s c hc
    · omega
    · exact h2.s c hc
def HDs : List String := ["begin", "run", "again", "name", "gone", "field", "lost", "under", "load", "sweep", "forget"]
theorem hd_mem (d : Dd) : d.hd ∈ HDs := by cases d <;> (unfold HDs Dd.hd; simp)
theorem wd_hd (d : Dd) : Wd (Str.ofString d.hd) := by
  have all : ∀ s ∈ HDs, (Str.ofString s).length ≤ 41 ∧ 32 ∉ tl (Str.ofString s) ∧ 10 ∉ tl (Str.ofString s) ∧ ∀ c ∈ tl (Str.ofString s), c < 256 := by decide +kernel
  obtain ⟨a1, a2, a3, a4⟩ := all _ (hd_mem d)
  exact ⟨a1, a2, a3, a4⟩
theorem Dd.wd {d : Dd} (h : d.ok) : (∀ w ∈ d.ws, Wd w) ∧ d.ws.length ≤ 7 := by
  cases d with
  | begin k m ws =>
    obtain ⟨h1, h2, h3, h4⟩ := h
    refine ⟨fun w hw => ?_, ?_⟩
    · simp only [Dd.ws, List.mem_cons] at hw
      rcases hw with rfl | rfl | hw
      · cases k with
        | none => exact ⟨by decide +kernel, by decide +kernel, by decide +kernel, by decide +kernel⟩
        | some z => exact wd_kind (h1 z rfl)
      · exact wd_msg h2
      · obtain ⟨v, hv, rfl⟩ := List.mem_map.mp hw
        exact wd_V (h3 v hv)
    · simp only [Dd.ws, List.length_cons, List.length_map]
      omega
  | run n ms =>
    obtain ⟨h1, h2, h3⟩ := h
    refine ⟨fun w hw => ?_, ?_⟩
    · simp only [Dd.ws, List.mem_cons] at hw
      rcases hw with rfl | hw
      · exact wd_num (by omega)
      · obtain ⟨v, hv, rfl⟩ := List.mem_map.mp hw
        exact wd_M (h2 v hv)
    · simp only [Dd.ws, List.length_cons, List.length_map]
      omega
  | again k =>
    refine ⟨fun w hw => ?_, Nat.le_of_ble_eq_true rfl⟩
    simp only [Dd.ws, List.mem_cons, List.not_mem_nil, or_false] at hw
    subst hw
    exact wd_num h
  | name k n v =>
    obtain ⟨h1, h2, h3⟩ := h
    refine ⟨fun w hw => ?_, Nat.le_of_ble_eq_true rfl⟩
    simp only [Dd.ws, List.mem_cons, List.not_mem_nil, or_false] at hw
    rcases hw with rfl | rfl | rfl
    · exact wd_num h1
    · exact wd_free h2
    · exact wd_V h3
  | gone k m =>
    refine ⟨fun w hw => ?_, Nat.le_of_ble_eq_true rfl⟩
    simp only [Dd.ws, List.mem_cons, List.not_mem_nil, or_false] at hw
    rcases hw with rfl | rfl
    · exact wd_kind h.1
    · exact wd_msg h.2
  | field k n v =>
    obtain ⟨h1, h2, h3⟩ := h
    refine ⟨fun w hw => ?_, Nat.le_of_ble_eq_true rfl⟩
    simp only [Dd.ws, List.mem_cons, List.not_mem_nil, or_false] at hw
    rcases hw with rfl | rfl | rfl
    · exact wd_kind h1
    · exact wd_free h2
    · exact wd_V h3
  | lost k n =>
    refine ⟨fun w hw => ?_, Nat.le_of_ble_eq_true rfl⟩
    simp only [Dd.ws, List.mem_cons, List.not_mem_nil, or_false] at hw
    rcases hw with rfl | rfl
    · exact wd_kind h.1
    · exact wd_free h.2
  | under k j =>
    refine ⟨fun w hw => ?_, Nat.le_of_ble_eq_true rfl⟩
    simp only [Dd.ws, List.mem_cons, List.not_mem_nil, or_false] at hw
    rcases hw with rfl | rfl
    · exact wd_kind h.1
    · exact wd_kind h.2
  | load p t =>
    refine ⟨fun w hw => ?_, Nat.le_of_ble_eq_true rfl⟩
    simp only [Dd.ws, List.mem_cons, List.not_mem_nil, or_false] at hw
    subst hw
    exact wd_page h.1
  | sweep => exact ⟨fun w hw => by simp [Dd.ws] at hw, Nat.le_of_ble_eq_true rfl⟩
  | forget => exact ⟨fun w hw => by simp [Dd.ws] at hw, Nat.le_of_ble_eq_true rfl⟩
end My
set_option Elab.async false
set_option linter.all false
set_option maxRecDepth 100000
set_option maxHeartbeats 4000000
namespace My
open PySem L2 SS
/-! ### rows and texts of deeds, pure -/
theorem joinL_app (y : T) : ∀ (a : List T) (b : T), a ≠ [] → TL.joinL y (a ++ [b]) = TL.joinL y a ++ (y ++ b)
  | [], b, h => absurd rfl h
  | [x], b, _ => rfl
  | x :: z :: r, b, _ => by
    show x ++ (y ++ TL.joinL y (z :: r ++ [b])) = (x ++ (y ++ TL.joinL y (z :: r))) ++ (y ++ b)
    rw [joinL_app y (z :: r) b (by simp)]
    simp only [List.append_assoc]
theorem joinL_cons (y : T) (x : T) : ∀ (a : List T), a ≠ [] → TL.joinL y (x :: a) = x ++ (y ++ TL.joinL y a)
  | [], h => absurd rfl h
  | z :: r, _ => rfl
theorem joinL_sum {y : T} (hy : y.length = 1) : ∀ rows : List T, rows ≠ [] → (TL.joinL y rows).length + 1 = (rows.map (·.length)).sum + rows.length
  | [], h => absurd rfl h
  | [x], _ => by simp [TL.joinL]
  | x :: z :: r, _ => by
    have ih := joinL_sum hy (z :: r) (by simp)
    rw [joinL_cons _ _ _ (by simp), List.length_append, List.length_append, hy, List.map_cons, List.sum_cons, List.length_cons]
    omega
theorem mem_joinL {c : Nat} {y : T} : ∀ {ls : List T}, c ∈ TL.joinL y ls → c ∈ y ∨ ∃ l ∈ ls, c ∈ l
  | [], h => by exact absurd h (by simp [TL.joinL])
  | [l], h => .inr ⟨l, by simp, by simpa [TL.joinL] using h⟩
  | x :: z :: r, h => by
    rw [joinL_cons _ _ _ (by simp)] at h
    rcases List.mem_append.mp h with h | h
    · exact .inr ⟨x, by simp, h⟩
    · rcases List.mem_append.mp h with h | h
      · exact .inl h
      · rcases mem_joinL h with h | ⟨l, h1, h2⟩
        · exact .inl h
        · exact .inr ⟨l, List.mem_cons_of_mem _ h1, h2⟩
theorem tl_join (y : Str) (zs : List Str) : tl (Txt.join y zs) = TL.joinL (tl y) (zs.map tl) := by
  rw [TL.join_eq]
  exact TL.tl_join y zs
theorem len_flat : ∀ rs : List Str, (flatT rs).length = (rs.map (·.length)).sum + rs.length
  | [] => rfl
  | r :: rs => by
    have ih := len_flat rs
    unfold flatT at ih ⊢
    rw [List.map_cons, List.flatten_cons, List.length_append, ih, List.length_append, len_tl, List.map_cons, List.sum_cons]
    have e1 : (r :: rs).length = rs.length + 1 := rfl
    have e2 : ([10] : T).length = 1 := rfl
    omega
theorem flat_app (a b : List Str) : flatT (a ++ b) = flatT a ++ flatT b := by unfold flatT; rw [List.map_append, List.flatten_append]
theorem flat_cons (r : Str) (rs : List Str) : flatT (r :: rs) = tl r ++ (10 :: flatT rs) := by
  unfold flatT
  rw [List.map_cons, List.flatten_cons, List.append_assoc]
  rfl
theorem flat_join : ∀ rs : List Str, flatT rs = TL.joinL [10] ((rs ++ [Str.empty]).map tl)
  | [] => rfl
  | r :: rs => by
    rw [flat_cons, flat_join rs, List.cons_append, List.map_cons, joinL_cons _ _ _ (by simp)]
    rfl
theorem nl_tl : tl nl = [10] := by decide +kernel
theorem split_flat {rs : List Str} (h : ∀ r ∈ rs, 10 ∉ tl r) : Txt.split (flatS rs) nl = rs ++ [Str.empty] := by
  have e : flatS rs = Txt.join nl (rs ++ [Str.empty]) := by
    apply TL.ext_tl
    show flatT rs = tl (Txt.join nl (rs ++ [Str.empty]))
    rw [tl_join, nl_tl, flat_join]
  rw [e]
  refine TL.split_join (s := 10) (S := []) nl_tl (by decide +kernel) (by simp) fun p hp => ?_
  rcases List.mem_append.mp hp with hp | hp
  · exact h p hp
  · rw [List.mem_singleton.mp hp]
    show 10 ∉ ([] : List Nat)
    simp
/-! the rows of a deed -/
theorem bl_tl : tl (Str.ofString " ") = [32] := by decide +kernel
theorem Dd.parts {d : Dd} (h : d.ok) : ∀ w ∈ Str.ofString d.hd :: d.ws, Wd w := fun w hw => by
  rcases List.mem_cons.mp hw with rfl | hw
  · exact wd_hd d
  · exact (Dd.wd h).1 w hw
theorem Dd.row_split {d : Dd} (h : d.ok) : Txt.split d.row (Str.ofString " ") = Str.ofString d.hd :: d.ws := TL.split_join (s := 32) (S := []) bl_tl (by decide +kernel) (by simp) fun p hp => (Dd.parts h p hp).b
theorem sum_le' {m : Nat} : ∀ {ls : List Nat}, (∀ l ∈ ls, l ≤ m) → ls.sum ≤ ls.length * m
  | [], _ => Nat.zero_le _
  | l :: ls, h => by
    have ih := sum_le' (ls := ls) fun x hx => h x (List.mem_cons_of_mem _ hx)
    have := h l List.mem_cons_self
    rw [List.sum_cons, List.length_cons, Nat.add_mul, Nat.one_mul]
    omega
theorem Dd.row_len {d : Dd} (h : d.ok) : d.row.length ≤ 340 ∧ ((Str.ofString d.hd :: d.ws).map (·.length)).sum + (Str.ofString d.hd :: d.ws).length ≤ 340 := by
  have h1 := Dd.parts h
  have h2 := (Dd.wd h).2
  have e := joinL_sum (y := [32]) rfl ((Str.ofString d.hd :: d.ws).map tl) (by simp)
  have s1 : ((Str.ofString d.hd :: d.ws).map (·.length)).sum ≤ (Str.ofString d.hd :: d.ws).length * 41 := by
    have := sum_le' (m := 41) (ls := (Str.ofString d.hd :: d.ws).map (·.length)) fun l hl => by
      obtain ⟨w, hw, rfl⟩ := List.mem_map.mp hl
      exact (h1 w hw).len
    rwa [List.length_map] at this
  have e2 : ((Str.ofString d.hd :: d.ws).map tl).map (·.length) = (Str.ofString d.hd :: d.ws).map (·.length) := by
    rw [List.map_map]
    exact List.map_congr_left fun w _ => len_tl w
  rw [e2, List.length_map] at e
  have e3 : d.row.length = (TL.joinL [32] ((Str.ofString d.hd :: d.ws).map tl)).length := by
    rw [← len_tl]
    unfold Dd.row
    rw [tl_join, bl_tl]
  have e4 : (Str.ofString d.hd :: d.ws).length = d.ws.length + 1 := rfl
  rw [e4] at s1 e ⊢
  have : (d.ws.length + 1) * 41 ≤ 8 * 41 := Nat.mul_le_mul_right _ (by omega)
  omega
theorem Dd.row_nl {d : Dd} (h : d.ok) : 10 ∉ tl d.row := fun hc => by
  unfold Dd.row at hc
  rw [tl_join, bl_tl] at hc
  rcases mem_joinL hc with hc | ⟨l, h1, h2⟩
  · simp at hc
  · obtain ⟨w, hw, rfl⟩ := List.mem_map.mp h1
    exact (Dd.parts h w hw).r h2
theorem Dd.row_s {d : Dd} (h : d.ok) : ∀ c ∈ tl d.row, c < 256 := fun c hc => by
  unfold Dd.row at hc
  rw [tl_join, bl_tl] at hc
  rcases mem_joinL hc with hc | ⟨l, h1, h2⟩
  · simp at hc
    omega
  · obtain ⟨w, hw, rfl⟩ := List.mem_map.mp h1
    exact (Dd.parts h w hw).s c h2
/-- a row that begins with a blank -/
def bl0 (r : Str) : Bool := decide ((tl r).head? = some 32)
theorem head_join (y x : T) (hx : x ≠ []) : ∀ a : List T, (TL.joinL y (x :: a)).head? = x.head?
  | [] => rfl
  | z :: r => by
    rw [joinL_cons _ _ _ (by simp)]
    cases x with
    | nil => exact absurd rfl hx
    | cons c cs => rfl
theorem Dd.row_bl {d : Dd} : bl0 d.row = false := by
  have all : ∀ s ∈ HDs, tl (Str.ofString s) ≠ [] ∧ (tl (Str.ofString s)).head? ≠ some 32 := by decide +kernel
  obtain ⟨a1, a2⟩ := all _ (hd_mem d)
  unfold bl0 Dd.row
  rw [tl_join, List.map_cons, head_join _ _ a1]
  exact decide_eq_false a2
theorem Dd.more_bl {d : Dd} : ∀ r ∈ d.more, bl0 r = true := fun r hr => by
  cases d with
  | load p t =>
    obtain ⟨z, _, rfl⟩ := List.mem_map.mp hr
    exact decide_eq_true rfl
  | _ => cases hr
theorem nl_eq : nl = ⟨#[10]⟩ := by decide +kernel
theorem Dd.more_nl {d : Dd} : ∀ r ∈ d.more, 10 ∉ tl r := fun r hr => by
  cases d with
  | load p t =>
    obtain ⟨z, hz, rfl⟩ := List.mem_map.mp hr
    rw [nl_eq] at hz
    have := StrLaws.split_free t 10 z hz
    intro c
    rcases List.mem_cons.mp (show 10 ∈ 32 :: tl z from c) with c | c
    · omega
    · exact this c
  | _ => cases hr
theorem split_sum {t : Str} (ht : t.length ≤ 150) : (((Txt.split t nl).map (·.length)).sum + (Txt.split t nl).length ≤ 151) := by
  have := PyProof.Rows.split_weight t nl (by decide)
  omega
theorem sum_bl : ∀ rs : List Str, ((rs.map blankS).map (·.length)).sum = (rs.map (·.length)).sum + rs.length
  | [] => rfl
  | r :: rs => by
    have ih := sum_bl rs
    rw [List.map_cons, List.map_cons, List.map_cons, List.sum_cons, List.sum_cons, ih, List.length_cons]
    have : (blankS r).length = r.length + 1 := by unfold blankS; rw [mk_len, List.length_cons, len_tl]
    omega
theorem Dd.more_len {d : Dd} (h : d.ok) : (d.more.map (·.length)).sum + d.more.length ≤ 302 ∧ d.more.length ≤ 151 := by
  cases d with
  | load p t =>
    have := split_sum h.2.1
    show (((Txt.split t nl).map blankS).map (·.length)).sum + ((Txt.split t nl).map blankS).length ≤ 302 ∧ ((Txt.split t nl).map blankS).length ≤ 151
    rw [sum_bl, List.length_map]
    omega
  | _ => exact ⟨Nat.zero_le _, Nat.zero_le _⟩
theorem Dd.flat_len {d : Dd} (h : d.ok) : (flatS d.rows).length ≤ 700 := by
  have h1 := (Dd.row_len h).1
  have h2 := (Dd.more_len h).1
  show (mk (flatT d.rows)).length ≤ 700
  rw [mk_len, len_flat]
  show ((d.row :: d.more).map (·.length)).sum + (d.row :: d.more).length ≤ 700
  rw [List.map_cons, List.sum_cons, List.length_cons]
  omega
theorem Dd.rows_nl {d : Dd} (h : d.ok) : ∀ r ∈ d.rows, 10 ∉ tl r := fun r hr => by
  rcases List.mem_cons.mp hr with rfl | hr
  · exact Dd.row_nl h
  · exact Dd.more_nl r hr
/-- the text comes back -/
theorem back_text (t : Str) : Txt.join nl (Txt.split t nl) = t := by
  rw [TL.join_eq]
  exact StrLaws.join_split t nl
theorem blank_back (z : Str) : cutS (blankS z) (some 1) none = z := by
  rw [cut1]
  show mk ((32 :: tl z).drop 1) = z
  rw [List.drop_one, List.tail_cons, mk_tl]
/-- what the law writes of a deed: a joined row, taken apart otherwise -/
theorem join_two (a b : Str) (ws : List Str) : Txt.join (Str.ofString " ") (a :: b :: ws) = Txt.join (Str.ofString " ") ((a ++ Str.ofString " " ++ b) :: ws) := by
  apply TL.ext_tl
  show tl _ = tl _
  rw [tl_join, tl_join, bl_tl]
  simp only [List.map_cons]
  rw [tl_app, tl_app, bl_tl]
  cases ws with
  | nil => simp [TL.joinL]
  | cons w r =>
    simp only [List.map_cons]
    rw [joinL_cons [32] (tl a) (tl b :: tl w :: r.map tl) (by simp), joinL_cons [32] (tl b) (tl w :: r.map tl) (by simp), joinL_cons [32] (tl a ++ [32] ++ tl b) (tl w :: r.map tl) (by simp)]
    simp only [List.append_assoc]
end My
set_option Elab.async false
set_option linter.all false
set_option maxRecDepth 100000
set_option maxHeartbeats 4000000
namespace My
open PySem L2 SS
theorem takeWhile_len {p : Nat → Bool} : ∀ {l : List Nat}, l.length ≤ (l.takeWhile p).length → l.all p = true
  | [], _ => rfl
  | a :: l, h => by
    rw [List.takeWhile_cons] at h
    by_cases c : p a = true
    · rw [if_pos c] at h
      rw [List.all_cons, c, Bool.true_and]
      exact takeWhile_len (by simpa using h)
    · rw [if_neg c] at h
      simp at h
theorem takeWhile_of : ∀ {p : Nat → Bool} {l : List Nat}, l.all p = true → l.takeWhile p = l
  | p, [], _ => rfl
  | p, a :: l, h => by
    rw [List.all_cons, Bool.and_eq_true] at h
    rw [List.takeWhile_cons, if_pos h.1, takeWhile_of h.2]
theorem all_takeWhile {p : Nat → Bool} : ∀ (l : List Nat), (l.takeWhile p).all p = true
  | [] => rfl
  | a :: l => by
    rw [List.takeWhile_cons]
    by_cases c : p a = true
    · rw [if_pos c, List.all_cons, c, all_takeWhile l]; rfl
    · rw [if_neg c]; rfl
theorem strip_nil (g : Nat → Bool) (z : Str) : decide (V.str (Txt.stripBy g true true z) = V.str (Str.ofString "")) = (tl z).all g := by
  have ht : (Str.ofString "") = mk [] := by decide +kernel
  rw [dec_str, ht]
  have hl := len_tl z
  have hlo : PySem.stripLo g true z = ((tl z).takeWhile g).length := rfl
  have hhi : ∀ lo, PySem.stripHi g true z lo = z.length - (((tl z).drop lo).reverse.takeWhile g).length := fun _ => rfl
  by_cases c : (tl z).all g = true
  · rw [c]
    refine decide_eq_true ?_
    have e0 := takeWhile_of c
    have lo : PySem.stripLo g true z = z.length := by rw [hlo, e0, hl]
    have hi : PySem.stripHi g true z z.length = z.length := by
      rw [hhi, ← hl, List.drop_length]; rfl
    unfold Txt.stripBy
    split
    · rename_i q
      unfold PySem.stripSame at q
      rw [lo] at q
      have q1 : z.length = 0 := by
        have := (Bool.and_eq_true _ _ ▸ q).1
        simpa using this
      have : tl z = [] := List.eq_nil_of_length_eq_zero (by rw [hl]; exact q1)
      rw [← mk_tl z, this]
    · unfold PySem.stripped Builtin.Str.strSub
      rw [lo, hi]
      simp
      exact Nat.min_le_left _ _
  · have cf : (tl z).all g = false := by simpa using c
    rw [cf]
    refine decide_eq_false fun h => ?_
    apply c
    unfold Txt.stripBy at h
    split at h
    · rw [h]; rfl
    · have h2 := congrArg (fun s => s.cps.size) h
      unfold PySem.stripped Builtin.Str.strSub at h2
      rw [hlo, hhi] at h2
      have ha : ((tl z).takeWhile g).length ≤ (tl z).length := (List.takeWhile_sublist g).length_le
      have hr : (((tl z).drop ((tl z).takeWhile g).length).reverse.takeWhile g).length ≤ ((tl z).drop ((tl z).takeWhile g).length).length := by
        have := (List.takeWhile_sublist (l := ((tl z).drop ((tl z).takeWhile g).length).reverse) g).length_le
        rwa [List.length_reverse] at this
      have hz : z.cps.size = z.length := rfl
      have h3 : min (z.length - (((tl z).drop ((tl z).takeWhile g).length).reverse.takeWhile g).length) z.length - ((tl z).takeWhile g).length = 0 := by
        rw [Array.size_extract, hz] at h2
        exact h2
      rw [List.length_drop] at hr
      have hd : (tl z).drop ((tl z).takeWhile g).length |>.all g := by
        have hh : (((tl z).drop ((tl z).takeWhile g).length).reverse).all g = true := takeWhile_len (by rw [List.length_reverse, List.length_drop]; omega)
        rwa [List.all_reverse] at hh
      have ht2 := List.takeWhile_append_dropWhile (p := g) (l := tl z)
      have hdw : (tl z).drop ((tl z).takeWhile g).length = (tl z).dropWhile g := by
        conv => lhs; arg 2; rw [← ht2]
        rw [List.drop_left]
      rw [← ht2, List.all_append, all_takeWhile, ← hdw, hd]
      rfl
theorem has_strip (z s : Str) : decide (V.str (Txt.stripChars z s) = V.str (Str.ofString "")) = hasOnly (tl z) (tl s) := by
  unfold Txt.stripChars
  rw [strip_nil]
  unfold hasOnly
  congr 1
  funext c
  rw [Bool.eq_iff_iff, decide_eq_true_eq]
  simp [tl]
def spHas : Sp := fun vs H Q _ => ∃ z s : Str, vs = [.str z, .str s] ∧ z.length ≤ 100000 ∧ ∀ H', Same H H' → Q (.bl (hasOnly (tl z) (tl s))) H'
section
variable {P : Program} {w : World} {K : PySem.W.Frag} {mg : Str → Option Value} {base : Heap}
theorem sc_has_only : FnScope ["word", "signs"] ["word", "signs"] (defScope s_has_only) := ⟨rfl, rfl, rfl, by decide +kernel, rfl, by decide +kernel, by decide +kernel⟩
theorem ct_has_only  (D : Dn K mg "has_only" s_has_only) : C0 P w K mg base 1 "has_only" spHas := by
  obtain ⟨f, fd, F, hmm⟩ := D.ex
  refine ⟨f, fd, ["word", "signs"], F.ok sc_has_only (fun vs H Q E h => ?_) (fun cdv A outer s H vs Q E hr h => ?_), hmm, F.kp, F.binds (ps := ["word", "signs"]) fun _ _ _ _ _ _ us hl => match us, hl with | [_, _], _ => rfl⟩
  · obtain ⟨z, s, rfl, _⟩ := h
    rfl
  obtain ⟨z, sg, rfl, hz, k⟩ := h
  refine ⟨_, pss_one (ps_ret (pe_cmpR op_eq (pe_m1 PySem.F.slot_str_strip PySem.F.type_str_strip mt_stripChars (pv 0) (pv 1)) pe_str (nomark _))), ?_⟩
  refine ⟨_, rfl, ⟨_, rfl⟩, _, rfl, _, _, rfl, rfl, by rw [sizeLine_eq]; omega, rfl, ?_⟩
  rw [has_strip]
  exact k H (Same.refl H)

theorem sc_is_name : FnScope ["word", "first", "others"] ["word", "first", "others"] (defScope s_is_name) := ⟨rfl, rfl, rfl, by decide +kernel, rfl, by decide +kernel, by decide +kernel⟩
theorem ct_is_name (b_len : mg "len" = none) (g_MOST_NAME_SIGNS : GI mg "MOST_NAME_SIGNS" 12) (G : C0 P w K mg base 1 "has_only" spHas) (D : Dn K mg "is_name" s_is_name) : C0 P w K mg base 2 "is_name" spName := by
  obtain ⟨f, fd, F, hmm⟩ := D.ex
  refine ⟨f, fd, ["word", "first", "others"], F.ok sc_is_name (fun vs H Q E h => ?_) (fun cdv A outer s H vs Q E hr h => ?_), hmm, F.kp, F.binds (ps := ["word", "first", "others"]) fun _ _ _ _ _ _ us hl => match us, hl with | [_, _, _], _ => rfl⟩
  · obtain ⟨z, s1, s2, rfl, _⟩ := h
    rfl
  obtain ⟨z, s1, s2, rfl, hz, k⟩ := h
  have hsz : z.length ≤ sizeLine := by rw [sizeLine_eq]; omega
  refine ⟨_, pss_one (ps_ret (pe_and (pe_chain op_le op_le pe_int (pe_callB call_len_str (by rfl) b_len PySem.boot_len (pa_cons (pv 0) pa_nil)) (pe_gi g_MOST_NAME_SIGNS)) (pe_and (pe_cmpR op_in_sign (pe_item_str (pv 0) pe_int (fun _ _ => rfl)) (pv 1) (by rfl)) (pe_one (pe_cc G hr (by omega) pass0 (pa_cons (pv 0) (pa_cons (pv 2) pa_nil))))))), ?_⟩
  refine ⟨_, rfl, z, rfl, hsz, _, _, rfl, rfl, _, rfl, ?_⟩
  have el := len_tl z
  refine ite2 (fun c => ?_) (fun c => ?_)
  · have c1 : (1 : Int) ≤ (z.length : Nat) := of_decide_eq_true c
    refine ⟨_, _, rfl, rfl, _, rfl, ?_⟩
    refine ite2 (fun c2 => ?_) (fun c2 => ?_)
    · have c3 : ((z.length : Nat) : Int) ≤ 12 := of_decide_eq_true c2
      obtain ⟨c0, hc⟩ : ∃ c0, z.cps[0]? = some c0 := ⟨z.cps[0]'(by show 0 < z.length; omega), by simp [show 0 < z.cps.size from (by show 0 < z.length; omega)]⟩
      refine ⟨_, rfl, z, 0, c0, rfl, rfl, by omega, by decide, by omega, hc, _, rfl, c0, s1, rfl, rfl, _, rfl, ?_⟩
      have g0 : (tl z).getD 0 0 = c0 := by
        have : (tl z)[0]? = some c0 := by simpa using hc
        rw [List.getD_eq_getElem?_getD, this]
        rfl
      have e : isName (tl z) (tl s1) (tl s2) = (decide (c0 ∈ tl s1) && hasOnly (tl z) (tl s2)) := by
        unfold isName
        rw [decide_eq_true (by omega), g0]
        rfl
      refine ite2 (fun c4 => ?_) (fun c4 => ?_)
      · refine ⟨_, rfl, _, rfl, z, s2, rfl, hz, fun H' s => ?_⟩
        have := k H' s
        rw [e, c4, Bool.true_and] at this
        exact this
      · have := k H (Same.refl H)
        have c5 : decide (c0 ∈ tl s1) = false := by simpa using c4
        rw [e, c5, Bool.false_and] at this
        exact this
    · have c3 : ¬ ((z.length : Nat) : Int) ≤ 12 := of_decide_eq_false (Bool.eq_false_iff.mpr c2)
      have e : isName (tl z) (tl s1) (tl s2) = false := by
        unfold isName
        rw [decide_eq_false (by omega)]
        rfl
      have := k H (Same.refl H)
      rw [e] at this
      exact this
  · have c1 : ¬ (1 : Int) ≤ (z.length : Nat) := of_decide_eq_false (Bool.eq_false_iff.mpr c)
    have e : isName (tl z) (tl s1) (tl s2) = false := by
      unfold isName
      rw [decide_eq_false (by omega)]
      rfl
    have := k H (Same.refl H)
    rw [e] at this
    exact ⟨false, rfl, iteF this⟩
theorem sc_is_kind_name : FnScope ["word"] ["word"] (defScope s_is_kind_name) := ⟨rfl, rfl, rfl, by decide +kernel, rfl, by decide +kernel, by decide +kernel⟩
theorem ct_is_kind_name (g_CAPITALS : GS mg "CAPITALS" (mk [65, 66, 67, 68, 69, 70, 71, 72, 73, 74, 75, 76, 77, 78, 79, 80, 81, 82, 83, 84, 85, 86, 87, 88, 89, 90])) (g_KIND_SIGNS : GS mg "KIND_SIGNS" (mk [97, 98, 99, 100, 101, 102, 103, 104, 105, 106, 107, 108, 109, 110, 111, 112, 113, 114, 115, 116, 117, 118, 119, 120, 121, 122, 65, 66, 67, 68, 69, 70, 71, 72, 73, 74, 75, 76, 77, 78, 79, 80, 81, 82, 83, 84, 85, 86, 87, 88, 89, 90, 48, 49, 50, 51, 52, 53, 54, 55, 56, 57])) (NM : C0 P w K mg base 2 "is_name" spName) (D : Dn K mg "is_kind_name" s_is_kind_name) : C0 P w K mg base 3 "is_kind_name" (spB isKindName) := by
  obtain ⟨f, fd, F, hmm⟩ := D.ex
  refine ⟨f, fd, ["word"], F.ok sc_is_kind_name (fun vs H Q E h => ?_) (fun cdv A outer s H vs Q E hr h => ?_), hmm, F.kp, F.binds (ps := ["word"]) fun _ _ _ _ _ _ us hl => match us, hl with | [_], _ => rfl⟩
  · obtain ⟨z, rfl, _⟩ := h
    rfl
  obtain ⟨z, rfl, hz, k⟩ := h
  refine ⟨_, pss_one (ps_ret (pe_cc NM hr (by omega) pass0 (pa_cons (pv 0) (pa_cons (pe_gs g_CAPITALS) (pa_cons (pe_gs g_KIND_SIGNS) pa_nil))))), ?_⟩
  refine ⟨_, rfl, z, _, _, rfl, hz, fun H' s => ?_⟩
  exact k H' s
theorem sc_is_text : FnScope ["signs"] ["signs"] (defScope s_is_text) := ⟨rfl, rfl, rfl, by decide +kernel, rfl, by decide +kernel, by decide +kernel⟩
theorem ct_is_text (b_len : mg "len" = none) (g_MOST_TEXT_SIGNS : GI mg "MOST_TEXT_SIGNS" 40) (g_TEXT_SIGNS : GS mg "TEXT_SIGNS" (mk [97, 98, 99, 100, 101, 102, 103, 104, 105, 106, 107, 108, 109, 110, 111, 112, 113, 114, 115, 116, 117, 118, 119, 120, 121, 122, 65, 66, 67, 68, 69, 70, 71, 72, 73, 74, 75, 76, 77, 78, 79, 80, 81, 82, 83, 84, 85, 86, 87, 88, 89, 90, 48, 49, 50, 51, 52, 53, 54, 55, 56, 57, 95])) (G : C0 P w K mg base 1 "has_only" spHas) (D : Dn K mg "is_text" s_is_text) : C0 P w K mg base 2 "is_text" (spB isText) := by
  obtain ⟨f, fd, F, hmm⟩ := D.ex
  refine ⟨f, fd, ["signs"], F.ok sc_is_text (fun vs H Q E h => ?_) (fun cdv A outer s H vs Q E hr h => ?_), hmm, F.kp, F.binds (ps := ["signs"]) fun _ _ _ _ _ _ us hl => match us, hl with | [_], _ => rfl⟩
  · obtain ⟨z, rfl, _⟩ := h
    rfl
  obtain ⟨z, rfl, hz, k⟩ := h
  have hsz : z.length ≤ sizeLine := by rw [sizeLine_eq]; omega
  refine ⟨_, pss_one (ps_ret (pe_and (pe_cmpR op_le (pe_callB call_len_str (by rfl) b_len PySem.boot_len (pa_cons (pv 0) pa_nil)) (pe_gi g_MOST_TEXT_SIGNS) (nomark _)) (pe_one (pe_cc G hr (by omega) pass0 (pa_cons (pv 0) (pa_cons (pe_gs g_TEXT_SIGNS) pa_nil)))))), ?_⟩
  refine ⟨_, rfl, z, rfl, hsz, _, _, rfl, rfl, _, rfl, ?_⟩
  have el := len_tl z
  refine ite2 (fun c => ?_) (fun c => ?_)
  · have c1 : ((z.length : Nat) : Int) ≤ 40 := of_decide_eq_true c
    refine ⟨_, rfl, z, _, rfl, hz, fun H' s => ?_⟩
    have := k H' s
    unfold isText at this
    rw [decide_eq_true (by omega), Bool.true_and] at this
    exact this
  · have c1 : ¬ ((z.length : Nat) : Int) ≤ 40 := of_decide_eq_false (Bool.eq_false_iff.mpr c)
    have := k H (Same.refl H)
    unfold isText at this
    rw [decide_eq_false (by omega), Bool.false_and] at this
    exact this
end
end My
set_option Elab.async false
set_option linter.all false
set_option maxRecDepth 100000
set_option maxHeartbeats 4000000
namespace My
open PySem L2 SS
theorem all2_2 {α β : Type} {R : α → β → Prop} {a a' : α} {bs : List β} (h : All2 R [a, a'] bs) : ∃ b b', bs = [b, b'] ∧ R a b ∧ R a' b' := by
  cases h with
  | cons r k => cases k with
    | cons r' k => cases k; exact ⟨_, _, rfl, r, r'⟩
theorem all2_3 {α β : Type} {R : α → β → Prop} {a a' a2 : α} {bs : List β} (h : All2 R [a, a', a2] bs) : ∃ b b' b2, bs = [b, b', b2] ∧ R a b ∧ R a' b' ∧ R a2 b2 := by
  obtain ⟨b, cs, rfl, r, k⟩ := all2_c h
  obtain ⟨b', b2, rfl, r', r2⟩ := all2_2 k
  exact ⟨_, _, _, rfl, r, r', r2⟩
theorem evd_spB {te : TE} {σ : L2.St} {H : Hp} {n m : Nat} {z : Str} {E : XK} {g : T → Bool} (h : EvD te σ H n (.v (.str z))) (hz : z.length ≤ 100000) : EvD (tCall (spB g) [] E (tCons te tNil)) σ H m (.v (.bl (g (tl z)))) := fun H1 s1 Q q => h H1 s1 _ fun v H2 s2 r => by
  obtain ⟨rfl, _⟩ := atD_pl r
  exact ⟨z, rfl, hz, fun H3 s3 => q _ H3 (s2.trans s3) (atD_v (.bl _))⟩
abbrev SSML : T := SMALL ++ FIGS
section
variable {P : Program} {w : World} {K : PySem.W.Frag} {mg : Str → Option Value} {base : Heap}
theorem scSmall : FnScope ["word"] ["word"] (defScope s_is_small) := ⟨rfl, rfl, rfl, by decide +kernel, rfl, by decide +kernel, by decide +kernel⟩
theorem c_small (g_SMALL : GS mg "SMALL" (mk [97, 98, 99, 100, 101, 102, 103, 104, 105, 106, 107, 108, 109, 110, 111, 112, 113, 114, 115, 116, 117, 118, 119, 120, 121, 122])) (g_SMALL_SIGNS : GS mg "SMALL_SIGNS" (mk [97, 98, 99, 100, 101, 102, 103, 104, 105, 106, 107, 108, 109, 110, 111, 112, 113, 114, 115, 116, 117, 118, 119, 120, 121, 122, 48, 49, 50, 51, 52, 53, 54, 55, 56, 57])) (NM : C0 P w K mg base 2 "is_name" spName) (D : Dn K mg "is_small" s_is_small) : C0 P w K mg base 3 "is_small" (spB isSmall) := by
  obtain ⟨f, fd, F, hmm⟩ := D.ex
  refine ⟨f, fd, ["word"], F.ok scSmall (fun vs H Q E h => ?_) (fun cdv A outer s H vs Q E hr h => ?_), hmm, F.kp, F.binds (ps := ["word"]) fun _ _ _ _ _ _ us hl => match us, hl with | [_], _ => rfl⟩
  · obtain ⟨z, rfl, _⟩ := h
    rfl
  obtain ⟨z, rfl, hz, k⟩ := h
  refine ⟨_, pss_one (ps_ret (pe_cc NM hr (by omega) pass0 (pa_cons (pv 0) (pa_cons (pe_gs g_SMALL) (pa_cons (pe_gs g_SMALL_SIGNS) pa_nil))))), ?_⟩
  refine ⟨_, rfl, z, _, _, rfl, hz, fun H' s => ?_⟩
  exact k H' s
theorem scPage : FnScope ["word"] ["word"] (defScope s_is_page_name) := ⟨rfl, rfl, rfl, by decide +kernel, rfl, by decide +kernel, by decide +kernel⟩
theorem c_page (g_SMALL : GS mg "SMALL" (mk [97, 98, 99, 100, 101, 102, 103, 104, 105, 106, 107, 108, 109, 110, 111, 112, 113, 114, 115, 116, 117, 118, 119, 120, 121, 122])) (NM : C0 P w K mg base 2 "is_name" spName) (D : Dn K mg "is_page_name" s_is_page_name) : C0 P w K mg base 3 "is_page_name" (spB isPage) := by
  obtain ⟨f, fd, F, hmm⟩ := D.ex
  refine ⟨f, fd, ["word"], F.ok scPage (fun vs H Q E h => ?_) (fun cdv A outer s H vs Q E hr h => ?_), hmm, F.kp, F.binds (ps := ["word"]) fun _ _ _ _ _ _ us hl => match us, hl with | [_], _ => rfl⟩
  · obtain ⟨z, rfl, _⟩ := h
    rfl
  obtain ⟨z, rfl, hz, k⟩ := h
  refine ⟨_, pss_one (ps_ret (pe_cc NM hr (by omega) pass0 (pa_cons (pv 0) (pa_cons (pe_gs g_SMALL) (pa_cons (pe_gs g_SMALL) pa_nil))))), ?_⟩
  refine ⟨_, rfl, z, _, _, rfl, hz, fun H' s => ?_⟩
  exact k H' s
theorem scFree : FnScope ["word"] ["word"] (defScope s_is_free) := ⟨rfl, rfl, rfl, by decide +kernel, rfl, by decide +kernel, by decide +kernel⟩
theorem c_free (g_KEPT : GT K mg "KEPT" L_KEPT) (SL : C0 P w K mg base 3 "is_small" (spB isSmall)) (D : Dn K mg "is_free" s_is_free) : C0 P w K mg base 4 "is_free" (spB isFree) := by
  obtain ⟨f, fd, F, hmm⟩ := D.ex
  refine ⟨f, fd, ["word"], F.ok scFree (fun vs H Q E h => ?_) (fun cdv A outer s H vs Q E hr h => ?_), hmm, F.kp, F.binds (ps := ["word"]) fun _ _ _ _ _ _ us hl => match us, hl with | [_], _ => rfl⟩
  · obtain ⟨z, rfl, _⟩ := h
    rfl
  obtain ⟨z, rfl, hz, k⟩ := h
  refine ⟨_, pss_one (ps_ret (pe_and (pe_cc SL hr (by omega) pass0 (pa_cons (pv 0) pa_nil)) (pe_one (pe_cmpR op_notIn_seq (pv 0) (pe_gt g_KEPT) (by rfl))))), ?_⟩
  refine ⟨_, rfl, z, rfl, hz, fun H1 s1 => ⟨_, rfl, ?_⟩⟩
  refine ite2 (fun c => ?_) (fun c => ?_)
  · refine ⟨_, rfl, fun a ha => ⟨a, _, rfl, .inr ha, rfl, flat_strs _, ?_⟩⟩
    have := k H1 s1
    unfold isFree at this
    rw [c, Bool.true_and, mk_tl] at this
    rw [if_pos rfl, inV_strs]
    exact this
  · have c1 : isSmall (tl z) = false := by simpa using c
    have := k H1 s1
    unfold isFree at this
    rw [c1, Bool.false_and] at this
    exact this
theorem scMsg : FnScope ["word"] ["word"] (defScope s_is_message) := ⟨rfl, rfl, rfl, by decide +kernel, rfl, by decide +kernel, by decide +kernel⟩
theorem c_msg (g_MESSAGE_MARKS : GT K mg "MESSAGE_MARKS" L_MESSAGE_MARKS) (FR : C0 P w K mg base 4 "is_free" (spB isFree)) (D : Dn K mg "is_message" s_is_message) : C0 P w K mg base 5 "is_message" (spB isMsgD) := by
  obtain ⟨f, fd, F, hmm⟩ := D.ex
  refine ⟨f, fd, ["word"], F.ok scMsg (fun vs H Q E h => ?_) (fun cdv A outer s H vs Q E hr h => ?_), hmm, F.kp, F.binds (ps := ["word"]) fun _ _ _ _ _ _ us hl => match us, hl with | [_], _ => rfl⟩
  · obtain ⟨z, rfl, _⟩ := h
    rfl
  obtain ⟨z, rfl, hz, k⟩ := h
  refine ⟨_, pss_one (ps_ret (pe_or (pe_cc FR hr (by omega) pass0 (pa_cons (pv 0) pa_nil)) (pe_one (pe_cmpR op_in_seq (pv 0) (pe_gt g_MESSAGE_MARKS) (by rfl))))), ?_⟩
  refine ⟨_, rfl, z, rfl, hz, fun H1 s1 => ⟨_, rfl, ?_⟩⟩
  refine ite2 (fun c => ?_) (fun c => ?_)
  · have := k H1 s1
    unfold isMsgD at this
    rw [c, Bool.true_or] at this
    exact this
  · have c1 : isFree (tl z) = false := by simpa using c
    refine ⟨_, rfl, fun a ha => ⟨a, _, rfl, .inr ha, rfl, flat_strs _, ?_⟩⟩
    have := k H1 s1
    unfold isMsgD at this
    rw [c1, Bool.false_or, mk_tl] at this
    rw [if_neg Bool.false_ne_true, inV_strs]
    exact this
theorem scNum : FnScope ["word", "figures", "number"] ["word"] (defScope s_is_number) := ⟨rfl, rfl, rfl, by decide +kernel, rfl, by decide +kernel, by decide +kernel⟩
theorem c_num (b_len : mg "len" = none) (b_int : mg "int" = none) (b_str : mg "str" = none) (g_BIG : GI mg "BIG" 1000000000000) (g_FIGURES : GS mg "FIGURES" (mk [48, 49, 50, 51, 52, 53, 54, 55, 56, 57])) (G : C0 P w K mg base 1 "has_only" spHas) (D : Dn K mg "is_number" s_is_number) : C0 P w K mg base 2 "is_number" (spB isNum) := by
  obtain ⟨f, fd, F, hmm⟩ := D.ex
  refine ⟨f, fd, ["word"], F.ok scNum (fun vs H Q E h => ?_) (fun cdv A outer s H vs Q E hr h => ?_), hmm, F.kp, F.binds (ps := ["word"]) fun _ _ _ _ _ _ us hl => match us, hl with | [_], _ => rfl⟩
  · obtain ⟨z, rfl, _⟩ := h
    rfl
  obtain ⟨z, rfl, hz, k⟩ := h
  have hsz : z.length ≤ sizeLine := by rw [sizeLine_eq]; omega
  have hl := len_tl z
  have hfl : (figsOf (tl z)).length ≤ z.length := by
    unfold figsOf
    split
    · rename_i cs heq
      have := congrArg List.length heq
      rw [List.length_cons] at this
      omega
    · omega
  refine ⟨_, pss_cons (ps_set (i := 1) scNum.nd rfl (Or.inl rfl) (pe_bm PySem.F.plainAttrs_str PySem.F.slot_str_removeprefix PySem.F.type_str_removeprefix mt_removeprefix (pv 0) (pa_cons pe_str pa_nil))) <|
    pss_cons (ps_if (PW.pt (pw_or (pt_not (pt_chain op_le op_le pe_int (pe_callB call_len_str (by rfl) b_len PySem.boot_len (pa_cons (pv 1) pa_nil)) (pe_callB call_len_str (by rfl) b_len PySem.boot_len (pa_cons (pe_callTy call_str_int (by rfl) b_str (by decide +kernel) (pa_cons (pe_gi g_BIG) pa_nil)) pa_nil)))) (pw_or1 (pt_not (pt_val (pe_cc G hr (by omega) pass0 (pa_cons (pv 1) (pa_cons (pe_gs g_FIGURES) pa_nil))))))))
      (pss_one (ps_ret pe_bl))
      (pss_nil)) <|
    pss_cons (ps_set (i := 2) scNum.nd rfl (Or.inl rfl) (pe_callTy call_int_str (by rfl) b_int (by decide +kernel) (pa_cons (pv 0) pa_nil))) <|
    pss_one (ps_ret (pe_and (pe_cmpR op_eq (pe_callTy call_str_int (by rfl) b_str (by decide +kernel) (pa_cons (pv 2) pa_nil)) (pv 0) (nomark _)) (pe_one (pe_chain op_lt op_lt (pe_un un_neg (pe_gi g_BIG)) (pv 2) (pe_gi g_BIG))))), ?_⟩
  refine ⟨_, rfl, rfl, _, _, rfl, rfl, hsz, ?_⟩
  rw [removed]
  -- the answer where the figures are not as many, or none
  have no : ∀ H', Same H H' → ((¬ (1 ≤ (figsOf (tl z)).length ∧ (figsOf (tl z)).length ≤ 13)) ∨ hasOnly (figsOf (tl z)) FIGS = false) → Q (.bl false) H' := fun H' s o => by
    have := k H' s
    unfold isNum at this
    rcases o with o | o
    · rw [decide_eq_false o, Bool.false_and] at this
      exact this
    · rw [o, Bool.false_and, Bool.and_false] at this
      exact this
  refine ⟨_, rfl, _, rfl, by rw [mk_len, sizeLine_eq]; omega, _, _, rfl, rfl, _, rfl, ?_⟩
  rw [mk_len]
  refine ite2 (fun c => ?_) (fun c => ?_)
  · have c1 : (1 : Int) ≤ ((figsOf (tl z)).length : Nat) := of_decide_eq_true c
    refine ⟨_, rfl, by decide +kernel, _, rfl, by rw [sizeLine_eq]; decide +kernel, _, _, rfl, rfl, _, rfl, ?_⟩
    rw [big_len]
    refine ite2 (fun c2 => ?_) (fun c2 => ?_)
    · have c3 : ¬ (((figsOf (tl z)).length : Nat) : Int) ≤ (13 : Nat) := by simpa using c2
      exact iteT (no H (Same.refl H) (.inl (by omega)))
    · have c3 : (((figsOf (tl z)).length : Nat) : Int) ≤ (13 : Nat) := by simpa using c2
      refine ⟨_, rfl, _, _, rfl, by rw [mk_len]; omega, fun H1 s1 => ⟨_, rfl, ?_⟩⟩
      refine ite2 (fun c4 => ?_) (fun c4 => ?_)
      · have c4 : (!hasOnly (figsOf (tl z)) FIGS) = true := c4
        have c5 : hasOnly (figsOf (tl z)) FIGS = false := by simpa using c4
        exact no H1 s1 (.inr c5)
      · have c4 : ¬ (!hasOnly (figsOf (tl z)) FIGS) = true := c4
        have c5 : hasOnly (figsOf (tl z)) FIGS = true := by simpa using c4
        obtain ⟨n1, n2, n3⟩ := num_facts (l := tl z) (by omega) (by omega) c5
        rw [mk_tl] at n1 n3
        refine ⟨_, rfl, z, _, rfl, n1, by omega, ?_⟩
        refine ⟨_, rfl, _, rfl, n2, _, rfl, rfl, _, rfl, ?_⟩
        have e : isNum (tl z) = (decide (numStr (numOf (tl z)) = z) && (decide (-1000000000000 < numOf (tl z)) && decide (numOf (tl z) < 1000000000000))) := by
          unfold isNum
          rw [decide_eq_true (by omega), c5, mk_tl]
          rfl
        have k1 := k H1 s1
        rw [e] at k1
        rw [dec_str]
        show if decide (numStr (numOf (tl z)) = z) = true then _ else _
        refine ite2 (fun c6 => ?_) (fun c6 => ?_)
        · rw [c6, Bool.true_and] at k1
          refine ⟨_, rfl, _, rfl, _, _, rfl, rfl, _, rfl, ?_⟩
          refine ite2 (fun c7 => ?_) (fun c7 => ?_)
          · have c8 : decide (-1000000000000 < numOf (tl z)) = true := c7
            rw [c8, Bool.true_and] at k1
            exact ⟨_, _, rfl, rfl, k1⟩
          · have c8 : decide (-1000000000000 < numOf (tl z)) = false := by simpa using c7
            rw [c8, Bool.false_and] at k1
            exact k1
        · have c8 : decide (numStr (numOf (tl z)) = z) = false := by simpa using c6
          rw [c8, Bool.false_and] at k1
          exact k1
  · have c1 : ¬ (1 : Int) ≤ ((figsOf (tl z)).length : Nat) := of_decide_eq_false (Bool.eq_false_iff.mpr c)
    exact ⟨false, rfl, iteT (iteT (no H (Same.refl H) (.inl (by omega))))⟩
/-! numbers, rows, plain worths: what these deeds need of them -/
def rWh (ds : List Dt) (d : Dt) : Prop := ∃ i : Int, ds = [.v (.int i)] ∧ d = .v (.bl true)
theorem scWh : FnScope ["thing"] ["thing"] (defScope s_is_whole) := ⟨rfl, rfl, rfl, by decide +kernel, rfl, by decide +kernel, by decide +kernel⟩
theorem c_wh (b_isinstance : mg "isinstance" = none) (b_int : mg "int" = none) (b_bool : mg "bool" = none) (D : Dn K mg "is_whole" s_is_whole) : C0 P w K mg base 1 "is_whole" (spR 9 0 rWh) := by
  obtain ⟨f, fd, F, hmm⟩ := D.ex
  refine ⟨f, fd, ["thing"], F.ok scWh (fun vs H Q E h => ?_) (fun cdv A outer s H vs Q E hr h => ?_), hmm, F.kp, F.binds (ps := ["thing"]) fun _ _ _ _ _ _ us hl => match us, hl with | [_], _ => rfl⟩
  · obtain ⟨ds, d, al, ⟨i, rfl, _⟩, _⟩ := h
    exact al.len.symm
  obtain ⟨ds, d, al, ⟨i, rfl, rfl⟩, kq⟩ := h
  obtain ⟨v, rfl, a1⟩ := all2_1 al
  refine ⟨_, pss_one (ps_ret (pe_and (pe_callB (r := rIsi K) (id := "isinstance") call_isi (by rfl) b_isinstance (by decide +kernel) (pa_cons (pv 0) (pa_cons (pe_bltn (v := .ty "int") (by rfl) b_int (by decide +kernel) rfl) pa_nil))) (pe_one (pe_not (pe_callB (r := rIsi K) (id := "isinstance") call_isi (by rfl) b_isinstance (by decide +kernel) (pa_cons (pv 0) (pa_cons (pe_bltn (v := .ty "bool") (by rfl) b_bool (by decide +kernel) rfl) pa_nil))))))), ?_⟩
  exact (evr_ret (evd_and (evd_isi (evd_var rfl a1) (.inr (.inl rfl))) fun _ => evd_not (evd_isi (evd_var rfl a1) (.inl rfl)))).go kq
def rWi (ds : List Dt) (d : Dt) : Prop := ∃ i a b : Int, ds = [.v (.int i), .v (.int a), .v (.int b)] ∧ a ≤ i ∧ i ≤ b ∧ d = .v (.bl true)
theorem scNwi : FnScope ["thing", "least", "most"] ["thing", "least", "most"] (defScope s_is_number_within) := ⟨rfl, rfl, rfl, by decide +kernel, rfl, by decide +kernel, by decide +kernel⟩
theorem c_nwi (WH : C0 P w K mg base 1 "is_whole" (spR 9 0 rWh)) (D : Dn K mg "is_number_within" s_is_number_within) : C0 P w K mg base 2 "is_number_within" (spR 9 0 rWi) := by
  obtain ⟨f, fd, F, hmm⟩ := D.ex
  refine ⟨f, fd, ["thing", "least", "most"], F.ok scNwi (fun vs H Q E h => ?_) (fun cdv A outer s H vs Q E hr h => ?_), hmm, F.kp, F.binds (ps := ["thing", "least", "most"]) fun _ _ _ _ _ _ us hl => match us, hl with | [_, _, _], _ => rfl⟩
  · obtain ⟨ds, d, al, ⟨i, a, b, rfl, _⟩, _⟩ := h
    exact al.len.symm
  obtain ⟨ds, d, al, ⟨i, a, b, rfl, h1, h2, rfl⟩, kq⟩ := h
  obtain ⟨v, va, vb, rfl, a1, a2, a3⟩ := all2_3 al
  obtain ⟨rfl, _⟩ := atD_pl a1
  obtain ⟨rfl, _⟩ := atD_pl a2
  obtain ⟨rfl, _⟩ := atD_pl a3
  refine ⟨_, pss_one (ps_ret (pe_and (pe_cc WH hr (by omega) pass0 (pa_cons (pv 0) pa_nil)) (pe_one (pe_chain op_le op_le (pv 1) (pv 0) (pv 2))))), ?_⟩
  refine (evr_ret (evd_as (evd_and (a := true) (b := decide (a ≤ i) && decide (i ≤ b)) (evd_r (evds_cons (evd_var rfl a1) evds_nil) ⟨i, rfl, rfl⟩) fun _ => evd_chainI (evd_var rfl (atD_v (.int _))) (evd_var rfl (atD_v (.int _))) (evd_var rfl (atD_v (.int _)))) ?_)).go kq
  rw [decide_eq_true h1, decide_eq_true h2]
  rfl
def rNu (ds : List Dt) (d : Dt) : Prop := ∃ i : Int, ds = [.v (.int i)] ∧ 0 ≤ i ∧ d = .v (.bl true)
theorem scNu : FnScope ["thing"] ["thing"] (defScope s_is_number_from_0) := ⟨rfl, rfl, rfl, by decide +kernel, rfl, by decide +kernel, by decide +kernel⟩
theorem c_nu (WH : C0 P w K mg base 1 "is_whole" (spR 9 0 rWh)) (D : Dn K mg "is_number_from_0" s_is_number_from_0) : C0 P w K mg base 2 "is_number_from_0" (spR 9 0 rNu) := by
  obtain ⟨f, fd, F, hmm⟩ := D.ex
  refine ⟨f, fd, ["thing"], F.ok scNu (fun vs H Q E h => ?_) (fun cdv A outer s H vs Q E hr h => ?_), hmm, F.kp, F.binds (ps := ["thing"]) fun _ _ _ _ _ _ us hl => match us, hl with | [_], _ => rfl⟩
  · obtain ⟨ds, d, al, ⟨i, rfl, _⟩, _⟩ := h
    exact al.len.symm
  obtain ⟨ds, d, al, ⟨i, rfl, h1, rfl⟩, kq⟩ := h
  obtain ⟨v, rfl, a1⟩ := all2_1 al
  obtain ⟨rfl, _⟩ := atD_pl a1
  refine ⟨_, pss_one (ps_ret (pe_and (pe_cc WH hr (by omega) pass0 (pa_cons (pv 0) pa_nil)) (pe_one (pe_cmpR op_ge (pv 0) pe_int (nomark _))))), ?_⟩
  refine (evr_ret (evd_as (evd_and (a := true) (b := decide (0 ≤ i)) (evd_r (evds_cons (evd_var rfl a1) evds_nil) ⟨i, rfl, rfl⟩) fun _ => evd_i0 (evd_var rfl (atD_v (.int _))) (evd_c (.int _)) (.bl _)) ?_)).go kq
  rw [decide_eq_true h1]
  rfl
def rRw (ds : List Dt) (d : Dt) : Prop := ∃ (xs : List Dt) (n : Nat), ds = [.tup xs, dNat n] ∧ xs.length = n ∧ d = .v (.bl true)
theorem scRw : FnScope ["thing", "length"] ["thing", "length"] (defScope s_is_row) := ⟨rfl, rfl, rfl, by decide +kernel, rfl, by decide +kernel, by decide +kernel⟩
theorem c_rw (b_isinstance : mg "isinstance" = none) (b_tuple : mg "tuple" = none) (b_len : mg "len" = none) (D : Dn K mg "is_row" s_is_row) : C0 P w K mg base 1 "is_row" (spR 9 0 rRw) := by
  obtain ⟨f, fd, F, hmm⟩ := D.ex
  refine ⟨f, fd, ["thing", "length"], F.ok scRw (fun vs H Q E h => ?_) (fun cdv A outer s H vs Q E hr h => ?_), hmm, F.kp, F.binds (ps := ["thing", "length"]) fun _ _ _ _ _ _ us hl => match us, hl with | [_, _], _ => rfl⟩
  · obtain ⟨ds, d, al, ⟨i, n, rfl, _⟩, _⟩ := h
    exact al.len.symm
  obtain ⟨ds, d, al, ⟨xs, n, rfl, h1, rfl⟩, kq⟩ := h
  obtain ⟨v, v2, rfl, a1, a2⟩ := all2_2 al
  refine ⟨_, pss_one (ps_ret (pe_and (pe_callB (r := rIsi K) (id := "isinstance") call_isi (by rfl) b_isinstance (by decide +kernel) (pa_cons (pv 0) (pa_cons (pe_bltn (v := .ty "tuple") (by rfl) b_tuple (by decide +kernel) rfl) pa_nil))) (pe_one (pe_cmpR op_eq (pe_callB call_len_seq (by rfl) b_len PySem.boot_len (pa_cons (pv 0) pa_nil)) (pv 1) (nomark _))))), ?_⟩
  refine (evr_ret (evd_as (evd_and (a := true) (evd_isi (evd_var rfl a1) (.inr (.inr (.inr rfl)))) fun _ => evd_eqI (evd_lenT (n := 8) (evd_var rfl a1)) (evd_var rfl a2)) ?_)).go kq
  rw [h1, decide_eq_true rfl]
  rfl
def rPla (ds : List Dt) (d : Dt) : Prop := ∃ v : V, ds = [.v v] ∧ Pln v ∧ okV v = true ∧ d = .v (.bl true)
theorem scPla : FnScope ["thing"] ["thing"] (defScope s_is_plain) := ⟨rfl, rfl, rfl, by decide +kernel, rfl, by decide +kernel, by decide +kernel⟩
theorem c_pla (b_isinstance : mg "isinstance" = none) (b_int : mg "int" = none) (b_bool : mg "bool" = none) (b_str : mg "str" = none) (g_BIG : GI mg "BIG" 1000000000000) (TXT : C0 P w K mg base 2 "is_text" (spB isText)) (D : Dn K mg "is_plain" s_is_plain) : C0 P w K mg base 3 "is_plain" (spR 9 0 rPla) := by
  obtain ⟨f, fd, F, hmm⟩ := D.ex
  refine ⟨f, fd, ["thing"], F.ok scPla (fun vs H Q E h => ?_) (fun cdv A outer s H vs Q E hr h => ?_), hmm, F.kp, F.binds (ps := ["thing"]) fun _ _ _ _ _ _ us hl => match us, hl with | [_], _ => rfl⟩
  · obtain ⟨ds, d, al, ⟨i, rfl, _⟩, _⟩ := h
    exact al.len.symm
  obtain ⟨ds, d, al, ⟨v, rfl, hp, hv, rfl⟩, kq⟩ := h
  obtain ⟨v', rfl, a1⟩ := all2_1 al
  obtain ⟨rfl, _⟩ := atD_pl a1
  refine ⟨_, pss_cons (ps_if (PW.pt (pw_or (pt_cmpR op_isN (pv 0) pe_non (nomark _)) (pw_or1 (pt_val (pe_callB (r := rIsi K) (id := "isinstance") call_isi (by rfl) b_isinstance (by decide +kernel) (pa_cons (pv 0) (pa_cons (pe_bltn (v := .ty "bool") (by rfl) b_bool (by decide +kernel) rfl) pa_nil)))))))
      (pss_one (ps_ret pe_bl))
      (pss_nil)) <|
    pss_cons (ps_if (pt_val (pe_callB (r := rIsi K) (id := "isinstance") call_isi (by rfl) b_isinstance (by decide +kernel) (pa_cons (pv 0) (pa_cons (pe_bltn (v := .ty "int") (by rfl) b_int (by decide +kernel) rfl) pa_nil))))
      (pss_one (ps_ret (pe_chain op_lt op_lt (pe_un un_neg (pe_gi g_BIG)) (pv 0) (pe_gi g_BIG))))
      (pss_nil)) <|
    pss_one (ps_ret (pe_and (pe_callB (r := rIsi K) (id := "isinstance") call_isi (by rfl) b_isinstance (by decide +kernel) (pa_cons (pv 0) (pa_cons (pe_bltn (v := .ty "str") (by rfl) b_str (by decide +kernel) rfl) pa_nil))) (pe_one (pe_cc TXT hr (by omega) pass0 (pa_cons (pv 0) pa_nil))))), ?_⟩
  have t1 : ∀ {σ : L2.St}, σ[0]? = some (some v') → EvT (tOr (tTest (tOp (fun x y H Q => y = V.non ∧ Q (V.bl (decide (x = V.non))) H) (tVar 0) (tC .non))) (tB (tCB (rIsi K) (tCons (tVar 0) (tCons (tC (.ty "bool")) tNil))))) σ H (decide ((Dt.v v').srt = .non) || (Dt.v v').srt.isT "bool") := fun h => evt_or (evt_t (evd_isN (m := 0) (evd_var h a1))) fun _ => evt_b (evd_isi (m := 0) (evd_var h a1) (.inl rfl))
  have t2 : ∀ {σ : L2.St}, σ[0]? = some (some v') → EvT (tB (tCB (rIsi K) (tCons (tVar 0) (tCons (tC (.ty "int")) tNil)))) σ H ((Dt.v v').srt.isT "int") := fun h => evt_b (evd_isi (m := 0) (evd_var h a1) (.inr (.inl rfl)))
  have t3 : ∀ {σ : L2.St}, σ[0]? = some (some v') → EvD (tCB (rIsi K) (tCons (tVar 0) (tCons (tC (.ty "str")) tNil))) σ H 0 (.v (.bl ((Dt.v v').srt.isT "str"))) := fun h => evd_isi (evd_var h a1) (.inr (.inr (.inl rfl)))
  refine EvR.go (evr_if (t1 rfl) (fun _ => evr_ret (evd_c (.bl _))) fun c1 => evr_if (t2 rfl) (fun c2 => ?_) fun c2 => evr_ret (evd_as (evd_and (a := (Dt.v v').srt.isT "str") (b := okV v') (t3 rfl) fun c3 => ?_) ?_)) kq
  · cases hp with
    | int i =>
      refine evr_ret (evd_as (evd_chainI (evd_neg (evd_c (.int _))) (evd_var rfl (atD_v (.int _))) (evd_c (.int _))) ?_)
      exact hv
    | bl b => cases c1
    | _ => cases c2
  · cases hp with
    | str z =>
      have := Bool.and_eq_true _ _ ▸ (show (decide ((tl z).length ≤ 40) && hasOnly (tl z) TEXTS) = true from hv)
      have hl := of_decide_eq_true this.1
      rw [len_tl] at hl
      exact evd_spB (n := 0) (evd_var rfl (atD_v (.str _))) (by omega)
    | _ => cases c3
  · rw [hv, Bool.and_true]
    cases hp with
    | int i => cases c2
    | bl b => cases c1
    | non => cases c1
    | str z => rfl
end
end My
set_option Elab.async false
set_option linter.all false
set_option maxRecDepth 100000
set_option maxHeartbeats 4000000
namespace My
open PySem L2 SS
theorem evd_inS {te tb : TE} {σ : L2.St} {H : Hp} {n m : Nat} {x : Str} {zs : List Str} {K : PySem.W.Frag} (h : EvD te σ H n (.v (.str x))) (k : EvD tb σ H (n + 1) (.tup (zs.map tS))) : EvD (tOp (rIn K false) te tb) σ H m (.v (.bl (zs.any fun y => y == x))) := fun H1 s1 Q q => h H1 s1 _ fun v H2 s2 r => k H2 (s1.trans s2) _ fun w H3 s3 r' => by
  obtain ⟨rfl, _⟩ := atD_pl r
  obtain ⟨p, us, rfl, hp, _, al⟩ := r'
  rw [all2_strs al] at hp
  refine ⟨p, _, rfl, .inr (TupA.sq hp), rfl, flat_strs _, ?_⟩
  rw [if_neg Bool.false_ne_true, inV_strs]
  exact q _ H3 (s2.trans s3) (atD_v (.bl _))
theorem evd_intS {te : TE} {σ : L2.St} {H : Hp} {n m : Nat} {x : Str} {i : Int} (h : EvD te σ H n (.v (.str x))) (hi : PySem.intText? x = some i) (hl : x.length ≤ 640) : EvD (tCB (fun xs H Q => ∃ a n, xs = [.str a] ∧ PySem.intText? a = some n ∧ a.length ≤ 640 ∧ Q (.int n) H) (tCons te tNil)) σ H m (.v (.int i)) := fun H1 s1 Q q => h H1 s1 _ fun v H2 s2 r => by
  obtain ⟨rfl, _⟩ := atD_pl r
  exact ⟨x, i, rfl, hi, hl, q _ H2 s2 (atD_v (.int _))⟩
theorem evd_strI {te : TE} {σ : L2.St} {H : Hp} {n m : Nat} {i : Int} (h : EvD te σ H n (.v (.int i))) (hl : i.natAbs.log2 < 1920) : EvD (tCB (fun xs H Q => ∃ i, xs = [.int i] ∧ i.natAbs.log2 < 1920 ∧ Q (.str (toString i)) H) (tCons te tNil)) σ H m (.v (.str (Str.ofString (toString i)))) := fun H1 s1 Q q => h H1 s1 _ fun v H2 s2 r => by
  obtain ⟨rfl, _⟩ := atD_pl r
  exact ⟨i, rfl, hl, q _ H2 s2 (atD_v (.str _))⟩
theorem evd_so {te : TE} {σ : L2.St} {H : Hp} {n m : Nat} {d : Dt} {E : XK} (h : EvD te σ H n d) : EvD (tCall spSo [] E (tCons te tNil)) σ H m (.v (.str d.srt.w)) := fun H1 s1 Q q => h H1 s1 _ fun v H2 s2 r => ⟨v, d.srt, rfl, r.srt, q _ H2 s2 (atD_v (.str _))⟩
theorem evd_lenS {te : TE} {σ : L2.St} {H : Hp} {n m : Nat} {z : Str} (h : EvD te σ H n (.v (.str z))) (hz : z.length ≤ 100000) : EvD (tCB (fun xs H Q => ∃ z : Str, xs = [V.str z] ∧ z.length ≤ sizeLine ∧ Q (V.int ((z.length : Nat) : Int)) H) (tCons te tNil)) σ H m (.v (.int ((z.length : Nat) : Int))) := fun H1 s1 Q q => h H1 s1 _ fun v H2 s2 r => by
  obtain ⟨rfl, _⟩ := atD_pl r
  exact ⟨z, rfl, by rw [sizeLine_eq]; omega, q _ H2 s2 (atD_v (.int _))⟩
theorem evd_revL {te : TE} {σ : L2.St} {H : Hp} {n : Nat} {K : PySem.W.Frag} {ds : List Dt} (h : EvD te σ H (n + 1) (.lst ds)) (h0 : ds = []) : EvD (tRevL K te) σ H (n + 1) (.lst []) := fun H1 s1 Q q => h H1 s1 _ fun v H2 s2 r => by
  obtain ⟨p, us, rfl, hp, hl, al⟩ := r
  subst h0
  rw [all2_n al] at hp
  refine ⟨p, _, rfl, SqL.of hp, fun p2 hp2 => ?_⟩
  exact q _ _ (s2.trans (same_new hp2 _)) ⟨p2, _, rfl, upd_same, Nat.zero_le _, .nil⟩
theorem EvR.nxgo {ts : TS} {σ : L2.St} {H : Hp} {n : Nat} {d : Dt} {D : Ends} {bk ct : L2.St → Hp → Prop} {rt : VK} (h : EvR ts σ H n d) (k : ∀ v H1, Same H H1 → AtD H1 n d v → D.rt v H1) : (Ends.mk (ts D) rt bk ct).nx σ H := h H (Same.refl _) D k
/-! figures -/
theorem log_1920 {n : Nat} (h : n < 10 ^ 13) : n.log2 < 1920 := log_small h
theorem numL_h48 : ∀ n : Nat, 0 < n → (TL.numL n).head? ≠ some 48 := fun n => by
  induction n using Nat.strongRecOn with
  | ind n ih =>
    intro h
    by_cases c : n < 10
    · rw [TL.numL_lt c]
      intro e
      have := Option.some.inj e
      omega
    · rw [TL.numL_step (by omega)]
      have ne := TL.numL_ne (n / 10)
      have e : (TL.numL (n / 10) ++ [48 + n % 10]).head? = (TL.numL (n / 10)).head? := by
        cases hq : TL.numL (n / 10) with
        | nil => exact absurd hq ne
        | cons a r => rfl
      rw [e]
      exact ih (n / 10) (by omega) (by omega)
theorem num_only (n : Nat) : hasOnly (TL.numL n) FIGS = true := List.all_eq_true.mpr fun c hc => decide_eq_true (by
  have := TL.numL_digits n c hc
  unfold FIGS
  rw [List.mem_map]
  exact ⟨c - 48, List.mem_range.mpr (by omega), by omega⟩)
theorem numS_int {n : Nat} (h : n ≤ 100000000000) : PySem.intText? (numS n) = some ((n : Nat) : Int) := TL.int_num (by
  have := TL.numL_len (n := n) (k := 12) (by decide) (by omega)
  omega)
theorem numS_int0 {n : Nat} (h : n ≤ 100000000000) : PySem.intText? (Str.ofString "0" ++ numS n) = some ((n : Nat) : Int) := by
  have e : tl (Str.ofString "0" ++ numS n) = 48 :: TL.numL n := by
    rw [tl_app, tl_numS]
    rfl
  have hl := TL.numL_len (n := n) (k := 12) (by decide) (by omega)
  have := intText_digits (x := Str.ofString "0" ++ numS n) (by
    show NumText.AllDigits (tl (Str.ofString "0" ++ numS n))
    rw [e]
    intro c hc
    rcases List.mem_cons.mp hc with rfl | hc
    · decide
    · exact TL.numL_digits n c hc) (by
    show tl (Str.ofString "0" ++ numS n) ≠ []
    rw [e]
    simp) (by
    rw [← len_tl, e, List.length_cons]
    omega)
  rw [this]
  show some ((NumText.digitsVal (tl (Str.ofString "0" ++ numS n)) : Nat) : Int) = _
  rw [e]
  have : NumText.digitsVal (48 :: TL.numL n) = NumText.digitsVal (TL.numL n) := rfl
  rw [this, TL.numL_val]
theorem cut_all (z : Str) : cutS z none (some ((z.length : Nat) : Int)) = z := by
  unfold cutS
  rw [HT.sIx_none, HT.sIx_nat]
  have hl : z.cps.toList.length = z.length := len_tl z
  have e : List.take (min z.length z.length - 0) (List.drop 0 z.cps.toList) = tl z := by
    rw [List.drop_zero, Nat.min_self, Nat.sub_zero]
    exact List.take_of_length_le (by omega)
  rw [e]
/-! the text of a number that is one of is_number's -/
theorem int_isNum {i : Int} (h0 : -1000000000000 < i) (h1 : i < 1000000000000) : isNum (tl (Str.ofString (toString i))) = true ∧ PySem.intText? (Str.ofString (toString i)) = some i := by
  have key : figsOf (tl (Str.ofString (toString i))) = TL.numL i.natAbs ∧ numOf (tl (Str.ofString (toString i))) = i := by
    rw [int_signs]
    split
    · refine ⟨?_, ?_⟩
      · show tl (numS i.natAbs) = _
        exact tl_numS _
      · show -((NumText.digitsVal (tl (numS i.natAbs)) : Nat) : Int) = i
        rw [tl_numS, TL.numL_val]
        omega
    · rw [tl_numS]
      have ne := TL.numL_ne i.natAbs
      have hd := TL.numL_digits i.natAbs
      have hv := TL.numL_val i.natAbs
      generalize TL.numL i.natAbs = l at ne hd hv
      cases l with
      | nil => exact absurd rfl ne
      | cons c cs =>
        have hc := hd c List.mem_cons_self
        have n45 : c ≠ 45 := by omega
        refine ⟨?_, ?_⟩
        · unfold figsOf
          split
          · rename_i heq
            exact absurd (List.cons.inj heq).1 n45
          · rfl
        · have e : numOf (c :: cs) = ((NumText.digitsVal (c :: cs) : Nat) : Int) := by
            unfold numOf
            split
            · rename_i heq
              exact absurd (List.cons.inj heq).1 n45
            · rfl
          rw [e, hv]
          omega
  obtain ⟨k1, k2⟩ := key
  have hl := TL.numL_len (n := i.natAbs) (k := 12) (by decide) (by omega)
  have ne := TL.numL_ne i.natAbs
  have pos : 1 ≤ (TL.numL i.natAbs).length := List.length_pos_iff.mpr ne
  refine ⟨?_, ?_⟩
  · unfold isNum
    rw [k1, k2, num_only, decide_eq_true h0, decide_eq_true h1, mk_tl]
    unfold numStr
    rw [decide_eq_true rfl, decide_eq_true ⟨pos, by omega⟩]
    rfl
  · have := num_facts (l := tl (Str.ofString (toString i))) (by rw [k1]; exact pos) (by rw [k1]; omega) (by rw [k1]; exact num_only _)
    rw [mk_tl, k2] at this
    exact this.1
theorem zero_S (n : Nat) : decide (V.str (numS n) = V.str (Str.ofString "0")) = decide (n = 0) := by
  rw [dec_str]
  by_cases c : n = 0
  · subst c
    decide +kernel
  · rw [decide_eq_false c]
    refine decide_eq_false fun e => c ?_
    have e2 : TL.numL n = TL.numL 0 := by rw [← tl_numS, e]; decide +kernel
    exact TL.numL_inj e2
section
variable {P : Program} {w : World} {K : PySem.W.Frag} {mg : Str → Option Value} {base : Heap}
theorem scSo : FnScope ["thing"] ["thing"] (defScope s_sort_of) := ⟨rfl, rfl, rfl, by decide +kernel, rfl, by decide +kernel, by decide +kernel⟩
theorem c_so (b_isinstance : mg "isinstance" = none) (b_bool : mg "bool" = none) (b_int : mg "int" = none) (b_str : mg "str" = none) (b_tuple : mg "tuple" = none) (D : Dn K mg "sort_of" s_sort_of) : C0 P w K mg base 1 "sort_of" spSo := by
  obtain ⟨f, fd, F, hmm⟩ := D.ex
  refine ⟨f, fd, ["thing"], F.ok scSo (fun vs H Q E h => ?_) (fun cdv A outer s H vs Q E hr h => ?_), hmm, F.kp, F.binds (ps := ["thing"]) fun _ _ _ _ _ _ us hl => match us, hl with | [_], _ => rfl⟩
  · obtain ⟨x, s, rfl, _⟩ := h
    rfl
  obtain ⟨x, s, rfl, hs, kq⟩ := h
  refine ⟨_, pss_cons (ps_if (pt_cmpR op_isN (pv 0) pe_non (nomark _))
      (pss_one (ps_ret pe_str))
      (pss_nil)) <|
    pss_cons (ps_if (pt_val (pe_callB (r := rIsi K) (id := "isinstance") call_isi (by rfl) b_isinstance (by decide +kernel) (pa_cons (pv 0) (pa_cons (pe_bltn (v := .ty "bool") (by rfl) b_bool (by decide +kernel) rfl) pa_nil))))
      (pss_one (ps_ret pe_str))
      (pss_nil)) <|
    pss_cons (ps_if (pt_val (pe_callB (r := rIsi K) (id := "isinstance") call_isi (by rfl) b_isinstance (by decide +kernel) (pa_cons (pv 0) (pa_cons (pe_bltn (v := .ty "int") (by rfl) b_int (by decide +kernel) rfl) pa_nil))))
      (pss_one (ps_ret pe_str))
      (pss_nil)) <|
    pss_cons (ps_if (pt_val (pe_callB (r := rIsi K) (id := "isinstance") call_isi (by rfl) b_isinstance (by decide +kernel) (pa_cons (pv 0) (pa_cons (pe_bltn (v := .ty "str") (by rfl) b_str (by decide +kernel) rfl) pa_nil))))
      (pss_one (ps_ret pe_str))
      (pss_nil)) <|
    pss_cons (ps_if (pt_val (pe_callB (r := rIsi K) (id := "isinstance") call_isi (by rfl) b_isinstance (by decide +kernel) (pa_cons (pv 0) (pa_cons (pe_bltn (v := .ty "tuple") (by rfl) b_tuple (by decide +kernel) rfl) pa_nil))))
      (pss_one (ps_ret pe_str))
      (pss_nil)) <|
    pss_one (ps_ret pe_str), ?_⟩
  obtain ⟨t, ty, ht⟩ := hs.ty (K := K)
  obtain ⟨k1, k2, k3, k4⟩ := Srt.kit (K := K) ht
  refine ⟨_, rfl, rfl, _, rfl, ?_⟩
  rw [hs.none]
  cases s with
  | non => exact iteT kq
  | tru =>
    refine iteF ?_
    refine ⟨_, rfl, _, _, _, _, _, rfl, .ty "bool", ty, k1, _, rfl, ?_⟩
    exact iteT kq
  | num =>
    refine iteF ?_
    refine ⟨_, rfl, _, _, _, _, _, rfl, .ty "bool", ty, k1, _, rfl, iteF ?_⟩
    refine ⟨_, rfl, _, _, _, _, _, rfl, .ty "int", ty, k2, _, rfl, ?_⟩
    exact iteT kq
  | txt =>
    refine iteF ?_
    refine ⟨_, rfl, _, _, _, _, _, rfl, .ty "bool", ty, k1, _, rfl, iteF ?_⟩
    refine ⟨_, rfl, _, _, _, _, _, rfl, .ty "int", ty, k2, _, rfl, iteF ?_⟩
    refine ⟨_, rfl, _, _, _, _, _, rfl, .ty "str", ty, k3, _, rfl, ?_⟩
    exact iteT kq
  | tup =>
    refine iteF ?_
    refine ⟨_, rfl, _, _, _, _, _, rfl, .ty "bool", ty, k1, _, rfl, iteF ?_⟩
    refine ⟨_, rfl, _, _, _, _, _, rfl, .ty "int", ty, k2, _, rfl, iteF ?_⟩
    refine ⟨_, rfl, _, _, _, _, _, rfl, .ty "str", ty, k3, _, rfl, iteF ?_⟩
    refine ⟨_, rfl, _, _, _, _, _, rfl, .ty "tuple", ty, k4, _, rfl, ?_⟩
    exact iteT kq
  | oth =>
    refine iteF ?_
    refine ⟨_, rfl, _, _, _, _, _, rfl, .ty "bool", ty, k1, _, rfl, iteF ?_⟩
    refine ⟨_, rfl, _, _, _, _, _, rfl, .ty "int", ty, k2, _, rfl, iteF ?_⟩
    refine ⟨_, rfl, _, _, _, _, _, rfl, .ty "str", ty, k3, _, rfl, iteF ?_⟩
    refine ⟨_, rfl, _, _, _, _, _, rfl, .ty "tuple", ty, k4, _, rfl, ?_⟩
    exact iteF kq
def rFg (ds : List Dt) (d : Dt) : Prop := ∃ n : Nat, ds = [tS (numS n)] ∧ n ≤ 100000000000 ∧ d = .v (.bl true)
theorem scFg : FnScope ["word"] ["word"] (defScope s_is_figures) := ⟨rfl, rfl, rfl, by decide +kernel, rfl, by decide +kernel, by decide +kernel⟩
theorem c_fg (g_FIGURES : GS mg "FIGURES" (mk [48, 49, 50, 51, 52, 53, 54, 55, 56, 57])) (G : C0 P w K mg base 1 "has_only" spHas) (D : Dn K mg "is_figures" s_is_figures) : C0 P w K mg base 2 "is_figures" (spR 9 0 rFg) := by
  obtain ⟨f, fd, F, hmm⟩ := D.ex
  refine ⟨f, fd, ["word"], F.ok scFg (fun vs H Q E h => ?_) (fun cdv A outer s H vs Q E hr h => ?_), hmm, F.kp, F.binds (ps := ["word"]) fun _ _ _ _ _ _ us hl => match us, hl with | [_], _ => rfl⟩
  · obtain ⟨ds, d, al, ⟨i, rfl, _⟩, _⟩ := h
    exact al.len.symm
  obtain ⟨ds, d, al, ⟨n, rfl, hn, rfl⟩, kq⟩ := h
  obtain ⟨v, rfl, a1⟩ := all2_1 al
  obtain ⟨rfl, _⟩ := atD_pl a1
  have wd := wd_num hn
  refine ⟨_, pss_cons (ps_if (PW.pt (pw_or (pt_cmpR op_eq (pv 0) pe_str (nomark _)) (pw_or1 (pt_not (pt_val (pe_cc G hr (by omega) pass0 (pa_cons (pv 0) (pa_cons (pe_gs g_FIGURES) pa_nil))))))))
      (pss_one (ps_ret pe_bl))
      (pss_nil)) <|
    pss_one (ps_ret (pe_or (pe_cmpR op_eq (pv 0) pe_str (nomark _)) (pe_one (pe_not (pe_m1 PySem.F.slot_str_startswith PySem.F.type_str_startswith mt_startswith (pv 0) pe_str))))), ?_⟩
  have v0 : EvD (tVar 0) (L2.start ["word"] [V.str (numS n)]) H 0 (tS (numS n)) := evd_var rfl (atD_v (.str _))
  have ho : EvD (tCall spHas [] E (tCons (tVar 0) (tCons (tC (.str (mk [48, 49, 50, 51, 52, 53, 54, 55, 56, 57]))) tNil))) (L2.start ["word"] [V.str (numS n)]) H 0 (.v (.bl true)) := fun H1 s1 Q q => by
    refine ⟨_, rfl, _, _, rfl, Nat.le_trans wd.len (by decide), fun H2 s2 => ?_⟩
    have : hasOnly (tl (numS n)) (tl (mk [48, 49, 50, 51, 52, 53, 54, 55, 56, 57])) = true := by
      rw [tl_numS]
      exact num_only n
    rw [this]
    exact q _ H2 s2 (atD_v (.bl _))
  have hne : decide (V.str (numS n) = V.str (Str.ofString "")) = false := by
    rw [dec_str]
    refine decide_eq_false fun e => TL.numL_ne n ?_
    rw [← tl_numS, e]
    decide +kernel
  refine EvR.go (evr_ifF (evt_as (evt_or (evt_t (evd_eqS v0 (evd_c (.str _)))) fun _ => evt_not (evt_b ho)) (by rw [hne]; rfl)) (evr_ret (evd_as (evd_or (evd_eqS v0 (evd_c (.str _))) fun _ => evd_not (evd_m1b (g := Txt.startswith) v0 (evd_c (.str _)))) ?_))) kq
  rw [zero_S]
  by_cases c : n = 0
  · rw [decide_eq_true c]
    rfl
  · have e0 : Str.ofString "0" = mk [48] := by decide +kernel
    rw [decide_eq_false c, e0, starts1, tl_numS, decide_eq_false (numL_h48 n (by omega))]
    rfl
def rNo (ds : List Dt) (d : Dt) : Prop := ∃ n : Nat, ds = [tS (numS n)] ∧ n ≤ 100000000000 ∧ d = dNat n
theorem scNo : FnScope ["figures", "first", "number", "at"] ["figures"] (defScope s_number_of) := ⟨rfl, rfl, rfl, by decide +kernel, rfl, by decide +kernel, by decide +kernel⟩
theorem c_no (b_len : mg "len" = none) (b_int : mg "int" = none) (b_range : mg "range" = none) (g_PART_FIGURES : GI mg "PART_FIGURES" 60) (D : Dn K mg "number_of" s_number_of) : C0 P w K mg base 1 "number_of" (spR 9 0 rNo) := by
  obtain ⟨f, fd, F, hmm⟩ := D.ex
  refine ⟨f, fd, ["figures"], F.ok scNo (fun vs H Q E h => ?_) (fun cdv A outer s H vs Q E hr h => ?_), hmm, F.kp, F.binds (ps := ["figures"]) fun _ _ _ _ _ _ us hl => match us, hl with | [_], _ => rfl⟩
  · obtain ⟨ds, d, al, ⟨i, rfl, _⟩, _⟩ := h
    exact al.len.symm
  obtain ⟨ds, d, al, ⟨n, rfl, hn, rfl⟩, kq⟩ := h
  obtain ⟨v, rfl, a1⟩ := all2_1 al
  obtain ⟨rfl, _⟩ := atD_pl a1
  have wd := wd_num hn
  have hl := wd.len
  have em : (((numS n).length : Nat) : Int) % 60 = (((numS n).length : Nat) : Int) := Int.emod_eq_of_lt (by omega) (by omega)
  refine ⟨_, pss_cons (ps_set (i := 1) scNo.nd rfl (Or.inl rfl) (pe_op op_mod (pe_callB call_len_str (by rfl) b_len PySem.boot_len (pa_cons (pv 0) pa_nil)) (pe_gi g_PART_FIGURES))) <|
    pss_cons (ps_set (i := 2) scNo.nd rfl (Or.inl rfl) (pe_callTy call_int_str (by rfl) b_int (by decide +kernel) (pa_cons (pe_op op_add_str pe_str (pe_slice sl_str (pv 0) po_none (po_some (pv 1)))) pa_nil))) <|
    pss_cons (ps_for PassesOwn.never rfl (pi_range3 rfl b_range (pa_cons (pv 1) (pa_cons (pe_callB call_len_str (by rfl) b_len PySem.boot_len (pa_cons (pv 0) pa_nil)) (pa_cons (pe_gi g_PART_FIGURES) pa_nil)))) (pg_name (i := 3) scNo.nd rfl (Or.inl rfl)) pss_never) <|
    pss_one (ps_ret (pv 2)), ?_⟩
  refine ⟨_, rfl, _, rfl, by rw [sizeLine_eq]; omega, _, _, rfl, rfl, (by show (0 : Int) < 60; decide), ?_⟩
  show gName 1 (V.int ((((numS n).length : Nat) : Int) % 60)) _ H _
  rw [em]
  refine ⟨_, rfl, _, rfl, _, rfl, _, rfl, by rw [sizeLine_eq]; omega, ?_⟩
  rw [cut_all]
  refine ⟨_, _, rfl, rfl, by rw [sizeLine_eq]; show 1 + _ ≤ _; omega, _, _, rfl, numS_int0 hn, ?_, ?_⟩
  · rw [Str.length_append]
    show 1 + _ ≤ _
    omega
  refine ⟨_, rfl, _, rfl, _, rfl, by rw [sizeLine_eq]; omega, _, _, _, 0, rfl, ⟨by decide, by decide, ?_, ?_⟩, ?_⟩
  · have all : ∀ l : Fin 42, Builtin.Range.small ((l.1 : Nat) : Int) ((l.1 : Nat) : Int) 60 = true := by decide +kernel
    exact all ⟨(numS n).length, by omega⟩
  · have all : ∀ l : Fin 42, Builtin.Range.rangeSize ((l.1 : Nat) : Int) ((l.1 : Nat) : Int) 60 = ((0 : Nat) : Int) := by decide +kernel
    exact all ⟨(numS n).length, by omega⟩
  refine for_rangeC (lo := _) (c := _) (n := 0) (fun i σ H' => H' = H ∧ σ[2]? = some (some (.int ((n : Nat) : Int)))) ⟨rfl, rfl⟩ (fun i σ H' hi => absurd hi (Nat.not_lt_zero _)) fun σ H' ⟨e, h2⟩ => ?_
  subst e
  exact ⟨_, h2, kq _ _ (Same.refl _) (atD_v (.int _))⟩
def rFo (ds : List Dt) (d : Dt) : Prop := ∃ n : Nat, ds = [dNat n] ∧ n ≤ 100000000000 ∧ d = tS (numS n)
theorem scFo : FnScope ["number", "parts", "part"] ["number"] (defScope s_figures_of) := ⟨rfl, rfl, rfl, by decide +kernel, rfl, by decide +kernel, by decide +kernel⟩
theorem c_fo (b_str : mg "str" = none) (g_PART : GI mg "PART" 1000000000000000000000000000000000000000000000000000000000000) (D : Dn K mg "figures_of" s_figures_of) : C0 P w K mg base 1 "figures_of" (spR 9 0 rFo) := by
  obtain ⟨f, fd, F, hmm⟩ := D.ex
  refine ⟨f, fd, ["number"], F.ok scFo (fun vs H Q E h => ?_) (fun cdv A outer s H vs Q E hr h => ?_), hmm, F.kp, F.binds (ps := ["number"]) fun _ _ _ _ _ _ us hl => match us, hl with | [_], _ => rfl⟩
  · obtain ⟨ds, d, al, ⟨i, rfl, _⟩, _⟩ := h
    exact al.len.symm
  obtain ⟨ds, d, al, ⟨n, rfl, hn, rfl⟩, kq⟩ := h
  obtain ⟨v, rfl, a1⟩ := all2_1 al
  obtain ⟨rfl, _⟩ := atD_pl a1
  have wd := wd_num hn
  have hl := wd.len
  refine ⟨_, pss_cons (ps_set (i := 1) scFo.nd rfl (Or.inl rfl) (pe_lst pa_nil)) <|
    pss_cons (ps_while PassesOwn.never (pt_cmpR op_ge (pv 0) (pe_gi g_PART) (nomark _)) pss_never) <|
    pss_one (ps_ret (pe_join pe_str (pe_lst (pa_cons (pe_callTy call_str_int (by rfl) b_str (by decide +kernel) (pa_cons (pv 0) pa_nil)) (StX.pa_star (pe_revL (pv 1)) pa_nil))))), ?_⟩
  refine ⟨by show 0 ≤ sizeLine; decide, fun p hp => ?_⟩
  have s1 := same_new hp (.lst [])
  have f1 : upd H p (.lst []) p = some (.lst []) := upd_same
  generalize upd H p (.lst []) = H1 at s1 f1 ⊢
  refine while_by (fun σ H' => H' = H1 ∧ σ[0]? = some (some (.int ((n : Nat) : Int))) ∧ σ[1]? = some (some (.ref p))) (fun _ _ => 0) ⟨rfl, rfl, rfl⟩ (fun σ H' ⟨e, h0, h1⟩ => ?_) ?_
  · subst e
    refine ⟨_, h0, _, _, rfl, rfl, _, rfl, ?_⟩
    refine ite2 (fun c => absurd (of_decide_eq_true c) (by omega)) fun _ => ?_
    have dp : AtD H' 1 (.lst []) (.ref p) := ⟨p, [], rfl, f1, Nat.zero_le _, .nil⟩
    refine EvR.nxgo (evr_ret (n := 0) (evd_to (evd_join (K := K) (n := 0) (zs := [numS n]) (evd_c (.str _)) (evd_lst (evds_cons (evd_strI (evd_var h0 (atD_v (n := 0) (.int _))) (log_1920 (by omega))) (evds_starL (evd_revL (evd_var h1 dp) rfl) evds_nil)) (Nat.le_of_ble_eq_true rfl)) ?_) ?_)) fun v H2 s2 a2 => kq v H2 (s1.trans s2) a2
    · show (numS n).length + 0 + 1 * 0 ≤ _
      omega
    · congr 2
  · intro σ H Q Q' hq
    rintro ⟨v, h0, i, j, e1, e2, k, e3, q⟩
    exact ⟨v, h0, i, j, e1, e2, k, e3, hq _ _ q⟩
end
end My
set_option Elab.async false
set_option linter.all false
set_option maxRecDepth 100000
set_option maxHeartbeats 4000000
namespace My
open PySem L2 SS
theorem okV_pln {v : V} (h : okV v = true) : Pln v := by
  cases v with
  | int i => exact .int i
  | str z => exact .str z
  | bl b => exact .bl b
  | non => exact .non
  | _ => cases h
theorem okV_int {i : Int} (h : okV (.int i) = true) : -1000000000000 < i ∧ i < 1000000000000 := by
  have := Bool.and_eq_true _ _ ▸ (show (decide (-1000000000000 < i) && decide (i < 1000000000000)) = true from h)
  exact ⟨of_decide_eq_true this.1, of_decide_eq_true this.2⟩
theorem int_log {i : Int} (h : -1000000000000 < i ∧ i < 1000000000000) : i.natAbs.log2 < 1920 := log_1920 (by omega)
theorem int_heads {i : Int} {c : Nat} (hc : c ≠ 45 ∧ (c < 48 ∨ 57 < c)) : (tl (Str.ofString (toString i))).head? ≠ some c := by
  rw [int_signs]
  split
  · intro e
    have := Option.some.inj (show some 45 = some c from e)
    omega
  · rw [tl_numS]
    have ne := TL.numL_ne i.natAbs
    have hd := TL.numL_digits i.natAbs
    generalize TL.numL i.natAbs = l at ne hd
    cases l with
    | nil => exact absurd rfl ne
    | cons a r =>
      intro e
      have := Option.some.inj (show some a = some c from e)
      have := hd a List.mem_cons_self
      omega
theorem int_ne {i : Int} {z : Str} {c : Nat} (hc : c ≠ 45 ∧ (c < 48 ∨ 57 < c)) (hz : (tl z).head? = some c) : Str.ofString (toString i) ≠ z := fun e => int_heads (i := i) hc (by rw [e]; exact hz)
theorem quote_eq (z : Str) : [Str.ofString "'", z].foldl (· ++ ·) Str.empty = mk (39 :: tl z) := by
  apply TL.ext_tl
  show tl ((Str.empty ++ Str.ofString "'") ++ z) = 39 :: tl z
  rw [tl_app, tl_app]
  rfl
theorem evd_ret0 {te : TE} {σ : L2.St} {H : Hp} {n m : Nat} {d : Dt} (h : EvD te σ H n d) (hm : n ≤ m) : EvD te σ H m d := h.lv hm
abbrev sdec (s : Srt) (z : String) : Bool := decide (V.str s.w = V.str (Str.ofString z))
section
variable {P : Program} {w : World} {K : PySem.W.Frag} {mg : Str → Option Value} {base : Heap}
def rWw (ds : List Dt) (d : Dt) : Prop := ∃ v : V, ds = [.v v] ∧ okV v = true ∧ d = tS (wordV v)
theorem scWw : FnScope ["worth", "sort"] ["worth"] (defScope s_word_of_worth) := ⟨rfl, rfl, rfl, by decide +kernel, rfl, by decide +kernel, by decide +kernel⟩
theorem c_ww (b_str : mg "str" = none) (SO : C0 P w K mg base 1 "sort_of" spSo) (D : Dn K mg "word_of_worth" s_word_of_worth) : C0 P w K mg base 2 "word_of_worth" (spR 9 0 rWw) := by
  obtain ⟨f, fd, F, hmm⟩ := D.ex
  refine ⟨f, fd, ["worth"], F.ok scWw (fun vs H Q E h => ?_) (fun cdv A outer s H vs Q E hr h => ?_), hmm, F.kp, F.binds (ps := ["worth"]) fun _ _ _ _ _ _ us hl => match us, hl with | [_], _ => rfl⟩
  · obtain ⟨ds, d, al, ⟨i, rfl, _⟩, _⟩ := h
    exact al.len.symm
  obtain ⟨ds, d, al, ⟨v, rfl, hv, rfl⟩, kq⟩ := h
  obtain ⟨v', rfl, a1⟩ := all2_1 al
  obtain ⟨rfl, _⟩ := atD_pl a1
  refine ⟨_, pss_cons (ps_set (i := 1) scWw.nd rfl (Or.inl rfl) (pe_cc SO hr (by omega) pass0 (pa_cons (pv 0) pa_nil))) <|
    pss_cons (ps_if (pt_cmpR op_eq (pv 1) pe_str (nomark _))
      (pss_one (ps_ret (pe_joined (PJ.cons pe_str (PJ.cons (pe_fmt (pv 0)) PJ.nil)))))
      (pss_nil)) <|
    pss_cons (ps_if (pt_cmpR op_eq (pv 1) pe_str (nomark _))
      (pss_one (ps_ret (pe_ifExp (pt_truth (pv 0) (fun _ => rfl)) pe_str pe_str)))
      (pss_nil)) <|
    pss_one (ps_ret (pe_ifExp (pt_cmpR op_eq (pv 1) pe_str (nomark _)) pe_str (pe_callTy call_str_int (by rfl) b_str (by decide +kernel) (pa_cons (pv 0) pa_nil)))), ?_⟩
  have v0 : ∀ {σ : L2.St} {H : Hp}, σ[0]? = some (some v') → EvD (tVar 0) σ H 0 (.v v') := fun h => evd_var h (atD_v (okV_pln hv))
  refine EvR.go (evr_asg (m := 0) (evd_so (v0 rfl)) fun u H1 s1 r1 => ?_) kq
  obtain ⟨rfl, _⟩ := atD_pl r1
  have u1 : ∀ {σ : L2.St} {H : Hp}, σ[1]? = some (some (V.str (Dt.v v').srt.w)) → EvD (tVar 1) σ H 0 (.v (V.str (Dt.v v').srt.w)) := fun h => evd_var h (atD_v (.str _))
  cases v' with
  | str z =>
    refine evr_ifT (evt_as (evt_t (evd_eqS (u1 rfl) (evd_c (.str _)))) (show sdec .txt "text" = true by decide +kernel)) (evr_ret (evd_to (evd_joined (evj_cons (evd_c (.str _)) (evj_cons (evd_fmtS (v0 rfl) ?_) evj_nil)) ?_) ?_))
    · have := (wd_V hv).len
      have e : (wordV (.str z)).length = z.length + 1 := by
        show (mk (39 :: tl z)).length = _
        rw [mk_len, List.length_cons, len_tl]
      omega
    · have := (wd_V hv).len
      have e : (wordV (.str z)).length = z.length + 1 := by
        show (mk (39 :: tl z)).length = _
        rw [mk_len, List.length_cons, len_tl]
      show (Str.ofString "'").length + (z.length + 0) ≤ _
      have : (Str.ofString "'").length = 1 := by decide +kernel
      omega
    · show tS ([Str.ofString "'", z].foldl (· ++ ·) Str.empty) = tS (mk (39 :: tl z))
      rw [quote_eq]
  | bl b =>
    refine evr_ifF (evt_as (evt_t (evd_eqS (u1 rfl) (evd_c (.str _)))) (show sdec .tru "text" = false by decide +kernel)) (evr_ifT (evt_as (evt_t (evd_eqS (u1 rfl) (evd_c (.str _)))) (show sdec .tru "truth" = true by decide +kernel)) (evr_ret (evd_if (c := b) (fun H2 s2 R q => ⟨_, rfl, b, rfl, q H2 (Same.refl _)⟩) (fun c => ?_) fun c => ?_)))
    · subst c
      exact evd_c (.str _)
    · subst c
      exact evd_c (.str _)
  | int i =>
    refine evr_ifF (evt_as (evt_t (evd_eqS (u1 rfl) (evd_c (.str _)))) (show sdec .num "text" = false by decide +kernel)) (evr_ifF (evt_as (evt_t (evd_eqS (u1 rfl) (evd_c (.str _)))) (show sdec .num "truth" = false by decide +kernel)) (evr_ret (evd_if (c := false) (evt_as (evt_t (evd_eqS (u1 rfl) (evd_c (.str _)))) (show sdec .num "none" = false by decide +kernel)) (fun c => (by cases c)) fun _ => evd_strI (v0 rfl) (int_log (okV_int hv)))))
  | non =>
    refine evr_ifF (evt_as (evt_t (evd_eqS (u1 rfl) (evd_c (.str _)))) (show sdec .non "text" = false by decide +kernel)) (evr_ifF (evt_as (evt_t (evd_eqS (u1 rfl) (evd_c (.str _)))) (show sdec .non "truth" = false by decide +kernel)) (evr_ret (evd_if (c := true) (evt_as (evt_t (evd_eqS (u1 rfl) (evd_c (.str _)))) (show sdec .non "none" = true by decide +kernel)) (fun _ => evd_c (.str _)) fun c => (by cases c))))
  | _ => cases hv
def rWo (ds : List Dt) (d : Dt) : Prop := ∃ v : V, ds = [tS (wordV v)] ∧ okV v = true ∧ d = .v v
theorem scWo : FnScope ["word"] ["word"] (defScope s_worth_of_word) := ⟨rfl, rfl, rfl, by decide +kernel, rfl, by decide +kernel, by decide +kernel⟩
theorem c_wo (b_int : mg "int" = none) (TXT : C0 P w K mg base 2 "is_text" (spB isText)) (NUM : C0 P w K mg base 2 "is_number" (spB isNum)) (D : Dn K mg "worth_of_word" s_worth_of_word) : C0 P w K mg base 3 "worth_of_word" (spR 9 0 rWo) := by
  obtain ⟨f, fd, F, hmm⟩ := D.ex
  refine ⟨f, fd, ["word"], F.ok scWo (fun vs H Q E h => ?_) (fun cdv A outer s H vs Q E hr h => ?_), hmm, F.kp, F.binds (ps := ["word"]) fun _ _ _ _ _ _ us hl => match us, hl with | [_], _ => rfl⟩
  · obtain ⟨ds, d, al, ⟨i, rfl, _⟩, _⟩ := h
    exact al.len.symm
  obtain ⟨ds, d, al, ⟨v, rfl, hv, rfl⟩, kq⟩ := h
  obtain ⟨v', rfl, a1⟩ := all2_1 al
  obtain ⟨rfl, _⟩ := atD_pl a1
  have wl := (wd_V hv).len
  refine ⟨_, pss_cons (ps_if (PW.pt (pw_and (pt_val (pe_m1 PySem.F.slot_str_startswith PySem.F.type_str_startswith mt_startswith (pv 0) pe_str)) (pw_and1 (pt_val (pe_cc TXT hr (by omega) pass0 (pa_cons (pe_slice sl_str (pv 0) (po_some pe_int) po_none) pa_nil))))))
      (pss_one (ps_ret (pe_slice sl_str (pv 0) (po_some pe_int) po_none)))
      (pss_nil)) <|
    pss_cons (ps_if (pt_cmpR op_in_seq (pv 0) (pe_tup (pa_cons pe_str (pa_cons pe_str pa_nil))) (by rfl))
      (pss_one (ps_ret (pe_cmpR op_eq (pv 0) pe_str (nomark _))))
      (pss_nil)) <|
    pss_cons (ps_if (pt_cmpR op_eq (pv 0) pe_str (nomark _))
      (pss_one (ps_ret pe_non))
      (pss_nil)) <|
    pss_one (ps_ret (pe_ifExp (pt_val (pe_cc NUM hr (by omega) pass0 (pa_cons (pv 0) pa_nil))) (pe_callTy call_int_str (by rfl) b_int (by decide +kernel) (pa_cons (pv 0) pa_nil)) (pe_tup (pa_cons (pv 0) pa_nil)))), ?_⟩
  have v0 : ∀ {σ : L2.St} {H : Hp}, σ[0]? = some (some (V.str (wordV v))) → EvD (tVar 0) σ H 0 (tS (wordV v)) := fun h => evd_var h (atD_v (.str _))
  have tf : ∀ {σ : L2.St} {H : Hp}, EvD (tTup (tCons (tC (.str (Str.ofString "true"))) (tCons (tC (.str (Str.ofString "false"))) tNil))) σ H 1 (.tup ([Str.ofString "true", Str.ofString "false"].map tS)) := evd_tup (evds_cons (evd_c (.str _)) (evds_cons (evd_c (.str _)) evds_nil)) (Nat.le_of_ble_eq_true rfl)
  have q39 : Str.ofString "'" = mk [39] := s_quote
  cases v with
  | str z =>
    have e1 : cutS (wordV (.str z)) (some 1) none = z := by
      rw [cut1]
      show mk ((39 :: tl z).drop 1) = z
      rw [List.drop_one, List.tail_cons, mk_tl]
    have sl : ∀ {σ : L2.St} {H : Hp}, σ[0]? = some (some (V.str (wordV (.str z)))) → EvD (tSl rSlS (tVar 0) (tPart (tC (.int 1))) tNoPart) σ H 0 (tS z) := fun h => evd_to (evd_slS (v0 h) (evo_some (evd_c (.int _))) evo_none (by omega)) (by rw [e1])
    have zl : z.length ≤ 100000 := by
      have e : (wordV (.str z)).length = z.length + 1 := by
        show (mk (39 :: tl z)).length = _
        rw [mk_len, List.length_cons, len_tl]
      omega
    refine EvR.go (evr_ifT (evt_as (evt_and (evt_b (evd_m1b (m := 0) (g := Txt.startswith) (v0 rfl) (evd_c (.str _)))) fun _ => evt_b (evd_spB (m := 0) (g := isText) (sl rfl) zl)) ?_) (evr_ret (sl rfl))) kq
    rw [q39, starts1]
    have : isText (tl z) = true := hv
    rw [this, Bool.and_true]
    exact decide_eq_true rfl
  | bl b =>
    refine EvR.go (evr_ifF (evt_as (evt_and (b := false) (evt_b (evd_m1b (m := 0) (g := Txt.startswith) (v0 rfl) (evd_c (.str _)))) fun c => ?_) (Bool.and_false _)) (evr_ifT (evt_as (evt_t (evd_inS (m := 0) (v0 rfl) tf)) ?_) (evr_ret (evd_to (evd_eqS (v0 rfl) (evd_c (.str _))) ?_)))) kq
    · exfalso
      revert c
      cases b <;> decide +kernel
    · cases b <;> decide +kernel
    · cases b
      · have : decide (V.str (wordV (.bl false)) = V.str (Str.ofString "true")) = false := by decide +kernel
        rw [this]
      · have : decide (V.str (wordV (.bl true)) = V.str (Str.ofString "true")) = true := by decide +kernel
        rw [this]
  | non =>
    refine EvR.go (evr_ifF (evt_as (evt_and (b := false) (evt_b (evd_m1b (m := 0) (g := Txt.startswith) (v0 rfl) (evd_c (.str _)))) fun c => ?_) (Bool.and_false _)) (evr_ifF (evt_as (evt_t (evd_inS (m := 0) (v0 rfl) tf)) (by decide +kernel)) (evr_ifT (evt_as (evt_t (evd_eqS (v0 rfl) (evd_c (.str _)))) (by decide +kernel)) (evr_ret (evd_c .non))))) kq
    exfalso
    revert c
    decide +kernel
  | int i =>
    have hi := okV_int hv
    obtain ⟨k1, k2⟩ := int_isNum hi.1 hi.2
    have n39 : Txt.startswith (wordV (.int i)) (Str.ofString "'") = false := by
      rw [q39, starts1]
      exact decide_eq_false (int_heads (i := i) (by decide))
    refine EvR.go (evr_ifF (evt_as (evt_and (b := false) (evt_b (evd_m1b (m := 0) (g := Txt.startswith) (v0 rfl) (evd_c (.str _)))) fun c => absurd c (by rw [n39]; decide)) (Bool.and_false _)) (evr_ifF (evt_as (evt_t (evd_inS (m := 0) (v0 rfl) tf)) ?_) (evr_ifF (evt_as (evt_t (evd_eqS (v0 rfl) (evd_c (.str _)))) ?_) (evr_ret (evd_if (c := true) (evt_as (evt_b (evd_spB (m := 0) (g := isNum) (v0 rfl) (by omega))) k1) (fun _ => evd_intS (v0 rfl) k2 (by show (wordV (.int i)).length ≤ 640; omega)) fun c => (by cases c)))))) kq
    · simp only [List.any_cons, List.any_nil, Bool.or_false, Bool.or_eq_false_iff]
      refine ⟨beq_eq_false_iff_ne.mpr fun e => int_ne (i := i) (c := 116) (by decide) (by decide +kernel) e.symm, beq_eq_false_iff_ne.mpr fun e => int_ne (i := i) (c := 102) (by decide) (by decide +kernel) e.symm⟩
    · rw [dec_str]
      exact decide_eq_false fun e => int_ne (i := i) (c := 110) (by decide) (by decide +kernel) e
  | _ => cases hv
def rWp (ds : List Dt) (d : Dt) : Prop := (∃ z : Str, ds = [tS z] ∧ d = tS z) ∨ ∃ n : Nat, ds = [dNat n] ∧ n ≤ 100000000000 ∧ d = tS (numS n)
theorem scWp : FnScope ["part"] ["part"] (defScope s_word_of_part) := ⟨rfl, rfl, rfl, by decide +kernel, rfl, by decide +kernel, by decide +kernel⟩
theorem c_wp (b_isinstance : mg "isinstance" = none) (b_str : mg "str" = none) (FO : C0 P w K mg base 1 "figures_of" (spR 9 0 rFo)) (D : Dn K mg "word_of_part" s_word_of_part) : C0 P w K mg base 2 "word_of_part" (spR 9 0 rWp) := by
  obtain ⟨f, fd, F, hmm⟩ := D.ex
  refine ⟨f, fd, ["part"], F.ok scWp (fun vs H Q E h => ?_) (fun cdv A outer s H vs Q E hr h => ?_), hmm, F.kp, F.binds (ps := ["part"]) fun _ _ _ _ _ _ us hl => match us, hl with | [_], _ => rfl⟩
  · obtain ⟨ds, d, al, hR, _⟩ := h
    rcases hR with ⟨z, rfl, _⟩ | ⟨z, rfl, _⟩ <;> exact al.len.symm
  obtain ⟨ds, d, al, hR, kq⟩ := h
  refine ⟨_, pss_one (ps_ret (pe_ifExp (pt_val (pe_callB (r := rIsi K) (id := "isinstance") call_isi (by rfl) b_isinstance (by decide +kernel) (pa_cons (pv 0) (pa_cons (pe_bltn (v := .ty "str") (by rfl) b_str (by decide +kernel) rfl) pa_nil)))) (pv 0) (pe_cc FO hr (by omega) pass0 (pa_cons (pv 0) pa_nil)))), ?_⟩
  rcases hR with ⟨z, rfl, rfl⟩ | ⟨n, rfl, hn, rfl⟩
  · obtain ⟨v, rfl, a1⟩ := all2_1 al
    obtain ⟨rfl, _⟩ := atD_pl a1
    exact (evr_ret (evd_if (c := true) (evt_b (evd_isi (m := 0) (evd_var rfl a1) (.inr (.inr (.inl rfl))))) (fun _ => evd_var rfl (atD_v (.str _))) fun c => (by cases c))).go kq
  · obtain ⟨v, rfl, a1⟩ := all2_1 al
    exact (evr_ret (evd_if (c := false) (evt_b (evd_isi (m := 0) (evd_var rfl a1) (.inr (.inr (.inl rfl))))) (fun c => (by cases c)) fun _ => evd_r (evds_cons (evd_var rfl a1) evds_nil) ⟨n, rfl, hn, rfl⟩)).go kq
def rNw (ds : List Dt) (d : Dt) : Prop := ∃ n : Nat, ds = [tS (numS n)] ∧ n ≤ 100000000000 ∧ d = dNat n
theorem scNw : FnScope ["word"] ["word"] (defScope s_number_of_word) := ⟨rfl, rfl, rfl, by decide +kernel, rfl, by decide +kernel, by decide +kernel⟩
theorem c_nw (NO : C0 P w K mg base 1 "number_of" (spR 9 0 rNo)) (FG : C0 P w K mg base 2 "is_figures" (spR 9 0 rFg)) (D : Dn K mg "number_of_word" s_number_of_word) : C0 P w K mg base 3 "number_of_word" (spR 9 0 rNw) := by
  obtain ⟨f, fd, F, hmm⟩ := D.ex
  refine ⟨f, fd, ["word"], F.ok scNw (fun vs H Q E h => ?_) (fun cdv A outer s H vs Q E hr h => ?_), hmm, F.kp, F.binds (ps := ["word"]) fun _ _ _ _ _ _ us hl => match us, hl with | [_], _ => rfl⟩
  · obtain ⟨ds, d, al, ⟨n, rfl, _⟩, _⟩ := h
    exact al.len.symm
  obtain ⟨ds, d, al, ⟨n, rfl, hn, rfl⟩, kq⟩ := h
  obtain ⟨v, rfl, a1⟩ := all2_1 al
  refine ⟨_, pss_one (ps_ret (pe_ifExp (pt_val (pe_cc FG hr (by omega) pass0 (pa_cons (pv 0) pa_nil))) (pe_cc NO hr (by omega) pass0 (pa_cons (pv 0) pa_nil)) (pv 0))), ?_⟩
  exact (evr_ret (evd_if (c := true) (evt_b (evd_r (evds_cons (evd_var rfl a1) evds_nil) ⟨n, rfl, hn, rfl⟩)) (fun _ => evd_r (evds_cons (evd_var rfl a1) evds_nil) ⟨n, rfl, hn, rfl⟩) fun c => (by cases c))).go kq
theorem part_M {q : Str × Nat} (h : isPage (tl q.1) = true) : Txt.partition (wordM q) (Str.ofString ":") = (q.1, Str.ofString ":", numS q.2) := by
  have e : tl (Str.ofString ":") = [58] := by decide +kernel
  refine TL.partition_app (s := 58) (S := []) e fun hc => ?_
  have := only_mem (name_only h).1 hc
  revert this
  decide +kernel
def rMw (ds : List Dt) (d : Dt) : Prop := ∃ q : Str × Nat, ds = [tS (wordM q)] ∧ isPage (tl q.1) = true ∧ 1 ≤ q.2 ∧ q.2 ≤ 300 ∧ d = dMark q
theorem scMw : FnScope ["word", "page", "colon", "row"] ["word"] (defScope s_mark_of_word) := ⟨rfl, rfl, rfl, by decide +kernel, rfl, by decide +kernel, by decide +kernel⟩
theorem c_mw (NW : C0 P w K mg base 3 "number_of_word" (spR 9 0 rNw)) (D : Dn K mg "mark_of_word" s_mark_of_word) : C0 P w K mg base 4 "mark_of_word" (spR 9 1 rMw) := by
  obtain ⟨f, fd, F, hmm⟩ := D.ex
  refine ⟨f, fd, ["word"], F.ok scMw (fun vs H Q E h => ?_) (fun cdv A outer s H vs Q E hr h => ?_), hmm, F.kp, F.binds (ps := ["word"]) fun _ _ _ _ _ _ us hl => match us, hl with | [_], _ => rfl⟩
  · obtain ⟨ds, d, al, ⟨n, rfl, _⟩, _⟩ := h
    exact al.len.symm
  obtain ⟨ds, d, al, ⟨q, rfl, h1, h2, h3, rfl⟩, kq⟩ := h
  obtain ⟨v, rfl, a1⟩ := all2_1 al
  have wl := (wd_M ⟨h1, h2, h3⟩).len
  obtain ⟨rfl, _⟩ := atD_pl a1
  refine ⟨_, pss_cons (ps_asg (pe_partition (pv 0) pe_str) (pg_tup (by rfl) (pgs_cons (pg_name (i := 1) scMw.nd rfl (Or.inl rfl)) (pgs_cons (pg_name (i := 2) scMw.nd rfl (Or.inl rfl)) (pgs_cons (pg_name (i := 3) scMw.nd rfl (Or.inl rfl)) pgs_nil))))) <|
    pss_one (ps_ret (pe_ifExp (pt_truth (pv 2) (fun _ => rfl)) (pe_tup (pa_cons (pv 1) (pa_cons (pe_cc NW hr (by omega) pass0 (pa_cons (pv 3) pa_nil)) pa_nil))) (pv 0))), ?_⟩
  refine EvR.go (evr_unT (K := K) (m := 0) (us := [tS q.1, tS (Str.ofString ":"), tS (numS q.2)]) (evd_part (n := 0) (evd_var rfl (atD_v (.str _))) (evd_c (.str _)) (by decide +kernel) (by omega) (part_M h1)) rfl fun vs H1 s1 al1 D k => ?_) kq
  obtain ⟨u1, u2, u3, rfl, b1, b2, b3⟩ := all2_3 al1
  obtain ⟨rfl, _⟩ := atD_pl b1
  obtain ⟨rfl, _⟩ := atD_pl b2
  obtain ⟨rfl, _⟩ := atD_pl b3
  refine ⟨_, _, rfl, _, _, rfl, _, _, rfl, rfl, ?_⟩
  refine EvR.go (evr_ret (n := 1) (evd_if (c := true) (evt_as (evt_strT (K := K) (n := 0) (z := Str.ofString ":") (evd_var rfl (atD_v (.str _))) (by decide +kernel)) (by decide +kernel)) (fun _ => evd_tup (n := 0) (evds_cons (evd_var rfl (atD_v (.str _))) (evds_cons (evd_r (evds_cons (evd_var rfl (atD_v (.str _))) evds_nil) ⟨q.2, rfl, by omega, rfl⟩) evds_nil)) (Nat.le_of_ble_eq_true rfl)) fun c => (by cases c))) k
end
end My
set_option Elab.async false
set_option linter.all false
set_option maxRecDepth 100000
set_option maxHeartbeats 4000000
namespace My
open PySem L2 SS
/-- a word of a deed's part -/
def WPart (p : Str) (z : Str) : Prop := z.length ≤ 100000 ∧ ((p = Str.ofString "kind" ∧ isKindName (tl z) = true) ∨ (p = Str.ofString "message" ∧ isMsgD (tl z) = true) ∨ (p = Str.ofString "word" ∧ isFree (tl z) = true) ∨ (p = Str.ofString "page" ∧ isPage (tl z) = true) ∨ p = Str.ofString "text")
def rWd (ds : List Dt) (d : Dt) : Prop := ∃ p z : Str, ds = [tS p, tS z] ∧ WPart p z ∧ d = .v (.bl true)
section
variable {P : Program} {w : World} {K : PySem.W.Frag} {mg : Str → Option Value} {base : Heap}
theorem scWd : FnScope ["part", "word"] ["part", "word"] (defScope s_is_word_of_deed) := ⟨rfl, rfl, rfl, by decide +kernel, rfl, by decide +kernel, by decide +kernel⟩
theorem c_wd (KN : C0 P w K mg base 3 "is_kind_name" (spB isKindName)) (MSG : C0 P w K mg base 5 "is_message" (spB isMsgD)) (FR : C0 P w K mg base 4 "is_free" (spB isFree)) (PG : C0 P w K mg base 3 "is_page_name" (spB isPage)) (D : Dn K mg "is_word_of_deed" s_is_word_of_deed) : C0 P w K mg base 6 "is_word_of_deed" (spR 9 0 rWd) := by
  obtain ⟨f, fd, F, hmm⟩ := D.ex
  refine ⟨f, fd, ["part", "word"], F.ok scWd (fun vs H Q E h => ?_) (fun cdv A outer s H vs Q E hr h => ?_), hmm, F.kp, F.binds (ps := ["part", "word"]) fun _ _ _ _ _ _ us hl => match us, hl with | [_, _], _ => rfl⟩
  · obtain ⟨ds, d, al, ⟨p, z, rfl, _⟩, _⟩ := h
    exact al.len.symm
  obtain ⟨ds, d, al, ⟨p, z, rfl, ⟨hz, hp⟩, rfl⟩, kq⟩ := h
  obtain ⟨v, u, rfl, a1, a2⟩ := all2_2 al
  obtain ⟨rfl, _⟩ := atD_pl a1
  obtain ⟨rfl, _⟩ := atD_pl a2
  refine ⟨_, pss_cons (ps_if (pt_cmpR op_eq (pv 0) pe_str (nomark _))
      (pss_one (ps_ret (pe_cc KN hr (by omega) pass0 (pa_cons (pv 1) pa_nil))))
      (pss_nil)) <|
    pss_cons (ps_if (pt_cmpR op_eq (pv 0) pe_str (nomark _))
      (pss_one (ps_ret (pe_cc MSG hr (by omega) pass0 (pa_cons (pv 1) pa_nil))))
      (pss_nil)) <|
    pss_cons (ps_if (pt_cmpR op_eq (pv 0) pe_str (nomark _))
      (pss_one (ps_ret (pe_cc FR hr (by omega) pass0 (pa_cons (pv 1) pa_nil))))
      (pss_nil)) <|
    pss_one (ps_ret (pe_ifExp (pt_cmpR op_eq (pv 0) pe_str (nomark _)) (pe_cc PG hr (by omega) pass0 (pa_cons (pv 1) pa_nil)) pe_bl)), ?_⟩
  have v0 : ∀ {σ : L2.St} {H : Hp}, σ[0]? = some (some (V.str p)) → EvD (tVar 0) σ H 0 (tS p) := fun h => evd_var h (atD_v (.str _))
  have v1 : ∀ {σ : L2.St} {H : Hp}, σ[1]? = some (some (V.str z)) → EvD (tVar 1) σ H 0 (tS z) := fun h => evd_var h (atD_v (.str _))
  rcases hp with ⟨rfl, h1⟩ | ⟨rfl, h1⟩ | ⟨rfl, h1⟩ | ⟨rfl, h1⟩ | rfl
  · exact EvR.go (evr_ifT (evt_as (evt_t (evd_eqS (v0 rfl) (evd_c (.str _)))) (by decide +kernel)) (evr_ret (evd_as (evd_spB (g := isKindName) (v1 rfl) hz) h1))) kq
  · exact EvR.go (evr_ifF (evt_as (evt_t (evd_eqS (v0 rfl) (evd_c (.str _)))) (by decide +kernel)) (evr_ifT (evt_as (evt_t (evd_eqS (v0 rfl) (evd_c (.str _)))) (by decide +kernel)) (evr_ret (evd_as (evd_spB (g := isMsgD) (v1 rfl) hz) h1)))) kq
  · exact EvR.go (evr_ifF (evt_as (evt_t (evd_eqS (v0 rfl) (evd_c (.str _)))) (by decide +kernel)) (evr_ifF (evt_as (evt_t (evd_eqS (v0 rfl) (evd_c (.str _)))) (by decide +kernel)) (evr_ifT (evt_as (evt_t (evd_eqS (v0 rfl) (evd_c (.str _)))) (by decide +kernel)) (evr_ret (evd_as (evd_spB (g := isFree) (v1 rfl) hz) h1))))) kq
  · exact EvR.go (evr_ifF (evt_as (evt_t (evd_eqS (v0 rfl) (evd_c (.str _)))) (by decide +kernel)) (evr_ifF (evt_as (evt_t (evd_eqS (v0 rfl) (evd_c (.str _)))) (by decide +kernel)) (evr_ifF (evt_as (evt_t (evd_eqS (v0 rfl) (evd_c (.str _)))) (by decide +kernel)) (evr_ret (evd_if (c := true) (evt_as (evt_t (evd_eqS (v0 rfl) (evd_c (.str _)))) (by decide +kernel)) (fun _ => evd_as (evd_spB (g := isPage) (v1 rfl) hz) h1) fun c => (by cases c)))))) kq
  · exact EvR.go (evr_ifF (evt_as (evt_t (evd_eqS (v0 rfl) (evd_c (.str _)))) (by decide +kernel)) (evr_ifF (evt_as (evt_t (evd_eqS (v0 rfl) (evd_c (.str _)))) (by decide +kernel)) (evr_ifF (evt_as (evt_t (evd_eqS (v0 rfl) (evd_c (.str _)))) (by decide +kernel)) (evr_ret (evd_if (c := false) (evt_as (evt_t (evd_eqS (v0 rfl) (evd_c (.str _)))) (by decide +kernel)) (fun c => (by cases c)) fun _ => evd_c (.bl _)))))) kq
/-! parts: simple ones; all -/
abbrev spNo : Sp := fun _ _ _ _ => False
theorem scPd : FnScope ["part", "thing", "worth", "mark"] ["part", "thing"] (defScope s_is_part_of_deed) := ⟨rfl, rfl, rfl, by decide +kernel, rfl, by decide +kernel, by decide +kernel⟩
theorem scIm : FnScope ["thing"] ["thing"] (defScope s_is_mark) := ⟨rfl, rfl, rfl, by decide +kernel, rfl, by decide +kernel, by decide +kernel⟩
theorem c_pdn (D : Dn K mg "is_part_of_deed" s_is_part_of_deed) : C0 P w K mg base 6 "is_part_of_deed" spNo := by
  obtain ⟨f, fd, F, hmm⟩ := D.ex
  refine ⟨f, fd, ["part", "thing"], F.ok scPd (fun vs H Q E h => ?_) (fun cdv A outer s H vs Q E hr h => ?_), hmm, F.kp, F.binds (ps := ["part", "thing"]) fun _ _ _ _ _ _ us hl => match us, hl with | [_, _], _ => rfl⟩
  · exact h.elim
  · exact h.elim
theorem c_imn (D : Dn K mg "is_mark" s_is_mark) : C0 P w K mg base 6 "is_mark" spNo := by
  obtain ⟨f, fd, F, hmm⟩ := D.ex
  refine ⟨f, fd, ["thing"], F.ok scIm (fun vs H Q E h => ?_) (fun cdv A outer s H vs Q E hr h => ?_), hmm, F.kp, F.binds (ps := ["thing"]) fun _ _ _ _ _ _ us hl => match us, hl with | [_], _ => rfl⟩
  · exact h.elim
  · exact h.elim
def MkOk (q : Str × Nat) : Prop := isPage (tl q.1) = true ∧ 1 ≤ q.2 ∧ q.2 ≤ 300
/-- a part of a deed -/
def DPart (p : Str) (x : Dt) : Prop :=
  (p = Str.ofString "kind or none" ∧ (x = .v .non ∨ ∃ z, x = tS z ∧ WPart (Str.ofString "kind") z)) ∨
  (p = Str.ofString "beats" ∧ ∃ n : Nat, n ≤ 2000 ∧ x = dNat n) ∨
  (p = Str.ofString "number" ∧ ∃ n : Nat, x = dNat n) ∨
  (p = Str.ofString "worth" ∧ ∃ v, x = .v v ∧ okV v = true) ∨
  (p = Str.ofString "worths" ∧ ∃ vs : List V, x = .tup (vs.map .v) ∧ ∀ v ∈ vs, okV v = true) ∨
  (p = Str.ofString "marks" ∧ ∃ ms : List (Str × Nat), x = .tup (ms.map dMark) ∧ ∀ q ∈ ms, MkOk q) ∨
  ∃ z, x = tS z ∧ WPart p z
def rPd (ds : List Dt) (d : Dt) : Prop := ∃ (p : Str) (x : Dt), ds = [tS p, x] ∧ DPart p x ∧ d = .v (.bl true)
theorem wpart_ne {p z : Str} (h : WPart p z) (s : String) (hs : s ∈ ["kind or none", "beats", "number", "worth", "worths", "marks"]) : decide (V.str p = V.str (Str.ofString s)) = false := by
  have all : ∀ s ∈ ["kind or none", "beats", "number", "worth", "worths", "marks"], ∀ p ∈ ["kind", "message", "word", "page", "text"], decide (V.str (Str.ofString p) = V.str (Str.ofString s)) = false := by decide +kernel
  obtain ⟨_, ⟨rfl, _⟩ | ⟨rfl, _⟩ | ⟨rfl, _⟩ | ⟨rfl, _⟩ | rfl⟩ := h <;> exact all s hs _ (by simp)
theorem c_pd0 (b_isinstance : mg "isinstance" = none) (b_str : mg "str" = none) (b_tuple : mg "tuple" = none) (b_all : mg "all" = none) (g_MOST_BEATS : GI mg "MOST_BEATS" 2000) (PD : C0 P w K mg base 6 "is_part_of_deed" spNo) (IM : C0 P w K mg base 6 "is_mark" spNo) (NWI : C0 P w K mg base 2 "is_number_within" (spR 9 0 rWi)) (NU : C0 P w K mg base 2 "is_number_from_0" (spR 9 0 rNu)) (PLA : C0 P w K mg base 3 "is_plain" (spR 9 0 rPla)) (WD : C0 P w K mg base 6 "is_word_of_deed" (spR 9 0 rWd)) (D : Dn K mg "is_part_of_deed" s_is_part_of_deed) : C0 P w K mg base 7 "is_part_of_deed" (spR 9 0 rWd) := by
  obtain ⟨f, fd, F, hmm⟩ := D.ex
  refine ⟨f, fd, ["part", "thing"], F.ok scPd (fun vs H Q E h => ?_) (fun cdv A outer s H vs Q E hr h => ?_), hmm, F.kp, F.binds (ps := ["part", "thing"]) fun _ _ _ _ _ _ us hl => match us, hl with | [_, _], _ => rfl⟩
  · obtain ⟨ds, d, al, ⟨p, z, rfl, _⟩, _⟩ := h
    exact al.len.symm
  obtain ⟨ds, d, al, ⟨p, z, rfl, hp, rfl⟩, kq⟩ := h
  obtain ⟨v, u, rfl, a1, a2⟩ := all2_2 al
  obtain ⟨rfl, _⟩ := atD_pl a1
  obtain ⟨rfl, _⟩ := atD_pl a2
  refine ⟨_, pss_cons (ps_if (pt_cmpR op_eq (pv 0) pe_str (nomark _))
      (pss_one (ps_ret (pe_or (pe_cmpR op_isN (pv 1) pe_non (nomark _)) (pe_one (pe_cc PD hr (by omega) pass0 (pa_cons pe_str (pa_cons (pv 1) pa_nil)))))))
      (pss_nil)) <|
    pss_cons (ps_if (pt_cmpR op_eq (pv 0) pe_str (nomark _))
      (pss_one (ps_ret (pe_cc NWI hr (by omega) pass0 (pa_cons (pv 1) (pa_cons pe_int (pa_cons (pe_gi g_MOST_BEATS) pa_nil))))))
      (pss_nil)) <|
    pss_cons (ps_if (pt_cmpR op_eq (pv 0) pe_str (nomark _))
      (pss_one (ps_ret (pe_cc NU hr (by omega) pass0 (pa_cons (pv 1) pa_nil))))
      (pss_nil)) <|
    pss_cons (ps_if (pt_cmpR op_eq (pv 0) pe_str (nomark _))
      (pss_one (ps_ret (pe_cc PLA hr (by omega) pass0 (pa_cons (pv 1) pa_nil))))
      (pss_nil)) <|
    pss_cons (ps_if (pt_cmpR op_eq (pv 0) pe_str (nomark _))
      (pss_one (ps_ret (pe_and (pe_callB (r := rIsi K) (id := "isinstance") call_isi (by rfl) b_isinstance (by decide +kernel) (pa_cons (pv 1) (pa_cons (pe_bltn (v := .ty "tuple") (by rfl) b_tuple (by decide +kernel) rfl) pa_nil))) (pe_one (pe_callB (cr_all rfl) (by rfl) b_all (by decide +kernel) (pa_cons (pe_lc (own := [("worth", 2)]) (g := (gName 2)) (tt := tYes) rfl scPd.nd (pi_tup (pv 1)) (blkOk_by (own := [("worth", 2)]) (N := ["part", "thing", "worth", "mark"]) (sc := defScope s_is_part_of_deed) (by decide +kernel)) (fun _ _ _ _ _ => (pg_name (i := 2) scPd.nd rfl (Or.inl rfl))) (fun _ _ _ _ _ => pts_nil) (fun _ _ _ _ _ => (pe_cc PLA hr (by omega) pass0 (pa_cons (pv 2) pa_nil)))) pa_nil))))))
      (pss_nil)) <|
    pss_cons (ps_if (pt_cmpR op_eq (pv 0) pe_str (nomark _))
      (pss_one (ps_ret (pe_and (pe_callB (r := rIsi K) (id := "isinstance") call_isi (by rfl) b_isinstance (by decide +kernel) (pa_cons (pv 1) (pa_cons (pe_bltn (v := .ty "tuple") (by rfl) b_tuple (by decide +kernel) rfl) pa_nil))) (pe_one (pe_callB (cr_all rfl) (by rfl) b_all (by decide +kernel) (pa_cons (pe_lc (own := [("mark", 3)]) (g := (gName 3)) (tt := tYes) rfl scPd.nd (pi_tup (pv 1)) (blkOk_by (own := [("mark", 3)]) (N := ["part", "thing", "worth", "mark"]) (sc := defScope s_is_part_of_deed) (by decide +kernel)) (fun _ _ _ _ _ => (pg_name (i := 3) scPd.nd rfl (Or.inl rfl))) (fun _ _ _ _ _ => pts_nil) (fun _ _ _ _ _ => (pe_cc IM hr (by omega) pass0 (pa_cons (pv 3) pa_nil)))) pa_nil))))))
      (pss_nil)) <|
    pss_one (ps_ret (pe_and (pe_callB (r := rIsi K) (id := "isinstance") call_isi (by rfl) b_isinstance (by decide +kernel) (pa_cons (pv 1) (pa_cons (pe_bltn (v := .ty "str") (by rfl) b_str (by decide +kernel) rfl) pa_nil))) (pe_one (pe_cc WD hr (by omega) pass0 (pa_cons (pv 0) (pa_cons (pv 1) pa_nil)))))), ?_⟩
  have v0 : ∀ {σ : L2.St} {H : Hp}, σ[0]? = some (some (V.str p)) → EvD (tVar 0) σ H 0 (tS p) := fun h => evd_var h (atD_v (.str _))
  have ne := wpart_ne hp
  exact EvR.go (evr_ifF (evt_as (evt_t (evd_eqS (v0 rfl) (evd_c (.str _)))) (ne _ (by simp))) <| evr_ifF (evt_as (evt_t (evd_eqS (v0 rfl) (evd_c (.str _)))) (ne _ (by simp))) <| evr_ifF (evt_as (evt_t (evd_eqS (v0 rfl) (evd_c (.str _)))) (ne _ (by simp))) <| evr_ifF (evt_as (evt_t (evd_eqS (v0 rfl) (evd_c (.str _)))) (ne _ (by simp))) <| evr_ifF (evt_as (evt_t (evd_eqS (v0 rfl) (evd_c (.str _)))) (ne _ (by simp))) <| evr_ifF (evt_as (evt_t (evd_eqS (v0 rfl) (evd_c (.str _)))) (ne _ (by simp))) <| evr_ret (evd_as (evd_and (a := true) (b := true) (evd_isi (evd_var rfl a2) (.inr (.inr (.inl rfl)))) fun _ => evd_r (evds_cons (evd_var rfl a1) (evds_cons (evd_var rfl a2) evds_nil)) ⟨p, z, rfl, hp, rfl⟩) rfl)) kq
def rIm (ds : List Dt) (d : Dt) : Prop := ∃ q : Str × Nat, ds = [dMark q] ∧ MkOk q ∧ d = .v (.bl true)
theorem c_im (g_MOST_ROWS : GI mg "MOST_ROWS" 300) (PD : C0 P w K mg base 7 "is_part_of_deed" (spR 9 0 rWd)) (RW_ : C0 P w K mg base 1 "is_row" (spR 9 0 rRw)) (NWI : C0 P w K mg base 2 "is_number_within" (spR 9 0 rWi)) (D : Dn K mg "is_mark" s_is_mark) : C0 P w K mg base 8 "is_mark" (spR 9 0 rIm) := by
  obtain ⟨f, fd, F, hmm⟩ := D.ex
  refine ⟨f, fd, ["thing"], F.ok scIm (fun vs H Q E h => ?_) (fun cdv A outer s H vs Q E hr h => ?_), hmm, F.kp, F.binds (ps := ["thing"]) fun _ _ _ _ _ _ us hl => match us, hl with | [_], _ => rfl⟩
  · obtain ⟨ds, d, al, ⟨p, rfl, _⟩, _⟩ := h
    exact al.len.symm
  obtain ⟨ds, d, al, ⟨q, rfl, ⟨h1, h2, h3⟩, rfl⟩, kq⟩ := h
  obtain ⟨v, rfl, a1⟩ := all2_1 al
  have zl := (wd_page h1).len
  refine ⟨_, pss_one (ps_ret (pe_and (pe_cc RW_ hr (by omega) pass0 (pa_cons (pv 0) (pa_cons pe_int pa_nil))) (pe_and (pe_cc PD hr (by omega) pass0 (pa_cons pe_str (pa_cons (pe_ix (r := rIxT K) ix_tup (pv 0) pe_int (fun _ _ => rfl)) pa_nil))) (pe_one (pe_cc NWI hr (by omega) pass0 (pa_cons (pe_ix (r := rIxT K) ix_tup (pv 0) pe_int (fun _ _ => rfl)) (pa_cons pe_int (pa_cons (pe_gi g_MOST_ROWS) pa_nil)))))))), ?_⟩
  refine EvR.go (evr_ret (evd_as (evd_and (a := true) (b := true) (evd_r (evds_cons (evd_var rfl a1) (evds_cons (evd_c (.int _)) evds_nil)) ⟨_, 2, rfl, rfl, rfl⟩) fun _ => evd_as (evd_and (a := true) (b := true) (evd_r (evds_cons (evd_c (.str _)) (evds_cons (EvD.lv (evd_ixT (K := K) (n := 8) (i := 0) (ds := [tS q.1, dNat q.2]) (evd_var rfl a1) (evd_c (.int _)) rfl) (by decide)) evds_nil)) ⟨Str.ofString "page", q.1, rfl, ⟨by omega, .inr (.inr (.inr (.inl ⟨rfl, h1⟩)))⟩, rfl⟩) fun _ => evd_r (evds_cons (EvD.lv (evd_ixT (K := K) (n := 8) (i := 1) (ds := [tS q.1, dNat q.2]) (evd_var rfl a1) (evd_c (.int _)) rfl) (by decide)) (evds_cons (evd_c (.int _)) (evds_cons (evd_c (.int _)) evds_nil))) ⟨((q.2 : Nat) : Int), 1, 300, rfl, by omega, by omega, rfl⟩) rfl) rfl)) kq
theorem c_pd (b_isinstance : mg "isinstance" = none) (b_str : mg "str" = none) (b_tuple : mg "tuple" = none) (b_all : mg "all" = none) (g_MOST_BEATS : GI mg "MOST_BEATS" 2000) (PD : C0 P w K mg base 7 "is_part_of_deed" (spR 9 0 rWd)) (IM : C0 P w K mg base 8 "is_mark" (spR 9 0 rIm)) (NWI : C0 P w K mg base 2 "is_number_within" (spR 9 0 rWi)) (NU : C0 P w K mg base 2 "is_number_from_0" (spR 9 0 rNu)) (PLA : C0 P w K mg base 3 "is_plain" (spR 9 0 rPla)) (WD : C0 P w K mg base 6 "is_word_of_deed" (spR 9 0 rWd)) (D : Dn K mg "is_part_of_deed" s_is_part_of_deed) : C0 P w K mg base 9 "is_part_of_deed" (spR 9 0 rPd) := by
  obtain ⟨f, fd, F, hmm⟩ := D.ex
  refine ⟨f, fd, ["part", "thing"], F.ok scPd (fun vs H Q E h => ?_) (fun cdv A outer s H vs Q E hr h => ?_), hmm, F.kp, F.binds (ps := ["part", "thing"]) fun _ _ _ _ _ _ us hl => match us, hl with | [_, _], _ => rfl⟩
  · obtain ⟨ds, d, al, ⟨p, z, rfl, _⟩, _⟩ := h
    exact al.len.symm
  obtain ⟨ds, d, al, ⟨p, x, rfl, hp, rfl⟩, kq⟩ := h
  obtain ⟨v, u, rfl, a1, a2⟩ := all2_2 al
  obtain ⟨rfl, _⟩ := atD_pl a1
  refine ⟨_, pss_cons (ps_if (pt_cmpR op_eq (pv 0) pe_str (nomark _))
      (pss_one (ps_ret (pe_or (pe_cmpR op_isN (pv 1) pe_non (nomark _)) (pe_one (pe_cc PD hr (by omega) pass0 (pa_cons pe_str (pa_cons (pv 1) pa_nil)))))))
      (pss_nil)) <|
    pss_cons (ps_if (pt_cmpR op_eq (pv 0) pe_str (nomark _))
      (pss_one (ps_ret (pe_cc NWI hr (by omega) pass0 (pa_cons (pv 1) (pa_cons pe_int (pa_cons (pe_gi g_MOST_BEATS) pa_nil))))))
      (pss_nil)) <|
    pss_cons (ps_if (pt_cmpR op_eq (pv 0) pe_str (nomark _))
      (pss_one (ps_ret (pe_cc NU hr (by omega) pass0 (pa_cons (pv 1) pa_nil))))
      (pss_nil)) <|
    pss_cons (ps_if (pt_cmpR op_eq (pv 0) pe_str (nomark _))
      (pss_one (ps_ret (pe_cc PLA hr (by omega) pass0 (pa_cons (pv 1) pa_nil))))
      (pss_nil)) <|
    pss_cons (ps_if (pt_cmpR op_eq (pv 0) pe_str (nomark _))
      (pss_one (ps_ret (pe_and (pe_callB (r := rIsi K) (id := "isinstance") call_isi (by rfl) b_isinstance (by decide +kernel) (pa_cons (pv 1) (pa_cons (pe_bltn (v := .ty "tuple") (by rfl) b_tuple (by decide +kernel) rfl) pa_nil))) (pe_one (pe_callB (cr_all rfl) (by rfl) b_all (by decide +kernel) (pa_cons (pe_lc (own := [("worth", 2)]) (g := (gName 2)) (tt := tYes) rfl scPd.nd (pi_tup (pv 1)) (blkOk_by (own := [("worth", 2)]) (N := ["part", "thing", "worth", "mark"]) (sc := defScope s_is_part_of_deed) (by decide +kernel)) (fun _ _ _ _ _ => (pg_name (i := 2) scPd.nd rfl (Or.inl rfl))) (fun _ _ _ _ _ => pts_nil) (fun _ _ _ _ _ => (pe_cc PLA hr (by omega) pass0 (pa_cons (pv 2) pa_nil)))) pa_nil))))))
      (pss_nil)) <|
    pss_cons (ps_if (pt_cmpR op_eq (pv 0) pe_str (nomark _))
      (pss_one (ps_ret (pe_and (pe_callB (r := rIsi K) (id := "isinstance") call_isi (by rfl) b_isinstance (by decide +kernel) (pa_cons (pv 1) (pa_cons (pe_bltn (v := .ty "tuple") (by rfl) b_tuple (by decide +kernel) rfl) pa_nil))) (pe_one (pe_callB (cr_all rfl) (by rfl) b_all (by decide +kernel) (pa_cons (pe_lc (own := [("mark", 3)]) (g := (gName 3)) (tt := tYes) rfl scPd.nd (pi_tup (pv 1)) (blkOk_by (own := [("mark", 3)]) (N := ["part", "thing", "worth", "mark"]) (sc := defScope s_is_part_of_deed) (by decide +kernel)) (fun _ _ _ _ _ => (pg_name (i := 3) scPd.nd rfl (Or.inl rfl))) (fun _ _ _ _ _ => pts_nil) (fun _ _ _ _ _ => (pe_cc IM hr (by omega) pass0 (pa_cons (pv 3) pa_nil)))) pa_nil))))))
      (pss_nil)) <|
    pss_one (ps_ret (pe_and (pe_callB (r := rIsi K) (id := "isinstance") call_isi (by rfl) b_isinstance (by decide +kernel) (pa_cons (pv 1) (pa_cons (pe_bltn (v := .ty "str") (by rfl) b_str (by decide +kernel) rfl) pa_nil))) (pe_one (pe_cc WD hr (by omega) pass0 (pa_cons (pv 0) (pa_cons (pv 1) pa_nil)))))), ?_⟩
  have v0 : ∀ {σ : L2.St} {H : Hp}, σ[0]? = some (some (V.str p)) → EvD (tVar 0) σ H 0 (tS p) := fun h => evd_var h (atD_v (.str _))
  rcases hp with ⟨rfl, hx⟩ | ⟨rfl, n, hn, rfl⟩ | ⟨rfl, n, rfl⟩ | ⟨rfl, v, rfl, hv⟩ | ⟨rfl, vs, rfl, hv⟩ | ⟨rfl, ms, rfl, hm⟩ | ⟨z, rfl, hp⟩
  · refine EvR.go (evr_ifT (evt_as (evt_t (evd_eqS (v0 rfl) (evd_c (.str _)))) (by decide +kernel)) (evr_ret ?_)) kq
    rcases hx with rfl | ⟨z, rfl, hp⟩
    · exact evd_as (evd_or (a := true) (b := false) (evd_isN (evd_var rfl a2)) fun c => (by cases c)) rfl
    · exact evd_as (evd_or (a := false) (b := true) (evd_isN (evd_var rfl a2)) fun _ => evd_r (evds_cons (evd_c (.str _)) (evds_cons (evd_var rfl a2) evds_nil)) ⟨_, z, rfl, hp, rfl⟩) rfl
  · exact EvR.go (evr_ifF (evt_as (evt_t (evd_eqS (v0 rfl) (evd_c (.str _)))) (by decide +kernel)) <| evr_ifT (evt_as (evt_t (evd_eqS (v0 rfl) (evd_c (.str _)))) (by decide +kernel)) <| evr_ret (evd_r (evds_cons (evd_var rfl a2) (evds_cons (evd_c (.int _)) (evds_cons (evd_c (.int _)) evds_nil))) ⟨((n : Nat) : Int), 0, 2000, rfl, by omega, by omega, rfl⟩)) kq
  · exact EvR.go (evr_ifF (evt_as (evt_t (evd_eqS (v0 rfl) (evd_c (.str _)))) (by decide +kernel)) <| evr_ifF (evt_as (evt_t (evd_eqS (v0 rfl) (evd_c (.str _)))) (by decide +kernel)) <| evr_ifT (evt_as (evt_t (evd_eqS (v0 rfl) (evd_c (.str _)))) (by decide +kernel)) <| evr_ret (evd_r (evds_cons (evd_var rfl a2) evds_nil) ⟨((n : Nat) : Int), rfl, by omega, rfl⟩)) kq
  · exact EvR.go (evr_ifF (evt_as (evt_t (evd_eqS (v0 rfl) (evd_c (.str _)))) (by decide +kernel)) <| evr_ifF (evt_as (evt_t (evd_eqS (v0 rfl) (evd_c (.str _)))) (by decide +kernel)) <| evr_ifF (evt_as (evt_t (evd_eqS (v0 rfl) (evd_c (.str _)))) (by decide +kernel)) <| evr_ifT (evt_as (evt_t (evd_eqS (v0 rfl) (evd_c (.str _)))) (by decide +kernel)) <| evr_ret (evd_r (evds_cons (evd_var rfl a2) evds_nil) ⟨v, rfl, okV_pln hv, hv, rfl⟩)) kq
  · refine EvR.go (evr_ifF (evt_as (evt_t (evd_eqS (v0 rfl) (evd_c (.str _)))) (by decide +kernel)) <| evr_ifF (evt_as (evt_t (evd_eqS (v0 rfl) (evd_c (.str _)))) (by decide +kernel)) <| evr_ifF (evt_as (evt_t (evd_eqS (v0 rfl) (evd_c (.str _)))) (by decide +kernel)) <| evr_ifF (evt_as (evt_t (evd_eqS (v0 rfl) (evd_c (.str _)))) (by decide +kernel)) <| evr_ifT (evt_as (evt_t (evd_eqS (v0 rfl) (evd_c (.str _)))) (by decide +kernel)) <| evr_ret (evd_as (evd_and (a := true) (b := true) (evd_isi (evd_var rfl a2) (.inr (.inr (.inr rfl)))) fun _ => evd_as (evd_allT (m := 8) (g := fun _ => true) (evd_var rfl a2) (fun _ => rfl) fun d hd x H2 s2 ax => ?_) ?_) rfl)) kq
    · obtain ⟨v, hvm, rfl⟩ := List.mem_map.mp hd
      exact evd_r (evds_cons (evd_var rfl (ax.mono (by decide))) evds_nil) ⟨v, rfl, okV_pln (hv v hvm), hv v hvm, rfl⟩
    · exact List.all_eq_true.mpr fun _ _ => rfl
  · refine EvR.go (evr_ifF (evt_as (evt_t (evd_eqS (v0 rfl) (evd_c (.str _)))) (by decide +kernel)) <| evr_ifF (evt_as (evt_t (evd_eqS (v0 rfl) (evd_c (.str _)))) (by decide +kernel)) <| evr_ifF (evt_as (evt_t (evd_eqS (v0 rfl) (evd_c (.str _)))) (by decide +kernel)) <| evr_ifF (evt_as (evt_t (evd_eqS (v0 rfl) (evd_c (.str _)))) (by decide +kernel)) <| evr_ifF (evt_as (evt_t (evd_eqS (v0 rfl) (evd_c (.str _)))) (by decide +kernel)) <| evr_ifT (evt_as (evt_t (evd_eqS (v0 rfl) (evd_c (.str _)))) (by decide +kernel)) <| evr_ret (evd_as (evd_and (a := true) (b := true) (evd_isi (evd_var rfl a2) (.inr (.inr (.inr rfl)))) fun _ => evd_as (evd_allT (m := 8) (g := fun _ => true) (evd_var rfl a2) (fun _ => rfl) fun d hd x H2 s2 ax => ?_) ?_) rfl)) kq
    · obtain ⟨v, hvm, rfl⟩ := List.mem_map.mp hd
      exact evd_r (evds_cons (evd_var rfl (ax.mono (by decide))) evds_nil) ⟨v, rfl, hm v hvm, rfl⟩
    · exact List.all_eq_true.mpr fun _ _ => rfl
  · have ne := wpart_ne hp
    exact EvR.go (evr_ifF (evt_as (evt_t (evd_eqS (v0 rfl) (evd_c (.str _)))) (ne _ (by simp))) <| evr_ifF (evt_as (evt_t (evd_eqS (v0 rfl) (evd_c (.str _)))) (ne _ (by simp))) <| evr_ifF (evt_as (evt_t (evd_eqS (v0 rfl) (evd_c (.str _)))) (ne _ (by simp))) <| evr_ifF (evt_as (evt_t (evd_eqS (v0 rfl) (evd_c (.str _)))) (ne _ (by simp))) <| evr_ifF (evt_as (evt_t (evd_eqS (v0 rfl) (evd_c (.str _)))) (ne _ (by simp))) <| evr_ifF (evt_as (evt_t (evd_eqS (v0 rfl) (evd_c (.str _)))) (ne _ (by simp))) <| evr_ret (evd_as (evd_and (a := true) (b := true) (evd_isi (evd_var rfl a2) (.inr (.inr (.inl rfl)))) fun _ => evd_r (evds_cons (evd_var rfl a1) (evds_cons (evd_var rfl a2) evds_nil)) ⟨p, z, rfl, hp, rfl⟩) rfl)) kq
end
end My
set_option Elab.async false
set_option linter.all false
set_option maxRecDepth 100000
set_option maxHeartbeats 4000000
namespace My
open PySem L2 SS
/-! ### comprehensions told by what the data are made of; blocks that fall through -/
section
variable {σ : L2.St} {H : Hp} {n m : Nat} {d e : Dt} {ds es : List Dt} {te tb tl : TE} {ta : TA} {tt : TT} {ts tu tz : TS} {tg : TG} {K : PySem.W.Frag} {α : Type} {as : List α} {a b : α → Dt}
theorem lcA_step {us : List V} {H2 : Hp} {D : Addr} {ws : List Nat} (al : All2 (AtD H2 m) (as.map a) us) (hl : (as.map a).length ≤ 100000) (he : ∀ z ∈ as, ∀ x H3, Same H2 H3 → AtD H3 m (a z) x → ∀ R : L2.St → Hp → Prop, (∀ σ2 H4, Same H3 H4 → wipe σ2 ws = wipe σ ws → EvD te σ2 H4 n (b z) → R σ2 H4) → tg x (wipe σ ws) H3 R) (hn : ∀ z ∈ as, NlD (b z)) (hD : H2 D = none)
    (i : Nat) (x : V) (Hn : Hp) (hx : us[i]? = some x) (h : Same H2 Hn ∧ ∃ acc, Hn D = some (.lst acc) ∧ All2 (AtD Hn n) ((as.take i).map b) acc) :
    tg x (wipe σ ws) Hn fun σ2 H5 => wipe σ2 ws = wipe σ ws ∧ te σ2 H5 fun y H3 => ∃ acc, H3 D = some (.lst acc) ∧ acc.length < sizeLine ∧ Same H2 (upd H3 D (.lst (acc ++ [y]))) ∧ ∃ acc', upd H3 D (.lst (acc ++ [y])) D = some (.lst acc') ∧ All2 (AtD (upd H3 D (.lst (acc ++ [y]))) n) ((as.take (i + 1)).map b) acc' := by
  obtain ⟨s, acc, hacc, hal⟩ := h
  obtain ⟨d, hd, ad⟩ := al.get hx
  rw [List.getElem?_map] at hd
  obtain ⟨z, hz, rfl⟩ := Option.map_eq_some_iff.mp hd
  refine he z (List.mem_of_getElem? hz) x Hn s (ad.same s) _ fun σ2 H5 s5 hw hev => ⟨hw, ?_⟩
  refine hev H5 (Same.refl _) _ fun y H3 s3' ay => ?_
  have s3 := s5.trans s3'
  have hacc3 := s3 _ _ hacc
  have hlen := hal.len
  rw [List.length_map, List.length_take] at hlen
  rw [List.length_map] at hl
  refine ⟨acc, hacc3, by rw [sizeLine_eq]; omega, same_upd (s.trans s3) hD _, acc ++ [y], upd_same, ?_⟩
  have e : (as.take (i + 1)).map b = (as.take i).map b ++ [b z] := by rw [List.take_add_one, hz, List.map_append]; rfl
  have tt := tups_lst (ys := acc ++ [y]) hacc3
  rw [e]
  refine All2.app ((hal.same s3).impM fun d' hd' b r => AtD.tups tt r ?_) (.cons (AtD.tups tt ay (hn z (List.mem_of_getElem? hz))) .nil)
  obtain ⟨z', hz', rfl⟩ := List.mem_map.mp hd'
  exact hn z' (List.mem_of_mem_take hz')
theorem evd_lcAL {ws : List Nat} (h : EvD tl σ H (m + 1) (.lst (as.map a))) (he : ∀ z ∈ as, ∀ x H2, Same H H2 → AtD H2 m (a z) x → ∀ R : L2.St → Hp → Prop, (∀ σ2 H3, Same H2 H3 → wipe σ2 ws = wipe σ ws → EvD te σ2 H3 n (b z) → R σ2 H3) → tg x (wipe σ ws) H2 R) (hn : ∀ z ∈ as, NlD (b z)) : EvD (tLc (iList K tl) tg tYes te ws) σ H (n + 1) (.lst (as.map b)) := fun H1 s1 Q q => h H1 s1 _ fun v H2 s2 r => by
  obtain ⟨p, us, rfl, hp, hl, al⟩ := r
  refine ⟨p, rfl, ⟨us, SqL.of hp⟩, fun D hD => ?_⟩
  refine lc_list (xs := us) (fun i Hn => Same H2 Hn ∧ ∃ acc, Hn D = some (.lst acc) ∧ All2 (AtD Hn n) ((as.take i).map b) acc) ⟨same_new hD _, [], upd_same, .nil⟩ (fun i Hn _ ⟨s, _⟩ => SqL.of (s _ _ hp)) (fun i x Hn hx h => ?_) fun Hn ⟨s, acc, hacc, hal⟩ => ?_
  · unfold tYes
    simp only [if_true]
    exact lcA_step al hl (fun z hz x H3 s3 => he z hz x H3 (s1.trans (s2.trans s3))) hn hD i x Hn hx h
  · have e : us.length = as.length := by rw [← al.len, List.length_map]
    rw [e, List.take_length] at hal
    exact q _ Hn (s2.trans s) ⟨D, acc, rfl, hacc, by rw [List.length_map]; rw [List.length_map] at hl; exact hl, hal⟩
theorem evd_lcAT {ws : List Nat} (h : EvD tl σ H (m + 1) (.tup (as.map a))) (he : ∀ z ∈ as, ∀ x H2, Same H H2 → AtD H2 m (a z) x → ∀ R : L2.St → Hp → Prop, (∀ σ2 H3, Same H2 H3 → wipe σ2 ws = wipe σ ws → EvD te σ2 H3 n (b z) → R σ2 H3) → tg x (wipe σ ws) H2 R) (hn : ∀ z ∈ as, NlD (b z)) : EvD (tLc (iTup K tl) tg tYes te ws) σ H (n + 1) (.lst (as.map b)) := fun H1 s1 Q q => h H1 s1 _ fun v H2 s2 r => by
  obtain ⟨p, us, rfl, hp, hl, al⟩ := r
  refine ⟨p, rfl, ⟨us, TupA.sq hp⟩, fun D hD => ?_⟩
  refine lc_tup (xs := us) (fun i Hn => Same H2 Hn ∧ ∃ acc, Hn D = some (.lst acc) ∧ All2 (AtD Hn n) ((as.take i).map b) acc) ⟨same_new hD _, [], upd_same, .nil⟩ (fun i Hn _ ⟨s, _⟩ => TupA.sq (TupA.same s hp)) (fun i x Hn hx h => ?_) fun Hn ⟨s, acc, hacc, hal⟩ => ?_
  · unfold tYes
    simp only [if_true]
    exact lcA_step al hl (fun z hz x H3 s3 => he z hz x H3 (s1.trans (s2.trans s3))) hn hD i x Hn hx h
  · have e : us.length = as.length := by rw [← al.len, List.length_map]
    rw [e, List.take_length] at hal
    exact q _ Hn (s2.trans s) ⟨D, acc, rfl, hacc, by rw [List.length_map]; rw [List.length_map] at hl; exact hl, hal⟩
/-- one name as the target -/
theorem tg_one {i : Nat} {ws : List Nat} {H0 : Hp} {f : α → Dt} (hw : ∀ x : Option V, wipe ((wipe σ ws).set i x) ws = wipe σ ws) (he : ∀ z ∈ as, ∀ x H2, Same H0 H2 → AtD H2 m (a z) x → EvD te ((wipe σ ws).set i (some x)) H2 n (f z)) : ∀ z ∈ as, ∀ x H2, Same H0 H2 → AtD H2 m (a z) x → ∀ R : L2.St → Hp → Prop, (∀ σ2 H3, Same H2 H3 → wipe σ2 ws = wipe σ ws → EvD te σ2 H3 n (f z) → R σ2 H3) → gName i x (wipe σ ws) H2 R := fun z hz x H2 s2 ax R k => k _ H2 (Same.refl _) (hw (some x)) (he z hz x H2 s2 ax)
/-! blocks that fall through -/
def EvN (ts : TS) (σ : L2.St) (H : Hp) (Pt : L2.St → Hp → Prop) : Prop := ∀ H1, Same H H1 → ∀ D : Ends, (∀ σ' H2, Same H1 H2 → Pt σ' H2 → D.nx σ' H2) → ts D σ H1
theorem evr_ifN {Pt : L2.St → Hp → Prop} {c : Bool} (h : EvT tt σ H c) (k : c = true → EvN ts σ H Pt) (k' : c = false → EvN tu σ H Pt) (kz : ∀ σ' H', Same H H' → Pt σ' H' → EvR tz σ' H' n d) : EvR (tSeq (tIfS tt ts tu) tz) σ H n d := fun H1 s1 D q => h H1 s1 _ fun H2 s2 => by
  have go : ∀ {t : TS}, EvN t σ H Pt → t { D with nx := tz D } σ H2 := fun {t} ht => ht H2 (s1.trans s2) _ fun σ' H3 s3 p => kz σ' H3 (s1.trans (s2.trans s3)) p H3 (Same.refl _) D fun v H4 s4 => q v H4 (s2.trans (s3.trans s4))
  cases c with
  | true => exact iteT (go (k rfl))
  | false => exact iteF (go (k' rfl))
theorem evn_asg {i : Nat} {Pt : L2.St → Hp → Prop} (h : EvD te σ H m e) (k : ∀ v H1, Same H H1 → AtD H1 m e v → Pt (σ.set i (some v)) H1) : EvN (tAsg te (gName i)) σ H Pt := fun H1 s1 D q => h H1 s1 _ fun v H2 s2 r => q _ H2 s2 (k v H2 (s1.trans s2) r)
theorem evn_unL {i : Nat} {gs : TGs} {us : List Dt} {Pt : L2.St → Hp → Prop} (h : EvD te σ H (m + 1) (.lst us)) (hi : us.length = i) (k : ∀ vs H1, Same H H1 → All2 (AtD H1 m) us vs → ∀ D : Ends, (∀ σ' H2, Same H1 H2 → Pt σ' H2 → D.nx σ' H2) → gs vs σ H1 fun σ' H' => ts D σ' H') : EvN (tSeq (tAsg te (gTupL K i gs)) ts) σ H Pt := fun H1 s1 D q => h H1 s1 _ fun v H2 s2 r => by
  obtain ⟨a, vs, rfl, hv, hl, al⟩ := r
  exact ⟨a, vs, rfl, SqL.of hv, by rw [← al.len]; exact hi, k vs H2 (s1.trans s2) al D fun σ' H3 s3 => q σ' H3 (s2.trans s3)⟩
theorem EvN.run {D : Ends} {Pt : L2.St → Hp → Prop} (h : EvN ts σ H Pt) (q : ∀ σ' H2, Same H H2 → Pt σ' H2 → D.nx σ' H2) : ts D σ H := h H (Same.refl _) D q
theorem evd_neI {i j : Int} (h : EvD te σ H n (.v (.int i))) (k : EvD tb σ H n (.v (.int j))) : EvD (tOp rNe te tb) σ H n (.v (.bl (!decide (V.int i = V.int j)))) := evd_op h k (fun H Q q => ⟨rfl, q⟩) (.bl _)
/-- all([t for x, y in zip(a written tuple of texts, t)]), where all of them hold -/
theorem evd_allZK {i j k : Nat} {ws : List Nat} {p0 : Addr} {ps : List Str} (hte : ∀ H1 (Q : VK), Q (.ref p0) H1 → te σ H1 Q) (hS : ∀ H, SqT K H p0 (ps.map V.str)) (h' : EvD tb σ H (m + 1) (.tup es)) (hw : ∀ x y : Option V, wipe (((wipe σ ws).set i x).set j y) ws = wipe σ ws) (he : ∀ s e, (s, e) ∈ ps.zip es → ∀ y H2, Same H H2 → AtD H2 m e y → EvD tl (((wipe σ ws).set i (some (.str s))).set j (some y)) H2 0 (.v (.bl true))) : EvD (tCB (rAll K) (tCons (tLc (RZ.iZipA K (tCons te (tCons tb tNil))) (gTup K 2 (gCons (gName i) (gCons (gName j) gNil))) tYes tl ws) tNil)) σ H k (.v (.bl true)) := fun H1 s1 Q q => hte H1 _ (h' H1 s1 _ fun v' H3 s3 r' => by
  obtain ⟨p', us', rfl, hp', hl', al'⟩ := r'
  have lu' := al'.len
  refine ⟨p0, p', ps.map V.str, us', rfl, .inr ⟨hS _, TupA.sq hp', fun D hD => ?_⟩⟩
  refine lc_it (walk_zipT (a := p0) (b := p') (xs := ps.map V.str) (ys := us') rfl) (fun i Hn => Same H3 Hn ∧ Hn D = some (.lst (List.replicate i (V.bl true)))) ⟨same_new hD _, upd_same⟩ (fun i Hn _ h => ⟨hS _, TupA.sq (TupA.same h.1 hp')⟩) ?_ ?_
  · rintro i' z Hn Hm hi ⟨s, hacc⟩ ⟨T, u, v, rfl, hT, rfl, hu, hv⟩
    have sT := same_new hT (.tup [u, v])
    have fT : upd Hn T (.tup [u, v]) T = some (.tup [u, v]) := upd_same
    generalize upd Hn T (.tup [u, v]) = H5 at sT fT ⊢
    have hu : (List.map V.str ps)[i']? = some u := hu
    have hv : us'[i']? = some v := hv
    rw [List.getElem?_map] at hu
    obtain ⟨s0, hs0, rfl⟩ := Option.map_eq_some_iff.mp hu
    obtain ⟨e, he', ae⟩ := al'.get hv
    have hz : (ps.zip es)[i']? = some (s0, e) := by rw [List.getElem?_zip_eq_some]; exact ⟨hs0, he'⟩
    have hzm := List.mem_of_getElem? hz
    have s5 := s.trans sT
    have hi2 : i' < us'.length := by
      by_cases c : i' < us'.length
      · exact c
      · rw [List.getElem?_eq_none (by omega)] at hv; cases hv
    refine ⟨T, _, rfl, SqT.of fT, rfl, _, _, rfl, _, _, rfl, rfl, hw _ _, ?_⟩
    unfold tYes
    simp only [if_true]
    refine he s0 e hzm v H5 (s1.trans (s3.trans s5)) (ae.same s5) H5 (Same.refl _) _ fun y H6 s6 ay => ?_
    obtain ⟨rfl, _⟩ := atD_pl ay
    have s56 := sT.trans s6
    have hacc6 := s56 _ _ hacc
    refine ⟨_, hacc6, by rw [List.length_replicate, sizeLine_eq]; omega, same_upd (s.trans s56) hD _, ?_⟩
    rw [upd_same, List.replicate_succ']
  · rintro Hn ⟨s, hacc⟩
    refine ⟨D, List.replicate (min (ps.map V.str).length us'.length) true, rfl, SqL.of ?_, ?_⟩
    · rw [hacc, List.map_replicate]
    · have : (List.replicate (min (ps.map V.str).length us'.length) true).all id = true := List.all_eq_true.mpr fun x hx => by rw [List.eq_of_mem_replicate hx]; rfl
      rw [this]
      exact q _ Hn (s3.trans s) (atD_v (.bl _)))
end
end My
set_option Elab.async false
set_option linter.all false
set_option maxRecDepth 100000
set_option maxHeartbeats 4000000
namespace My
open PySem L2 SS
/-! is_deed -/
def PTAB : List (String × List String) := [("begin", ["kind or none", "message", "worths"]), ("run", ["beats", "marks"]), ("again", ["number"]), ("name", ["number", "word", "worth"]), ("forget", []), ("gone", ["kind", "message"]), ("field", ["kind", "word", "worth"]), ("lost", ["kind", "word"]), ("under", ["kind", "kind"]), ("sweep", []), ("load", ["page", "text"])]
/-- the written dict of deeds' parts -/
structure PtOk (K : PySem.W.Frag) (w : World) (mg : Str → Option Value) : Prop where
  ex : ∃ pa, mg "PARTS_OF_DEEDS" = some (.ref pa) ∧ (pa == sysModules) = false ∧ (∃ es n, K.lookup pa = some ⟨.type "dict", none, .dict es n, #[]⟩) ∧ ∀ e ∈ PTAB, ∃ q, KDct K w pa (Str.ofString e.1) (.ref q) ∧ ∀ H, SqT K H q ((e.2.map Str.ofString).map V.str)
theorem pe_gd {X : Cx} {x : Str} {a : Addr} {pos : Pos} (h : X.mg x = some (.ref a)) (hg : Gl X x := by rfl) (hd : (x == ("__debug__" : Str)) = false := by decide) : PE X (.Name x pos) (tC (.ref a)) := pe_glob hg h rfl hd
def Dd.pts (d : Dd) : List String := (PTAB.lookup d.hd).getD []
theorem Dd.pts_mem (d : Dd) : (d.hd, d.pts) ∈ PTAB := by
  cases d <;> (unfold Dd.pts Dd.hd PTAB; simp [List.lookup])
theorem Dd.pts_len (d : Dd) : d.pts.length = d.rest.length := by
  cases d <;> rfl
theorem wp_kind {z : Str} (h : isKindName (tl z) = true) : WPart (Str.ofString "kind") z := ⟨Nat.le_trans (wd_kind h).len (by decide), .inl ⟨rfl, h⟩⟩
theorem wp_msg {z : Str} (h : isMsgD (tl z) = true) : WPart (Str.ofString "message") z := ⟨Nat.le_trans (wd_msg h).len (by decide), .inr (.inl ⟨rfl, h⟩)⟩
theorem wp_word {z : Str} (h : isFree (tl z) = true) : WPart (Str.ofString "word") z := ⟨Nat.le_trans (wd_free h).len (by decide), .inr (.inr (.inl ⟨rfl, h⟩))⟩
theorem wp_page {z : Str} (h : isPage (tl z) = true) : WPart (Str.ofString "page") z := ⟨Nat.le_trans (wd_page h).len (by decide), .inr (.inr (.inr (.inl ⟨rfl, h⟩)))⟩
theorem dp_w {p z : Str} (h : WPart p z) : DPart p (tS z) := .inr (.inr (.inr (.inr (.inr (.inr ⟨z, rfl, h⟩)))))
theorem dp_nat (n : Nat) : DPart (Str.ofString "number") (dNat n) := .inr (.inr (.inl ⟨rfl, n, rfl⟩))
theorem dp_v {v : V} (h : okV v = true) : DPart (Str.ofString "worth") (.v v) := .inr (.inr (.inr (.inl ⟨rfl, v, rfl, h⟩)))
theorem zip2 {α β : Type} {R : α → β → Prop} {a1 a2 : α} {b1 b2 : β} (h1 : R a1 b1) (h2 : R a2 b2) : ∀ a b, (a, b) ∈ [a1, a2].zip [b1, b2] → R a b := fun a b h => by
  simp only [List.zip_cons_cons, List.zip_nil_right, List.mem_cons, Prod.mk.injEq, List.not_mem_nil, or_false] at h
  rcases h with ⟨rfl, rfl⟩ | ⟨rfl, rfl⟩
  · exact h1
  · exact h2
theorem zip3 {α β : Type} {R : α → β → Prop} {a1 a2 a3 : α} {b1 b2 b3 : β} (h1 : R a1 b1) (h2 : R a2 b2) (h3 : R a3 b3) : ∀ a b, (a, b) ∈ [a1, a2, a3].zip [b1, b2, b3] → R a b := fun a b h => by
  simp only [List.zip_cons_cons, List.zip_nil_right, List.mem_cons, Prod.mk.injEq, List.not_mem_nil, or_false] at h
  rcases h with ⟨rfl, rfl⟩ | ⟨rfl, rfl⟩ | ⟨rfl, rfl⟩
  · exact h1
  · exact h2
  · exact h3
theorem Dd.dpart {d : Dd} (h : d.ok) : ∀ p x, (p, x) ∈ (d.pts.map Str.ofString).zip d.rest → DPart p x := by
  cases d with
  | begin k m ws =>
    obtain ⟨h1, h2, h3, h4⟩ := h
    refine zip3 (.inl ⟨rfl, ?_⟩) (dp_w (wp_msg h2)) (.inr (.inr (.inr (.inr (.inl ⟨rfl, ws, rfl, h3⟩)))))
    cases k with
    | none => exact .inl rfl
    | some z => exact .inr ⟨z, rfl, wp_kind (h1 z rfl)⟩
  | run n ms => exact zip2 (.inr (.inl ⟨rfl, n, h.1, rfl⟩)) (.inr (.inr (.inr (.inr (.inr (.inl ⟨rfl, ms, rfl, h.2.1⟩))))))
  | again k =>
    intro p x hm
    simp only [Dd.pts, Dd.rest, Dd.hd, PTAB, List.lookup] at hm
    obtain ⟨rfl, rfl⟩ := Prod.mk.inj (List.mem_singleton.mp (show (p, x) ∈ [(Str.ofString "number", dNat k)] from hm))
    exact dp_nat k
  | name k n v => exact zip3 (dp_nat k) (dp_w (wp_word h.2.1)) (dp_v h.2.2)
  | gone k m => exact zip2 (dp_w (wp_kind h.1)) (dp_w (wp_msg h.2))
  | field k n v => exact zip3 (dp_w (wp_kind h.1)) (dp_w (wp_word h.2.1)) (dp_v h.2.2)
  | lost k n => exact zip2 (dp_w (wp_kind h.1)) (dp_w (wp_word h.2))
  | under k j => exact zip2 (dp_w (wp_kind h.1)) (dp_w (wp_kind h.2))
  | load p t => exact zip2 (dp_w (wp_page h.1)) (dp_w ⟨Nat.le_trans h.2.1 (by decide), .inr (.inr (.inr (.inr rfl)))⟩)
  | sweep => exact fun p x hm => by cases hm
  | forget => exact fun p x hm => by cases hm
theorem Dd.rest_len (d : Dd) : d.rest.length ≤ 3 := by cases d <;> exact Nat.le_of_ble_eq_true rfl
theorem evd_in {te : TE} {σ : L2.St} {H : Hp} {n m : Nat} {d : Dt} (h : EvD te σ H n d) (hm : n ≤ m) : EvD te σ H m d := h.lv hm
theorem EvR.gn {ts : TS} {σ : L2.St} {H : Hp} {n i : Nat} {d : Dt} {v : V} {D : Ends} {bk ct : L2.St → Hp → Prop} {rt : VK} (h : EvR ts (σ.set i (some v)) H n d) (k : ∀ v H1, Same H H1 → AtD H1 n d v → D.rt v H1) : gName i v σ H (Ends.mk (ts D) rt bk ct).nx := h H (Same.refl _) D k
def rIs (ds : List Dt) (x : Dt) : Prop := ∃ d : Dd, ds = [d.dt] ∧ d.ok ∧ x = .v (.bl true)
section
variable {P : Program} {w : World} {K : PySem.W.Frag} {mg : Str → Option Value} {base : Heap}
theorem scIs : FnScope ["thing", "parts", "part", "inside"] ["thing"] (defScope s_is_deed) := ⟨rfl, rfl, rfl, by decide +kernel, rfl, by decide +kernel, by decide +kernel⟩
theorem c_is (b_isinstance : mg "isinstance" = none) (b_str : mg "str" = none) (b_tuple : mg "tuple" = none) (b_all : mg "all" = none) (b_len : mg "len" = none) (b_zip : mg "zip" = none) (PT : PtOk K w mg) (PD : C0 P w K mg base 9 "is_part_of_deed" (spR 9 0 rPd)) (D : Dn K mg "is_deed" s_is_deed) : C0 P w K mg base 10 "is_deed" (spR 9 0 rIs) := by
  obtain ⟨pa, hpa, low, ⟨es, nn, lk⟩, ent⟩ := PT.ex
  obtain ⟨f, fd, F, hmm⟩ := D.ex
  refine ⟨f, fd, ["thing"], F.ok scIs (fun vs H Q E h => ?_) (fun cdv A outer s H vs Q E hr h => ?_), hmm, F.kp, F.binds (ps := ["thing"]) fun _ _ _ _ _ _ us hl => match us, hl with | [_], _ => rfl⟩
  · obtain ⟨ds, d, al, ⟨d, rfl, _⟩, _⟩ := h
    exact al.len.symm
  obtain ⟨ds, x, al, ⟨d, rfl, ok, rfl⟩, kq⟩ := h
  obtain ⟨v, rfl, a1⟩ := all2_1 al
  refine ⟨_, pss_cons (ps_if (PW.pt (pw_or (pt_not (pt_val (pe_callB (r := rIsi K) (id := "isinstance") call_isi (by rfl) b_isinstance (by decide +kernel) (pa_cons (pv 0) (pa_cons (pe_bltn (v := .ty "tuple") (by rfl) b_tuple (by decide +kernel) rfl) pa_nil))))) (pw_or (pt_cmpR op_eq (pe_callB call_len_seq (by rfl) b_len PySem.boot_len (pa_cons (pv 0) pa_nil)) pe_int (nomark _)) (pw_or1 (pt_not (pt_val (pe_callB (r := rIsi K) (id := "isinstance") call_isi (by rfl) b_isinstance (by decide +kernel) (pa_cons (pe_ix (r := rIxT K) ix_tup (pv 0) pe_int (fun _ _ => rfl)) (pa_cons (pe_bltn (v := .ty "str") (by rfl) b_str (by decide +kernel) rfl) pa_nil)))))))))
      (pss_one (ps_ret pe_bl))
      (pss_nil)) <|
    pss_cons (ps_set (i := 1) scIs.nd rfl (Or.inl rfl) (pe_kget (pe_gd hpa) (pe_ix (r := rIxT K) ix_tup (pv 0) pe_int (fun _ _ => rfl)) ⟨rfl, rfl, rfl, rfl⟩)) <|
    pss_cons (ps_if (PW.pt (pw_or (pt_cmpR op_isN (pv 1) pe_non (nomark _)) (pw_or1 (pt_cmpR op_ne (pe_callB call_len_seq (by rfl) b_len PySem.boot_len (pa_cons (pv 0) pa_nil)) (pe_op op_add pe_int (pe_callB call_len_seq (by rfl) b_len PySem.boot_len (pa_cons (pv 1) pa_nil))) (nomark _)))))
      (pss_one (ps_ret pe_bl))
      (pss_nil)) <|
    pss_one (ps_ret (pe_callB (cr_all rfl) (by rfl) b_all (by decide +kernel) (pa_cons (pe_lc (own := [("part", 2), ("inside", 3)]) (g := (gTup K 2 (gCons (gName 2) (gCons (gName 3) gNil)))) (tt := tYes) rfl scIs.nd (RZ.pi_zipA (by rfl) b_zip (pa_cons (pv 1) (pa_cons (pe_slice sl_tup (pv 0) (po_some pe_int) po_none) pa_nil))) (blkOk_by (own := [("part", 2), ("inside", 3)]) (N := ["thing", "parts", "part", "inside"]) (sc := defScope s_is_deed) (by decide +kernel)) (fun _ _ _ _ _ => (pg_tup (by rfl) (pgs_cons (pg_name (i := 2) scIs.nd rfl (Or.inl rfl)) (pgs_cons (pg_name (i := 3) scIs.nd rfl (Or.inl rfl)) pgs_nil)))) (fun _ _ _ _ _ => pts_nil) (fun _ _ _ _ _ => (pe_cc PD hr (by omega) pass0 (pa_cons (pv 2) (pa_cons (pv 3) pa_nil))))) pa_nil))), ?_⟩
  have vt : ∀ {σ : L2.St} {H' : Hp}, Same H H' → σ[0]? = some (some v) → EvD (tVar 0) σ H' 9 d.dt := fun s h => evd_var h (a1.same s)
  have v0 : ∀ {σ : L2.St} {H' : Hp}, Same H H' → σ[0]? = some (some v) → EvD (tOp (rIxT K) (tVar 0) (tC (.int 0))) σ H' 8 (kS d.hd) := fun s h => evd_ixT (K := K) (n := 8) (i := 0) (ds := kS d.hd :: d.rest) (vt s h) (evd_c (.int _)) atI_0
  have s0 := Same.refl H
  refine EvR.go (evr_ifF (evt_as (evt_or (a := false) (b := false) (evt_as (evt_not (evt_b (evd_isi (m := 0) (vt s0 rfl) (.inr (.inr (.inr rfl)))))) rfl) fun _ => evt_as (evt_or (a := false) (b := false) (evt_as (evt_t (evd_eqI (n := 0) (evd_lenT (n := 8) (vt s0 rfl)) (evd_c (.int _)))) ?_) fun _ => evt_as (evt_not (evt_b (evd_isi (m := 0) (v0 s0 rfl) (.inr (.inr (.inl rfl)))))) rfl) rfl) rfl) ?_) kq
  · refine decide_eq_false fun e => ?_
    injection e with e
    rw [List.length_cons] at e
    omega
  obtain ⟨q, kd, hS⟩ := ent _ d.pts_mem
  intro H1 s1 D kz
  refine ⟨pa, rfl, ⟨es, nn, lk⟩, v0 s1 rfl H1 (Same.refl _) _ fun y H2 s2 ay => ?_⟩
  obtain ⟨rfl, _⟩ := atD_pl ay
  refine ⟨_, _, rfl, low, kd, ?_⟩
  have s12 := s1.trans s2
  have lp : ∀ {σ : L2.St} {H' : Hp}, σ[1]? = some (some (.ref q)) → EvD (tCB (Evl.rLenS K) (tCons (tVar 1) tNil)) σ H' 0 (.v (.int ((d.rest.length : Nat) : Int))) := fun h H1 s1 Q k => ⟨_, h, q, _, rfl, .inr (hS _), by
    rw [List.length_map, List.length_map]
    have := d.pts_len
    simp only [this]
    exact k _ H1 (Same.refl _) (atD_v (.int _))⟩
  refine EvR.gn (n := 0) (d := .v (.bl true)) (evr_ifF (evt_as (evt_or (a := false) (b := false) (fun H3 s3 R k => ⟨_, rfl, rfl, _, rfl, k H3 (Same.refl _)⟩) fun _ => evt_as (evt_t (evd_neI (n := 0) (evd_lenT (n := 8) (vt s12 rfl)) (evd_i0 (evd_c (.int _)) (lp rfl) (.int _)))) ?_) rfl) (evr_ret (evd_allZK (K := K) (p0 := q) (ps := d.pts.map Str.ofString) (es := d.rest) (m := 8) (fun H1 Q k => ⟨_, rfl, k⟩) hS (evd_to (evd_slT (K := K) (ds := kS d.hd :: d.rest) (vt s12 rfl) (evo_some (evd_c (.int _))) evo_none ?_) ?_) (fun _ _ => rfl) fun p x hm y H3 s3 ax => evd_r (evds_cons (evd_var rfl (atD_v (.str _))) (evds_cons (evd_var rfl (ax.mono (by decide))) evds_nil)) ⟨p, x, rfl, Dd.dpart ok p x hm, rfl⟩))) fun v H3 s3 av => kz v H3 (s2.trans s3) av
  · have : decide (V.int (((kS d.hd :: d.rest).length : Nat) : Int) = V.int (1 + ((d.rest.length : Nat) : Int))) = true := decide_eq_true (by rw [List.length_cons]; congr 1; omega)
    rw [this]
    rfl
  · intro c
    have : HT.sIx (kS d.hd :: d.rest).length 0 (some 1) = 1 := by
      have := HT.sIx_nat (kS d.hd :: d.rest).length 0 1
      rw [show ((1 : Nat) : Int) = 1 from rfl] at this
      rw [this, List.length_cons]
      omega
    omega
  · have := cutD_suf (xs := kS d.hd :: d.rest) (k := 1) (by rw [List.length_cons]; omega)
    rw [show ((1 : Nat) : Int) = 1 from rfl] at this
    rw [this]
    rfl
/-! words_of_deed -/
theorem word_len {q : Str × Nat} (h : MkOk q) : (wordM q).length ≤ 41 := (wd_M h).len
theorem evd_lstTo {te : TE} {σ : L2.St} {H : Hp} {n : Nat} {zs : List Str} {ds : List Dt} (h : EvD te σ H n (.lst ds)) (e : ds = zs.map tS) : EvD te σ H n (.lst (zs.map tS)) := e ▸ h
def rWds (ds : List Dt) (x : Dt) : Prop := ∃ d : Dd, ds = [kS d.hd, .lst d.rest] ∧ d.ok ∧ (∀ p t, d ≠ .load p t) ∧ x = .lst (d.ws.map tS)
theorem scWds : FnScope ["word", "rest", "kind", "message", "worths", "beats", "marks", "worth", "page", "row", "part"] ["word", "rest"] (defScope s_words_of_deed) := ⟨rfl, rfl, rfl, by decide +kernel, rfl, by decide +kernel, by decide +kernel⟩
theorem c_wds (WW : C0 P w K mg base 2 "word_of_worth" (spR 9 0 rWw)) (WP : C0 P w K mg base 2 "word_of_part" (spR 9 0 rWp)) (FO : C0 P w K mg base 1 "figures_of" (spR 9 0 rFo)) (D : Dn K mg "words_of_deed" s_words_of_deed) : C0 P w K mg base 3 "words_of_deed" (spR 9 1 rWds) := by
  obtain ⟨f, fd, F, hmm⟩ := D.ex
  refine ⟨f, fd, ["word", "rest"], F.ok scWds (fun vs H Q E h => ?_) (fun cdv A outer s H vs Q E hr h => ?_), hmm, F.kp, F.binds (ps := ["word", "rest"]) fun _ _ _ _ _ _ us hl => match us, hl with | [_, _], _ => rfl⟩
  · obtain ⟨ds, d, al, ⟨d, rfl, _⟩, _⟩ := h
    exact al.len.symm
  obtain ⟨ds, x, al, ⟨d, rfl, ok, nl_, rfl⟩, kq⟩ := h
  obtain ⟨v, u, rfl, a1, a2⟩ := all2_2 al
  obtain ⟨rfl, _⟩ := atD_pl a1
  refine ⟨_, pss_cons (ps_if (pt_cmpR op_eq (pv 0) pe_str (nomark _))
      (pss_cons (ps_asg (pv 1) (pg_tupL (by rfl) (pgs_cons (pg_name (i := 2) scWds.nd rfl (Or.inl rfl)) (pgs_cons (pg_name (i := 3) scWds.nd rfl (Or.inl rfl)) (pgs_cons (pg_name (i := 4) scWds.nd rfl (Or.inl rfl)) pgs_nil))))) <|
      pss_one (ps_ret (pe_lst (pa_cons (pe_ifExp (pt_cmpR op_isN (pv 2) pe_non (nomark _)) pe_str (pv 2)) (pa_cons (pv 3) (StX.pa_star (pe_lc (own := [("worth", 7)]) (g := (gName 7)) (tt := tYes) rfl scWds.nd (pi_tup (pv 4)) (blkOk_by (own := [("worth", 7)]) (N := ["word", "rest", "kind", "message", "worths", "beats", "marks", "worth", "page", "row", "part"]) (sc := defScope s_words_of_deed) (by decide +kernel)) (fun _ _ _ _ _ => (pg_name (i := 7) scWds.nd rfl (Or.inl rfl))) (fun _ _ _ _ _ => pts_nil) (fun _ _ _ _ _ => (pe_cc WW hr (by omega) pass0 (pa_cons (pv 7) pa_nil)))) pa_nil))))))
      (pss_nil)) <|
    pss_cons (ps_if (pt_cmpR op_eq (pv 0) pe_str (nomark _))
      (pss_cons (ps_asg (pv 1) (pg_tupL (by rfl) (pgs_cons (pg_name (i := 5) scWds.nd rfl (Or.inl rfl)) (pgs_cons (pg_name (i := 6) scWds.nd rfl (Or.inl rfl)) pgs_nil)))) <|
      pss_one (ps_ret (pe_lst (pa_cons (pe_cc FO hr (by omega) pass0 (pa_cons (pv 5) pa_nil)) (StX.pa_star (pe_lc (own := [("page", 8), ("row", 9)]) (g := (gTup K 2 (gCons (gName 8) (gCons (gName 9) gNil)))) (tt := tYes) rfl scWds.nd (pi_tup (pv 6)) (blkOk_by (own := [("page", 8), ("row", 9)]) (N := ["word", "rest", "kind", "message", "worths", "beats", "marks", "worth", "page", "row", "part"]) (sc := defScope s_words_of_deed) (by decide +kernel)) (fun _ _ _ _ _ => (pg_tup (by rfl) (pgs_cons (pg_name (i := 8) scWds.nd rfl (Or.inl rfl)) (pgs_cons (pg_name (i := 9) scWds.nd rfl (Or.inl rfl)) pgs_nil)))) (fun _ _ _ _ _ => pts_nil) (fun _ _ _ _ _ => (pe_joined (PJ.cons (pe_fmt (pv 8)) (PJ.cons pe_str (PJ.cons (pe_fmt (pe_cc FO hr (by omega) pass0 (pa_cons (pv 9) pa_nil))) PJ.nil)))))) pa_nil)))))
      (pss_nil)) <|
    pss_cons (ps_if (pt_cmpR op_in_seq (pv 0) (pe_tup (pa_cons pe_str (pa_cons pe_str pa_nil))) (by rfl))
      (pss_one (ps_ret (pe_lst (StX.pa_star (pe_lc (own := [("part", 10)]) (g := (gName 10)) (tt := tYes) rfl scWds.nd (pi_list (pe_slice sl_list (pv 1) po_none (po_some (pe_un un_neg pe_int)))) (blkOk_by (own := [("part", 10)]) (N := ["word", "rest", "kind", "message", "worths", "beats", "marks", "worth", "page", "row", "part"]) (sc := defScope s_words_of_deed) (by decide +kernel)) (fun _ _ _ _ _ => (pg_name (i := 10) scWds.nd rfl (Or.inl rfl))) (fun _ _ _ _ _ => pts_nil) (fun _ _ _ _ _ => (pe_cc WP hr (by omega) pass0 (pa_cons (pv 10) pa_nil)))) (pa_cons (pe_cc WW hr (by omega) pass0 (pa_cons (pe_ix (r := rIxL K) ix_list (pv 1) (pe_un un_neg pe_int) (fun _ _ => rfl)) pa_nil)) pa_nil)))))
      (pss_nil)) <|
    pss_one (ps_ret (pe_lc (own := [("part", 10)]) (g := (gName 10)) (tt := tYes) rfl scWds.nd (pi_list (pv 1)) (blkOk_by (own := [("part", 10)]) (N := ["word", "rest", "kind", "message", "worths", "beats", "marks", "worth", "page", "row", "part"]) (sc := defScope s_words_of_deed) (by decide +kernel)) (fun _ _ _ _ _ => (pg_name (i := 10) scWds.nd rfl (Or.inl rfl))) (fun _ _ _ _ _ => pts_nil) (fun _ _ _ _ _ => (pe_cc WP hr (by omega) pass0 (pa_cons (pv 10) pa_nil))))), ?_⟩
  have v0 : ∀ {σ : L2.St} {H : Hp}, σ[0]? = some (some (V.str (Str.ofString d.hd))) → EvD (tVar 0) σ H 0 (kS d.hd) := fun h => evd_var h (atD_v (.str _))
  have v1 : ∀ {σ : L2.St}, σ[1]? = some (some u) → EvD (tVar 1) σ H 9 (.lst d.rest) := fun h => evd_var h a2
  have eqt : ∀ {σ : L2.St} {H : Hp} {b : Bool} (z : String), σ[0]? = some (some (V.str (Str.ofString d.hd))) → decide (V.str (Str.ofString d.hd) = V.str (Str.ofString z)) = b → EvT (tTest (tOp rEq (tVar 0) (tC (.str (Str.ofString z))))) σ H b := fun z h e => evt_as (evt_t (evd_eqS (v0 h) (evd_c (.str _)))) e
  have nf : ∀ {σ : L2.St} {H : Hp}, EvD (tTup (tCons (tC (.str (Str.ofString "name"))) (tCons (tC (.str (Str.ofString "field"))) tNil))) σ H 1 (.tup ([Str.ofString "name", Str.ofString "field"].map tS)) := evd_tup (evds_cons (evd_c (.str _)) (evds_cons (evd_c (.str _)) evds_nil)) (Nat.le_of_ble_eq_true rfl)
  have fin : ∀ {te : TE} {σ : L2.St} {H : Hp} {zs : List Dt}, EvD te σ H 1 (.lst zs) → zs = d.ws.map tS → EvR (L2.tRet te) σ H 1 (.lst (d.ws.map tS)) := fun h e => evr_ret (e ▸ h)
  refine EvR.go (n := 1) (d := .lst (d.ws.map tS)) ?_ kq
  cases d with
  | begin k m ws =>
    refine evr_ifT (eqt "begin" rfl (show decide (V.str (Str.ofString "begin") = V.str (Str.ofString "begin")) = true by decide +kernel)) (evr_unL (K := K) (v1 rfl) rfl fun vs H1 s1 al1 D kz => ?_)
    obtain ⟨x1, x2, x3, rfl, b1, b2, b3⟩ := all2_3 al1
    refine ⟨_, _, rfl, _, _, rfl, _, _, rfl, rfl, EvR.run (fin (evd_lst (n := 0) (evds_cons (d := tS (k.getD (Str.ofString "-"))) ?_ (evds_cons (d := tS m) ?_ (evds_starL (K := K) (evd_lcAT (K := K) (as := ws) (a := fun v => Dt.v v) (b := fun v => tS (wordV v)) (m := 7) (evd_var rfl b3) (tg_one (fun _ => rfl) fun z hz x H2 s2 ax => evd_r (evds_cons (evd_var rfl (ax.mono (by decide))) evds_nil) ⟨z, rfl, ok.2.2.1 z hz, rfl⟩) fun _ _ => .v) evds_nil))) ?_) ?_) kz⟩
    · cases k with
      | none => exact evd_if (c := true) (evt_as (evt_t (evd_isN (m := 0) (evd_var rfl b1))) rfl) (fun _ => evd_c (.str _)) fun c => (by cases c)
      | some z =>
        obtain ⟨rfl, _⟩ := atD_pl b1
        exact evd_if (c := false) (evt_as (evt_t (evd_isN (m := 0) (evd_var rfl b1))) rfl) (fun c => (by cases c)) fun _ => evd_var rfl (atD_v (.str _))
    · obtain ⟨rfl, _⟩ := atD_pl b2
      exact evd_var rfl (atD_v (.str _))
    · have := ok.2.2.2
      simp only [List.length_cons, List.length_append, List.length_map, List.length_nil]
      omega
    · simp [Dd.ws]
  | run n ms =>
    refine evr_ifF (eqt "begin" rfl (show decide (V.str (Str.ofString "run") = V.str (Str.ofString "begin")) = false by decide +kernel)) <| evr_ifT (eqt "run" rfl (show decide (V.str (Str.ofString "run") = V.str (Str.ofString "run")) = true by decide +kernel)) (evr_unL (K := K) (v1 rfl) rfl fun vs H1 s1 al1 D kz => ?_)
    obtain ⟨x1, x2, rfl, b1, b2⟩ := all2_2 al1
    refine ⟨_, _, rfl, _, _, rfl, rfl, EvR.run (fin (evd_lst (n := 0) (evds_cons (d := tS (numS n)) (evd_r (evds_cons (evd_var rfl (b1.mono (by decide))) evds_nil) ⟨n, rfl, by have := ok.1; omega, rfl⟩) (evds_starL (K := K) (evd_lcAT (K := K) (as := ms) (a := dMark) (b := fun q => tS (wordM q)) (m := 7) (evd_var rfl b2) (fun z hz x H2 s2 ax R kR => tg_pair (m := 6) (p := tS z.1) (q := dNat z.2) ax fun u v au av => ?_) fun _ _ => .v) evds_nil)) ?_) ?_) kz⟩
    · have mk_ := ok.2.1 z hz
      have pl := (wd_page mk_.1).len
      have nl := (wd_num (n := z.2) (by have := mk_.2.2; omega)).len
      refine kR _ H2 (Same.refl _) rfl (evd_to (evd_joined (evj_cons (z := z.1) (evd_fmtS (evd_var rfl au) (by omega)) (evj_cons (evd_c (.str _)) (evj_cons (z := numS z.2) (evd_fmtS (n := 0) (evd_r (evds_cons (evd_var rfl (av.mono (by decide))) evds_nil) ⟨z.2, rfl, by have := mk_.2.2; omega, rfl⟩) (by omega)) evj_nil))) ?_) ?_)
      · show z.1.length + ((Str.ofString ":").length + ((numS z.2).length + 0)) ≤ _
        have : (Str.ofString ":").length = 1 := by decide +kernel
        omega
      · show tS (((Str.empty ++ z.1) ++ Str.ofString ":") ++ numS z.2) = tS (wordM z)
        have e : ((Str.empty ++ z.1) ++ Str.ofString ":") ++ numS z.2 = wordM z := by
          apply TL.ext_tl
          show tl (((Str.empty ++ z.1) ++ Str.ofString ":") ++ numS z.2) = tl (wordM z)
          unfold wordM
          simp only [tl_app]
          rfl
        rw [e]
    · have := ok.2.2
      simp only [List.length_cons, List.length_append, List.length_map, List.length_nil]
      omega
    · simp [Dd.ws]
  | name k n v =>
    have c1 : cutD [dNat k, tS n, Dt.v v] none (some (-1)) = [(dNat k, numS k), (tS n, n)].map (·.1) := rfl
    refine evr_ifF (eqt "begin" rfl (show decide (V.str (Str.ofString "name") = V.str (Str.ofString "begin")) = false by decide +kernel)) <| evr_ifF (eqt "run" rfl (show decide (V.str (Str.ofString "name") = V.str (Str.ofString "run")) = false by decide +kernel)) <| evr_ifT (evt_as (evt_t (evd_inS (n := 0) (m := 0) (x := Str.ofString "name") (v0 rfl) nf)) (by decide +kernel)) <| fin (evd_lst (n := 0) (evds_starL (K := K) (evd_lcAL (K := K) (as := [(dNat k, numS k), (tS n, n)]) (a := fun z => z.1) (b := fun z => tS z.2) (m := 8) (evd_to (evd_slL (K := K) (n := 8) (v1 rfl) evo_none (evo_some (evd_neg (evd_c (.int _))))) (by rw [← c1]; rfl)) (tg_one (fun _ => rfl) fun z hz x H2 s2 ax => evd_r (evds_cons (evd_var rfl (ax.mono (by decide))) evds_nil) ?_) fun _ _ => .v) (evds_cons (d := tS (wordV v)) (evd_r (evds_cons (EvD.lv (evd_ixL (K := K) (n := 8) (i := -1) (d := .v v) (v1 rfl) (evd_neg (evd_c (.int _))) rfl) (by decide)) evds_nil) ⟨v, rfl, ok.2.2, rfl⟩) evds_nil)) (Nat.le_of_ble_eq_true rfl)) rfl
    simp only [List.mem_cons, List.not_mem_nil, or_false] at hz
    rcases hz with rfl | rfl
    · exact .inr ⟨k, rfl, ok.1, rfl⟩
    · exact .inl ⟨n, rfl, rfl⟩
  | field k n v =>
    have c1 : cutD [tS k, tS n, Dt.v v] none (some (-1)) = [(tS k, k), (tS n, n)].map (·.1) := rfl
    refine evr_ifF (eqt "begin" rfl (show decide (V.str (Str.ofString "field") = V.str (Str.ofString "begin")) = false by decide +kernel)) <| evr_ifF (eqt "run" rfl (show decide (V.str (Str.ofString "field") = V.str (Str.ofString "run")) = false by decide +kernel)) <| evr_ifT (evt_as (evt_t (evd_inS (n := 0) (m := 0) (x := Str.ofString "field") (v0 rfl) nf)) (by decide +kernel)) <| fin (evd_lst (n := 0) (evds_starL (K := K) (evd_lcAL (K := K) (as := [(tS k, k), (tS n, n)]) (a := fun z => z.1) (b := fun z => tS z.2) (m := 8) (evd_to (evd_slL (K := K) (n := 8) (v1 rfl) evo_none (evo_some (evd_neg (evd_c (.int _))))) (by rw [← c1]; rfl)) (tg_one (fun _ => rfl) fun z hz x H2 s2 ax => evd_r (evds_cons (evd_var rfl (ax.mono (by decide))) evds_nil) ?_) fun _ _ => .v) (evds_cons (d := tS (wordV v)) (evd_r (evds_cons (EvD.lv (evd_ixL (K := K) (n := 8) (i := -1) (d := .v v) (v1 rfl) (evd_neg (evd_c (.int _))) rfl) (by decide)) evds_nil) ⟨v, rfl, ok.2.2, rfl⟩) evds_nil)) (Nat.le_of_ble_eq_true rfl)) rfl
    simp only [List.mem_cons, List.not_mem_nil, or_false] at hz
    rcases hz with rfl | rfl
    · exact .inl ⟨k, rfl, rfl⟩
    · exact .inl ⟨n, rfl, rfl⟩
  | load p t => exact absurd rfl (nl_ p t)
  | again k =>
    refine evr_ifF (eqt "begin" rfl (show decide (V.str (Str.ofString "again") = V.str (Str.ofString "begin")) = false by decide +kernel)) <| evr_ifF (eqt "run" rfl (show decide (V.str (Str.ofString "again") = V.str (Str.ofString "run")) = false by decide +kernel)) <| evr_ifF (evt_as (evt_t (evd_inS (n := 0) (m := 0) (x := Str.ofString "again") (v0 rfl) nf)) (by decide +kernel)) <| fin (evd_lcAL (K := K) (as := ([(dNat k, numS k)] : List (Dt × Str))) (a := fun z => z.1) (b := fun z => tS z.2) (m := 8) (v1 rfl) (tg_one (fun _ => rfl) fun z hz x H2 s2 ax => evd_r (evds_cons (evd_var rfl (ax.mono (by decide))) evds_nil) ?_) fun _ _ => .v) rfl
    obtain rfl := List.mem_singleton.mp hz
    exact .inr ⟨k, rfl, ok, rfl⟩
  | gone k m =>
    refine evr_ifF (eqt "begin" rfl (show decide (V.str (Str.ofString "gone") = V.str (Str.ofString "begin")) = false by decide +kernel)) <| evr_ifF (eqt "run" rfl (show decide (V.str (Str.ofString "gone") = V.str (Str.ofString "run")) = false by decide +kernel)) <| evr_ifF (evt_as (evt_t (evd_inS (n := 0) (m := 0) (x := Str.ofString "gone") (v0 rfl) nf)) (by decide +kernel)) <| fin (evd_lcAL (K := K) (as := ([(tS k, k), (tS m, m)] : List (Dt × Str))) (a := fun z => z.1) (b := fun z => tS z.2) (m := 8) (v1 rfl) (tg_one (fun _ => rfl) fun z hz x H2 s2 ax => evd_r (evds_cons (evd_var rfl (ax.mono (by decide))) evds_nil) ?_) fun _ _ => .v) rfl
    simp only [List.mem_cons, List.not_mem_nil, or_false] at hz
    rcases hz with rfl | rfl <;> exact .inl ⟨_, rfl, rfl⟩
  | lost k m =>
    refine evr_ifF (eqt "begin" rfl (show decide (V.str (Str.ofString "lost") = V.str (Str.ofString "begin")) = false by decide +kernel)) <| evr_ifF (eqt "run" rfl (show decide (V.str (Str.ofString "lost") = V.str (Str.ofString "run")) = false by decide +kernel)) <| evr_ifF (evt_as (evt_t (evd_inS (n := 0) (m := 0) (x := Str.ofString "lost") (v0 rfl) nf)) (by decide +kernel)) <| fin (evd_lcAL (K := K) (as := ([(tS k, k), (tS m, m)] : List (Dt × Str))) (a := fun z => z.1) (b := fun z => tS z.2) (m := 8) (v1 rfl) (tg_one (fun _ => rfl) fun z hz x H2 s2 ax => evd_r (evds_cons (evd_var rfl (ax.mono (by decide))) evds_nil) ?_) fun _ _ => .v) rfl
    simp only [List.mem_cons, List.not_mem_nil, or_false] at hz
    rcases hz with rfl | rfl <;> exact .inl ⟨_, rfl, rfl⟩
  | under k m =>
    refine evr_ifF (eqt "begin" rfl (show decide (V.str (Str.ofString "under") = V.str (Str.ofString "begin")) = false by decide +kernel)) <| evr_ifF (eqt "run" rfl (show decide (V.str (Str.ofString "under") = V.str (Str.ofString "run")) = false by decide +kernel)) <| evr_ifF (evt_as (evt_t (evd_inS (n := 0) (m := 0) (x := Str.ofString "under") (v0 rfl) nf)) (by decide +kernel)) <| fin (evd_lcAL (K := K) (as := ([(tS k, k), (tS m, m)] : List (Dt × Str))) (a := fun z => z.1) (b := fun z => tS z.2) (m := 8) (v1 rfl) (tg_one (fun _ => rfl) fun z hz x H2 s2 ax => evd_r (evds_cons (evd_var rfl (ax.mono (by decide))) evds_nil) ?_) fun _ _ => .v) rfl
    simp only [List.mem_cons, List.not_mem_nil, or_false] at hz
    rcases hz with rfl | rfl <;> exact .inl ⟨_, rfl, rfl⟩
  | sweep =>
    refine evr_ifF (eqt "begin" rfl (show decide (V.str (Str.ofString "sweep") = V.str (Str.ofString "begin")) = false by decide +kernel)) <| evr_ifF (eqt "run" rfl (show decide (V.str (Str.ofString "sweep") = V.str (Str.ofString "run")) = false by decide +kernel)) <| evr_ifF (evt_as (evt_t (evd_inS (n := 0) (m := 0) (x := Str.ofString "sweep") (v0 rfl) nf)) (by decide +kernel)) <| fin (evd_lcAL (K := K) (as := ([] : List (Dt × Str))) (a := fun z => z.1) (b := fun z => tS z.2) (m := 8) (v1 rfl) (tg_one (fun _ => rfl) fun z hz x H2 s2 ax => evd_r (evds_cons (evd_var rfl (ax.mono (by decide))) evds_nil) ?_) fun _ _ => .v) rfl
    cases hz
  | forget =>
    refine evr_ifF (eqt "begin" rfl (show decide (V.str (Str.ofString "forget") = V.str (Str.ofString "begin")) = false by decide +kernel)) <| evr_ifF (eqt "run" rfl (show decide (V.str (Str.ofString "forget") = V.str (Str.ofString "run")) = false by decide +kernel)) <| evr_ifF (evt_as (evt_t (evd_inS (n := 0) (m := 0) (x := Str.ofString "forget") (v0 rfl) nf)) (by decide +kernel)) <| fin (evd_lcAL (K := K) (as := ([] : List (Dt × Str))) (a := fun z => z.1) (b := fun z => tS z.2) (m := 8) (v1 rfl) (tg_one (fun _ => rfl) fun z hz x H2 s2 ax => evd_r (evds_cons (evd_var rfl (ax.mono (by decide))) evds_nil) ?_) fun _ _ => .v) rfl
    cases hz
end
end My
set_option Elab.async false
set_option linter.all false
set_option maxRecDepth 100000
set_option maxHeartbeats 4000000
namespace My
open PySem L2 SS
/-! deed_text -/
theorem joinL_nil : ∀ ps : List T, TL.joinL [] ps = ps.flatten
  | [] => rfl
  | [x] => by simp [TL.joinL]
  | x :: z :: r => by
    rw [joinL_cons _ _ _ (by simp), joinL_nil (z :: r)]
    simp
theorem join_flat (rs : List Str) : Txt.join (Str.ofString "") (rs.map fun r => r ++ nl) = flatS rs := by
  apply TL.ext_tl
  show tl _ = flatT rs
  have e : tl (Str.ofString "") = [] := by decide +kernel
  rw [tl_join, e, joinL_nil]
  unfold flatT
  rw [List.map_map]
  congr 1
  refine List.map_congr_left fun r _ => ?_
  show tl (r ++ nl) = _
  rw [tl_app, nl_tl]
theorem load_row (p : Str) : [Str.ofString "load ", p].foldl (· ++ ·) Str.empty = Txt.join (Str.ofString " ") [Str.ofString "load", p] := by
  apply TL.ext_tl
  show tl ((Str.empty ++ Str.ofString "load ") ++ p) = tl (Txt.join (Str.ofString " ") [Str.ofString "load", p])
  rw [tl_join, bl_tl, tl_app, tl_app]
  have e : tl (Str.ofString "load ") = tl (Str.ofString "load") ++ [32] := by decide +kernel
  rw [e]
  show (tl Str.empty ++ (tl (Str.ofString "load") ++ [32])) ++ tl p = tl (Str.ofString "load") ++ ([32] ++ tl p)
  rw [show tl Str.empty = [] from rfl, List.nil_append, List.append_assoc]
theorem blank_row (z : Str) : [Str.ofString " ", z].foldl (· ++ ·) Str.empty = blankS z := by
  apply TL.ext_tl
  show tl ((Str.empty ++ Str.ofString " ") ++ z) = 32 :: tl z
  rw [tl_app, tl_app]
  rfl
theorem end_row (z : Str) : [z, Str.ofString "\n"].foldl (· ++ ·) Str.empty = z ++ nl := by
  apply TL.ext_tl
  show tl ((Str.empty ++ z) ++ Str.ofString "\n") = tl (z ++ nl)
  rw [tl_app, tl_app, tl_app]
  rfl
theorem lens_le {zs : List Str} {m : Nat} (h : (zs.map (·.length)).sum ≤ m) : ∀ z ∈ zs, z.length ≤ m := by
  induction zs with
  | nil => exact fun z hz => by cases hz
  | cons a r ih =>
    rw [List.map_cons, List.sum_cons] at h
    intro z hz
    rcases List.mem_cons.mp hz with rfl | hz
    · omega
    · exact ih (by omega) z hz
theorem sum_nl : ∀ rs : List Str, ((rs.map fun r => r ++ nl).map (·.length)).sum = (rs.map (·.length)).sum + rs.length
  | [] => rfl
  | r :: rs => by
    have ih := sum_nl rs
    rw [List.map_cons, List.map_cons, List.map_cons, List.sum_cons, List.sum_cons, ih, List.length_cons]
    have : (r ++ nl).length = r.length + 1 := by rw [Str.length_append]; rfl
    omega
def rDt (ds : List Dt) (x : Dt) : Prop := ∃ d : Dd, ds = [d.dt] ∧ d.ok ∧ x = tS (flatS d.rows)
section
variable {P : Program} {w : World} {K : PySem.W.Frag} {mg : Str → Option Value} {base : Heap}
theorem scDt : FnScope ["deed", "word", "rest", "page", "text", "rows", "row"] ["deed"] (defScope s_deed_text) := ⟨rfl, rfl, rfl, by decide +kernel, rfl, by decide +kernel, by decide +kernel⟩
theorem c_dt (IS : C0 P w K mg base 10 "is_deed" (spR 9 0 rIs)) (WDS : C0 P w K mg base 3 "words_of_deed" (spR 9 1 rWds)) (D : Dn K mg "deed_text" s_deed_text) : C0 P w K mg base 11 "deed_text" (spR 9 0 rDt) := by
  obtain ⟨f, fd, F, hmm⟩ := D.ex
  refine ⟨f, fd, ["deed"], F.ok scDt (fun vs H Q E h => ?_) (fun cdv A outer s H vs Q E hr h => ?_), hmm, F.kp, F.binds (ps := ["deed"]) fun _ _ _ _ _ _ us hl => match us, hl with | [_], _ => rfl⟩
  · obtain ⟨ds, d, al, ⟨d, rfl, _⟩, _⟩ := h
    exact al.len.symm
  obtain ⟨ds, x, al, ⟨d, rfl, ok, rfl⟩, kq⟩ := h
  obtain ⟨v, rfl, a1⟩ := all2_1 al
  refine ⟨_, pss_cons (ps_if (pt_not (pt_val (pe_cc IS hr (by omega) pass0 (pa_cons (pv 0) pa_nil))))
      (pss_one (ps_never))
      (pss_nil)) <|
    pss_cons (ps_asg (pv 0) (pg_tupS (i := 1) (by rfl) (pgs_cons (pg_name (i := 1) scDt.nd rfl (Or.inl rfl)) (pgs_star (pg_name (i := 2) scDt.nd rfl (Or.inl rfl)))))) <|
    pss_cons (ps_if (pt_cmpR op_eq (pv 1) pe_str (nomark _))
      (pss_cons (ps_asg (pv 2) (pg_tupL (by rfl) (pgs_cons (pg_name (i := 3) scDt.nd rfl (Or.inl rfl)) (pgs_cons (pg_name (i := 4) scDt.nd rfl (Or.inl rfl)) pgs_nil)))) <|
      pss_one (ps_set (i := 5) scDt.nd rfl (Or.inl rfl) (pe_lst (pa_cons (pe_joined (PJ.cons pe_str (PJ.cons (pe_fmt (pv 3)) PJ.nil))) (StX.pa_star (pe_lc (own := [("row", 6)]) (g := (gName 6)) (tt := tYes) rfl scDt.nd (pi_list (pe_split (pv 4) pe_str)) (blkOk_by (own := [("row", 6)]) (N := ["deed", "word", "rest", "page", "text", "rows", "row"]) (sc := defScope s_deed_text) (by decide +kernel)) (fun _ _ _ _ _ => (pg_name (i := 6) scDt.nd rfl (Or.inl rfl))) (fun _ _ _ _ _ => pts_nil) (fun _ _ _ _ _ => (pe_joined (PJ.cons pe_str (PJ.cons (pe_fmt (pv 6)) PJ.nil))))) pa_nil)))))
      (pss_one (ps_set (i := 5) scDt.nd rfl (Or.inl rfl) (pe_lst (pa_cons (pe_join pe_str (pe_lst (pa_cons (pv 1) (StX.pa_star (pe_cc WDS hr (by omega) pass0 (pa_cons (pv 1) (pa_cons (pv 2) pa_nil))) pa_nil)))) pa_nil))))) <|
    pss_one (ps_ret (pe_join pe_str (pe_lc (own := [("row", 6)]) (g := (gName 6)) (tt := tYes) rfl scDt.nd (pi_list (pv 5)) (blkOk_by (own := [("row", 6)]) (N := ["deed", "word", "rest", "page", "text", "rows", "row"]) (sc := defScope s_deed_text) (by decide +kernel)) (fun _ _ _ _ _ => (pg_name (i := 6) scDt.nd rfl (Or.inl rfl))) (fun _ _ _ _ _ => pts_nil) (fun _ _ _ _ _ => (pe_joined (PJ.cons (pe_fmt (pv 6)) (PJ.cons pe_str PJ.nil))))))), ?_⟩
  have fl := Dd.flat_len ok
  have fl2 : (d.rows.map (·.length)).sum + d.rows.length ≤ 700 := by
    have : (flatS d.rows).length = (flatT d.rows).length := mk_len _
    rw [← len_flat, ← this]
    exact fl
  have rl := lens_le (zs := d.rows) (m := 700) (by omega)
  refine EvR.go (n := 0) (d := tS (flatS d.rows)) (evr_ifF (evt_as (evt_not (evt_b (evd_r (evds_cons (evd_var rfl a1) evds_nil) ⟨d, rfl, ok, rfl⟩))) rfl) (evr_star (K := K) (m := 8) (us := kS d.hd :: d.rest) (i := 1) (.inr (evd_var rfl a1)) (by rw [List.length_cons]; omega) fun vs p H1 s1 hl al1 a2 D kz => ?_)) kq
  obtain ⟨u, rfl, b1⟩ := all2_1 (show All2 (AtD H1 8) [kS d.hd] vs from al1)
  obtain ⟨rfl, _⟩ := atD_pl b1
  have a2 : AtD H1 9 (.lst d.rest) (.ref p) := a2
  refine ⟨_, _, rfl, _, _, rfl, rfl, ?_⟩
  have v1 : ∀ {σ : L2.St} {H : Hp}, σ[1]? = some (some (V.str (Str.ofString d.hd))) → EvD (tVar 1) σ H 0 (kS d.hd) := fun h => evd_var h (atD_v (.str _))
  refine EvR.run (evr_ifN (Pt := fun σ' H' => ∃ (x3 x4 : Option V) (r : V), σ' = [some v, some (.str (Str.ofString d.hd)), some (.ref p), x3, x4, some r, none] ∧ AtD H' 1 (.lst (d.rows.map tS)) r) (c := decide (V.str (Str.ofString d.hd) = V.str (Str.ofString "load"))) (evt_t (evd_eqS (v1 rfl) (evd_c (.str _)))) (fun c => ?_) (fun c => ?_) fun σ' H' s' ⟨x3, x4, r, e, hr⟩ => ?_) kz
  · have ld : ∃ p t, d = .load p t := by
      cases d with
      | load p t => exact ⟨p, t, rfl⟩
      | _ => exfalso; revert c; (first | (show ¬ decide (V.str (Str.ofString "begin") = V.str (Str.ofString "load")) = true; decide +kernel) | (show ¬ decide (V.str (Str.ofString "run") = V.str (Str.ofString "load")) = true; decide +kernel) | (show ¬ decide (V.str (Str.ofString "again") = V.str (Str.ofString "load")) = true; decide +kernel) | (show ¬ decide (V.str (Str.ofString "name") = V.str (Str.ofString "load")) = true; decide +kernel) | (show ¬ decide (V.str (Str.ofString "gone") = V.str (Str.ofString "load")) = true; decide +kernel) | (show ¬ decide (V.str (Str.ofString "field") = V.str (Str.ofString "load")) = true; decide +kernel) | (show ¬ decide (V.str (Str.ofString "lost") = V.str (Str.ofString "load")) = true; decide +kernel) | (show ¬ decide (V.str (Str.ofString "under") = V.str (Str.ofString "load")) = true; decide +kernel) | (show ¬ decide (V.str (Str.ofString "sweep") = V.str (Str.ofString "load")) = true; decide +kernel) | (show ¬ decide (V.str (Str.ofString "forget") = V.str (Str.ofString "load")) = true; decide +kernel))
    obtain ⟨pg, t, rfl⟩ := ld
    have pl := (wd_page ok.1).len
    have tl_ := ok.2.1
    have ml := (Dd.more_len ok).1
    have sp := split_sum tl_
    refine evn_unL (K := K) (evd_var rfl a2) rfl fun vs H2 s2 al2 D2 kz2 => ?_
    obtain ⟨x1, x2, rfl, c1, c2⟩ := all2_2 al2
    obtain ⟨rfl, _⟩ := atD_pl c1
    obtain ⟨rfl, _⟩ := atD_pl c2
    refine ⟨_, _, rfl, _, _, rfl, rfl, ?_⟩
    refine EvN.run (evn_asg (m := 1) (e := .lst ((Dd.load pg t).rows.map tS)) (evd_to (evd_lst (n := 0) (evds_cons (d := tS (Dd.load pg t).row) (evd_to (evd_joined (evj_cons (evd_c (.str _)) (evj_cons (evd_fmtS (n := 0) (evd_var rfl (atD_v (.str _))) (by omega)) evj_nil)) ?_) ?_) (evds_starL (K := K) (evd_lcAL (K := K) (as := Txt.split t nl) (a := tS) (b := fun z => tS (blankS z)) (m := 0) (evd_split (n := 0) (evd_var rfl (atD_v (.str _))) (evd_c (.str _)) (by decide +kernel) (by omega)) (tg_one (fun _ => rfl) fun z hz x H3 s3 ax => evd_to (evd_joined (evj_cons (evd_c (.str _)) (evj_cons (evd_fmtS (n := 0) (evd_var rfl ax) ?_) evj_nil)) ?_) ?_) fun _ _ => .v) evds_nil)) ?_) ?_) fun r H3 s3 ar => ?_) kz2
    · show (Str.ofString "load ").length + (pg.length + 0) ≤ _
      have : (Str.ofString "load ").length = 5 := by decide +kernel
      omega
    · rw [load_row]
      rfl
    · have := lens_le (zs := Txt.split t nl) (m := 151) (by omega) z hz
      omega
    · have := lens_le (zs := Txt.split t nl) (m := 151) (by omega) z hz
      show (Str.ofString " ").length + (z.length + 0) ≤ _
      have : (Str.ofString " ").length = 1 := by decide +kernel
      omega
    · rw [blank_row]
    · simp only [List.length_cons, List.length_append, List.length_map, List.length_nil]
      omega
    · show Dt.lst (tS (Dd.load pg t).row :: ((Txt.split t nl).map (fun z => tS (blankS z)) ++ [])) = Dt.lst (((Dd.load pg t).row :: (Txt.split t nl).map blankS).map tS)
      rw [List.append_nil, List.map_cons, List.map_map]
      rfl
    · exact ⟨_, _, r, rfl, ar⟩
  · have nld : ∀ p t, d ≠ .load p t := fun p t e => by
      subst e
      revert c
      show ¬ decide (V.str (Str.ofString "load") = V.str (Str.ofString "load")) = false
      decide +kernel
    have mr : d.more = [] := by
      cases d with
      | load p t => exact absurd rfl (nld p t)
      | _ => rfl
    have rlen := (Dd.row_len ok).2
    refine evn_asg (m := 1) (e := .lst (d.rows.map tS)) (evd_to (evd_lst (n := 0) (evds_cons (d := tS d.row) (evd_to (evd_join (K := K) (n := 0) (zs := Str.ofString d.hd :: d.ws) (evd_c (.str _)) (evd_to (evd_lst (n := 0) (evds_cons (v1 rfl) (evds_starL (K := K) (evd_r (evds_cons ((v1 rfl).lv (Nat.zero_le _)) (evds_cons (evd_var rfl a2) evds_nil)) ⟨d, rfl, ok, nld, rfl⟩) evds_nil)) ?_) ?_) ?_) rfl) evds_nil) (Nat.le_of_ble_eq_true rfl)) ?_) fun r H3 s3 ar => ⟨_, _, r, rfl, ar⟩
    · simp only [List.length_cons, List.length_append, List.length_map, List.length_nil] at rlen ⊢
      omega
    · rw [List.append_nil]
      rfl
    · have : (Str.ofString " ").length = 1 := by decide +kernel
      rw [this]
      omega
    · show Dt.lst [tS d.row] = Dt.lst ((d.row :: d.more).map tS)
      rw [mr]
      rfl
  · subst e
    refine evr_ret (evd_to (evd_join (K := K) (n := 0) (zs := d.rows.map fun r => r ++ nl) (evd_c (.str _)) (evd_to (evd_lcAL (K := K) (as := d.rows) (a := tS) (b := fun z => tS (z ++ nl)) (m := 0) (evd_var rfl hr) (tg_one (fun _ => rfl) fun z hz x H3 s3 ax => evd_to (evd_joined (evj_cons (evd_fmtS (n := 0) (evd_var rfl ax) (by have := rl z hz; omega)) (evj_cons (evd_c (.str _)) evj_nil)) ?_) ?_) fun _ _ => .v) ?_) ?_) ?_)
    · have := rl z hz
      show z.length + ((Str.ofString "\n").length + 0) ≤ _
      have : (Str.ofString "\n").length = 1 := by decide +kernel
      omega
    · rw [end_row]
    · rw [List.map_map]
      rfl
    · rw [sum_nl, List.length_map]
      have : (Str.ofString "").length = 0 := by decide +kernel
      rw [this]
      omega
    · rw [join_flat]
end
end My
set_option Elab.async false
set_option linter.all false
set_option maxRecDepth 100000
set_option maxHeartbeats 4000000
namespace My
open PySem L2 SS
/-! deed_of_words -/
theorem kind_dash {z : Str} (h : isKindName (tl z) = true) : decide (V.str z = V.str (Str.ofString "-")) = false := by
  rw [dec_str]
  refine decide_eq_false fun e => ?_
  subst e
  revert h
  decide +kernel
theorem evt_lenI {te tb : TE} {σ : L2.St} {H : Hp} {a b : Int} {g : Int → Int → Bool} (h : EvD te σ H 0 (.v (.int a))) (k : EvD tb σ H 0 (.v (.int b))) : EvT (tTest (tOp (rI0 fun i j => .bl (g i j)) te tb)) σ H (g a b) := evt_t (evd_i0 (n := 0) h k (.bl _))
def rDw (ds : List Dt) (x : Dt) : Prop := ∃ d : Dd, ds = [kS d.hd, .lst (d.ws.map tS)] ∧ d.ok ∧ (∀ p t, d ≠ .load p t) ∧ x = d.dt
section
variable {P : Program} {w : World} {K : PySem.W.Frag} {mg : Str → Option Value} {base : Heap}
theorem scDw : FnScope ["word", "words", "kind", "message", "worths", "k", "name", "worth", "mark"] ["word", "words"] (defScope s_deed_of_words) := ⟨rfl, rfl, rfl, by decide +kernel, rfl, by decide +kernel, by decide +kernel⟩
theorem c_dw (b_len : mg "len" = none) (b_tuple : mg "tuple" = none) (WO : C0 P w K mg base 3 "worth_of_word" (spR 9 0 rWo)) (NW : C0 P w K mg base 3 "number_of_word" (spR 9 0 rNw)) (MW : C0 P w K mg base 4 "mark_of_word" (spR 9 1 rMw)) (D : Dn K mg "deed_of_words" s_deed_of_words) : C0 P w K mg base 5 "deed_of_words" (spR 9 3 rDw) := by
  obtain ⟨f, fd, F, hmm⟩ := D.ex
  refine ⟨f, fd, ["word", "words"], F.ok scDw (fun vs H Q E h => ?_) (fun cdv A outer s H vs Q E hr h => ?_), hmm, F.kp, F.binds (ps := ["word", "words"]) fun _ _ _ _ _ _ us hl => match us, hl with | [_, _], _ => rfl⟩
  · obtain ⟨ds, d, al, ⟨d, rfl, _⟩, _⟩ := h
    exact al.len.symm
  obtain ⟨ds, x, al, ⟨d, rfl, ok, nld, rfl⟩, kq⟩ := h
  obtain ⟨v, u, rfl, a1, a2⟩ := all2_2 al
  obtain ⟨rfl, _⟩ := atD_pl a1
  refine ⟨_, pss_cons (ps_if (PW.pt (pw_and (pt_cmpR op_eq (pv 0) pe_str (nomark _)) (pw_and1 (pt_cmpR op_ge (pe_callB call_len_seq (by rfl) b_len PySem.boot_len (pa_cons (pv 1) pa_nil)) pe_int (nomark _)))))
      (pss_cons (ps_asg (pv 1) (pg_tupS (i := 2) (by rfl) (pgs_cons (pg_name (i := 2) scDw.nd rfl (Or.inl rfl)) (pgs_cons (pg_name (i := 3) scDw.nd rfl (Or.inl rfl)) (pgs_star (pg_name (i := 4) scDw.nd rfl (Or.inl rfl))))))) <|
      pss_one (ps_ret (pe_tup (pa_cons (pv 0) (pa_cons (pe_ifExp (pt_cmpR op_eq (pv 2) pe_str (nomark _)) pe_non (pv 2)) (pa_cons (pv 3) (pa_cons (pe_callTy call_tuple_of (by rfl) b_tuple (by decide +kernel) (pa_cons (pe_lc (own := [("worth", 7)]) (g := (gName 7)) (tt := tYes) rfl scDw.nd (pi_list (pv 4)) (blkOk_by (own := [("worth", 7)]) (N := ["word", "words", "kind", "message", "worths", "k", "name", "worth", "mark"]) (sc := defScope s_deed_of_words) (by decide +kernel)) (fun _ _ _ _ _ => (pg_name (i := 7) scDw.nd rfl (Or.inl rfl))) (fun _ _ _ _ _ => pts_nil) (fun _ _ _ _ _ => (pe_cc WO hr (by omega) pass0 (pa_cons (pv 7) pa_nil)))) pa_nil)) pa_nil)))))))
      (pss_nil)) <|
    pss_cons (ps_if (PW.pt (pw_and (pt_cmpR op_eq (pv 0) pe_str (nomark _)) (pw_and1 (pt_cmpR op_ge (pe_callB call_len_seq (by rfl) b_len PySem.boot_len (pa_cons (pv 1) pa_nil)) pe_int (nomark _)))))
      (pss_one (ps_ret (pe_tup (pa_cons (pv 0) (pa_cons (pe_cc NW hr (by omega) pass0 (pa_cons (pe_ix (r := rIxL K) ix_list (pv 1) pe_int (fun _ _ => rfl)) pa_nil)) (pa_cons (pe_callTy call_tuple_of (by rfl) b_tuple (by decide +kernel) (pa_cons (pe_lc (own := [("mark", 8)]) (g := (gName 8)) (tt := tYes) rfl scDw.nd (pi_list (pe_slice sl_list (pv 1) (po_some pe_int) po_none)) (blkOk_by (own := [("mark", 8)]) (N := ["word", "words", "kind", "message", "worths", "k", "name", "worth", "mark"]) (sc := defScope s_deed_of_words) (by decide +kernel)) (fun _ _ _ _ _ => (pg_name (i := 8) scDw.nd rfl (Or.inl rfl))) (fun _ _ _ _ _ => pts_nil) (fun _ _ _ _ _ => (pe_cc MW hr (by omega) pass0 (pa_cons (pv 8) pa_nil)))) pa_nil)) pa_nil))))))
      (pss_nil)) <|
    pss_cons (ps_if (PW.pt (pw_and (pt_cmpR op_eq (pv 0) pe_str (nomark _)) (pw_and1 (pt_cmpR op_eq (pe_callB call_len_seq (by rfl) b_len PySem.boot_len (pa_cons (pv 1) pa_nil)) pe_int (nomark _)))))
      (pss_cons (ps_asg (pv 1) (pg_tupL (by rfl) (pgs_cons (pg_name (i := 5) scDw.nd rfl (Or.inl rfl)) (pgs_cons (pg_name (i := 6) scDw.nd rfl (Or.inl rfl)) (pgs_cons (pg_name (i := 7) scDw.nd rfl (Or.inl rfl)) pgs_nil))))) <|
      pss_one (ps_ret (pe_tup (pa_cons (pv 0) (pa_cons (pe_cc NW hr (by omega) pass0 (pa_cons (pv 5) pa_nil)) (pa_cons (pv 6) (pa_cons (pe_cc WO hr (by omega) pass0 (pa_cons (pv 7) pa_nil)) pa_nil)))))))
      (pss_nil)) <|
    pss_cons (ps_if (PW.pt (pw_and (pt_cmpR op_eq (pv 0) pe_str (nomark _)) (pw_and1 (pt_cmpR op_eq (pe_callB call_len_seq (by rfl) b_len PySem.boot_len (pa_cons (pv 1) pa_nil)) pe_int (nomark _)))))
      (pss_cons (ps_asg (pv 1) (pg_tupL (by rfl) (pgs_cons (pg_name (i := 2) scDw.nd rfl (Or.inl rfl)) (pgs_cons (pg_name (i := 6) scDw.nd rfl (Or.inl rfl)) (pgs_cons (pg_name (i := 7) scDw.nd rfl (Or.inl rfl)) pgs_nil))))) <|
      pss_one (ps_ret (pe_tup (pa_cons (pv 0) (pa_cons (pv 2) (pa_cons (pv 6) (pa_cons (pe_cc WO hr (by omega) pass0 (pa_cons (pv 7) pa_nil)) pa_nil)))))))
      (pss_nil)) <|
    pss_cons (ps_if (PW.pt (pw_and (pt_cmpR op_eq (pv 0) pe_str (nomark _)) (pw_and1 (pt_cmpR op_eq (pe_callB call_len_seq (by rfl) b_len PySem.boot_len (pa_cons (pv 1) pa_nil)) pe_int (nomark _)))))
      (pss_one (ps_ret (pe_tup (pa_cons (pv 0) (pa_cons (pe_cc NW hr (by omega) pass0 (pa_cons (pe_ix (r := rIxL K) ix_list (pv 1) pe_int (fun _ _ => rfl)) pa_nil)) pa_nil)))))
      (pss_nil)) <|
    pss_one (ps_ret (pe_tup (pa_cons (pv 0) (StX.pa_star (pv 1) pa_nil)))), ?_⟩
  have v0 : ∀ {σ : L2.St} {H : Hp} {n : Nat}, σ[0]? = some (some (V.str (Str.ofString d.hd))) → EvD (tVar 0) σ H n (kS d.hd) := fun h => evd_var h (atD_v (.str _))
  have v1 : ∀ {σ : L2.St}, σ[1]? = some (some u) → EvD (tVar 1) σ H 9 (.lst (d.ws.map tS)) := fun h => evd_var h a2
  have ln : ∀ {σ : L2.St}, σ[1]? = some (some u) → EvD (tCB (Evl.rLenS K) (tCons (tVar 1) tNil)) σ H 0 (.v (.int ((d.ws.length : Nat) : Int))) := fun h => evd_to (evd_lenL (n := 8) (v1 h)) (by rw [List.length_map])
  have no : ∀ {σ : L2.St} {tt : TT} {b : Bool} (z : String), σ[0]? = some (some (V.str (Str.ofString d.hd))) → decide (V.str (Str.ofString d.hd) = V.str (Str.ofString z)) = false → EvT (tAnd (tTest (tOp rEq (tVar 0) (tC (.str (Str.ofString z))))) tt) σ H false := fun z h e => evt_as (evt_and (b := false) (evt_t (evd_eqS (n := 0) (v0 h) (evd_c (.str _)))) fun c => absurd c (by rw [e]; decide)) (by rw [e]; rfl)
  have yes : ∀ {σ : L2.St} {tt : TT} (z : String), σ[0]? = some (some (V.str (Str.ofString d.hd))) → decide (V.str (Str.ofString d.hd) = V.str (Str.ofString z)) = true → EvT tt σ H true → EvT (tAnd (tTest (tOp rEq (tVar 0) (tC (.str (Str.ofString z))))) tt) σ H true := fun z h e ht => evt_as (evt_and (b := true) (evt_t (evd_eqS (n := 0) (v0 h) (evd_c (.str _)))) fun _ => ht) (by rw [e]; rfl)
  have ws3 : AtD H 9 (.lst (d.ws.map tS)) u → AtD H 3 (.lst (d.ws.map tS)) u := fun ⟨p, us, e, h1, h2, h3⟩ => ⟨p, us, e, h1, h2, by rw [all2_strs h3]; exact strs_all2 _⟩
  refine EvR.go (n := 3) (d := d.dt) ?_ kq
  cases d with
  | begin k m ws =>
    refine evr_ifT (yes "begin" rfl (show decide (V.str (Str.ofString "begin") = V.str (Str.ofString "begin")) = true by decide +kernel) (evt_as (evt_lenI (g := fun i j => decide (j ≤ i)) (ln rfl) (evd_c (.int _))) (decide_eq_true ?_))) (evr_star (K := K) (m := 8) (us := (Dd.ws (.begin k m ws)).map tS) (i := 2) (.inl (v1 rfl)) ?_ fun vs p H1 s1 hl al1 a3 D kz => ?_)
    · show (2 : Int) ≤ (((k.getD (Str.ofString "-") :: m :: ws.map wordV).length : Nat) : Int)
      rw [List.length_cons, List.length_cons]
      omega
    · rw [List.length_map]
      show 2 ≤ (k.getD (Str.ofString "-") :: m :: ws.map wordV).length
      rw [List.length_cons, List.length_cons]
      omega
    obtain ⟨x1, x2, rfl, b1, b2⟩ := all2_2 (show All2 (AtD H1 8) [tS (k.getD (Str.ofString "-")), tS m] vs from al1)
    obtain ⟨rfl, _⟩ := atD_pl b1
    obtain ⟨rfl, _⟩ := atD_pl b2
    have a3 : AtD H1 9 (.lst (ws.map fun v => tS (wordV v))) (.ref p) := by
      have e : (ws.map fun v => tS (wordV v)) = (ws.map wordV).map tS := by rw [List.map_map]; rfl
      rw [e]
      exact a3
    refine ⟨_, _, rfl, _, _, rfl, _, _, rfl, rfl, ?_⟩
    refine EvR.run (evr_ret (n := 3) (evd_tup (n := 2) (evds_cons (v0 rfl) (evds_cons (d := .v (optS k)) ?_ (evds_cons (d := tS m) (evd_var rfl (atD_v (.str _))) (evds_cons (EvD.lv (n := 1) (evd_tupof (K := K) (n := 0) (evd_lcAL (K := K) (as := ws) (a := fun v => tS (wordV v)) (b := fun v => .v v) (m := 8) (evd_var rfl a3) (tg_one (fun _ => rfl) fun z hz x H3 s3 ax => evd_r (evds_cons (evd_var rfl (ax.mono (by decide))) evds_nil) ⟨z, rfl, ok.2.2.1 z hz, rfl⟩) fun _ _ => .v)) (by decide)) evds_nil)))) (Nat.le_of_ble_eq_true rfl))) kz
    cases k with
    | none => exact evd_if (c := true) (evt_as (evt_t (evd_eqS (n := 0) (evd_var rfl (atD_v (.str _))) (evd_c (.str _)))) (decide_eq_true rfl)) (fun _ => evd_c .non) fun c => (by cases c)
    | some z => exact evd_if (c := false) (evt_as (evt_t (evd_eqS (n := 0) (x := z) (evd_var rfl (atD_v (.str _))) (evd_c (.str _)))) (kind_dash (ok.1 z rfl))) (fun c => (by cases c)) fun _ => evd_var rfl (atD_v (.str z))
  | run n ms =>
    have h1 := ok.1
    refine evr_ifF (no "begin" (b := true) rfl (show decide (V.str (Str.ofString "run") = V.str (Str.ofString "begin")) = false by decide +kernel)) <| evr_ifT (yes "run" rfl (show decide (V.str (Str.ofString "run") = V.str (Str.ofString "run")) = true by decide +kernel) (evt_as (evt_lenI (g := fun i j => decide (j ≤ i)) (ln rfl) (evd_c (.int _))) (decide_eq_true ?_))) <| evr_ret (n := 3) (evd_tup (n := 2) (evds_cons (v0 rfl) (evds_cons (d := dNat n) (EvD.lv (n := 0) (evd_r (evds_cons (EvD.lv (n := 8) (evd_ixL (K := K) (n := 8) (i := 0) (d := tS (numS n)) (v1 rfl) (evd_c (.int _)) atI_0) (by decide)) evds_nil) ⟨n, rfl, by omega, rfl⟩) (by decide)) (evds_cons (evd_tupof (K := K) (n := 1) (evd_lcAL (K := K) (as := ms) (a := fun q => tS (wordM q)) (b := dMark) (m := 8) (evd_to (evd_slL (K := K) (n := 8) (v1 rfl) (evo_some (evd_c (.int _))) evo_none) ?_) (tg_one (fun _ => rfl) fun z hz x H3 s3 ax => evd_r (evds_cons (evd_var rfl (ax.mono (by decide))) evds_nil) ⟨z, rfl, (ok.2.1 z hz).1, (ok.2.1 z hz).2.1, (ok.2.1 z hz).2.2, rfl⟩) fun q _ => .tup fun x hx => ?_)) evds_nil))) (Nat.le_of_ble_eq_true rfl))
    · show (1 : Int) ≤ (((numS n :: ms.map wordM).length : Nat) : Int)
      rw [List.length_cons]
      omega
    · have := cutD_suf (xs := (numS n :: ms.map wordM).map tS) (k := 1) (by rw [List.map_cons, List.length_cons]; omega)
      rw [show ((1 : Nat) : Int) = 1 from rfl] at this
      show Dt.lst (cutD ((numS n :: ms.map wordM).map tS) (some 1) none) = _
      rw [this, List.map_cons, List.drop_one, List.tail_cons, List.map_map]
      rfl
    · simp only [List.mem_cons, List.not_mem_nil, or_false] at hx
      rcases hx with rfl | rfl <;> exact .v
  | again k =>
    refine evr_ifF (no "begin" (b := true) rfl (show decide (V.str (Str.ofString "again") = V.str (Str.ofString "begin")) = false by decide +kernel)) <| evr_ifF (no "run" (b := true) rfl (show decide (V.str (Str.ofString "again") = V.str (Str.ofString "run")) = false by decide +kernel)) <| evr_ifF (no "name" (b := true) rfl (show decide (V.str (Str.ofString "again") = V.str (Str.ofString "name")) = false by decide +kernel)) <| evr_ifF (no "field" (b := true) rfl (show decide (V.str (Str.ofString "again") = V.str (Str.ofString "field")) = false by decide +kernel)) <| evr_ifT (yes "again" rfl (show decide (V.str (Str.ofString "again") = V.str (Str.ofString "again")) = true by decide +kernel) (evt_as (evt_t (evd_eqI (n := 0) (ln rfl) (evd_c (.int _)))) (by rfl))) <| evr_ret (n := 3) (evd_tup (n := 2) (evds_cons (v0 rfl) (evds_cons (d := dNat k) (EvD.lv (n := 0) (evd_r (evds_cons (EvD.lv (n := 8) (evd_ixL (K := K) (n := 8) (i := 0) (d := tS (numS k)) (v1 rfl) (evd_c (.int _)) atI_0) (by decide)) evds_nil) ⟨k, rfl, ok, rfl⟩) (by decide)) evds_nil)) (Nat.le_of_ble_eq_true rfl))
  | name k n v =>
    refine evr_ifF (no "begin" (b := true) rfl (show decide (V.str (Str.ofString "name") = V.str (Str.ofString "begin")) = false by decide +kernel)) <| evr_ifF (no "run" (b := true) rfl (show decide (V.str (Str.ofString "name") = V.str (Str.ofString "run")) = false by decide +kernel)) <| evr_ifT (yes "name" rfl (show decide (V.str (Str.ofString "name") = V.str (Str.ofString "name")) = true by decide +kernel) (evt_as (evt_t (evd_eqI (n := 0) (ln rfl) (evd_c (.int _)))) (by rfl))) (evr_unL (K := K) (v1 rfl) rfl fun vs H1 s1 al1 D kz => ?_)
    obtain ⟨x1, x2, x3, rfl, b1, b2, b3⟩ := all2_3 (show All2 (AtD H1 8) [tS (numS k), tS n, tS (wordV v)] vs from al1)
    obtain ⟨rfl, _⟩ := atD_pl b2
    exact ⟨_, _, rfl, _, _, rfl, _, _, rfl, rfl, EvR.run (evr_ret (n := 3) (evd_tup (n := 2) (evds_cons (v0 rfl) (evds_cons (d := dNat k) (EvD.lv (n := 0) (evd_r (evds_cons (evd_var rfl (b1.mono (by decide))) evds_nil) ⟨k, rfl, ok.1, rfl⟩) (by decide)) (evds_cons (d := tS n) (evd_var rfl (atD_v (.str _))) (evds_cons (d := .v v) (EvD.lv (n := 0) (evd_r (evds_cons (evd_var rfl (b3.mono (by decide))) evds_nil) ⟨v, rfl, ok.2.2, rfl⟩) (by decide)) evds_nil)))) (Nat.le_of_ble_eq_true rfl))) kz⟩
  | field k n v =>
    refine evr_ifF (no "begin" (b := true) rfl (show decide (V.str (Str.ofString "field") = V.str (Str.ofString "begin")) = false by decide +kernel)) <| evr_ifF (no "run" (b := true) rfl (show decide (V.str (Str.ofString "field") = V.str (Str.ofString "run")) = false by decide +kernel)) <| evr_ifF (no "name" (b := true) rfl (show decide (V.str (Str.ofString "field") = V.str (Str.ofString "name")) = false by decide +kernel)) <| evr_ifT (yes "field" rfl (show decide (V.str (Str.ofString "field") = V.str (Str.ofString "field")) = true by decide +kernel) (evt_as (evt_t (evd_eqI (n := 0) (ln rfl) (evd_c (.int _)))) (by rfl))) (evr_unL (K := K) (v1 rfl) rfl fun vs H1 s1 al1 D kz => ?_)
    obtain ⟨x1, x2, x3, rfl, b1, b2, b3⟩ := all2_3 (show All2 (AtD H1 8) [tS k, tS n, tS (wordV v)] vs from al1)
    obtain ⟨rfl, _⟩ := atD_pl b1
    obtain ⟨rfl, _⟩ := atD_pl b2
    exact ⟨_, _, rfl, _, _, rfl, _, _, rfl, rfl, EvR.run (evr_ret (n := 3) (evd_tup (n := 2) (evds_cons (v0 rfl) (evds_cons (d := tS k) (evd_var rfl (atD_v (.str _))) (evds_cons (d := tS n) (evd_var rfl (atD_v (.str _))) (evds_cons (d := .v v) (EvD.lv (n := 0) (evd_r (evds_cons (evd_var rfl (b3.mono (by decide))) evds_nil) ⟨v, rfl, ok.2.2, rfl⟩) (by decide)) evds_nil)))) (Nat.le_of_ble_eq_true rfl))) kz⟩
  | load p t => exact absurd rfl (nld p t)
  | gone k m =>
    refine evr_ifF (no "begin" (b := true) rfl (show decide (V.str (Str.ofString "gone") = V.str (Str.ofString "begin")) = false by decide +kernel)) <| evr_ifF (no "run" (b := true) rfl (show decide (V.str (Str.ofString "gone") = V.str (Str.ofString "run")) = false by decide +kernel)) <| evr_ifF (no "name" (b := true) rfl (show decide (V.str (Str.ofString "gone") = V.str (Str.ofString "name")) = false by decide +kernel)) <| evr_ifF (no "field" (b := true) rfl (show decide (V.str (Str.ofString "gone") = V.str (Str.ofString "field")) = false by decide +kernel)) <| evr_ifF (no "again" (b := true) rfl (show decide (V.str (Str.ofString "gone") = V.str (Str.ofString "again")) = false by decide +kernel)) <| evr_ret (n := 3) (evd_to (evd_tup (n := 2) (evds_cons (v0 rfl) (evds_starL (K := K) (n := 2) (evd_var rfl (ws3 a2)) evds_nil)) (Nat.le_of_ble_eq_true rfl)) ?_)
    rfl
  | lost k m =>
    refine evr_ifF (no "begin" (b := true) rfl (show decide (V.str (Str.ofString "lost") = V.str (Str.ofString "begin")) = false by decide +kernel)) <| evr_ifF (no "run" (b := true) rfl (show decide (V.str (Str.ofString "lost") = V.str (Str.ofString "run")) = false by decide +kernel)) <| evr_ifF (no "name" (b := true) rfl (show decide (V.str (Str.ofString "lost") = V.str (Str.ofString "name")) = false by decide +kernel)) <| evr_ifF (no "field" (b := true) rfl (show decide (V.str (Str.ofString "lost") = V.str (Str.ofString "field")) = false by decide +kernel)) <| evr_ifF (no "again" (b := true) rfl (show decide (V.str (Str.ofString "lost") = V.str (Str.ofString "again")) = false by decide +kernel)) <| evr_ret (n := 3) (evd_to (evd_tup (n := 2) (evds_cons (v0 rfl) (evds_starL (K := K) (n := 2) (evd_var rfl (ws3 a2)) evds_nil)) (Nat.le_of_ble_eq_true rfl)) ?_)
    rfl
  | under k m =>
    refine evr_ifF (no "begin" (b := true) rfl (show decide (V.str (Str.ofString "under") = V.str (Str.ofString "begin")) = false by decide +kernel)) <| evr_ifF (no "run" (b := true) rfl (show decide (V.str (Str.ofString "under") = V.str (Str.ofString "run")) = false by decide +kernel)) <| evr_ifF (no "name" (b := true) rfl (show decide (V.str (Str.ofString "under") = V.str (Str.ofString "name")) = false by decide +kernel)) <| evr_ifF (no "field" (b := true) rfl (show decide (V.str (Str.ofString "under") = V.str (Str.ofString "field")) = false by decide +kernel)) <| evr_ifF (no "again" (b := true) rfl (show decide (V.str (Str.ofString "under") = V.str (Str.ofString "again")) = false by decide +kernel)) <| evr_ret (n := 3) (evd_to (evd_tup (n := 2) (evds_cons (v0 rfl) (evds_starL (K := K) (n := 2) (evd_var rfl (ws3 a2)) evds_nil)) (Nat.le_of_ble_eq_true rfl)) ?_)
    rfl
  | sweep =>
    refine evr_ifF (no "begin" (b := true) rfl (show decide (V.str (Str.ofString "sweep") = V.str (Str.ofString "begin")) = false by decide +kernel)) <| evr_ifF (no "run" (b := true) rfl (show decide (V.str (Str.ofString "sweep") = V.str (Str.ofString "run")) = false by decide +kernel)) <| evr_ifF (no "name" (b := true) rfl (show decide (V.str (Str.ofString "sweep") = V.str (Str.ofString "name")) = false by decide +kernel)) <| evr_ifF (no "field" (b := true) rfl (show decide (V.str (Str.ofString "sweep") = V.str (Str.ofString "field")) = false by decide +kernel)) <| evr_ifF (no "again" (b := true) rfl (show decide (V.str (Str.ofString "sweep") = V.str (Str.ofString "again")) = false by decide +kernel)) <| evr_ret (n := 3) (evd_to (evd_tup (n := 2) (evds_cons (v0 rfl) (evds_starL (K := K) (n := 2) (evd_var rfl (ws3 a2)) evds_nil)) (Nat.le_of_ble_eq_true rfl)) ?_)
    rfl
  | forget =>
    refine evr_ifF (no "begin" (b := true) rfl (show decide (V.str (Str.ofString "forget") = V.str (Str.ofString "begin")) = false by decide +kernel)) <| evr_ifF (no "run" (b := true) rfl (show decide (V.str (Str.ofString "forget") = V.str (Str.ofString "run")) = false by decide +kernel)) <| evr_ifF (no "name" (b := true) rfl (show decide (V.str (Str.ofString "forget") = V.str (Str.ofString "name")) = false by decide +kernel)) <| evr_ifF (no "field" (b := true) rfl (show decide (V.str (Str.ofString "forget") = V.str (Str.ofString "field")) = false by decide +kernel)) <| evr_ifF (no "again" (b := true) rfl (show decide (V.str (Str.ofString "forget") = V.str (Str.ofString "again")) = false by decide +kernel)) <| evr_ret (n := 3) (evd_to (evd_tup (n := 2) (evds_cons (v0 rfl) (evds_starL (K := K) (n := 2) (evd_var rfl (ws3 a2)) evds_nil)) (Nat.le_of_ble_eq_true rfl)) ?_)
    rfl
end
end My
set_option Elab.async false
set_option linter.all false
set_option maxRecDepth 100000
set_option maxHeartbeats 4000000
namespace My
open PySem L2 SS
theorem evd_vp {σ : L2.St} {H : Hp} {n m i : Nat} {v y : V} (h : σ[i]? = some (some v)) (a : AtD H m (.v y) v) : EvD (tVar i) σ H n (.v y) := by
  obtain ⟨rfl, hp⟩ := atD_pl a
  exact evd_var h (atD_v hp)
theorem while_ev {c : TT} {tb : TS} {D : Ends} {σ : L2.St} {H : Hp} (Pv : Nat → L2.St → Hp → Prop) (h0 : ∃ m, Pv m σ H) (hs : ∀ m σ H, Pv m σ H → ∃ b, EvT c σ H b ∧ (b = true → ∀ H1, Same H H1 → tb { D with nx := fun σ' H' => ∃ m', m' < m ∧ Pv m' σ' H', ct := fun σ' H' => ∃ m', m' < m ∧ Pv m' σ' H', bk := D.nx } σ H1) ∧ (b = false → ∀ H1, Same H H1 → D.nx σ H1)) : tWhile c tb D σ H := by
  refine ⟨Pv, h0, fun m σ H p => ?_⟩
  obtain ⟨b, h, k, k'⟩ := hs m σ H p
  refine h H (Same.refl _) _ fun H1 s1 => ?_
  cases b with
  | true => exact iteT ⟨_, fun σ' H' h => h, k rfl H1 s1⟩
  | false => exact iteF (k' rfl H1 s1)
/-! rows of a deed, more behind -/
/-- what may stand behind: nothing, or a row that begins with no blank -/
def Bhd (more : List Str) : Prop := ∀ r, more.head? = some r → bl0 r = false
theorem bl0_starts (z : Str) : Txt.startswith z (Str.ofString " ") = bl0 z := by
  rw [s_blank, starts1]
  rfl
theorem take_while {a b : List Str} (ha : ∀ r ∈ a, bl0 r = true) (hb : Bhd b) : (a ++ b).takeWhile bl0 = a := by
  induction a with
  | nil =>
    cases b with
    | nil => rfl
    | cons r rs =>
      rw [List.nil_append, List.takeWhile_cons, if_neg (by rw [hb r rfl]; decide)]
  | cons r rs ih =>
    rw [List.cons_append, List.takeWhile_cons, if_pos (ha r List.mem_cons_self), ih fun x hx => ha x (List.mem_cons_of_mem _ hx)]
def rMl (ds : List Dt) (x : Dt) : Prop := ∃ (r : Str) (a b : List Str), ds = [.lst ((r :: (a ++ b)).map tS)] ∧ (∀ r ∈ a, bl0 r = true) ∧ Bhd b ∧ x = dNat (1 + a.length)
section
variable {P : Program} {w : World} {K : PySem.W.Frag} {mg : Str → Option Value} {base : Heap}
theorem scMl : FnScope ["lines", "many"] ["lines"] (defScope s_many_lines) := ⟨rfl, rfl, rfl, by decide +kernel, rfl, by decide +kernel, by decide +kernel⟩
theorem c_ml (b_len : mg "len" = none) (D : Dn K mg "many_lines" s_many_lines) : C0 P w K mg base 1 "many_lines" (spR 9 0 rMl) := by
  obtain ⟨f, fd, F, hmm⟩ := D.ex
  refine ⟨f, fd, ["lines"], F.ok scMl (fun vs H Q E h => ?_) (fun cdv A outer s H vs Q E hr h => ?_), hmm, F.kp, F.binds (ps := ["lines"]) fun _ _ _ _ _ _ us hl => match us, hl with | [_], _ => rfl⟩
  · obtain ⟨ds, d, al, ⟨r, a, b, rfl, _⟩, _⟩ := h
    exact al.len.symm
  obtain ⟨ds, x, al, ⟨r, a, b, rfl, ha, hb, rfl⟩, kq⟩ := h
  obtain ⟨v, rfl, a1⟩ := all2_1 al
  refine ⟨_, pss_cons (ps_set (i := 1) scMl.nd rfl (Or.inl rfl) pe_int) <|
    pss_cons (ps_while PassesOwn.never (PW.pt (pw_and (pt_cmpR op_lt (pv 1) (pe_callB call_len_seq (by rfl) b_len PySem.boot_len (pa_cons (pv 0) pa_nil)) (nomark _)) (pw_and1 (pt_val (pe_m1 PySem.F.slot_str_startswith PySem.F.type_str_startswith mt_startswith (pe_ix (r := rIxL K) ix_list (pv 0) (pv 1) (fun _ _ => rfl)) pe_str)))))
      (pss_one (ps_aug (i := 1) scMl.nd rfl (Or.inl rfl) pe_int ip_add))) <|
    pss_one (ps_ret (pv 1)), ?_⟩
  refine while_ev (fun m σ H' => ∃ k : Nat, σ = [some v, some (.int ((1 + k : Nat) : Int))] ∧ Same H H' ∧ k ≤ a.length ∧ m = a.length - k) ⟨a.length, 0, rfl, Same.refl _, Nat.zero_le _, rfl⟩ ?_
  rintro m σ H' ⟨k, rfl, s, hk, rfl⟩
  have vv : ∀ {H1 : Hp}, Same H H1 → EvD (tVar 0) [some v, some (.int ((1 + k : Nat) : Int))] H1 9 (.lst ((r :: (a ++ b)).map tS)) := fun s => evd_var rfl (a1.same s)
  have vm : ∀ {H1 : Hp} {n : Nat}, EvD (tVar 1) [some v, some (.int ((1 + k : Nat) : Int))] H1 n (dNat (1 + k)) := evd_var rfl (atD_v (.int _))
  have hlen : (((r :: (a ++ b)).map tS).length : Nat) = 1 + (a ++ b).length := by rw [List.length_map, List.length_cons]; omega
  have lt : EvT (tTest (tOp (rI0 fun i j => .bl (decide (i < j))) (tVar 1) (tCB (Evl.rLenS K) (tCons (tVar 0) tNil)))) [some v, some (.int ((1 + k : Nat) : Int))] H' (decide (k < (a ++ b).length)) := evt_as (evt_lenI (g := fun i j => decide (i < j)) vm (evd_lenL (n := 8) (vv s))) (by rw [hlen, Bool.eq_iff_iff, decide_eq_true_eq, decide_eq_true_eq]; omega)
  by_cases c : k < (a ++ b).length
  · obtain ⟨z, hz⟩ : ∃ z, (a ++ b)[k]? = some z := ⟨_, List.getElem?_eq_getElem c⟩
    have at_ : L2.atI ((r :: (a ++ b)).map tS) ((1 + k : Nat) : Int) = some (tS z) := atI_nat (by
      rw [List.getElem?_map, show 1 + k = k + 1 by omega, List.getElem?_cons_succ, hz]
      rfl)
    have st : EvT _ [some v, some (.int ((1 + k : Nat) : Int))] H' (bl0 z) := evt_as (evt_b (evd_m1b (m := 0) (n := 8) (g := Txt.startswith) (evd_ixL (K := K) (n := 8) (vv s) vm at_) (evd_c (.str (Str.ofString " "))))) (bl0_starts z)
    by_cases c2 : k < a.length
    · have e : bl0 z = true := by
        rw [List.getElem?_append_left c2] at hz
        exact ha z (List.mem_of_getElem? hz)
      refine ⟨true, evt_as (evt_and lt fun _ => st) (by rw [decide_eq_true c, e]; rfl), fun _ H1 s1 => ?_, fun z => (by cases z)⟩
      refine ⟨_, rfl, _, _, rfl, rfl, a.length - (k + 1), by omega, k + 1, ?_, s.trans s1, by omega, rfl⟩
      show [some v, some (V.int (((1 + k : Nat) : Int) + 1))] = _
      congr 3
    · have e : bl0 z = false := by
        rw [List.getElem?_append_right (by omega)] at hz
        have : k = a.length := by omega
        subst this
        rw [Nat.sub_self] at hz
        refine hb z ?_
        rw [List.head?_eq_getElem?]
        exact hz
      refine ⟨false, evt_as (evt_and lt fun _ => st) (by rw [e, Bool.and_false]), fun z => (by cases z), fun _ H1 s1 => ?_⟩
      have : k = a.length := by omega
      subst this
      exact ⟨_, rfl, kq _ _ (s.trans s1) (atD_v (.int _))⟩
  · have : k = a.length := by
      rw [List.length_append] at c
      omega
    subst this
    refine ⟨false, evt_as (evt_and (b := false) lt fun z => absurd (of_decide_eq_true z) c) (by rw [decide_eq_false c]; rfl), fun z => (by cases z), fun _ H1 s1 => ⟨_, rfl, kq _ _ (s.trans s1) (atD_v (.int _))⟩⟩
def rDl (ds : List Dt) (x : Dt) : Prop := ∃ (d : Dd) (b : List Str), ds = [.lst ((d.rows ++ b).map tS)] ∧ d.ok ∧ Bhd b ∧ x = d.dt
theorem scDl : FnScope ["lines", "word", "words", "text_rows", "line"] ["lines"] (defScope s_deed_of_lines) := ⟨rfl, rfl, rfl, by decide +kernel, rfl, by decide +kernel, by decide +kernel⟩
theorem c_dl (DW : C0 P w K mg base 5 "deed_of_words" (spR 9 3 rDw)) (ML : C0 P w K mg base 1 "many_lines" (spR 9 0 rMl)) (D : Dn K mg "deed_of_lines" s_deed_of_lines) : C0 P w K mg base 6 "deed_of_lines" (spR 9 3 rDl) := by
  obtain ⟨f, fd, F, hmm⟩ := D.ex
  refine ⟨f, fd, ["lines"], F.ok scDl (fun vs H Q E h => ?_) (fun cdv A outer s H vs Q E hr h => ?_), hmm, F.kp, F.binds (ps := ["lines"]) fun _ _ _ _ _ _ us hl => match us, hl with | [_], _ => rfl⟩
  · obtain ⟨ds, d, al, ⟨r, b, rfl, _⟩, _⟩ := h
    exact al.len.symm
  obtain ⟨ds, x, al, ⟨d, b, rfl, ok, hb, rfl⟩, kq⟩ := h
  obtain ⟨v, rfl, a1⟩ := all2_1 al
  refine ⟨_, pss_cons (ps_asg (pe_split (pe_ix (r := rIxL K) ix_list (pv 0) pe_int (fun _ _ => rfl)) pe_str) (pg_tupS (i := 1) (by rfl) (pgs_cons (pg_name (i := 1) scDl.nd rfl (Or.inl rfl)) (pgs_star (pg_name (i := 2) scDl.nd rfl (Or.inl rfl)))))) <|
    pss_cons (ps_setLc (i := 3) (own := [("line", 4)]) (g := (gName 4)) (by rfl) scDl.nd rfl rfl (sw_true rfl rfl rfl (by decide +kernel)) (pi_list (pe_slice sl_list (pv 0) (po_some pe_int) (po_some (pe_cc ML hr (by omega) pass0 (pa_cons (pv 0) pa_nil))))) (blkOk_by (own := [("line", 4)]) (N := ["lines", "word", "words", "text_rows", "line"]) (sc := defScope s_deed_of_lines) (by decide +kernel)) (fun _ _ _ _ _ => (pg_name (i := 4) scDl.nd rfl (Or.inl rfl))) (fun _ _ _ _ _ => pts_nil) (fun _ _ _ _ _ => (pe_slice sl_str (pv 4) (po_some pe_int) po_none))) <|
    pss_cons (ps_if (pt_cmpR op_eq (pv 1) pe_str (nomark _))
      (pss_one (ps_ret (pe_ifExp (pt_truth (pv 3) (fun _ => rfl)) (pe_tup (pa_cons (pv 1) (StX.pa_star (pv 2) (pa_cons (pe_join pe_str (pv 3)) pa_nil)))) pe_non)))
      (pss_nil)) <|
    pss_one (ps_ret (pe_ifExp (pt_truth (pv 3) (fun _ => rfl)) pe_non (pe_cc DW hr (by omega) pass0 (pa_cons (pv 1) (pa_cons (pv 2) pa_nil))))), ?_⟩
  have rl := (Dd.row_len ok).1
  have ml := (Dd.more_len ok).1
  have mz := lens_le (zs := d.more) (m := 302) (by omega)
  have e0 : (d.rows ++ b).map tS = (d.row :: (d.more ++ b)).map tS := rfl
  have vv : ∀ {σ : L2.St} {H1 : Hp}, Same H H1 → σ[0]? = some (some v) → EvD (tVar 0) σ H1 9 (.lst ((d.row :: (d.more ++ b)).map tS)) := fun s h => evd_var h (a1.same s)
  refine EvR.go (n := 3) (d := d.dt) (evr_star (K := K) (m := 8) (us := (Str.ofString d.hd :: d.ws).map tS) (i := 1) (.inl (evd_to (evd_split (n := 8) (evd_ixL (K := K) (n := 8) (i := 0) (d := tS d.row) (vv (Same.refl _) rfl) (evd_c (.int _)) atI_0 |>.lv (by decide)) (evd_c (.str _)) (by decide +kernel) (by omega)) (by rw [Dd.row_split ok]))) (by rw [List.map_cons, List.length_cons]; omega) fun vs p H1 s1 hl al1 a3 D kz => ?_) kq
  obtain ⟨x1, rfl, b1⟩ := all2_1 (show All2 (AtD H1 8) [kS d.hd] vs from al1)
  obtain ⟨rfl, _⟩ := atD_pl b1
  have a3 : AtD H1 9 (.lst (d.ws.map tS)) (.ref p) := a3
  refine ⟨_, _, rfl, _, _, rfl, rfl, ?_⟩
  refine EvR.run (evr_asg (m := 1) (e := .lst ((d.more.map fun z => cutS z (some 1) none).map tS)) (evd_to (evd_lcAL (K := K) (as := d.more) (a := tS) (b := fun z => tS (cutS z (some 1) none)) (m := 8) (evd_to (evd_slL (K := K) (n := 8) (lo := some 1) (hi := some ((1 + d.more.length : Nat) : Int)) (vv s1 rfl) (evo_some (evd_c (.int _))) (evo_some (evd_r (evds_cons (vv s1 rfl) evds_nil) ⟨d.row, d.more, b, rfl, Dd.more_bl, hb, rfl⟩))) ?_) (tg_one (fun _ => rfl) fun z hz x H3 s3 ax => evd_slS (evd_vp rfl ax) (evo_some (evd_c (.int _))) evo_none ?_) fun _ _ => .v) (by rw [List.map_map]; rfl)) fun t H2 s2 at2 => ?_) kz
  · have c1 := cutD_pre (xs := (d.row :: (d.more ++ b)).map tS) (k := 1 + d.more.length) (by rw [List.length_map, List.length_cons, List.length_append]; omega)
    have c2 : cutD ((d.row :: (d.more ++ b)).map tS) (some 1) (some ((1 + d.more.length : Nat) : Int)) = d.more.map tS := by
      have hl : ((d.row :: (d.more ++ b)).map tS).length = 1 + (d.more.length + b.length) := by rw [List.length_map, List.length_cons, List.length_append]; omega
      have i1 : HT.sIx ((d.row :: (d.more ++ b)).map tS).length 0 (some 1) = 1 := by
        have := HT.sIx_nat ((d.row :: (d.more ++ b)).map tS).length 0 1
        rw [show ((1 : Nat) : Int) = 1 from rfl] at this
        rw [this, hl]
        omega
      have i2 : HT.sIx ((d.row :: (d.more ++ b)).map tS).length ((d.row :: (d.more ++ b)).map tS).length (some ((1 + d.more.length : Nat) : Int)) = 1 + d.more.length := by
        rw [HT.sIx_nat, hl]
        omega
      unfold cutD
      rw [i1, i2, List.map_cons, List.drop_one, List.tail_cons, List.map_append, show 1 + d.more.length - 1 = (d.more.map tS).length by rw [List.length_map]; omega]
      exact List.take_left
    rw [c2]
  · have := mz z hz
    omega
  have v1 : ∀ {σ : L2.St} {H : Hp} {n : Nat}, σ[1]? = some (some (V.str (Str.ofString d.hd))) → EvD (tVar 1) σ H n (kS d.hd) := fun h => evd_var h (atD_v (.str _))
  have tr : ∀ {σ : L2.St}, σ[3]? = some (some t) → EvT (fun σ H Q => tVar 3 σ H fun x H' => ∃ k, TruV K x H' k ∧ Q k H') σ H2 (!d.more.isEmpty) := fun h => evt_as (evt_lenL (K := K) (n := 0) (evd_var h at2)) (by rw [List.isEmpty_map, List.isEmpty_map])
  cases d with
  | load pg tx =>
    have ne : (Dd.more (.load pg tx)).isEmpty = false := by
      have := PyProof.Rows.split_pos tx nl
      show ((Txt.split tx nl).map blankS).isEmpty = false
      cases h : Txt.split tx nl with
      | nil => rw [h] at this; cases this
      | cons _ _ => rfl
    have bk : (Dd.more (.load pg tx)).map (fun z => cutS z (some 1) none) = Txt.split tx nl := by
      show ((Txt.split tx nl).map blankS).map (fun z => cutS z (some 1) none) = Txt.split tx nl
      rw [List.map_map]
      conv => rhs; rw [← List.map_id (Txt.split tx nl)]
      exact List.map_congr_left fun z _ => blank_back z
    rw [bk] at at2
    have sp := split_sum (t := tx) ok.2.1
    refine evr_ifT (evt_as (evt_t (evd_eqS (n := 0) (v1 rfl) (evd_c (.str _)))) (show decide (V.str (Str.ofString "load") = V.str (Str.ofString "load")) = true by decide +kernel)) (evr_ret (n := 3) (evd_if (c := true) (evt_as (tr rfl) (by rw [ne]; rfl)) (fun _ => evd_to (evd_tup (n := 2) (evds_cons (v1 rfl) (evds_starL (K := K) (n := 2) (ds := [tS pg]) (evd_var rfl (?_ : AtD H2 3 (.lst [tS pg]) (.ref p))) (evds_cons (d := tS tx) (evd_to (evd_join (K := K) (n := 0) (s := nl) (zs := Txt.split tx nl) (evd_c (.str _)) (evd_var rfl at2) ?_) ?_) evds_nil))) (Nat.le_of_ble_eq_true rfl)) rfl) fun c => (by cases c)))
    · obtain ⟨p', us, e, g1, g2, g3⟩ := a3.same s2
      exact ⟨p', us, e, g1, g2, by rw [all2_strs (zs := [pg]) g3]; exact strs_all2 [pg]⟩
    · have : nl.length = 1 := rfl
      rw [this]
      omega
    · rw [back_text]
  | begin k m ws =>
    refine evr_ifF (evt_as (evt_t (evd_eqS (n := 0) (v1 rfl) (evd_c (.str _)))) (show decide (V.str (Str.ofString "begin") = V.str (Str.ofString "load")) = false by decide +kernel)) (evr_ret (n := 3) (evd_if (c := false) (evt_as (tr rfl) rfl) (fun c => (by cases c)) fun _ => evd_r (evds_cons (v1 rfl) (evds_cons (evd_var rfl (a3.same s2)) evds_nil)) ⟨_, rfl, ok, fun _ _ e => (by cases e), rfl⟩))
  | run n ms =>
    refine evr_ifF (evt_as (evt_t (evd_eqS (n := 0) (v1 rfl) (evd_c (.str _)))) (show decide (V.str (Str.ofString "run") = V.str (Str.ofString "load")) = false by decide +kernel)) (evr_ret (n := 3) (evd_if (c := false) (evt_as (tr rfl) rfl) (fun c => (by cases c)) fun _ => evd_r (evds_cons (v1 rfl) (evds_cons (evd_var rfl (a3.same s2)) evds_nil)) ⟨_, rfl, ok, fun _ _ e => (by cases e), rfl⟩))
  | again k =>
    refine evr_ifF (evt_as (evt_t (evd_eqS (n := 0) (v1 rfl) (evd_c (.str _)))) (show decide (V.str (Str.ofString "again") = V.str (Str.ofString "load")) = false by decide +kernel)) (evr_ret (n := 3) (evd_if (c := false) (evt_as (tr rfl) rfl) (fun c => (by cases c)) fun _ => evd_r (evds_cons (v1 rfl) (evds_cons (evd_var rfl (a3.same s2)) evds_nil)) ⟨_, rfl, ok, fun _ _ e => (by cases e), rfl⟩))
  | name k n v =>
    refine evr_ifF (evt_as (evt_t (evd_eqS (n := 0) (v1 rfl) (evd_c (.str _)))) (show decide (V.str (Str.ofString "name") = V.str (Str.ofString "load")) = false by decide +kernel)) (evr_ret (n := 3) (evd_if (c := false) (evt_as (tr rfl) rfl) (fun c => (by cases c)) fun _ => evd_r (evds_cons (v1 rfl) (evds_cons (evd_var rfl (a3.same s2)) evds_nil)) ⟨_, rfl, ok, fun _ _ e => (by cases e), rfl⟩))
  | gone k m =>
    refine evr_ifF (evt_as (evt_t (evd_eqS (n := 0) (v1 rfl) (evd_c (.str _)))) (show decide (V.str (Str.ofString "gone") = V.str (Str.ofString "load")) = false by decide +kernel)) (evr_ret (n := 3) (evd_if (c := false) (evt_as (tr rfl) rfl) (fun c => (by cases c)) fun _ => evd_r (evds_cons (v1 rfl) (evds_cons (evd_var rfl (a3.same s2)) evds_nil)) ⟨_, rfl, ok, fun _ _ e => (by cases e), rfl⟩))
  | field k n v =>
    refine evr_ifF (evt_as (evt_t (evd_eqS (n := 0) (v1 rfl) (evd_c (.str _)))) (show decide (V.str (Str.ofString "field") = V.str (Str.ofString "load")) = false by decide +kernel)) (evr_ret (n := 3) (evd_if (c := false) (evt_as (tr rfl) rfl) (fun c => (by cases c)) fun _ => evd_r (evds_cons (v1 rfl) (evds_cons (evd_var rfl (a3.same s2)) evds_nil)) ⟨_, rfl, ok, fun _ _ e => (by cases e), rfl⟩))
  | lost k n =>
    refine evr_ifF (evt_as (evt_t (evd_eqS (n := 0) (v1 rfl) (evd_c (.str _)))) (show decide (V.str (Str.ofString "lost") = V.str (Str.ofString "load")) = false by decide +kernel)) (evr_ret (n := 3) (evd_if (c := false) (evt_as (tr rfl) rfl) (fun c => (by cases c)) fun _ => evd_r (evds_cons (v1 rfl) (evds_cons (evd_var rfl (a3.same s2)) evds_nil)) ⟨_, rfl, ok, fun _ _ e => (by cases e), rfl⟩))
  | under k j =>
    refine evr_ifF (evt_as (evt_t (evd_eqS (n := 0) (v1 rfl) (evd_c (.str _)))) (show decide (V.str (Str.ofString "under") = V.str (Str.ofString "load")) = false by decide +kernel)) (evr_ret (n := 3) (evd_if (c := false) (evt_as (tr rfl) rfl) (fun c => (by cases c)) fun _ => evd_r (evds_cons (v1 rfl) (evds_cons (evd_var rfl (a3.same s2)) evds_nil)) ⟨_, rfl, ok, fun _ _ e => (by cases e), rfl⟩))
  | sweep =>
    refine evr_ifF (evt_as (evt_t (evd_eqS (n := 0) (v1 rfl) (evd_c (.str _)))) (show decide (V.str (Str.ofString "sweep") = V.str (Str.ofString "load")) = false by decide +kernel)) (evr_ret (n := 3) (evd_if (c := false) (evt_as (tr rfl) rfl) (fun c => (by cases c)) fun _ => evd_r (evds_cons (v1 rfl) (evds_cons (evd_var rfl (a3.same s2)) evds_nil)) ⟨_, rfl, ok, fun _ _ e => (by cases e), rfl⟩))
  | forget =>
    refine evr_ifF (evt_as (evt_t (evd_eqS (n := 0) (v1 rfl) (evd_c (.str _)))) (show decide (V.str (Str.ofString "forget") = V.str (Str.ofString "load")) = false by decide +kernel)) (evr_ret (n := 3) (evd_if (c := false) (evt_as (tr rfl) rfl) (fun c => (by cases c)) fun _ => evd_r (evds_cons (v1 rfl) (evds_cons (evd_var rfl (a3.same s2)) evds_nil)) ⟨_, rfl, ok, fun _ _ e => (by cases e), rfl⟩))
end
end My
set_option Elab.async false
set_option linter.all false
set_option maxRecDepth 100000
set_option maxHeartbeats 4000000
namespace My
open PySem L2 SS
/-! read_deeds -/
theorem ends_nl (l : T) : Txt.endswith (mk (l ++ [10])) (Str.ofString "\n") = true := by
  have e0 : Str.ofString "\n" = mk [10] := by decide +kernel
  rw [e0]
  unfold Txt.endswith Builtin.Str.subAt
  have e1 : (mk (l ++ [10])).length = l.length + 1 := by rw [mk_len, List.length_append]; rfl
  have e2 : (mk [10]).length = 1 := rfl
  rw [e1, e2, Bool.and_eq_true]
  refine ⟨decide_eq_true (by omega), ?_⟩
  rw [Nat.add_sub_cancel]
  have : (mk (l ++ [10])).cps.extract l.length (l.length + 1) = (mk [10]).cps := by
    apply Array.toList_inj.mp
    simp [List.extract]
  rw [this]
  exact beq_self_eq_true _
theorem flat_end {rs : List Str} (h : rs ≠ []) : ∃ l, flatS rs = mk (l ++ [10]) := by
  obtain ⟨a, b, rfl⟩ : ∃ a b, rs = a ++ [b] := ⟨rs.dropLast, rs.getLast h, (List.dropLast_concat_getLast h).symm⟩
  refine ⟨flatT a ++ tl b, ?_⟩
  show mk (flatT (a ++ [b])) = _
  rw [flat_app, flat_cons, List.append_assoc]
  rfl
theorem cut_last {α : Type} (xs : List α) (y : α) : cutD (xs ++ [y]) none (some (-1)) = xs := by
  have i2 : HT.sIx (xs ++ [y]).length (xs ++ [y]).length (some (-1)) = xs.length := by
    rw [List.length_append, List.length_singleton]
    unfold HT.sIx
    simp only
    rw [if_pos (by decide)]
    omega
  unfold cutD
  rw [i2, HT.sIx_none, List.drop_zero, Nat.sub_zero]
  exact List.take_left
theorem while_gn {c : TT} {tb tz : TS} {D : Ends} {σ : L2.St} {H : Hp} {i : Nat} {v : V} {bk ct : L2.St → Hp → Prop} {rt : VK} (Pv : Nat → L2.St → Hp → Prop) (h0 : ∃ m, Pv m (σ.set i (some v)) H) (hs : ∀ m σ H, Pv m σ H → ∃ b, EvT c σ H b ∧ (b = true → ∀ H1, Same H H1 → tb { D with nx := fun σ' H' => ∃ m', m' < m ∧ Pv m' σ' H', ct := fun σ' H' => ∃ m', m' < m ∧ Pv m' σ' H', bk := tz D } σ H1) ∧ (b = false → ∀ H1, Same H H1 → tz D σ H1)) : gName i v σ H (Ends.mk (tSeq (tWhile c tb) tz D) rt bk ct).nx := while_ev (D := { D with nx := tz D }) Pv h0 hs
def allRows (dl : List Dd) : List Str := (dl.map Dd.rows).flatten
theorem Dd.nld (d : Dd) (h : d.ok) : NlD d.dt := by
  refine .tup fun x hx => ?_
  rcases List.mem_cons.mp hx with rfl | hx
  · exact .v
  have tv : ∀ ws : List V, NlD (.tup (ws.map .v)) := fun ws => .tup fun x hx => by
    obtain ⟨v, _, rfl⟩ := List.mem_map.mp hx
    exact .v
  have tm : ∀ ms : List (Str × Nat), NlD (.tup (ms.map dMark)) := fun ms => .tup fun x hx => by
    obtain ⟨v, _, rfl⟩ := List.mem_map.mp hx
    refine .tup fun y hy => ?_
    simp only [List.mem_cons, List.not_mem_nil, or_false] at hy
    rcases hy with rfl | rfl <;> exact .v
  cases d <;> simp only [Dd.rest, List.mem_cons, List.not_mem_nil, or_false] at hx
  · rcases hx with rfl | rfl | rfl
    · exact .v
    · exact .v
    · exact tv _
  · rcases hx with rfl | rfl
    · exact .v
    · exact tm _
  · subst hx; exact .v
  · rcases hx with rfl | rfl | rfl <;> exact .v
  · rcases hx with rfl | rfl <;> exact .v
  · rcases hx with rfl | rfl | rfl <;> exact .v
  · rcases hx with rfl | rfl <;> exact .v
  · rcases hx with rfl | rfl <;> exact .v
  · rcases hx with rfl | rfl <;> exact .v
theorem all_bhd (dl : List Dd) : Bhd (allRows dl) := fun r h => by
  cases dl with
  | nil => cases h
  | cons d dl =>
    obtain rfl := Option.some.inj (show some d.row = some r from h)
    exact Dd.row_bl
theorem all_nl {dl : List Dd} (h : ∀ d ∈ dl, d.ok) : ∀ r ∈ allRows dl, 10 ∉ tl r := fun r hr => by
  obtain ⟨rs, h1, h2⟩ := List.mem_flatten.mp hr
  obtain ⟨d, hd, rfl⟩ := List.mem_map.mp h1
  exact Dd.rows_nl (h d hd) r h2
theorem all_len : ∀ {dl : List Dd}, (∀ d ∈ dl, d.ok) → (flatT (allRows dl)).length ≤ 700 * dl.length ∧ (allRows dl).length ≤ 700 * dl.length
  | [], _ => ⟨Nat.zero_le _, Nat.zero_le _⟩
  | d :: dl, h => by
    obtain ⟨h1, h2⟩ := all_len (dl := dl) fun x hx => h x (List.mem_cons_of_mem _ hx)
    have h3 := Dd.flat_len (h d List.mem_cons_self)
    have h4 : (flatS d.rows).length = (flatT d.rows).length := mk_len _
    have h5 := len_flat d.rows
    have e : allRows (d :: dl) = d.rows ++ allRows dl := rfl
    rw [e, flat_app, List.length_append, List.length_append, List.length_cons]
    omega
def rRd (ds : List Dt) (x : Dt) : Prop := ∃ dl : List Dd, ds = [tS (flatS (allRows dl))] ∧ (∀ d ∈ dl, d.ok) ∧ dl.length ≤ 14 ∧ x = .tup (dl.map Dd.dt)
section
variable {P : Program} {w : World} {K : PySem.W.Frag} {mg : Str → Option Value} {base : Heap}
theorem scRd : FnScope ["text", "deeds", "lines", "deed"] ["text"] (defScope s_read_deeds) := ⟨rfl, rfl, rfl, by decide +kernel, rfl, by decide +kernel, by decide +kernel⟩
theorem c_rd (b_isinstance : mg "isinstance" = none) (b_str : mg "str" = none) (b_tuple : mg "tuple" = none) (DL : C0 P w K mg base 6 "deed_of_lines" (spR 9 3 rDl)) (IS : C0 P w K mg base 10 "is_deed" (spR 9 0 rIs)) (ML : C0 P w K mg base 1 "many_lines" (spR 9 0 rMl)) (D : Dn K mg "read_deeds" s_read_deeds) : C0 P w K mg base 11 "read_deeds" (spR 9 4 rRd) := by
  obtain ⟨f, fd, F, hmm⟩ := D.ex
  refine ⟨f, fd, ["text"], F.ok scRd (fun vs H Q E h => ?_) (fun cdv A outer s H vs Q E hr h => ?_), hmm, F.kp, F.binds (ps := ["text"]) fun _ _ _ _ _ _ us hl => match us, hl with | [_], _ => rfl⟩
  · obtain ⟨ds, d, al, ⟨r, rfl, _⟩, _⟩ := h
    exact al.len.symm
  obtain ⟨ds, x, al, ⟨dl, rfl, ok, hd14, rfl⟩, kq⟩ := h
  obtain ⟨v, rfl, a1⟩ := all2_1 al
  obtain ⟨rfl, _⟩ := atD_pl a1
  obtain ⟨fl, rl⟩ := all_len ok
  have zl : (flatS (allRows dl)).length ≤ 9800 := by
    show (mk (flatT (allRows dl))).length ≤ 9800
    rw [mk_len]
    omega
  refine ⟨_, pss_cons (ps_if (PW.pt (pw_or (pt_not (pt_val (pe_callB (r := rIsi K) (id := "isinstance") call_isi (by rfl) b_isinstance (by decide +kernel) (pa_cons (pv 0) (pa_cons (pe_bltn (v := .ty "str") (by rfl) b_str (by decide +kernel) rfl) pa_nil))))) (pw_or1 (pt_not (PW.pt (pw_or (pt_cmpR op_eq (pv 0) pe_str (nomark _)) (pw_or1 (pt_val (pe_m1 PySem.F.slot_str_endswith PySem.F.type_str_endswith mt_endswith (pv 0) pe_str)))))))))
      (pss_one (ps_never))
      (pss_nil)) <|
    pss_cons (ps_set (i := 1) scRd.nd rfl (Or.inl rfl) (pe_lst pa_nil)) <|
    pss_cons (ps_set (i := 2) scRd.nd rfl (Or.inl rfl) (pe_slice sl_list (pe_split (pv 0) pe_str) po_none (po_some (pe_un un_neg pe_int)))) <|
    pss_cons (ps_while PassesOwn.never (pt_truth (pv 2) (fun _ => rfl))
      (pss_cons (ps_set (i := 3) scRd.nd rfl (Or.inl rfl) (pe_cc DL hr (by omega) pass0 (pa_cons (pv 2) pa_nil))) <|
      pss_cons (ps_if (PW.pt (pw_or (pt_cmpR op_isN (pv 3) pe_non (nomark _)) (pw_or1 (pt_not (pt_val (pe_cc IS hr (by omega) pass0 (pa_cons (pv 3) pa_nil)))))))
        (pss_one (ps_never))
        (pss_nil)) <|
      pss_cons (ps_expr (pe_bm PySem.F.plainAttrs_list PySem.F.slot_list_append PySem.F.type_list_append mt_append (pv 1) (pa_cons (pv 3) pa_nil))) <|
      pss_one (ps_delPre (pv 2) (pe_cc ML hr (by omega) pass0 (pa_cons (pv 2) pa_nil))))) <|
    pss_one (ps_ret (pe_callTy call_tuple_of (by rfl) b_tuple (by decide +kernel) (pa_cons (pv 1) pa_nil))), ?_⟩
  have v0 : ∀ {σ : L2.St} {H : Hp} {n : Nat}, σ[0]? = some (some (V.str (flatS (allRows dl)))) → EvD (tVar 0) σ H n (tS (flatS (allRows dl))) := fun h => evd_var h (atD_v (.str _))
  refine EvR.go (n := 4) (d := .tup (dl.map Dd.dt)) (evr_ifF (evt_as (evt_or (a := false) (b := false) (evt_as (evt_not (evt_b (evd_isi (m := 0) (n := 0) (v0 rfl) (.inr (.inr (.inl rfl)))))) rfl) fun _ => evt_as (evt_not (evt_or (a := decide (dl = [])) (b := decide (dl ≠ [])) (evt_as (evt_t (evd_eqS (n := 0) (v0 rfl) (evd_c (.str _)))) ?_) fun c => evt_as (evt_b (evd_m1b (n := 0) (m := 0) (g := Txt.endswith) (v0 rfl) (evd_c (.str _)))) ?_)) ?_) rfl) ?_) kq
  · rw [dec_str]
    cases dl with
    | nil => decide +kernel
    | cons d r =>
      have e1 : decide (d :: r = []) = false := decide_eq_false (by simp)
      rw [e1]
      obtain ⟨l, hl⟩ := flat_end (rs := allRows (d :: r)) (by show d.row :: _ ≠ []; simp)
      rw [hl]
      refine decide_eq_false fun e => ?_
      have := congrArg tl e
      have e0 : tl (Str.ofString "") = [] := by decide +kernel
      rw [e0] at this
      have : l ++ [10] = [] := this
      simp at this
  · cases dl with
    | nil => exact absurd c (by decide)
    | cons d r =>
      obtain ⟨l, hl⟩ := flat_end (rs := allRows (d :: r)) (by show d.row :: _ ≠ []; simp)
      rw [hl, ends_nl]
      exact (decide_eq_true (by simp)).symm
  · by_cases c : dl = [] <;> simp [c]
  intro H1 s1 D kz
  refine ⟨by show 0 ≤ sizeLine; decide, fun p hp => ?_⟩
  have s2 := same_new hp (.lst [])
  have fp : upd H1 p (.lst []) p = some (.lst []) := upd_same
  generalize upd H1 p (.lst []) = H2 at s2 fp ⊢
  refine evd_split (n := 0) (σ := [some (.str (flatS (allRows dl))), some (.ref p), none, none]) (v0 rfl) (evd_c (.str nl)) (by decide +kernel) (by omega) H2 (Same.refl _) _ fun v H3 s3 got => ?_
  obtain ⟨a, us, rfl, ha, hal, alu⟩ := got
  rw [split_flat (all_nl ok)] at alu
  have eus := all2_strs alu
  refine ⟨1, rfl, _, rfl, a, us, rfl, SqL.of ha, fun q hq => ?_⟩
  have ecut : cutV us none (some (-1)) = (allRows dl).map V.str := by
    rw [cutD_V, eus, List.map_append]
    exact cut_last _ _
  rw [ecut]
  have s4 := same_new hq (.lst ((allRows dl).map V.str))
  have fq : upd H3 q (.lst ((allRows dl).map V.str)) q = some (.lst ((allRows dl).map V.str)) := upd_same
  have fp3 := s3 _ _ fp
  have fp4 := s4 _ _ fp3
  have npq : p ≠ q := ne_of_none fp3 hq
  have hq1 : H1 q = none := (s2.trans s3).free hq
  show gName 2 _ _ (upd H3 q (.lst ((allRows dl).map V.str))) (Ends.nx _)
  generalize upd H3 q (.lst ((allRows dl).map V.str)) = H4 at s4 fq fp4 ⊢
  have s14 : Same H1 H4 := s2.trans (s3.trans s4)
  refine while_gn (fun m σ H' => ∃ (dn rs : List Dd) (vs : List V) (x3 : Option V), dl = dn ++ rs ∧ m = rs.length ∧ σ = [some (.str (flatS (allRows dl))), some (.ref p), some (.ref q), x3] ∧ Same H1 H' ∧ H' p = some (.lst vs) ∧ All2 (AtD H' 3) (dn.map Dd.dt) vs ∧ H' q = some (.lst ((allRows rs).map V.str))) ⟨_, [], dl, [], none, rfl, rfl, rfl, s14, fp4, .nil, fq⟩ ?_
  rintro m σ H' ⟨dn, rs, vs, x3, rfl, rfl, rfl, s, gp, hvs, gq⟩
  have tr : EvT (fun σ H Q => tVar 2 σ H fun x H' => ∃ k, TruV K x H' k ∧ Q k H') [some (.str (flatS (allRows (dn ++ rs)))), some (.ref p), some (.ref q), x3] H' (!(allRows rs).isEmpty) := fun H5 s5 R k => ⟨_, rfl, _, .inl ⟨_, SqL.of (s5 _ _ gq), by rw [List.isEmpty_map]⟩, k H5 (Same.refl _)⟩
  cases rs with
  | nil =>
    refine ⟨false, tr, fun z => (by cases z), fun _ H5 s5 => ?_⟩
    have hp5 := s5 _ _ gp
    rw [List.append_nil] at kz
    refine ⟨_, rfl, p, vs, rfl, .inl ⟨SqL.of hp5, fun t ht => ?_⟩⟩
    have s6 := same_new ht (.tup vs)
    exact kz _ _ (s.trans (s5.trans s6)) ⟨t, vs, rfl, .inl upd_same, by rw [List.length_map]; rw [List.append_nil] at hd14; omega, (hvs.same s5).same s6⟩
  | cons d rs =>
    have okd := ok d (by simp)
    have erow : allRows (d :: rs) = d.rows ++ allRows rs := rfl
    refine ⟨true, evt_as tr rfl, fun _ H5 s5 => ?_, fun z => (by cases z)⟩
    have len1 : (allRows (d :: rs)).length ≤ 100000 := by
      have := (all_len (dl := d :: rs) fun x hx => ok x (List.mem_append_right _ hx)).2
      rw [List.length_append] at hd14
      have : 700 * (d :: rs).length ≤ 700 * 14 := Nat.mul_le_mul_left _ (by omega)
      omega
    have lq : ∀ {H6 : Hp}, H6 q = some (.lst ((allRows (d :: rs)).map V.str)) → AtD H6 9 (.lst ((d.rows ++ allRows rs).map tS)) (.ref q) := fun h => ⟨q, _, rfl, h, by rw [List.length_map]; exact len1, strs_all2 _⟩
    refine (show EvD (tCall (spR 9 3 rDl) [] E (tCons (tVar 2) tNil)) [some (.str (flatS (allRows (dn ++ d :: rs)))), some (.ref p), some (.ref q), x3] H5 3 d.dt from evd_r (evds_cons (evd_var rfl (lq (s5 _ _ gq))) evds_nil) ⟨d, allRows rs, rfl, okd, all_bhd rs, rfl⟩) H5 (Same.refl _) _ fun dv H6 s6 ad => ?_
    refine (evt_or (σ := [some (.str (flatS (allRows (dn ++ d :: rs)))), some (.ref p), some (.ref q), some dv]) (a := false) (b := false) (evt_as (evt_t (evd_isN (m := 0) (evd_var rfl ad))) rfl) fun _ => evt_as (evt_not (evt_b (evd_r (evds_cons (evd_var rfl (ad.mono (by decide))) evds_nil) ⟨d, rfl, okd, rfl⟩))) rfl) H6 (Same.refl _) _ fun H7 s7 => iteF ?_
    have s57 := s5.trans (s6.trans s7)
    have gp7 := s57 _ _ gp
    have gq7 := s57 _ _ gq
    have hv7 := hvs.same s57
    have ad7 := ad.same s7
    have lvs : vs.length ≤ 14 := by
      rw [← hvs.len, List.length_map]
      rw [List.length_append] at hd14
      omega
    refine ⟨_, rfl, .inl ⟨rfl, _, SqL.of gp7⟩, _, rfl, p, vs, _, rfl, rfl, gp7, by rw [sizeLine_eq]; omega, ?_⟩
    have t8 := tups_lst (ys := vs ++ [dv]) gp7
    have gp8 : upd H7 p (.lst (vs ++ [dv])) p = some (.lst (vs ++ [dv])) := upd_same
    have gq8 : upd H7 p (.lst (vs ++ [dv])) q = some (.lst ((allRows (d :: rs)).map V.str)) := by rw [upd_ne npq.symm]; exact gq7
    have s18 : Same H1 (upd H7 p (.lst (vs ++ [dv]))) := same_upd (s.trans s57) hp _
    have hv8 : All2 (AtD (upd H7 p (.lst (vs ++ [dv]))) 3) ((dn ++ [d]).map Dd.dt) (vs ++ [dv]) := by
      rw [List.map_append]
      refine All2.app (hv7.impM fun x hx y r => AtD.tups t8 r ?_) (.cons (AtD.tups t8 ad7 (d.nld okd)) .nil)
      obtain ⟨d', hd', rfl⟩ := List.mem_map.mp hx
      exact d'.nld (ok d' (List.mem_append_left _ hd'))
    show Ends.nx _ _ (upd H7 p (.lst (vs ++ [dv])))
    generalize upd H7 p (.lst (vs ++ [dv])) = H8 at gp8 gq8 s18 hv8 ⊢
    refine ⟨_, rfl, ?_⟩
    refine (show EvD (tCall (spR 9 0 rMl) [] E (tCons (tVar 2) tNil)) [some (.str (flatS (allRows (dn ++ d :: rs)))), some (.ref p), some (.ref q), some dv] H8 0 (dNat (1 + d.more.length)) from evd_r (evds_cons (evd_var rfl (lq gq8)) evds_nil) ⟨d.row, d.more, allRows rs, rfl, Dd.more_bl, all_bhd rs, rfl⟩) H8 (Same.refl _) _ fun nv H9 s9 an => ?_
    obtain ⟨rfl, _⟩ := atD_pl an
    refine ⟨_, rfl, q, _, 1 + d.more.length, rfl, rfl, s9 _ _ gq8, ?_, rs.length, by rw [List.length_cons]; omega, dn ++ [d], rs, vs ++ [dv], _, by rw [List.append_assoc]; rfl, rfl, rfl, ?_, ?_, ?_, ?_⟩
    · rw [List.length_map, erow, List.length_append]
      show _ ≤ (d.row :: d.more).length + _
      rw [List.length_cons]
      omega
    · exact same_upd (s18.trans s9) hq1 _
    · rw [upd_ne npq]
      exact s9 _ _ gp8
    · have t10 := tups_lst (ys := ((allRows (d :: rs)).map V.str).drop (1 + d.more.length)) (s9 _ _ gq8)
      refine (hv8.same s9).impM fun x hx y r => AtD.tups t10 r ?_
      obtain ⟨d', hd', rfl⟩ := List.mem_map.mp hx
      refine d'.nld (ok d' ?_)
      rcases List.mem_append.mp hd' with h | h
      · exact List.mem_append_left _ h
      · rw [List.mem_singleton.mp h]
        simp
    · rw [upd_same, ← List.map_drop, erow]
      have : d.rows.length = 1 + d.more.length := by show (d.row :: d.more).length = _; rw [List.length_cons]; omega
      rw [← this, List.drop_left]
end
end My
set_option Elab.async false
set_option linter.all false
set_option maxRecDepth 100000
set_option maxHeartbeats 4000000
namespace My
open PySem L2 SS PySem.Spec PyProof.Rows
/-! ### != of what is equal -/
theorem flat_same {v : V} (h : flatV v = true) : eqV v v = true := by
  cases v with
  | int i => exact beq_self_eq_true i
  | str z => exact beq_self_eq_true z
  | bl b => exact beq_self_eq_true b
  | non => rfl
  | _ => first | cases h | rfl
/-- equal, item by item -/
def EqS (K : PySem.W.Frag) (H : Hp) : Nat → V → V → Prop
  | 0, x, y => x = y ∧ flatV x = true
  | n + 1, x, y => (x = y ∧ flatV x = true) ∨ ∃ (p q : Addr) (us vs : List V), x = .ref p ∧ y = .ref q ∧ ((SqT K H p us ∧ SqT K H q vs) ∨ (SqL K H p us ∧ SqL K H q vs)) ∧ All2 (EqS K H n) us vs
theorem EqS.flat {K : PySem.W.Frag} {H : Hp} {n : Nat} {x : V} (h : flatV x = true) : EqS K H n x x := by
  cases n with
  | zero => exact ⟨rfl, h⟩
  | succ n => exact .inl ⟨rfl, h⟩
theorem EqS.tup {K : PySem.W.Frag} {H : Hp} {n : Nat} {p q : Addr} {us vs : List V} (h1 : SqT K H p us) (h2 : SqT K H q vs) (h : All2 (EqS K H n) us vs) : EqS K H (n + 1) (.ref p) (.ref q) := .inr ⟨p, q, us, vs, rfl, rfl, .inl ⟨h1, h2⟩, h⟩
theorem EqS.lst {K : PySem.W.Frag} {H : Hp} {n : Nat} {p q : Addr} {us vs : List V} (h1 : SqL K H p us) (h2 : SqL K H q vs) (h : All2 (EqS K H n) us vs) : EqS K H (n + 1) (.ref p) (.ref q) := .inr ⟨p, q, us, vs, rfl, rfl, .inr ⟨h1, h2⟩, h⟩
theorem All2.get' {α β : Type} {R : α → β → Prop} {as : List α} {bs : List β} (h : All2 R as bs) {i : Nat} {a : α} {b : β} (ha : as[i]? = some a) (hb : bs[i]? = some b) : R a b := by
  obtain ⟨a', h1, h2⟩ := h.get hb
  rw [ha] at h1
  cases h1
  exact h2
theorem vals_get2 : ∀ {xs : List V} {us : List Value}, Vals xs us → ∀ {j : Nat} {u : Value}, us[j]? = some u → ∃ x, xs[j]? = some x ∧ RelV x u
  | _, _, .nil, j, u, h => by simp at h
  | _, _, .cons (a := a) (b := b) r t, 0, u, h => by
    have e : b = u := by simpa using h
    subst e
    exact ⟨a, rfl, r⟩
  | _, _, .cons r t, j + 1, u, h => by
    obtain ⟨x, h1, h2⟩ := vals_get2 t (j := j) (u := u) (by simpa using h)
    exact ⟨x, by simpa using h1, h2⟩
theorem all_t (n : Nat) : (List.range n).all (fun _ => true) = true := List.all_eq_true.mpr fun _ _ => rfl
section
variable {X : Cx} {pins : List (Addr × Obj)} {σ : L2.St} {H : Hp} {s : Shared}
theorem eqS_at (I : Inv X pins σ H s) : ∀ (n : Nat) (A : Around) (x y : V) (u v : Value), A.units + n < cLine → EqS X.K H n x y → RelV x u → RelV y v → SeqAt.EqAt A s u v true
  | 0, A, x, y, u, v, hu, ⟨e, f⟩, rx, ry => by
    subst e
    have := eqAt_V (A := A) (s := s) rx ry f f
    rw [flat_same f] at this
    exact this
  | n + 1, A, x, y, u, v, hu, h, rx, ry => by
    rcases h with ⟨e, f⟩ | ⟨p, q, us, vs, e1, e2, hh, ha⟩
    · subst e
      have := eqAt_V (A := A) (s := s) rx ry f f
      rw [flat_same f] at this
      exact this
    subst e1
    subst e2
    cases rx
    cases ry
    by_cases hpq : p = q
    · subst hpq
      exact SeqAt.EqAt.same _
    refine SeqAt.EqAt.of_refs hpq ?_
    have la := ha.len
    rcases hh with ⟨h1, h2⟩ | ⟨h1, h2⟩
    · obtain ⟨its, r1, p1, _⟩ := I.tuple h1
      obtain ⟨its2, r2, p2, _⟩ := I.tuple h2
      have g1 := r1.length
      have g2 := r2.length
      have key := SeqAt.RcAt.tuples (A := A) (s := s) (l := p) (b := q) (items := its.toArray) (items2 := its2.toArray) (e := fun j => true) p1 p2 (by omega) (fun j j1 j2 => ?_)
      · have es : (its.toArray.size == its2.toArray.size) = true := by rw [List.size_toArray, List.size_toArray, ← g1, ← g2, la]; simp
        rw [all_t, es] at key
        exact key
      · have j1' : j < its.length := by simpa using j1
        have j2' : j < its2.length := by simpa using j2
        obtain ⟨a, ha1, ra⟩ := vals_get2 r1 (List.getElem?_eq_getElem j1')
        obtain ⟨b, hb1, rb⟩ := vals_get2 r2 (List.getElem?_eq_getElem j2')
        exact eqS_at I n A.in1 a b _ _ (by show A.units + 1 + n < cLine; omega) (ha.get' ha1 hb1) ra rb
    · obtain ⟨its, r1, p1, _⟩ := I.list h1
      obtain ⟨its2, r2, p2, _⟩ := I.list h2
      have g1 := r1.length
      have g2 := r2.length
      have key := SeqAt.RcAt.lists (A := A) (s := s) (l := p) (b := q) (items := its.toArray) (items2 := its2.toArray) (e := fun j => true) p1.isList p2.isList (by rw [List.size_toArray, List.size_toArray]; omega) (by omega) (fun j j1 j2 => ?_)
      · rw [all_t] at key
        exact key
      · have j1' : j < its.length := by simpa using j1
        have j2' : j < its2.length := by simpa using j2
        obtain ⟨a, ha1, ra⟩ := vals_get2 r1 (List.getElem?_eq_getElem j1')
        obtain ⟨b, hb1, rb⟩ := vals_get2 r2 (List.getElem?_eq_getElem j2')
        exact eqS_at I n A.in1 a b _ _ (by show A.units + 1 + n < cLine; omega) (ha.get' ha1 hb1) ra rb
end
/-- a != b, two equal tuples or lists -/
def rNeS (K : PySem.W.Frag) : R2 := fun x y H Q => (∃ n p q us vs, n ≤ 60 ∧ x = .ref p ∧ y = .ref q ∧ ((SqT K H p us ∧ SqT K H q vs) ∨ (SqL K H p us ∧ SqL K H q vs)) ∧ All2 (EqS K H n) us vs) ∧ Q (.bl false) H
theorem op_neS {X : Cx} (hu : X.A.units + 64 < cLine) : OpR X (compareOp .NotEq) (rNeS X.K) := by
  intro pins s σ H x y v u Q I rx ry hh
  obtain ⟨⟨n, p, q, us, vs, hn, e1, e2, h, ha⟩, hq⟩ := hh
  subst e1
  subst e2
  cases rx
  cases ry
  have la := ha.len
  rcases h with ⟨h1, h2⟩ | ⟨h1, h2⟩
  · obtain ⟨its, r1, p1, _⟩ := I.tuple h1
    obtain ⟨its2, r2, p2, _⟩ := I.tuple h2
    have g1 := r1.length
    have g2 := r2.length
    have key := SeqAt.RcNeAt.tuples (A := X.A) (s := s) (l := p) (b := q) (items := its.toArray) (items2 := its2.toArray) (e := fun j => true) p1 p2 (by omega) (fun j j1 j2 => ?_)
    · have es : (its.toArray.size == its2.toArray.size) = true := by rw [List.size_toArray, List.size_toArray, ← g1, ← g2, la]; simp
      rw [all_t, es] at key
      exact key _ _ _ _ ⟨.bl _, H, I, rfl, hq⟩
    · have j1' : j < its.length := by simpa using j1
      have j2' : j < its2.length := by simpa using j2
      obtain ⟨a, ha1, ra⟩ := vals_get2 r1 (List.getElem?_eq_getElem j1')
      obtain ⟨b, hb1, rb⟩ := vals_get2 r2 (List.getElem?_eq_getElem j2')
      exact eqS_at I n X.A.in1 a b _ _ (by show X.A.units + 1 + n < cLine; omega) (ha.get' ha1 hb1) ra rb
  · obtain ⟨its, r1, p1, _⟩ := I.list h1
    obtain ⟨its2, r2, p2, _⟩ := I.list h2
    have g1 := r1.length
    have g2 := r2.length
    have key := SeqAt.RcNeAt.lists (A := X.A) (s := s) (l := p) (b := q) (items := its.toArray) (items2 := its2.toArray) (e := fun j => true) p1.isList p2.isList (by rw [List.size_toArray, List.size_toArray]; omega) (by omega) (fun j j1 j2 => ?_)
    · rw [all_t] at key
      exact key _ _ _ _ ⟨.bl _, H, I, rfl, hq⟩
    · have j1' : j < its.length := by simpa using j1
      have j2' : j < its2.length := by simpa using j2
      obtain ⟨a, ha1, ra⟩ := vals_get2 r1 (List.getElem?_eq_getElem j1')
      obtain ⟨b, hb1, rb⟩ := vals_get2 r2 (List.getElem?_eq_getElem j2')
      exact eqS_at I n X.A.in1 a b _ _ (by show X.A.units + 1 + n < cLine; omega) (ha.get' ha1 hb1) ra rb
/-- a tuple against the empty one -/
def rNeT0 (K : PySem.W.Frag) : R2 := fun x y H Q => ∃ p q us, x = .ref p ∧ y = .ref q ∧ SqT K H p us ∧ SqT K H q [] ∧ Q (.bl (!decide (us = []))) H
theorem op_neT0 {X : Cx} (hu : X.A.units + 64 < cLine) : OpR X (compareOp .NotEq) (rNeT0 X.K) := by
  intro pins s σ H x y v u Q I rx ry hh
  obtain ⟨p, q, us, e1, e2, h1, h2, hq⟩ := hh
  subst e1
  subst e2
  cases rx
  cases ry
  obtain ⟨its, r1, p1, _⟩ := I.tuple h1
  obtain ⟨its2, r2, p2, _⟩ := I.tuple h2
  have g1 := r1.length
  have g2 := r2.length
  have i2 : its2.length = 0 := by rw [← g2]; rfl
  have key := SeqAt.RcNeAt.tuples (A := X.A) (s := s) (l := p) (b := q) (items := its.toArray) (items2 := its2.toArray) (e := fun j => true) p1 p2 (by omega) (fun j j1 j2 => by
    have j2' : j < its2.length := by simpa using j2
    omega)
  have es : (its.toArray.size == its2.toArray.size) = decide (us = []) := by
    rw [List.size_toArray, List.size_toArray, ← g1, i2]
    cases us <;> simp
  rw [all_t, es, Bool.true_and] at key
  exact key _ _ _ _ ⟨.bl _, H, I, rfl, hq⟩
/-- a list against the empty one -/
def rNeL0 (K : PySem.W.Frag) : R2 := fun x y H Q => ∃ p q us, x = .ref p ∧ y = .ref q ∧ SqL K H p us ∧ SqL K H q [] ∧ Q (.bl (!decide (us = []))) H
theorem op_neL0 {X : Cx} (hu : X.A.units + 64 < cLine) : OpR X (compareOp .NotEq) (rNeL0 X.K) := by
  intro pins s σ H x y v u Q I rx ry hh
  obtain ⟨p, q, us, e1, e2, h1, h2, hq⟩ := hh
  subst e1
  subst e2
  cases rx
  cases ry
  obtain ⟨its, r1, p1, _⟩ := I.list h1
  obtain ⟨its2, r2, p2, _⟩ := I.list h2
  have g1 := r1.length
  have g2 := r2.length
  have i2 : its2.length = 0 := by rw [← g2]; rfl
  by_cases c : us = []
  · have i1 : its.length = 0 := by rw [← g1, c]; rfl
    have key := SeqAt.RcNeAt.lists (A := X.A) (s := s) (l := p) (b := q) (items := its.toArray) (items2 := its2.toArray) (e := fun j => true) p1.isList p2.isList (by rw [List.size_toArray, List.size_toArray]; omega) (by omega) (fun j j1 j2 => by
      have j2' : j < its2.length := by simpa using j2
      omega)
    rw [all_t] at key
    rw [decide_eq_true c] at hq
    exact key _ _ _ _ ⟨.bl _, H, I, rfl, hq⟩
  · have i1 : its.length ≠ 0 := by rw [← g1]; exact fun z => c (List.eq_nil_of_length_eq_zero z)
    have key := SeqAt.RcNeAt.lists_lengths (A := X.A) (s := s) (l := p) (b := q) (items := its.toArray) (items2 := its2.toArray) p1.isList p2.isList (by rw [List.size_toArray, List.size_toArray]; simp; omega) (by omega)
    rw [decide_eq_false c] at hq
    exact key _ _ _ _ ⟨.bl _, H, I, rfl, hq⟩
end My
set_option Elab.async false
set_option linter.all false
set_option maxRecDepth 100000
set_option maxHeartbeats 4000000
namespace My
open PySem L2 SS
/-! ### the deck: [place, row] -/
def DkN (H : Hp) (p l : Addr) (a : Nat) : Prop := ∃ (a' : Nat) (xs : List Int), a' ≤ a ∧ H p = some (.lst [.int (a' : Nat), .ref l]) ∧ H l = some (.lst (xs.map V.int)) ∧ p ≠ l ∧ xs.length ≤ 4000 ∧ ∀ v ∈ xs, 0 ≤ v ∧ v < 2147483629
theorem DkN.mono {H : Hp} {p l : Addr} {a b : Nat} (d : DkN H p l a) (h : a ≤ b) : DkN H p l b := by
  obtain ⟨a', xs, h1, r⟩ := d
  exact ⟨a', xs, by omega, r⟩
theorem DkN.same {H H' : Hp} {p l : Addr} {a : Nat} (d : DkN H p l a) (s : Same H H') : DkN H' p l a := by
  obtain ⟨a', xs, h1, h2, h3, r⟩ := d
  exact ⟨a', xs, h1, s _ _ h2, s _ _ h3, r⟩
theorem DkN.lsts {H : Hp} {p l : Addr} {a : Nat} (d : DkN H p l a) : Lsts [p] H := by
  obtain ⟨a', xs, h1, h2, r⟩ := d
  intro b hb
  rw [List.mem_singleton.mp hb]
  exact ⟨_, h2⟩
theorem DkN.ne {H : Hp} {p l q : Addr} {a : Nat} (d : DkN H p l a) (h : H q = none) : q ≠ p ∧ q ≠ l := by
  obtain ⟨a', xs, h1, h2, h3, r⟩ := d
  exact ⟨fun e => (by rw [e, h2] at h; cases h), fun e => (by rw [e, h3] at h; cases h)⟩
theorem DkN.set {H : Hp} {p l q : Addr} {a : Nat} (d : DkN H p l a) (h : q ≠ p ∧ q ≠ l) (o : HO) : DkN (upd H q o) p l a := by
  obtain ⟨a', xs, h1, h2, h3, r⟩ := d
  exact ⟨a', xs, h1, by rw [upd_ne h.1.symm]; exact h2, by rw [upd_ne h.2.symm]; exact h3, r⟩
def spDk (K : PySem.W.Frag) : Sp := fun vs H Q _ => ∃ (a : Addr) (ns : List Int), vs = [.ref a] ∧ SqL K H a (ns.map V.int) ∧ ns.length ≤ 63 ∧ ∀ (H' : Hp) (p l : Addr), Same H H' → DkN H' p l 0 → Q (.ref p) H'
def spNx : Sp := fun vs H Q _ => ∃ (p l : Addr) (a : Nat), vs = [.ref p] ∧ DkN H p l a ∧ a ≤ 100000 ∧ ∀ (n : Int) (H' : Hp), SX [p] H H' → DkN H' p l (a + 1) → 0 ≤ n → Q (.int n) H'
section
variable {P : Program} {w : World} {K : PySem.W.Frag} {mg : Str → Option Value} {base : Heap}
theorem scDk : FnScope ["_law_script", "_law_row_here", "_law_k", "_law_cell", "_law_n", "_law_one"] ["_law_script"] (defScope s__law_deck) := ⟨rfl, rfl, rfl, by decide +kernel, rfl, by decide +kernel, by decide +kernel⟩
theorem c_dk (b_min : mg "min" = none) (b_len : mg "len" = none) (b_range : mg "range" = none) (D : Dn K mg "_law_deck" s__law_deck) : C0 P w K mg base 1 "_law_deck" (spDk K) := by
  obtain ⟨f, fd, F, hmm⟩ := D.ex
  refine ⟨f, fd, ["_law_script"], F.ok scDk (fun vs H Q E h => ?_) (fun cdv A outer s H vs Q E hr h => ?_), hmm, F.kp, F.binds (ps := ["_law_script"]) fun _ _ _ _ _ _ us hl => match us, hl with | [_], _ => rfl⟩
  · obtain ⟨a, ns, rfl, _⟩ := h
    rfl
  obtain ⟨a, ns, rfl, hS, h63, kq⟩ := h
  refine ⟨_, pss_cons (ps_set (i := 1) scDk.nd rfl (Or.inl rfl) (pe_lst pa_nil)) <|
    pss_cons (ps_for PassesOwn.never rfl (pi_range1 rfl b_range (pa_cons (pe_callB (call_min2 rfl) (by rfl) b_min (by decide +kernel) (pa_cons (pe_callB call_len_seq (by rfl) b_len PySem.boot_len (pa_cons (pv 0) pa_nil)) (pa_cons pe_int pa_nil))) pa_nil)) (pg_name (i := 2) scDk.nd rfl (Or.inl rfl))
      (pss_cons (ps_set (i := 3) scDk.nd rfl (Or.inl rfl) (pe_ix (r := rIxL K) ix_list (pv 0) (pv 2) (fun _ _ => rfl))) <|
      pss_one (ps_if (pt_cmpR op_ge (pv 3) (pe_op op_pow pe_int pe_int) (nomark _))
        (pss_one (ps_for PassesOwn.never rfl (pi_range1 rfl b_range (pa_cons pe_int pa_nil)) (pg_name (i := 4) scDk.nd rfl (Or.inl rfl))
          (pss_one (ps_if (pt_cmpR op_gt (pv 3) pe_int (nomark _))
            (pss_cons (ps_expr (pe_bm PySem.F.plainAttrs_list PySem.F.slot_list_append PySem.F.type_list_append mt_append (pv 1) (pa_cons (pe_op op_mod (pv 3) pe_int) pa_nil))) <|
            pss_one (ps_set (i := 3) scDk.nd rfl (Or.inl rfl) (pe_op op_fdiv (pv 3) pe_int)))
            (pss_nil)))))
        (pss_cons (ps_set (i := 5) scDk.nd rfl (Or.inl rfl) (pe_op op_add (pe_op op_add (pe_op op_mul (pv 3) pe_int) (pe_op op_mul (pe_op op_mul (pe_op op_add (pv 2) pe_int) (pe_op op_add (pv 2) pe_int)) pe_int)) pe_int)) <|
        pss_cons (ps_set (i := 5) scDk.nd rfl (Or.inl rfl) (pe_op op_mod (pv 5) pe_int)) <|
        pss_one (ps_expr (pe_bm PySem.F.plainAttrs_list PySem.F.slot_list_append PySem.F.type_list_append mt_append (pv 1) (pa_cons (pe_op op_mod (pe_op op_mul (pv 5) (pv 5)) pe_int) pa_nil))))))) <|
    pss_one (ps_ret (pe_lst (pa_cons pe_int (pa_cons (pv 1) pa_nil)))), ?_⟩
  refine ⟨by show 0 ≤ sizeLine; decide, fun l hl => ?_⟩
  have s1 := same_new hl (.lst [])
  have f1 : upd H l (.lst []) l = some (.lst []) := upd_same
  generalize upd H l (.lst []) = H1 at s1 f1 ⊢
  refine ⟨_, rfl, a, _, rfl, .inl (sqL_same hS s1), ?_⟩
  have hL : (((ns.map V.int).length : Nat) : Int) = ((ns.length : Nat) : Int) := by rw [List.length_map]
  refine ⟨_, _, rfl, ?_⟩
  rw [hL]
  refine ⟨_, rfl, by show -2 ^ 62 ≤ (if (63 : Int) < ((ns.length : Nat) : Int) then (63 : Int) else ((ns.length : Nat) : Int)); split <;> omega, by show (if (63 : Int) < ((ns.length : Nat) : Int) then (63 : Int) else ((ns.length : Nat) : Int)) < 2 ^ 62; split <;> omega, ?_⟩
  have hj : (if (63 : Int) < ((ns.length : Nat) : Int) then (63 : Int) else ((ns.length : Nat) : Int)).toNat ≤ ns.length := by split <;> omega
  refine for_range (lo := 0) (n := (if (63 : Int) < ((ns.length : Nat) : Int) then (63 : Int) else ((ns.length : Nat) : Int)).toNat) (fun i σ H' => ∃ (xs : List Int) (v2 v3 v4 v5 : Option V), σ = [some (.ref a), some (.ref l), v2, v3, v4, v5] ∧ Same H H' ∧ H' l = some (.lst (xs.map V.int)) ∧ xs.length ≤ 60 * i ∧ ∀ v ∈ xs, 0 ≤ v ∧ v < 2147483629) ⟨[], none, none, none, none, rfl, s1, f1, Nat.zero_le _, fun _ h => by cases h⟩ ?_ ?_
  · rintro i σ H' hi ⟨xs, v2, v3, v4, v5, rfl, s, gl, hx, hb⟩
    have hi2 : i < ns.length := Nat.lt_of_lt_of_le hi hj
    obtain ⟨c, hc⟩ : ∃ c : Int, (ns.map V.int)[i]? = some (V.int c) := ⟨ns[i], by rw [List.getElem?_map, List.getElem?_eq_getElem hi2]; rfl⟩
    refine ⟨_, rfl, _, rfl, a, _, _, _, rfl, rfl, sqL_same hS s, by rw [show (0 : Int) + (i : Nat) = ((i : Nat) : Int) by omega]; exact atI_nat hc, ?_⟩
    refine ⟨_, rfl, _, _, rfl, rfl, (by unfold CPow; decide), _, _, rfl, rfl, _, rfl, ?_⟩
    refine ite2 (fun _ => ?_) (fun _ => ?_)
    · refine ⟨60, rfl, by decide, by decide, ?_⟩
      refine for_range (lo := 0) (n := 60) (fun j σ H' => ∃ (xs : List Int) (c : Int) (v2 v4 v5 : Option V), σ = [some (.ref a), some (.ref l), v2, some (.int c), v4, v5] ∧ Same H H' ∧ H' l = some (.lst (xs.map V.int)) ∧ xs.length ≤ 60 * i + j ∧ ∀ v ∈ xs, 0 ≤ v ∧ v < 2147483629) ⟨xs, c, _, _, _, rfl, s, gl, hx, hb⟩ ?_ ?_
      · rintro j σ H5 hj ⟨ys, c', w2, w4, w5, rfl, s5, gl5, hy, hb5⟩
        refine ⟨_, rfl, _, _, rfl, rfl, _, rfl, ?_⟩
        refine ite2 (fun _ => ?_) (fun _ => ⟨ys, c', _, _, _, rfl, s5, gl5, by omega, hb5⟩)
        refine ⟨_, rfl, .inl ⟨rfl, _, SqL.of gl5⟩, _, rfl, _, _, rfl, rfl, (by show (0 : Int) < 1000000; decide), l, _, _, rfl, rfl, gl5, by rw [List.length_map, sizeLine_eq]; omega, ?_⟩
        refine ⟨_, rfl, _, _, rfl, rfl, ⟨by decide, by decide⟩, ?_⟩
        refine ⟨ys ++ [c' % 1000000], _, _, _, _, rfl, same_upd s5 hl _, by rw [upd_same, List.map_append]; rfl, by rw [List.length_append]; show ys.length + 1 ≤ _; omega, fun v hv => ?_⟩
        rcases List.mem_append.mp hv with hv | hv
        · exact hb5 v hv
        · rw [List.mem_singleton.mp hv]
          have h1 := Int.emod_nonneg c' (show (1000000 : Int) ≠ 0 by decide)
          have h2 := Int.emod_lt_of_pos c' (show (0 : Int) < 1000000 by decide)
          omega
      · rintro σ H5 ⟨ys, c', w2, w4, w5, rfl, s5, gl5, hy, hb5⟩
        exact ⟨ys, _, _, _, _, rfl, s5, gl5, by omega, hb5⟩
    · refine ⟨_, rfl, _, _, rfl, rfl, .inr ⟨by decide, by decide⟩, _, rfl, _, _, rfl, rfl, _, rfl, _, _, rfl, rfl, _, _, rfl, rfl, .inl ⟨by omega, by omega⟩, _, _, rfl, rfl, .inr ⟨by decide, by decide⟩, _, _, rfl, rfl, _, _, rfl, rfl, ?_⟩
      refine ⟨_, rfl, _, _, rfl, rfl, (by show (0 : Int) < 2147483647; decide), ?_⟩
      generalize c * 48271 + (0 + ((i : Nat) : Int) + 1) * (0 + ((i : Nat) : Int) + 1) * 7919 + 11 = z
      have h1 := Int.emod_nonneg z (show (2147483647 : Int) ≠ 0 by decide)
      have h2 := Int.emod_lt_of_pos z (show (0 : Int) < 2147483647 by decide)
      refine ⟨_, rfl, .inl ⟨rfl, _, SqL.of gl⟩, _, rfl, _, rfl, _, _, rfl, rfl, .inl ⟨by omega, by omega⟩, _, _, rfl, rfl, (by show (0 : Int) < 2147483629; decide), l, _, _, rfl, rfl, gl, by rw [List.length_map, sizeLine_eq]; omega, ?_⟩
      refine ⟨xs ++ [z % 2147483647 * (z % 2147483647) % 2147483629], _, _, _, _, rfl, same_upd s hl _, by rw [upd_same, List.map_append]; rfl, by rw [List.length_append]; show xs.length + 1 ≤ _; omega, fun v hv => ?_⟩
      rcases List.mem_append.mp hv with hv | hv
      · exact hb v hv
      · rw [List.mem_singleton.mp hv]
        exact ⟨Int.emod_nonneg _ (by decide), Int.emod_lt_of_pos _ (by decide)⟩
  · rintro σ H' ⟨xs, v2, v3, v4, v5, rfl, s, gl, hx, hb⟩
    refine ⟨_, rfl, by show 2 ≤ sizeLine; decide, fun p hp => ?_⟩
    have sp := same_new hp (.lst [.int 0, .ref l])
    refine kq _ p l (s.trans sp) ⟨0, xs, Nat.le_refl _, upd_same, sp _ _ gl, (ne_of_none gl hp).symm, ?_, hb⟩
    have : 60 * (if (63 : Int) < ((ns.length : Nat) : Int) then (63 : Int) else ((ns.length : Nat) : Int)).toNat ≤ 60 * 63 := Nat.mul_le_mul_left _ (by omega)
    omega
theorem scNx : FnScope ["_law_deck_here", "_law_at", "_law_row_here", "_law_one"] ["_law_deck_here"] (defScope s__law_next) := ⟨rfl, rfl, rfl, by decide +kernel, rfl, by decide +kernel, by decide +kernel⟩
theorem c_nx (b_len : mg "len" = none) (D : Dn K mg "_law_next" s__law_next) : C0 P w K mg base 1 "_law_next" spNx := by
  obtain ⟨f, fd, F, hmm⟩ := D.ex
  refine ⟨f, fd, ["_law_deck_here"], F.ok scNx (fun vs H Q E h => ?_) (fun cdv A outer s H vs Q E hr h => ?_), hmm, F.kp, F.binds (ps := ["_law_deck_here"]) fun _ _ _ _ _ _ us hl => match us, hl with | [_], _ => rfl⟩
  · obtain ⟨p, l, a, rfl, _⟩ := h
    rfl
  obtain ⟨p, l, a, rfl, ⟨a', xs, ha', hp, hl, hpl, hxl, hb⟩, ha, kq⟩ := h
  refine ⟨_, pss_cons (ps_set (i := 1) scNx.nd rfl (Or.inl rfl) (pe_ix (r := rIxL K) ix_list (pv 0) pe_int (fun _ _ => rfl))) <|
    pss_cons (ps_asg (pe_op op_add (pv 1) pe_int) (pg_sub (pv 0) pe_int set_list)) <|
    pss_cons (ps_set (i := 2) scNx.nd rfl (Or.inl rfl) (pe_ix (r := rIxL K) ix_list (pv 0) pe_int (fun _ _ => rfl))) <|
    pss_cons (ps_if (pt_cmpR op_lt (pv 1) (pe_callB call_len_seq (by rfl) b_len PySem.boot_len (pa_cons (pv 2) pa_nil)) (nomark _))
      (pss_one (ps_ret (pe_ix (r := rIxL K) ix_list (pv 2) (pv 1) (fun _ _ => rfl))))
      (pss_nil)) <|
    pss_cons (ps_if (pt_cmpR op_eq (pe_callB call_len_seq (by rfl) b_len PySem.boot_len (pa_cons (pv 2) pa_nil)) pe_int (nomark _))
      (pss_one (ps_ret (pe_op op_mod (pe_op op_mul (pe_op op_mul (pe_op op_mul (pe_op op_add (pv 1) pe_int) (pe_op op_add (pv 1) pe_int)) (pe_op op_add (pv 1) pe_int)) pe_int) pe_int)))
      (pss_nil)) <|
    pss_cons (ps_set (i := 3) scNx.nd rfl (Or.inl rfl) (pe_op op_add (pe_ix (r := rIxL K) ix_list (pv 2) (pe_op op_mod (pv 1) (pe_callB call_len_seq (by rfl) b_len PySem.boot_len (pa_cons (pv 2) pa_nil))) (fun _ _ => rfl)) (pe_op op_mul pe_int (pe_ix (r := rIxL K) ix_list (pv 2) (pe_op op_mod (pe_op op_mul (pv 1) pe_int) (pe_callB call_len_seq (by rfl) b_len PySem.boot_len (pa_cons (pv 2) pa_nil))) (fun _ _ => rfl))))) <|
    pss_cons (ps_set (i := 3) scNx.nd rfl (Or.inl rfl) (pe_op op_add (pe_op op_add (pv 3) (pe_op op_mul (pe_op op_mul (pv 1) (pv 1)) pe_int)) pe_int)) <|
    pss_one (ps_ret (pe_op op_mod (pe_op op_mul (pv 3) (pv 3)) pe_int)), ?_⟩
  refine ⟨_, rfl, p, _, _, _, rfl, rfl, SqL.of hp, atI_0, ?_⟩
  refine ⟨_, rfl, _, _, rfl, rfl, _, rfl, p, _, _, 0, rfl, rfl, hp, rfl, ?_⟩
  have hset : [V.int ((a' : Nat) : Int), V.ref l].set 0 (V.int (((a' : Nat) : Int) + 1)) = [.int ((a' + 1 : Nat) : Int), .ref l] := rfl
  rw [hset]
  have s2 : SX [p] H (upd H p (.lst [.int ((a' + 1 : Nat) : Int), .ref l])) := SX.upd _ (List.mem_singleton.mpr rfl)
  have hp2 : upd H p (.lst [.int ((a' + 1 : Nat) : Int), .ref l]) p = some (.lst [.int ((a' + 1 : Nat) : Int), .ref l]) := upd_same
  have hl2 : upd H p (.lst [.int ((a' + 1 : Nat) : Int), .ref l]) l = some (.lst (xs.map V.int)) := by rw [upd_ne hpl.symm]; exact hl
  generalize upd H p (.lst [.int ((a' + 1 : Nat) : Int), .ref l]) = H2 at s2 hp2 hl2 ⊢
  have kq2 : ∀ n : Int, 0 ≤ n → Q (.int n) H2 := fun n hn => kq n H2 s2 ⟨a' + 1, xs, by omega, hp2, hl2, hpl, hxl, hb⟩ hn
  have hml : (xs.map V.int).length = xs.length := List.length_map ..
  refine ⟨_, rfl, p, _, _, _, rfl, rfl, SqL.of hp2, atI_nat (j := 1) rfl, _, rfl, _, rfl, l, _, rfl, .inl (SqL.of hl2), _, _, rfl, rfl, _, rfl, ?_⟩
  refine ite2 (fun c => ?_) (fun _ => ?_)
  · have c1 : ((a' : Nat) : Int) < (((xs.map V.int).length : Nat) : Int) := of_decide_eq_true c
    obtain ⟨z, hz, h0, _⟩ := pick (n := xs.length) hml (f := V.int) (Pz := fun z => 0 ≤ z ∧ z < 2147483629) (by
      intro v hv
      obtain ⟨z, hz, rfl⟩ := List.mem_map.mp hv
      exact ⟨z, rfl, hb z hz⟩) (d := ((a' : Nat) : Int)) (by omega) (by omega)
    exact ⟨_, rfl, _, rfl, l, _, _, _, rfl, rfl, SqL.of hl2, hz, kq2 z h0⟩
  refine ⟨_, rfl, l, _, rfl, .inl (SqL.of hl2), rfl, _, rfl, ?_⟩
  have ha0 : (0 : Int) ≤ ((a' : Nat) : Int) + 1 := by omega
  have ha1 : ((a' : Nat) : Int) + 1 ≤ 100001 := by omega
  have sq : (((a' : Nat) : Int) + 1) * (((a' : Nat) : Int) + 1) ≤ 100001 * 100001 := Int.mul_le_mul ha1 ha1 ha0 (by decide)
  have sq0 : 0 ≤ (((a' : Nat) : Int) + 1) * (((a' : Nat) : Int) + 1) := Int.mul_nonneg ha0 ha0
  refine ite2 (fun c => ?_) (fun c => ?_)
  · refine ⟨_, rfl, _, _, rfl, rfl, _, rfl, _, _, rfl, rfl, _, _, rfl, rfl, .inl ⟨by omega, by omega⟩, _, rfl, _, _, rfl, rfl, _, _, rfl, rfl, .inl ⟨by omega, by omega⟩, _, _, rfl, rfl, .inr ⟨by decide, by decide⟩, _, _, rfl, rfl, (by show (0 : Int) < 2147483629; decide), ?_⟩
    exact kq2 _ (Int.emod_nonneg _ (by decide))
  have hne : 0 < xs.length := by
    rcases Nat.eq_zero_or_pos xs.length with h | h
    · exact absurd (decide_eq_true (by rw [hml, h]; rfl)) c
    · exact h
  have cell : ∀ d : Int, ∃ z : Int, L2.atI (xs.map V.int) (d % ((xs.length : Nat) : Int)) = some (.int z) ∧ (0 ≤ z ∧ z < 2147483629) := fun d => pick (n := xs.length) hml (f := V.int) (Pz := fun z => 0 ≤ z ∧ z < 2147483629) (by
    intro v hv
    obtain ⟨z, hz, rfl⟩ := List.mem_map.mp hv
    exact ⟨z, rfl, hb z hz⟩) (Int.emod_nonneg _ (by omega)) (Int.emod_lt_of_pos _ (by omega))
  obtain ⟨z1, hz1, hz1a, hz1b⟩ := cell ((a' : Nat) : Int)
  obtain ⟨z2, hz2, hz2a, hz2b⟩ := cell (((a' : Nat) : Int) * 5)
  refine ⟨_, rfl, _, rfl, _, rfl, l, _, rfl, .inl (SqL.of hl2), _, _, rfl, rfl, by rw [hml]; show (0 : Int) < _; omega, l, _, _, _, rfl, rfl, SqL.of hl2, by rw [hml]; exact hz1, _, rfl, _, rfl, _, _, rfl, rfl, .inr ⟨by decide, by decide⟩, _, rfl, l, _, rfl, .inl (SqL.of hl2), _, _, rfl, rfl, by rw [hml]; show (0 : Int) < _; omega, l, _, _, _, rfl, rfl, SqL.of hl2, by rw [hml]; exact hz2, _, _, rfl, rfl, .inl ⟨by decide, by decide⟩, _, _, rfl, rfl, ?_⟩
  have sq' : (((a' : Nat) : Int)) * (((a' : Nat) : Int)) ≤ 100000 * 100000 := Int.mul_le_mul (by omega) (by omega) (by omega) (by decide)
  have sq0' : 0 ≤ (((a' : Nat) : Int)) * (((a' : Nat) : Int)) := Int.mul_nonneg (by omega) (by omega)
  refine ⟨_, rfl, _, rfl, _, rfl, _, _, rfl, rfl, .inl ⟨by omega, by omega⟩, _, _, rfl, rfl, .inr ⟨by decide, by decide⟩, _, _, rfl, rfl, _, _, rfl, rfl, ?_⟩
  refine ⟨_, rfl, _, rfl, _, _, rfl, rfl, .inl ⟨by omega, by omega⟩, _, _, rfl, rfl, (by show (0 : Int) < 2147483629; decide), ?_⟩
  exact kq2 _ (Int.emod_nonneg _ (by decide))
end
end My
set_option Elab.async false
set_option linter.all false
set_option maxRecDepth 100000
set_option maxHeartbeats 4000000
namespace My
open PySem L2 SS
/-! ### words drawn -/
def spRw : Sp := fun vs H Q _ => ∃ (p l : Addr) (a : Nat) (sg : Str) (m : Int), vs = [.ref p, .str sg, .int m] ∧ DkN H p l a ∧ a + 1 ≤ 100000 ∧ 0 ≤ m ∧ m ≤ 40 ∧ 1 ≤ sg.length ∧ sg.length ≤ 100 ∧ ∀ (z : Str) (H' : Hp), SX [p] H H' → DkN H' p l (a + 1) → ((z.length : Nat) : Int) = m → (∀ c ∈ tl z, c ∈ tl sg) → Q (.str z) H'
def spS (n : Nat) (S : Str → Prop) : Sp := fun vs H Q _ => ∃ (p l : Addr) (a : Nat), vs = [.ref p] ∧ DkN H p l a ∧ a + n ≤ 100000 ∧ ∀ (z : Str) (H' : Hp), SX [p] H H' → DkN H' p l (a + n) → S z → Q (.str z) H'
theorem at_sign {sg : Str} {d : Int} (h1 : 1 ≤ sg.length) : ∃ c : Nat, sg.cps[(d % ((sg.length : Nat) : Int)).toNat]? = some c ∧ c ∈ tl sg ∧ 0 ≤ d % ((sg.length : Nat) : Int) ∧ d % ((sg.length : Nat) : Int) < ((sg.length : Nat) : Int) := by
  have h0 := Int.emod_nonneg d (show (((sg.length : Nat) : Int)) ≠ 0 by omega)
  have h2 := Int.emod_lt_of_pos d (show (0 : Int) < ((sg.length : Nat) : Int) by omega)
  generalize d % ((sg.length : Nat) : Int) = j at h0 h2 ⊢
  have hs : sg.cps.size = sg.length := rfl
  have hi : j.toNat < sg.cps.size := by omega
  refine ⟨sg.cps[j.toNat], Array.getElem?_eq_getElem hi, ?_, h0, h2⟩
  exact Array.mem_toList_iff.mpr (Array.getElem_mem hi)
theorem at_signK {sg : Str} {d : Int} {k : Nat} (hk : sg.length = k) (h1 : 1 ≤ k) : ∃ c : Nat, sg.cps[(d % ((k : Nat) : Int)).toNat]? = some c ∧ c ∈ tl sg ∧ 0 ≤ d % ((k : Nat) : Int) ∧ d % ((k : Nat) : Int) < ((k : Nat) : Int) := by
  subst hk
  exact at_sign h1
theorem name_of {z : Str} {f S : T} (h1 : 1 ≤ z.length) (h2 : z.length ≤ 12) (hf : ∀ c cs, tl z = c :: cs → c ∈ f) (hs : ∀ c ∈ tl z, c ∈ S) : isName (tl z) f S = true := by
  have hl := len_tl z
  unfold isName
  rw [Bool.and_eq_true, Bool.and_eq_true]
  refine ⟨decide_eq_true (by omega), decide_eq_true ?_, List.all_eq_true.mpr fun c hc => decide_eq_true (hs c hc)⟩
  cases hq : tl z with
  | nil => rw [hq] at hl; simp at hl; omega
  | cons c cs => exact hf c cs hq
/-- a first sign, others behind -/
theorem name_cons {c : Nat} {z : Str} {f S g : T} (hc : c ∈ f) (hg : ∀ c ∈ f, c ∈ S) (hz : z.length ≤ 11) (hs : ∀ c ∈ tl z, c ∈ S) : isName (tl ((⟨#[c]⟩ : Str) ++ z)) f S = true := by
  have e : tl ((⟨#[c]⟩ : Str) ++ z) = c :: tl z := by rw [tl_app]; rfl
  have hl : ((⟨#[c]⟩ : Str) ++ z).length = 1 + z.length := by rw [Str.length_append]; rfl
  refine name_of (by omega) (by omega) (fun d ds h => ?_) fun d hd => ?_
  · rw [e] at h
    obtain ⟨rfl, _⟩ := List.cons.inj h
    exact hc
  · rw [e] at hd
    rcases List.mem_cons.mp hd with rfl | hd
    · exact hg _ hc
    · exact hs d hd
section
variable {P : Program} {w : World} {K : PySem.W.Frag} {mg : Str → Option Value} {base : Heap}
theorem scRow : FnScope ["_law_deck_here", "_law_signs", "_law_many", "_law_draw", "_law_found", "_law_k"] ["_law_deck_here", "_law_signs", "_law_many"] (defScope s__law_row) := ⟨rfl, rfl, rfl, by decide +kernel, rfl, by decide +kernel, by decide +kernel⟩
theorem c_row (b_len : mg "len" = none) (b_range : mg "range" = none) (NX : C0 P w K mg base 1 "_law_next" spNx) (D : Dn K mg "_law_row" s__law_row) : C0 P w K mg base 2 "_law_row" spRw := by
  obtain ⟨f, fd, F, hmm⟩ := D.ex
  refine ⟨f, fd, ["_law_deck_here", "_law_signs", "_law_many"], F.ok scRow (fun vs H Q E h => ?_) (fun cdv A outer s H vs Q E hr h => ?_), hmm, F.kp, F.binds (ps := ["_law_deck_here", "_law_signs", "_law_many"]) fun _ _ _ _ _ _ us hl => match us, hl with | [_, _, _], _ => rfl⟩
  · obtain ⟨p, l, a, sg, m, rfl, _⟩ := h
    rfl
  obtain ⟨p, l, a, sg, m, rfl, dk, ha, hm0, hm1, hg1, hg2, kq⟩ := h
  refine ⟨_, pss_cons (ps_set (i := 3) scRow.nd rfl (Or.inl rfl) (pe_cc NX hr (by omega) pass0 (pa_cons (pv 0) pa_nil))) <|
    pss_cons (ps_set (i := 4) scRow.nd rfl (Or.inl rfl) pe_str) <|
    pss_cons (ps_for PassesOwn.never rfl (pi_range1 rfl b_range (pa_cons (pv 2) pa_nil)) (pg_name (i := 5) scRow.nd rfl (Or.inl rfl))
      (pss_cons (ps_set (i := 3) scRow.nd rfl (Or.inl rfl) (pe_op op_add (pe_op op_fdiv (pv 3) pe_int) (pe_op op_mul pe_int (pv 5)))) <|
      pss_one (ps_set (i := 4) scRow.nd rfl (Or.inl rfl) (pe_op op_add_str (pv 4) (pe_item_str (pv 1) (pe_op op_mod (pv 3) (pe_callB call_len_str (by rfl) b_len PySem.boot_len (pa_cons (pv 1) pa_nil))) (fun _ _ => rfl)))))) <|
    pss_one (ps_ret (pv 4)), ?_⟩
  refine ⟨_, rfl, p, l, a, rfl, dk, by omega, fun n H1 s1 d1 hn => ?_⟩
  refine ⟨_, rfl, m, rfl, by omega, by omega, ?_⟩
  refine for_range (lo := 0) (n := m.toNat) (fun i σ H' => ∃ (dr : Int) (z : Str) (v5 : Option V), σ = [some (.ref p), some (.str sg), some (.int m), some (.int dr), some (.str z), v5] ∧ H' = H1 ∧ 0 ≤ dr ∧ z.length = i ∧ ∀ c ∈ tl z, c ∈ tl sg) ⟨n, _, none, rfl, rfl, hn, rfl, fun c hc => by cases hc⟩ ?_ ?_
  · rintro i σ H' hi ⟨dr, z, v5, rfl, rfl, hdr, hz, hs⟩
    refine ⟨_, rfl, _, _, rfl, rfl, ⟨by decide, by decide⟩, _, rfl, _, _, rfl, rfl, .inl ⟨by decide, by decide⟩, _, _, rfl, rfl, ?_⟩
    have h3 : 0 ≤ dr / 3 := Int.ediv_nonneg hdr (by decide)
    have h4 : 0 ≤ dr / 3 + 70001 * (0 + ((i : Nat) : Int)) := by omega
    show gName 3 (V.int (dr / 3 + 70001 * (0 + ((i : Nat) : Int)))) _ _ _
    generalize dr / 3 + 70001 * (0 + ((i : Nat) : Int)) = dr2 at h4 ⊢
    obtain ⟨c, hc, hcm, c0, c1⟩ := at_sign (d := dr2) hg1
    refine ⟨_, rfl, _, rfl, _, rfl, _, rfl, sg, rfl, by rw [sizeLine_eq]; omega, _, _, rfl, rfl, (by show (0 : Int) < _; omega), sg, _, c, rfl, rfl, c0, by omega, c1, hc, z, ⟨#[c]⟩, rfl, rfl, by rw [sizeLine_eq]; show z.length + 1 ≤ _; omega, ?_⟩
    refine ⟨dr2, z ++ ⟨#[c]⟩, _, rfl, rfl, h4, by rw [Str.length_append, hz]; rfl, fun d hd => ?_⟩
    rw [tl_app] at hd
    rcases List.mem_append.mp hd with hd | hd
    · exact hs d hd
    · rw [List.mem_singleton.mp (show d ∈ [c] from hd)]
      exact hcm
  · rintro σ H' ⟨dr, z, v5, rfl, rfl, hdr, hz, hs⟩
    exact ⟨_, rfl, kq z _ s1 d1 (by rw [hz]; omega) hs⟩
theorem scSh : FnScope ["_law_deck_here"] ["_law_deck_here"] (defScope s__law_sheet) := ⟨rfl, rfl, rfl, by decide +kernel, rfl, by decide +kernel, by decide +kernel⟩
theorem c_sh (NX : C0 P w K mg base 1 "_law_next" spNx) (RWW : C0 P w K mg base 2 "_law_row" spRw) (D : Dn K mg "_law_sheet" s__law_sheet) : C0 P w K mg base 3 "_law_sheet" (spS 2 fun z => isPage (tl z) = true) := by
  obtain ⟨f, fd, F, hmm⟩ := D.ex
  refine ⟨f, fd, ["_law_deck_here"], F.ok scSh (fun vs H Q E h => ?_) (fun cdv A outer s H vs Q E hr h => ?_), hmm, F.kp, F.binds (ps := ["_law_deck_here"]) fun _ _ _ _ _ _ us hl => match us, hl with | [_], _ => rfl⟩
  · obtain ⟨p, l, a, rfl, _⟩ := h
    rfl
  obtain ⟨p, l, a, rfl, dk, ha, kq⟩ := h
  refine ⟨_, pss_one (ps_ret (pe_cc RWW hr (by omega) pass0 (pa_cons (pv 0) (pa_cons pe_str (pa_cons (pe_op op_add pe_int (pe_op op_mod (pe_cc NX hr (by omega) pass0 (pa_cons (pv 0) pa_nil)) pe_int)) pa_nil))))), ?_⟩
  refine ⟨_, rfl, _, rfl, p, l, a, rfl, dk, by omega, fun n H1 s1 d1 hn => ?_⟩
  have h0 := Int.emod_nonneg n (show (12 : Int) ≠ 0 by decide)
  have h1 := Int.emod_lt_of_pos n (show (0 : Int) < 12 by decide)
  refine ⟨_, _, rfl, rfl, (by show (0 : Int) < 12; decide), _, _, rfl, rfl, p, l, a + 1, _, _, rfl, d1, by omega, by show 0 ≤ 1 + n % 12; omega, by show 1 + n % 12 ≤ 40; omega, by decide +kernel, by decide +kernel, fun z H2 s2 d2 hz hs => kq z H2 (s1.trans s2) d2 ?_⟩
  have hz : ((z.length : Nat) : Int) = 1 + n % 12 := hz
  have e : tl (Str.ofString "abcdefghijklmnopqrstuvwxyz") = SMALL := by decide +kernel
  rw [e] at hs
  exact name_of (by omega) (by omega) (fun c cs h => hs c (by rw [h]; exact List.mem_cons_self)) hs
theorem scKi : FnScope ["_law_deck_here", "_law_great", "_law_signs"] ["_law_deck_here"] (defScope s__law_kind) := ⟨rfl, rfl, rfl, by decide +kernel, rfl, by decide +kernel, by decide +kernel⟩
theorem c_ki (NX : C0 P w K mg base 1 "_law_next" spNx) (RWW : C0 P w K mg base 2 "_law_row" spRw) (D : Dn K mg "_law_kind" s__law_kind) : C0 P w K mg base 3 "_law_kind" (spS 3 fun z => isKindName (tl z) = true) := by
  obtain ⟨f, fd, F, hmm⟩ := D.ex
  refine ⟨f, fd, ["_law_deck_here"], F.ok scKi (fun vs H Q E h => ?_) (fun cdv A outer s H vs Q E hr h => ?_), hmm, F.kp, F.binds (ps := ["_law_deck_here"]) fun _ _ _ _ _ _ us hl => match us, hl with | [_], _ => rfl⟩
  · obtain ⟨p, l, a, rfl, _⟩ := h
    rfl
  obtain ⟨p, l, a, rfl, dk, ha, kq⟩ := h
  refine ⟨_, pss_cons (ps_set (i := 1) scKi.nd rfl (Or.inl rfl) pe_str) <|
    pss_cons (ps_set (i := 2) scKi.nd rfl (Or.inl rfl) (pe_op op_add_str pe_str (pv 1))) <|
    pss_one (ps_ret (pe_op op_add_str (pe_item_str (pv 1) (pe_op op_mod (pe_cc NX hr (by omega) pass0 (pa_cons (pv 0) pa_nil)) pe_int) (fun _ _ => rfl)) (pe_cc RWW hr (by omega) pass0 (pa_cons (pv 0) (pa_cons (pv 2) (pa_cons (pe_op op_mod (pe_cc NX hr (by omega) pass0 (pa_cons (pv 0) pa_nil)) pe_int) pa_nil)))))), ?_⟩
  refine ⟨_, rfl, _, _, rfl, rfl, by rw [sizeLine_eq]; decide +kernel, _, rfl, _, rfl, p, l, a, rfl, dk, by omega, fun n H1 s1 d1 hn => ?_⟩
  obtain ⟨c, hc, hcm, c0, c1⟩ := at_signK (sg := Str.ofString "ABCDEFGHIJKLMNOPQRSTUVWXYZ") (d := n) (k := 26) (by decide +kernel) (by decide)
  have c0 : 0 ≤ n % 26 := c0
  have c1 : n % 26 < 26 := c1
  have lg : (Str.ofString "ABCDEFGHIJKLMNOPQRSTUVWXYZ").length = 26 := by decide +kernel
  refine ⟨_, _, rfl, rfl, (by show (0 : Int) < 26; decide), _, _, c, rfl, rfl, c0, by show n % 26 < _; omega, by show n % 26 < _; rw [lg]; exact c1, hc, ?_⟩
  refine ⟨_, rfl, _, rfl, _, rfl, p, l, a + 1, rfl, d1, by omega, fun m H2 s2 d2 hm => ?_⟩
  have m0 := Int.emod_nonneg m (show (12 : Int) ≠ 0 by decide)
  have m1 := Int.emod_lt_of_pos m (show (0 : Int) < 12 by decide)
  refine ⟨_, _, rfl, rfl, (by show (0 : Int) < 12; decide), p, l, a + 2, _, _, rfl, d2, by omega, m0, by show m % 12 ≤ 40; omega, by decide +kernel, by decide +kernel, fun z H3 s3 d3 hz hs => ?_⟩
  have hz : ((z.length : Nat) : Int) = m % 12 := hz
  refine ⟨_, z, rfl, rfl, by rw [sizeLine_eq]; show 1 + z.length ≤ _; omega, kq _ H3 (s1.trans (s2.trans s3)) d3 ?_⟩
  have e1 : tl (Str.ofString "ABCDEFGHIJKLMNOPQRSTUVWXYZ") = CAPS := by decide +kernel
  have e2 : ∀ d, d ∈ tl (Str.ofString "abcdefghijklmnopqrstuvwxyz0123456789" ++ Str.ofString "ABCDEFGHIJKLMNOPQRSTUVWXYZ") → d ∈ SMALL ++ CAPS ++ FIGS := by decide +kernel
  rw [e1] at hcm
  exact name_cons (g := []) hcm (by decide +kernel) (by omega) fun d hd => e2 d (hs d hd)
theorem kept_q : ∀ k ∈ KEPTs, isFree (tl (cutS k none (some 11) ++ Str.ofString "q")) = true := by decide +kernel
theorem scSma : FnScope ["_law_deck_here", "_law_letters", "_law_word_here", "_law_kept"] ["_law_deck_here"] (defScope s__law_small) := ⟨rfl, rfl, rfl, by decide +kernel, rfl, by decide +kernel, by decide +kernel⟩
theorem c_sma (NX : C0 P w K mg base 1 "_law_next" spNx) (RWW : C0 P w K mg base 2 "_law_row" spRw) (D : Dn K mg "_law_small" s__law_small) : C0 P w K mg base 3 "_law_small" (spS 3 fun z => isFree (tl z) = true) := by
  obtain ⟨f, fd, F, hmm⟩ := D.ex
  refine ⟨f, fd, ["_law_deck_here"], F.ok scSma (fun vs H Q E h => ?_) (fun cdv A outer s H vs Q E hr h => ?_), hmm, F.kp, F.binds (ps := ["_law_deck_here"]) fun _ _ _ _ _ _ us hl => match us, hl with | [_], _ => rfl⟩
  · obtain ⟨p, l, a, rfl, _⟩ := h
    rfl
  obtain ⟨p, l, a, rfl, dk, ha, kq⟩ := h
  refine ⟨_, pss_cons (ps_set (i := 1) scSma.nd rfl (Or.inl rfl) pe_str) <|
    pss_cons (ps_set (i := 2) scSma.nd rfl (Or.inl rfl) (pe_op op_add_str (pe_item_str (pv 1) (pe_op op_mod (pe_cc NX hr (by omega) pass0 (pa_cons (pv 0) pa_nil)) pe_int) (fun _ _ => rfl)) (pe_cc RWW hr (by omega) pass0 (pa_cons (pv 0) (pa_cons (pe_op op_add_str (pv 1) pe_str) (pa_cons (pe_op op_mod (pe_cc NX hr (by omega) pass0 (pa_cons (pv 0) pa_nil)) pe_int) pa_nil)))))) <|
    pss_cons (ps_set (i := 3) scSma.nd rfl (Or.inl rfl) (pe_lst (pa_cons pe_str (pa_cons pe_str (pa_cons pe_str (pa_cons pe_str (pa_cons pe_str (pa_cons pe_str (pa_cons pe_str (pa_cons pe_str (pa_cons pe_str (pa_cons pe_str (pa_cons pe_str (pa_cons pe_str (pa_cons pe_str pa_nil))))))))))))))) <|
    pss_cons (ps_if (pt_cmpR op_in_seq (pv 2) (pe_op op_cat (pv 3) (pe_lst (pa_cons pe_str (pa_cons pe_str (pa_cons pe_str (pa_cons pe_str (pa_cons pe_str (pa_cons pe_str (pa_cons pe_str (pa_cons pe_str (pa_cons pe_str pa_nil))))))))))) (by rfl))
      (pss_one (ps_ret (pe_op op_add_str (pe_slice sl_str (pv 2) po_none (po_some pe_int)) pe_str)))
      (pss_nil)) <|
    pss_one (ps_ret (pv 2)), ?_⟩
  refine ⟨_, rfl, _, rfl, p, l, a, rfl, dk, by omega, fun n H1 s1 d1 hn => ?_⟩
  obtain ⟨c, hc, hcm, c0, c1⟩ := at_signK (sg := Str.ofString "abcdefghijklmnopqrstuvwxyz") (d := n) (k := 26) (by decide +kernel) (by decide)
  have c0 : 0 ≤ n % 26 := c0
  have c1 : n % 26 < 26 := c1
  have lg : (Str.ofString "abcdefghijklmnopqrstuvwxyz").length = 26 := by decide +kernel
  refine ⟨_, _, rfl, rfl, (by show (0 : Int) < 26; decide), _, _, c, rfl, rfl, c0, by show n % 26 < _; omega, by show n % 26 < _; rw [lg]; exact c1, hc, ?_⟩
  refine ⟨_, rfl, _, rfl, _, _, rfl, rfl, by rw [sizeLine_eq]; decide +kernel, _, rfl, p, l, a + 1, rfl, d1, by omega, fun m H2 s2 d2 hm => ?_⟩
  have m0 := Int.emod_nonneg m (show (12 : Int) ≠ 0 by decide)
  have m1 := Int.emod_lt_of_pos m (show (0 : Int) < 12 by decide)
  refine ⟨_, _, rfl, rfl, (by show (0 : Int) < 12; decide), p, l, a + 2, _, _, rfl, d2, by omega, m0, by show m % 12 ≤ 40; omega, by decide +kernel, by decide +kernel, fun z H3 s3 d3 hz hs => ?_⟩
  have hz : ((z.length : Nat) : Int) = m % 12 := hz
  refine ⟨_, z, rfl, rfl, by rw [sizeLine_eq]; show 1 + z.length ≤ _; omega, ?_⟩
  have e1 : tl (Str.ofString "abcdefghijklmnopqrstuvwxyz") = SMALL := by decide +kernel
  have e2 : ∀ d, d ∈ tl (Str.ofString "abcdefghijklmnopqrstuvwxyz" ++ Str.ofString "0123456789") → d ∈ SMALL ++ FIGS := by decide +kernel
  rw [e1] at hcm
  have sm : isSmall (tl ((⟨#[c]⟩ : Str) ++ z)) = true := name_cons (g := []) hcm (by decide +kernel) (by omega) fun d hd => e2 d (hs d hd)
  have wl : ((⟨#[c]⟩ : Str) ++ z).length ≤ 12 := by rw [Str.length_append]; show 1 + z.length ≤ 12; omega
  show gName 2 (V.str ((⟨#[c]⟩ : Str) ++ z)) _ H3 _
  generalize ((⟨#[c]⟩ : Str) ++ z) = wd at sm wl ⊢
  have s13 := s1.trans (s2.trans s3)
  refine ⟨by show 13 ≤ sizeLine; decide, fun k hk => ?_⟩
  have s4 := same_new hk (.lst ((["do", "else", "end", "false", "field", "if", "kind", "method", "more", "new", "none", "raise", "return"] : List String).map fun s => V.str (Str.ofString s)))
  have f4 : upd H3 k (.lst ((["do", "else", "end", "false", "field", "if", "kind", "method", "more", "new", "none", "raise", "return"] : List String).map fun s => V.str (Str.ofString s))) k = some (.lst ((["do", "else", "end", "false", "field", "if", "kind", "method", "more", "new", "none", "raise", "return"] : List String).map fun s => V.str (Str.ofString s))) := upd_same
  show gName 3 (V.ref k) _ (upd H3 k (.lst ((["do", "else", "end", "false", "field", "if", "kind", "method", "more", "new", "none", "raise", "return"] : List String).map fun s => V.str (Str.ofString s)))) _
  generalize upd H3 k (.lst ((["do", "else", "end", "false", "field", "if", "kind", "method", "more", "new", "none", "raise", "return"] : List String).map fun s => V.str (Str.ofString s))) = H4 at s4 f4 ⊢
  refine ⟨_, rfl, _, rfl, by show 9 ≤ sizeLine; decide, fun k2 hk2 => ?_⟩
  have s5 := same_new hk2 (.lst ((["say", "self", "taken", "then", "true", "try", "under", "up", "while"] : List String).map fun s => V.str (Str.ofString s)))
  have f5 : upd H4 k2 (.lst ((["say", "self", "taken", "then", "true", "try", "under", "up", "while"] : List String).map fun s => V.str (Str.ofString s))) k2 = some (.lst ((["say", "self", "taken", "then", "true", "try", "under", "up", "while"] : List String).map fun s => V.str (Str.ofString s))) := upd_same
  refine ⟨k, k2, _, _, rfl, rfl, s5 _ _ f4, f5, by rw [sizeLine_eq]; decide, fun k3 hk3 => ?_⟩
  have s6 := same_new hk3 (.lst ((["do", "else", "end", "false", "field", "if", "kind", "method", "more", "new", "none", "raise", "return"] : List String).map (fun s => V.str (Str.ofString s)) ++ (["say", "self", "taken", "then", "true", "try", "under", "up", "while"] : List String).map fun s => V.str (Str.ofString s)))
  have s46 := s4.trans (s5.trans s6)
  refine ⟨k3, _, rfl, .inl (SqL.of upd_same), rfl, ?_, _, rfl, ?_⟩
  · exact flat_strs KEPTs
  have ei : inV (V.str wd) (["do", "else", "end", "false", "field", "if", "kind", "method", "more", "new", "none", "raise", "return"].map (fun s => V.str (Str.ofString s)) ++ ["say", "self", "taken", "then", "true", "try", "under", "up", "while"].map fun s => V.str (Str.ofString s)) = KEPTs.any fun k => k == wd := inV_strs wd KEPTs
  rw [if_neg Bool.false_ne_true]
  rw [ei]
  refine ite2 (fun c => ?_) (fun c => ?_)
  · refine ⟨_, rfl, 11, rfl, _, rfl, by rw [sizeLine_eq]; omega, _, _, rfl, rfl, ?_, ?_⟩
    · have := cutS_length wd none (some 11)
      rw [sizeLine_eq]
      show (cutS wd none (some 11)).length + 1 ≤ _
      omega
    · obtain ⟨q, hq, e⟩ := List.any_eq_true.mp c
      obtain rfl := eq_of_beq e
      exact kq _ _ (s13.trans (SX.same s46)) (d3.same s46) (kept_q q hq)
  · refine ⟨_, rfl, kq _ _ (s13.trans (SX.same s46)) (d3.same s46) ?_⟩
    show (isSmall (tl wd) && !(KEPTs.any fun k => k == mk (tl wd))) = true
    rw [sm, mk_tl]
    have : (KEPTs.any fun k => k == wd) = false := Bool.eq_false_iff.mpr c
    rw [this]
    rfl
end
end My
set_option Elab.async false
set_option linter.all false
set_option maxRecDepth 100000
set_option maxHeartbeats 4000000
namespace My
open PySem L2 SS
/-! ### messages, worths, texts drawn -/
def spW (n : Nat) (S : V → Prop) : Sp := fun vs H Q _ => ∃ (p l : Addr) (a : Nat), vs = [.ref p] ∧ DkN H p l a ∧ a + n ≤ 100000 ∧ ∀ (v : V) (H' : Hp), SX [p] H H' → DkN H' p l (a + n) → S v → Q v H'
theorem text_of {z : Str} (h1 : z.length ≤ 40) (hs : ∀ c ∈ tl z, c ∈ TEXTS) : isText (tl z) = true := by
  have hl := len_tl z
  unfold isText
  rw [Bool.and_eq_true]
  exact ⟨decide_eq_true (by omega), List.all_eq_true.mpr fun c hc => decide_eq_true (hs c hc)⟩
def TX8 : List String := ["", " ", "kind Main under Thing end", "  more Main end", "sweep", "load page", " forget", "x := 'a"]
section
variable {P : Program} {w : World} {K : PySem.W.Frag} {mg : Str → Option Value} {base : Heap}
theorem scMes : FnScope ["_law_deck_here", "_law_draw"] ["_law_deck_here"] (defScope s__law_message) := ⟨rfl, rfl, rfl, by decide +kernel, rfl, by decide +kernel, by decide +kernel⟩
theorem c_mes (NX : C0 P w K mg base 1 "_law_next" spNx) (SMA : C0 P w K mg base 3 "_law_small" (spS 3 fun z => isFree (tl z) = true)) (D : Dn K mg "_law_message" s__law_message) : C0 P w K mg base 4 "_law_message" (spS 7 fun z => isMsgD (tl z) = true) := by
  obtain ⟨f, fd, F, hmm⟩ := D.ex
  refine ⟨f, fd, ["_law_deck_here"], F.ok scMes (fun vs H Q E h => ?_) (fun cdv A outer s H vs Q E hr h => ?_), hmm, F.kp, F.binds (ps := ["_law_deck_here"]) fun _ _ _ _ _ _ us hl => match us, hl with | [_], _ => rfl⟩
  · obtain ⟨p, l, a, rfl, _⟩ := h
    rfl
  obtain ⟨p, l, a, rfl, dk, ha, kq⟩ := h
  refine ⟨_, pss_cons (ps_set (i := 1) scMes.nd rfl (Or.inl rfl) (pe_cc NX hr (by omega) pass0 (pa_cons (pv 0) pa_nil))) <|
    pss_one (ps_ret (pe_ix (r := rIxL K) ix_list (pe_lst (pa_cons (pe_cc SMA hr (by omega) pass0 (pa_cons (pv 0) pa_nil)) (pa_cons (pe_cc SMA hr (by omega) pass0 (pa_cons (pv 0) pa_nil)) (pa_cons pe_str (pa_cons pe_str (pa_cons pe_str (pa_cons pe_str (pa_cons pe_str (pa_cons pe_str pa_nil))))))))) (pe_op op_mod (pv 1) pe_int) (fun _ _ => rfl))), ?_⟩
  refine ⟨_, rfl, p, l, a, rfl, dk, by omega, fun n H1 s1 d1 hn => ?_⟩
  refine ⟨_, rfl, p, l, a + 1, rfl, d1, by omega, fun z1 H2 s2 d2 f1 => ?_⟩
  refine ⟨_, rfl, p, l, a + 4, rfl, d2, by omega, fun z2 H3 s3 d3 f2 => ?_⟩
  refine ⟨by show 8 ≤ sizeLine; decide, fun k hk => ?_⟩
  obtain ⟨z, hz, hm⟩ := pick (n := 8) (xs := [V.str z1, V.str z2, V.str (Str.ofString "+"), V.str (Str.ofString "-"), V.str (Str.ofString "*"), V.str (Str.ofString "/"), V.str (Str.ofString "<"), V.str (Str.ofString "=")]) rfl (f := V.str) (Pz := fun z => isMsgD (tl z) = true) (by
    intro v hv
    simp only [List.mem_cons, List.not_mem_nil, or_false] at hv
    have fr : ∀ {z : Str}, isFree (tl z) = true → isMsgD (tl z) = true := fun h => by
      unfold isMsgD
      rw [h]
      rfl
    rcases hv with rfl | rfl | rfl | rfl | rfl | rfl | rfl | rfl
    · exact ⟨z1, rfl, fr f1⟩
    · exact ⟨z2, rfl, fr f2⟩
    all_goals exact ⟨_, rfl, by decide +kernel⟩) (d := n % 8) (Int.emod_nonneg _ (by decide)) (Int.emod_lt_of_pos _ (by decide))
  have s4 := same_new hk (.lst [V.str z1, V.str z2, V.str (Str.ofString "+"), V.str (Str.ofString "-"), V.str (Str.ofString "*"), V.str (Str.ofString "/"), V.str (Str.ofString "<"), V.str (Str.ofString "=")])
  exact ⟨_, rfl, _, _, rfl, rfl, (by show (0 : Int) < 8; decide), k, _, _, _, rfl, rfl, SqL.of upd_same, hz, kq z _ (s1.trans (s2.trans (s3.trans (SX.same s4)))) (d3.same s4) hm⟩
theorem scWor : FnScope ["_law_deck_here", "_law_draw", "_law_size", "_law_signs", "_law_some"] ["_law_deck_here"] (defScope s__law_worth) := ⟨rfl, rfl, rfl, by decide +kernel, rfl, by decide +kernel, by decide +kernel⟩
theorem c_wor (NX : C0 P w K mg base 1 "_law_next" spNx) (RWW : C0 P w K mg base 2 "_law_row" spRw) (D : Dn K mg "_law_worth" s__law_worth) : C0 P w K mg base 3 "_law_worth" (spW 2 fun v => okV v = true) := by
  obtain ⟨f, fd, F, hmm⟩ := D.ex
  refine ⟨f, fd, ["_law_deck_here"], F.ok scWor (fun vs H Q E h => ?_) (fun cdv A outer s H vs Q E hr h => ?_), hmm, F.kp, F.binds (ps := ["_law_deck_here"]) fun _ _ _ _ _ _ us hl => match us, hl with | [_], _ => rfl⟩
  · obtain ⟨p, l, a, rfl, _⟩ := h
    rfl
  obtain ⟨p, l, a, rfl, dk, ha, kq⟩ := h
  refine ⟨_, pss_cons (ps_set (i := 1) scWor.nd rfl (Or.inl rfl) (pe_cc NX hr (by omega) pass0 (pa_cons (pv 0) pa_nil))) <|
    pss_cons (ps_set (i := 2) scWor.nd rfl (Or.inl rfl) (pe_op op_fdiv (pv 1) pe_int)) <|
    pss_cons (ps_if (pt_cmpR op_lt (pe_op op_mod (pv 1) pe_int) pe_int (nomark _))
      (pss_cons (ps_set (i := 3) scWor.nd rfl (Or.inl rfl) pe_str) <|
      pss_one (ps_ret (pe_cc RWW hr (by omega) pass0 (pa_cons (pv 0) (pa_cons (pv 3) (pa_cons (pe_ix (r := rIxL K) ix_list (pe_lst (pa_cons pe_int (pa_cons pe_int (pa_cons pe_int (pa_cons pe_int pa_nil))))) (pe_op op_mod (pv 2) pe_int) (fun _ _ => rfl)) pa_nil))))))
      (pss_nil)) <|
    pss_cons (ps_set (i := 4) scWor.nd rfl (Or.inl rfl) (pe_lst (pa_cons pe_non (pa_cons pe_bl (pa_cons pe_bl (pa_cons pe_int (pa_cons (pe_op op_sub (pe_op op_pow pe_int pe_int) pe_int) (pa_cons (pe_op op_sub pe_int (pe_op op_pow pe_int pe_int)) (pa_cons (pe_op op_sub (pe_op op_mod (pv 2) pe_int) pe_int) pa_nil))))))))) <|
    pss_one (ps_ret (pe_ix (r := rIxL K) ix_list (pv 4) (pe_op op_sub (pe_op op_mod (pv 1) pe_int) pe_int) (fun _ _ => rfl))), ?_⟩
  refine ⟨_, rfl, p, l, a, rfl, dk, by omega, fun n H1 s1 d1 hn => ?_⟩
  refine ⟨_, rfl, _, _, rfl, rfl, ⟨by decide, by decide⟩, ?_⟩
  refine ⟨_, rfl, _, _, rfl, rfl, (by show (0 : Int) < 10; decide), _, _, rfl, rfl, _, rfl, ?_⟩
  refine ite2 (fun c => ?_) (fun c => ?_)
  · refine ⟨_, rfl, _, rfl, by show 4 ≤ sizeLine; decide, fun k hk => ?_⟩
    have s2 := same_new hk (.lst [V.int 0, V.int 1, V.int 5, V.int 40])
    obtain ⟨z, hz, hm0, hm1⟩ := pick (n := 4) (xs := [V.int 0, V.int 1, V.int 5, V.int 40]) rfl (f := V.int) (Pz := fun z => 0 ≤ z ∧ z ≤ 40) (by
      intro v hv
      simp only [List.mem_cons, List.not_mem_nil, or_false] at hv
      rcases hv with rfl | rfl | rfl | rfl <;> exact ⟨_, rfl, by decide, by decide⟩) (d := n / 10 % 4) (Int.emod_nonneg _ (by decide)) (Int.emod_lt_of_pos _ (by decide))
    refine ⟨_, rfl, _, _, rfl, rfl, (by show (0 : Int) < 4; decide), k, _, _, _, rfl, rfl, SqL.of upd_same, hz, ?_⟩
    refine ⟨p, l, a + 1, _, z, rfl, d1.same s2, by omega, hm0, hm1, by decide +kernel, by decide +kernel, fun t H3 s3 d3 ht hs => ?_⟩
    refine kq _ H3 (s1.trans ((SX.same s2).trans s3)) d3 ?_
    have e : ∀ d, d ∈ tl (Str.ofString "abcdefghijklmnopqrstuvwxyzABCDEFGHIJKLMNOPQRSTUVWXYZ0123456789_") → d ∈ TEXTS := by decide +kernel
    exact text_of (by omega) fun d hd => e d (hs d hd)
  · have c3 : ¬ n % 10 < 3 := by simpa using c
    have h0 := Int.emod_nonneg n (show (10 : Int) ≠ 0 by decide)
    have h1 := Int.emod_lt_of_pos n (show (0 : Int) < 10 by decide)
    refine ⟨_, _, rfl, rfl, (by unfold CPow; decide), _, _, rfl, rfl, _, _, rfl, rfl, (by unfold CPow; decide), _, _, rfl, rfl, _, rfl, _, _, rfl, rfl, (by show (0 : Int) < 199; decide), _, _, rfl, rfl, by show 7 ≤ sizeLine; decide, fun k hk => ?_⟩
    have s2 := same_new hk (.lst [V.non, V.bl true, V.bl false, V.int 0, V.int (10 ^ Int.toNat 12 - 1), V.int (1 - 10 ^ Int.toNat 12), V.int (n / 10 % 199 - 99)])
    have g0 := Int.emod_nonneg (n / 10) (show (199 : Int) ≠ 0 by decide)
    have g1 := Int.emod_lt_of_pos (n / 10) (show (0 : Int) < 199 by decide)
    obtain ⟨z, hz, hm⟩ := pick (n := 7) (xs := [V.non, V.bl true, V.bl false, V.int 0, V.int (10 ^ Int.toNat 12 - 1), V.int (1 - 10 ^ Int.toNat 12), V.int (n / 10 % 199 - 99)]) rfl (f := id) (Pz := fun v => okV v = true) (by
      intro v hv
      simp only [List.mem_cons, List.not_mem_nil, or_false] at hv
      rcases hv with rfl | rfl | rfl | rfl | rfl | rfl | rfl
      · exact ⟨_, rfl, rfl⟩
      · exact ⟨_, rfl, rfl⟩
      · exact ⟨_, rfl, rfl⟩
      · exact ⟨_, rfl, by decide⟩
      · exact ⟨_, rfl, by decide +kernel⟩
      · exact ⟨_, rfl, by decide +kernel⟩
      · refine ⟨_, rfl, ?_⟩
        show (decide (-1000000000000 < n / 10 % 199 - 99) && decide (n / 10 % 199 - 99 < 1000000000000)) = true
        rw [decide_eq_true (by omega), decide_eq_true (by omega)]
        rfl) (d := n % 10 - 3) (by omega) (by omega)
    show gName 4 (V.ref k) _ (upd H1 k (.lst [V.non, V.bl true, V.bl false, V.int 0, V.int (10 ^ Int.toNat 12 - 1), V.int (1 - 10 ^ Int.toNat 12), V.int (n / 10 % 199 - 99)])) _
    refine ⟨_, rfl, _, rfl, _, _, rfl, rfl, (by show (0 : Int) < 10; decide), _, _, rfl, rfl, k, _, _, z, rfl, rfl, SqL.of upd_same, hz, ?_⟩
    exact kq z _ (s1.trans (SX.same s2)) ((d1.same s2).mono (by omega)) hm
theorem scTex : FnScope ["_law_deck_here", "_law_some", "_law_k"] ["_law_deck_here"] (defScope s__law_text) := ⟨rfl, rfl, rfl, by decide +kernel, rfl, by decide +kernel, by decide +kernel⟩
theorem tx8 : ∀ z ∈ TX8, (Str.ofString z).length ≤ 25 ∧ ∀ c ∈ tl (Str.ofString z), c < 256 := by decide +kernel
theorem join_small {zs : List Str} (h : ∀ z ∈ zs, ∃ s ∈ TX8, z = Str.ofString s) (hl : zs.length ≤ 5) : (Txt.join nl zs).length ≤ 150 ∧ ∀ c ∈ tl (Txt.join nl zs), c < 256 := by
  have hb : ∀ z ∈ zs, z.length ≤ 25 ∧ ∀ c ∈ tl z, c < 256 := fun z hz => by
    obtain ⟨s, hs, rfl⟩ := h z hz
    exact tx8 s hs
  have e : tl (Txt.join nl zs) = TL.joinL [10] (zs.map tl) := by rw [tl_join, nl_tl]
  refine ⟨?_, fun c hc => ?_⟩
  · rw [← len_tl, e]
    cases zs with
    | nil => exact Nat.zero_le _
    | cons z r =>
      have h1 := joinL_sum (y := [10]) rfl ((z :: r).map tl) (by simp)
      have h2 : (((z :: r).map tl).map (·.length)).sum ≤ ((z :: r).map tl).length * 25 := by
        have := sum_le' (m := 25) (ls := ((z :: r).map tl).map (·.length)) fun l hl => by
          obtain ⟨w, hw, rfl⟩ := List.mem_map.mp hl
          obtain ⟨y, hy, rfl⟩ := List.mem_map.mp hw
          show (tl y).length ≤ 25
          rw [len_tl]
          exact (hb y hy).1
        rwa [List.length_map] at this
      rw [List.length_map] at h1 h2
      have : (z :: r).length * 25 ≤ 5 * 25 := Nat.mul_le_mul_right _ hl
      omega
  · rw [e] at hc
    rcases mem_joinL hc with hc | ⟨l, h1, h2⟩
    · rw [List.mem_singleton.mp hc]
      decide
    · obtain ⟨z, hz, rfl⟩ := List.mem_map.mp h1
      exact (hb z hz).2 c h2
theorem c_tex (b_range : mg "range" = none) (NX : C0 P w K mg base 1 "_law_next" spNx) (D : Dn K mg "_law_text" s__law_text) : C0 P w K mg base 2 "_law_text" (spS 6 fun z => z.length ≤ 150 ∧ ∀ c ∈ tl z, c < 256) := by
  obtain ⟨f, fd, F, hmm⟩ := D.ex
  refine ⟨f, fd, ["_law_deck_here"], F.ok scTex (fun vs H Q E h => ?_) (fun cdv A outer s H vs Q E hr h => ?_), hmm, F.kp, F.binds (ps := ["_law_deck_here"]) fun _ _ _ _ _ _ us hl => match us, hl with | [_], _ => rfl⟩
  · obtain ⟨p, l, a, rfl, _⟩ := h
    rfl
  obtain ⟨p, l, a, rfl, dk, ha, kq⟩ := h
  refine ⟨_, pss_cons (ps_set (i := 1) scTex.nd rfl (Or.inr rfl) (pe_lst (pa_cons pe_str (pa_cons pe_str (pa_cons pe_str (pa_cons pe_str (pa_cons pe_str (pa_cons pe_str (pa_cons pe_str (pa_cons pe_str pa_nil)))))))))) <|
    pss_one (ps_ret (pe_join pe_str (pe_lc (own := [("_law_k", 2)]) (g := (gName 2)) (tt := tYes) rfl scTex.nd (pi_range1 rfl b_range (pa_cons (pe_op op_add pe_int (pe_op op_mod (pe_cc NX hr (by omega) pass0 (pa_cons (pv 0) pa_nil)) pe_int)) pa_nil)) (blkOk_by (own := [("_law_k", 2)]) (N := ["_law_deck_here", "_law_some", "_law_k"]) (sc := defScope s__law_text) (by decide +kernel)) (fun _ _ _ _ _ => (pg_name (i := 2) scTex.nd rfl (Or.inl rfl))) (fun _ _ _ _ _ => pts_nil) (fun _ _ _ _ _ => (pe_ix (r := rIxL K) ix_list (pv 1) (pe_op op_mod (pe_cc NX hr (by omega) pass0 (pa_cons (pv 0) pa_nil)) pe_int) (fun _ _ => rfl)))))), ?_⟩
  refine ⟨by show 8 ≤ sizeLine; decide, fun k hk => ?_⟩
  have s1 := same_new hk (.lst (TX8.map fun s => V.str (Str.ofString s)))
  have f1 : upd H k (.lst (TX8.map fun s => V.str (Str.ofString s))) k = some (.lst (TX8.map fun s => V.str (Str.ofString s))) := upd_same
  have d1 := dk.same s1
  have kp := (dk.ne hk).1
  show gName 1 (V.ref k) _ (upd H k (.lst (TX8.map fun s => V.str (Str.ofString s)))) _
  generalize upd H k (.lst (TX8.map fun s => V.str (Str.ofString s))) = H1 at s1 f1 d1 ⊢
  refine ⟨⟨_, rfl⟩, _, rfl, p, l, a, rfl, d1, by omega, fun n H2 s2 d2 hn => ?_⟩
  have n0 := Int.emod_nonneg n (show (5 : Int) ≠ 0 by decide)
  have n1 := Int.emod_lt_of_pos n (show (0 : Int) < 5 by decide)
  refine ⟨_, _, rfl, rfl, (by show (0 : Int) < 5; decide), _, _, rfl, rfl, _, rfl, by show -2 ^ 62 ≤ 1 + n % 5; omega, by show 1 + n % 5 < 2 ^ 62; omega, fun D hD => ?_⟩
  have f2 := s2 _ _ (fun z => kp (List.mem_singleton.mp z)) f1
  have dD := d2.ne hD
  have hH2 : SX [p] H H2 := (SX.same s1).trans s2
  have hDH : H D = none := hH2.free d2.lsts.some hD
  have kD : k ≠ D := fun e => by rw [e, hD] at f2; cases f2
  refine lc_range (lo := 0) (n := (1 + n % 5).toNat) (fun i Hn => SX [p] H Hn ∧ DkN Hn p l (a + 1 + i) ∧ Hn k = some (.lst (TX8.map fun s => V.str (Str.ofString s))) ∧ ∃ zs : List Str, Hn D = some (.lst (zs.map V.str)) ∧ zs.length = i ∧ ∀ z ∈ zs, ∃ s ∈ TX8, z = Str.ofString s) ⟨hH2.late hDH _, d2.set dD _, by rw [upd_ne kD]; exact f2, [], upd_same, rfl, fun _ h => by cases h⟩ ?_ ?_
  · rintro i Hn hi ⟨s3, d3, f3, zs, gD, hl, hz⟩
    refine ⟨rfl, ?_⟩
    unfold tYes
    simp only [if_true]
    refine ⟨_, rfl, _, rfl, p, l, a + 1 + i, rfl, d3, by omega, fun m H4 s4 d4 hm => ?_⟩
    have f4 := s4 _ _ (fun z => kp (List.mem_singleton.mp z)) f3
    have g4 := s4 _ _ (fun z => dD.1 (List.mem_singleton.mp z)) gD
    obtain ⟨z, hz2, hm2⟩ := pick (n := 8) (xs := TX8.map fun s => V.str (Str.ofString s)) rfl (f := V.str) (Pz := fun z => ∃ s ∈ TX8, z = Str.ofString s) (by
      intro v hv
      obtain ⟨s, hs, rfl⟩ := List.mem_map.mp hv
      exact ⟨_, rfl, s, hs, rfl⟩) (d := m % 8) (Int.emod_nonneg _ (by decide)) (Int.emod_lt_of_pos _ (by decide))
    refine ⟨_, _, rfl, rfl, (by show (0 : Int) < 8; decide), k, _, _, _, rfl, rfl, SqL.of f4, hz2, _, g4, by rw [List.length_map, sizeLine_eq]; omega, ?_⟩
    refine ⟨(s3.trans s4).late hDH _, d4.set dD _, by rw [upd_ne kD]; exact f4, zs ++ [z], by rw [upd_same, List.map_append]; rfl, by rw [List.length_append, hl]; rfl, fun y hy => ?_⟩
    rcases List.mem_append.mp hy with hy | hy
    · exact hz y hy
    · rw [List.mem_singleton.mp hy]
      exact hm2
  · rintro Hn ⟨s3, d3, f3, zs, gD, hl, hz⟩
    have l5 : zs.length ≤ 5 := by omega
    have js := join_small hz l5
    have ln : (Str.ofString "\n").length = 1 := by decide +kernel
    refine ⟨_, D, zs, rfl, rfl, .inl (SqL.of gD), ?_, kq _ Hn s3 (d3.mono (by omega)) js⟩
    have : (zs.map (·.length)).sum ≤ zs.length * 25 := by
      have := sum_le' (m := 25) (ls := zs.map (·.length)) fun l hl => by
        obtain ⟨y, hy, rfl⟩ := List.mem_map.mp hl
        obtain ⟨s, hs, rfl⟩ := hz y hy
        exact (tx8 s hs).1
      rwa [List.length_map] at this
    rw [ln]
    omega
end
end My
set_option Elab.async false
set_option linter.all false
set_option maxRecDepth 100000
set_option maxHeartbeats 4000000
namespace My
open PySem L2 SS
/-! ### a comprehension that draws -/
def PvD {α : Type} (H1 : Hp) (p l : Addr) (a c : Nat) (D : Addr) (m : Nat) (b : α → Dt) (ok : α → Prop) : Nat → Hp → Prop := fun i Hn => SX [p] H1 Hn ∧ DkN Hn p l (a + c * i) ∧ (D ≠ p ∧ D ≠ l ∧ H1 D = none) ∧ ∃ (vs : List V) (zs : List α), Hn D = some (.lst vs) ∧ All2 (AtD Hn m) (zs.map b) vs ∧ zs.length = i ∧ ∀ z ∈ zs, ok z
section
variable {α : Type} {H1 Hn H4 : Hp} {p l D : Addr} {a c m i : Nat} {b : α → Dt} {ok : α → Prop} {y : V} {z : α}
theorem lcd_0 (dk : DkN H1 p l a) (hD : H1 D = none) : PvD H1 p l a c D m b ok 0 (upd H1 D (.lst [])) := by
  have ne := dk.ne hD
  exact ⟨SX.same (same_new hD _), by rw [Nat.mul_zero]; exact dk.same (same_new hD _), ⟨ne.1, ne.2, hD⟩, [], [], upd_same, .nil, rfl, fun _ h => by cases h⟩
theorem lcd_s (hnl : ∀ z, ok z → NlD (b z)) (h : PvD H1 p l a c D m b ok i Hn) (s4 : SX [p] Hn H4) (d4 : DkN H4 p l (a + c * i + c)) (hz : ok z) (az : AtD H4 m (b z) y) (hi : i < 1000) : ∃ acc, H4 D = some (.lst acc) ∧ acc.length < sizeLine ∧ PvD H1 p l a c D m b ok (i + 1) (upd H4 D (.lst (acc ++ [y]))) := by
  obtain ⟨s, d, ⟨n1, n2, hD⟩, vs, zs, g, al, hl, hok⟩ := h
  have g4 := s4 _ _ (fun e => n1 (List.mem_singleton.mp e)) g
  have len := al.len
  rw [List.length_map] at len
  have t4 := d.lsts.tups s4
  have t5 := tups_lst (ys := vs ++ [y]) g4
  refine ⟨vs, g4, by rw [sizeLine_eq]; omega, (s.trans s4).late hD _, ?_, ⟨n1, n2, hD⟩, vs ++ [y], zs ++ [z], upd_same, ?_, by rw [List.length_append, hl]; rfl, fun x hx => ?_⟩
  · have e : a + c * (i + 1) = a + c * i + c := by rw [Nat.mul_add, Nat.mul_one]; omega
    rw [e]
    exact d4.set ⟨n1, n2⟩ _
  · rw [List.map_append]
    refine All2.app (al.impM fun x hx y r => AtD.tups t5 (AtD.tups t4 r ?_) ?_) (.cons (AtD.tups t5 az (hnl z hz)) .nil) <;> (obtain ⟨z', hz', rfl⟩ := List.mem_map.mp hx; exact hnl z' (hok z' hz'))
  · rcases List.mem_append.mp hx with hx | hx
    · exact hok x hx
    · rw [List.mem_singleton.mp hx]
      exact hz
end
/-! ### a deed drawn -/
def spDd : Sp := fun vs H Q _ => ∃ (p l : Addr) (a : Nat), vs = [.ref p] ∧ DkN H p l a ∧ a + 40 ≤ 100000 ∧ ∀ (v : V) (H' : Hp) (d : Dd), SX [p] H H' → DkN H' p l (a + 40) → d.ok → AtD H' 4 d.dt v → Q v H'
section
variable {P : Program} {w : World} {K : PySem.W.Frag} {mg : Str → Option Value} {base : Heap}
theorem scDd : FnScope ["_law_deck_here", "_law_draw", "_law_way", "_law_size", "_law_k", "_law_kind_here", "_law_spots", "_law_n"] ["_law_deck_here"] (defScope s__law_deed) := ⟨rfl, rfl, rfl, by decide +kernel, rfl, by decide +kernel, by decide +kernel⟩
theorem thing_kind : isKindName (tl (Str.ofString "Thing")) = true := by decide +kernel
theorem c_dd (b_range : mg "range" = none) (b_tuple : mg "tuple" = none) (NX : C0 P w K mg base 1 "_law_next" spNx) (KI : C0 P w K mg base 3 "_law_kind" (spS 3 fun z => isKindName (tl z) = true)) (MES : C0 P w K mg base 4 "_law_message" (spS 7 fun z => isMsgD (tl z) = true)) (WOR : C0 P w K mg base 3 "_law_worth" (spW 2 fun v => okV v = true)) (SHE : C0 P w K mg base 3 "_law_sheet" (spS 2 fun z => isPage (tl z) = true)) (SMA : C0 P w K mg base 3 "_law_small" (spS 3 fun z => isFree (tl z) = true)) (TEX : C0 P w K mg base 2 "_law_text" (spS 6 fun z => z.length ≤ 150 ∧ ∀ c ∈ tl z, c < 256)) (D : Dn K mg "_law_deed" s__law_deed) : C0 P w K mg base 5 "_law_deed" spDd := by
  obtain ⟨f, fd, F, hmm⟩ := D.ex
  refine ⟨f, fd, ["_law_deck_here"], F.ok scDd (fun vs H Q E h => ?_) (fun cdv A outer s H vs Q E hr h => ?_), hmm, F.kp, F.binds (ps := ["_law_deck_here"]) fun _ _ _ _ _ _ us hl => match us, hl with | [_], _ => rfl⟩
  · obtain ⟨p, l, a, rfl, _⟩ := h
    rfl
  obtain ⟨p, l, a, rfl, dk, ha, kq⟩ := h
  refine ⟨_, pss_cons (ps_set (i := 1) scDd.nd rfl (Or.inl rfl) (pe_cc NX hr (by omega) pass0 (pa_cons (pv 0) pa_nil))) <|
    pss_cons (ps_set (i := 2) scDd.nd rfl (Or.inl rfl) (pe_op op_mod (pv 1) pe_int)) <|
    pss_cons (ps_set (i := 3) scDd.nd rfl (Or.inl rfl) (pe_op op_fdiv (pv 1) pe_int)) <|
    pss_cons (ps_set (i := 4) scDd.nd rfl (Or.inl rfl) (pe_ix (r := rIxL K) ix_list (pe_lst (pa_cons pe_int (pa_cons pe_int (pa_cons (pe_op op_mod (pv 3) pe_int) (pa_cons (pe_op op_pow pe_int pe_int) pa_nil))))) (pe_op op_mod (pv 3) pe_int) (fun _ _ => rfl))) <|
    pss_cons (ps_if (pt_cmpR op_eq (pv 2) pe_int (nomark _))
      (pss_cons (ps_set (i := 5) scDd.nd rfl (Or.inl rfl) (pe_ix (r := rIxL K) ix_list (pe_lst (pa_cons (pe_cc KI hr (by omega) pass0 (pa_cons (pv 0) pa_nil)) (pa_cons pe_non pa_nil))) (pe_op op_mod (pv 3) pe_int) (fun _ _ => rfl))) <|
      pss_one (ps_ret (pe_tup (pa_cons pe_str (pa_cons (pv 5) (pa_cons (pe_cc MES hr (by omega) pass0 (pa_cons (pv 0) pa_nil)) (pa_cons (pe_callTy call_tuple_of (by rfl) b_tuple (by decide +kernel) (pa_cons (pe_lc (own := [("_law_n", 7)]) (g := (gName 7)) (tt := tYes) rfl scDd.nd (pi_range1 rfl b_range (pa_cons (pe_op op_mod (pe_op op_fdiv (pv 3) pe_int) pe_int) pa_nil)) (blkOk_by (own := [("_law_n", 7)]) (N := ["_law_deck_here", "_law_draw", "_law_way", "_law_size", "_law_k", "_law_kind_here", "_law_spots", "_law_n"]) (sc := defScope s__law_deed) (by decide +kernel)) (fun _ _ _ _ _ => (pg_name (i := 7) scDd.nd rfl (Or.inl rfl))) (fun _ _ _ _ _ => pts_nil) (fun _ _ _ _ _ => (pe_cc WOR hr (by omega) pass0 (pa_cons (pv 0) pa_nil)))) pa_nil)) pa_nil)))))))
      (pss_nil)) <|
    pss_cons (ps_if (pt_cmpR op_eq (pv 2) pe_int (nomark _))
      (pss_cons (ps_set (i := 6) scDd.nd rfl (Or.inl rfl) (pe_callTy call_tuple_of (by rfl) b_tuple (by decide +kernel) (pa_cons (pe_lc (own := [("_law_n", 7)]) (g := (gName 7)) (tt := tYes) rfl scDd.nd (pi_range1 rfl b_range (pa_cons (pe_op op_mod (pv 3) pe_int) pa_nil)) (blkOk_by (own := [("_law_n", 7)]) (N := ["_law_deck_here", "_law_draw", "_law_way", "_law_size", "_law_k", "_law_kind_here", "_law_spots", "_law_n"]) (sc := defScope s__law_deed) (by decide +kernel)) (fun _ _ _ _ _ => (pg_name (i := 7) scDd.nd rfl (Or.inl rfl))) (fun _ _ _ _ _ => pts_nil) (fun _ _ _ _ _ => (pe_tup (pa_cons (pe_cc SHE hr (by omega) pass0 (pa_cons (pv 0) pa_nil)) (pa_cons (pe_op op_add pe_int (pe_op op_mod (pe_cc NX hr (by omega) pass0 (pa_cons (pv 0) pa_nil)) pe_int)) pa_nil))))) pa_nil))) <|
      pss_one (ps_ret (pe_tup (pa_cons pe_str (pa_cons (pe_ix (r := rIxL K) ix_list (pe_lst (pa_cons pe_int (pa_cons pe_int (pa_cons pe_int (pa_cons (pe_op op_mod (pv 3) pe_int) pa_nil))))) (pe_op op_mod (pe_op op_fdiv (pv 3) pe_int) pe_int) (fun _ _ => rfl)) (pa_cons (pv 6) pa_nil))))))
      (pss_nil)) <|
    pss_cons (ps_if (pt_cmpR op_eq (pv 2) pe_int (nomark _))
      (pss_one (ps_ret (pe_tup (pa_cons pe_str (pa_cons (pv 4) pa_nil)))))
      (pss_nil)) <|
    pss_cons (ps_if (pt_cmpR op_eq (pv 2) pe_int (nomark _))
      (pss_one (ps_ret (pe_tup (pa_cons pe_str (pa_cons (pv 4) (pa_cons (pe_cc SMA hr (by omega) pass0 (pa_cons (pv 0) pa_nil)) (pa_cons (pe_cc WOR hr (by omega) pass0 (pa_cons (pv 0) pa_nil)) pa_nil)))))))
      (pss_nil)) <|
    pss_cons (ps_if (pt_cmpR op_eq (pv 2) pe_int (nomark _))
      (pss_one (ps_ret (pe_tup (pa_cons pe_str (pa_cons (pe_cc KI hr (by omega) pass0 (pa_cons (pv 0) pa_nil)) (pa_cons (pe_cc MES hr (by omega) pass0 (pa_cons (pv 0) pa_nil)) pa_nil))))))
      (pss_nil)) <|
    pss_cons (ps_if (pt_cmpR op_eq (pv 2) pe_int (nomark _))
      (pss_one (ps_ret (pe_tup (pa_cons pe_str (pa_cons (pe_cc KI hr (by omega) pass0 (pa_cons (pv 0) pa_nil)) (pa_cons (pe_cc SMA hr (by omega) pass0 (pa_cons (pv 0) pa_nil)) (pa_cons (pe_cc WOR hr (by omega) pass0 (pa_cons (pv 0) pa_nil)) pa_nil)))))))
      (pss_nil)) <|
    pss_cons (ps_if (pt_cmpR op_eq (pv 2) pe_int (nomark _))
      (pss_one (ps_ret (pe_tup (pa_cons pe_str (pa_cons (pe_cc KI hr (by omega) pass0 (pa_cons (pv 0) pa_nil)) (pa_cons (pe_cc SMA hr (by omega) pass0 (pa_cons (pv 0) pa_nil)) pa_nil))))))
      (pss_nil)) <|
    pss_cons (ps_if (pt_cmpR op_eq (pv 2) pe_int (nomark _))
      (pss_one (ps_ret (pe_tup (pa_cons pe_str (pa_cons (pe_cc KI hr (by omega) pass0 (pa_cons (pv 0) pa_nil)) (pa_cons (pe_ix (r := rIxL K) ix_list (pe_lst (pa_cons (pe_cc KI hr (by omega) pass0 (pa_cons (pv 0) pa_nil)) (pa_cons pe_str pa_nil))) (pe_op op_mod (pv 3) pe_int) (fun _ _ => rfl)) pa_nil))))))
      (pss_nil)) <|
    pss_cons (ps_if (pt_cmpR op_eq (pv 2) pe_int (nomark _))
      (pss_one (ps_ret (pe_tup (pa_cons pe_str (pa_cons (pe_cc SHE hr (by omega) pass0 (pa_cons (pv 0) pa_nil)) (pa_cons (pe_cc TEX hr (by omega) pass0 (pa_cons (pv 0) pa_nil)) pa_nil))))))
      (pss_nil)) <|
    pss_one (ps_ret (pe_ix (r := rIxL K) ix_list (pe_lst (pa_cons (pe_tup (pa_cons pe_str pa_nil)) (pa_cons (pe_tup (pa_cons pe_str pa_nil)) pa_nil))) (pe_op op_mod (pv 2) pe_int) (fun _ _ => rfl))), ?_⟩
  refine ⟨_, rfl, p, l, a, rfl, dk, by omega, fun n H1 s1 d1 hn => ?_⟩
  refine ⟨_, rfl, _, _, rfl, rfl, (by show (0 : Int) < 11; decide), ?_⟩
  refine ⟨_, rfl, _, _, rfl, rfl, ⟨by decide, by decide⟩, ?_⟩
  have w0 := Int.emod_nonneg n (show (11 : Int) ≠ 0 by decide)
  have w1 := Int.emod_lt_of_pos n (show (0 : Int) < 11 by decide)
  have z0 : 0 ≤ n / 11 := Int.ediv_nonneg hn (by decide)
  show tSeq _ _ _ [some (V.ref p), some (V.int n), some (V.int (n % 11)), some (V.int (n / 11)), none, none, none, none] H1
  generalize n % 11 = way at w0 w1 ⊢
  generalize n / 11 = size at z0 ⊢
  refine ⟨_, rfl, _, _, rfl, rfl, (by show (0 : Int) < 40; decide), _, _, rfl, rfl, (by unfold CPow; decide), by show 4 ≤ sizeLine; decide, fun t ht => ?_⟩
  have s2 := same_new ht (.lst [V.int 0, V.int 1, V.int (size % 40), V.int (10 ^ Int.toNat 11)])
  have q0 := Int.emod_nonneg size (show (40 : Int) ≠ 0 by decide)
  have q1 := Int.emod_lt_of_pos size (show (0 : Int) < 40 by decide)
  obtain ⟨kk, hk, hk0, hk1⟩ := pick (n := 4) (xs := [V.int 0, V.int 1, V.int (size % 40), V.int (10 ^ Int.toNat 11)]) rfl (f := V.int) (Pz := fun z => 0 ≤ z ∧ z ≤ 100000000000) (by
    intro v hv
    simp only [List.mem_cons, List.not_mem_nil, or_false] at hv
    rcases hv with rfl | rfl | rfl | rfl
    · exact ⟨_, rfl, by decide, by decide⟩
    · exact ⟨_, rfl, by decide, by decide⟩
    · exact ⟨_, rfl, by omega, by omega⟩
    · exact ⟨_, rfl, by decide, by decide⟩) (d := size % 4) (Int.emod_nonneg _ (by decide)) (Int.emod_lt_of_pos _ (by decide))
  refine ⟨_, rfl, _, _, rfl, rfl, (by show (0 : Int) < 4; decide), t, _, _, _, rfl, rfl, SqL.of upd_same, hk, ?_⟩
  have s12 := s1.trans (SX.same s2)
  have d2 := d1.same s2
  show gName 4 (V.int kk) _ (upd H1 t (.lst [V.int 0, V.int 1, V.int (size % 40), V.int (10 ^ Int.toNat 11)])) _
  generalize upd H1 t (.lst [V.int 0, V.int 1, V.int (size % 40), V.int (10 ^ Int.toNat 11)]) = H2 at s12 d2 ⊢
  obtain ⟨kn, rfl⟩ := Int.eq_ofNat_of_zero_le hk0
  clear s1 d1 s2 hk ht
  have fin : ∀ {H' : Hp} {d : Dd} {xs : List V} {b : Nat}, SX [p] H H' → DkN H' p l b → b ≤ a + 40 → d.ok → All2 (AtD H' 3) (kS d.hd :: d.rest) xs → xs.length ≤ sizeLine ∧ ∀ t, H' t = none → Q (.ref t) (upd H' t (.tup xs)) := fun {H' d xs b} s dk hb ok al => by
    have len := al.len
    rw [List.length_cons] at len
    have l3 := d.rest_len
    refine ⟨by rw [sizeLine_eq]; omega, fun t ht => kq _ _ d (s.trans (SX.same (same_new ht _))) ((dk.same (same_new ht _)).mono hb) ok ⟨t, xs, rfl, .inl upd_same, by rw [List.length_cons]; omega, al.same (same_new ht _)⟩⟩
  refine ⟨_, rfl, rfl, _, rfl, ?_⟩
  refine ite2 (fun _ => ?_) (fun _ => ?_)
  · refine ⟨_, rfl, p, l, a + 1, rfl, d2, by omega, fun z H3 s3 d3 hz => ?_⟩
    refine ⟨by show 2 ≤ sizeLine; decide, fun t ht => ?_⟩
    have s4 := same_new ht (.lst [V.str z, V.non])
    obtain ⟨ko, hko, hkk⟩ := pick (n := 2) (xs := [V.str z, V.non]) rfl (f := optS) (Pz := fun k => ∀ z, k = some z → isKindName (tl z) = true) (by
      intro v hv
      simp only [List.mem_cons, List.not_mem_nil, or_false] at hv
      rcases hv with rfl | rfl
      · exact ⟨some z, rfl, fun y e => (by cases e; exact hz)⟩
      · exact ⟨none, rfl, fun y e => (by cases e)⟩) (d := size % 2) (Int.emod_nonneg _ (by decide)) (Int.emod_lt_of_pos _ (by decide))
    refine ⟨_, rfl, _, _, rfl, rfl, (by show (0 : Int) < 2; decide), t, _, _, _, rfl, rfl, SqL.of upd_same, hko, ?_⟩
    have s14 := s12.trans (s3.trans (SX.same s4))
    have d4 := d3.same s4
    show gName 5 (optS ko) _ (upd H3 t (.lst [V.str z, V.non])) _
    generalize upd H3 t (.lst [V.str z, V.non]) = H4 at s14 d4 ⊢
    refine ⟨_, rfl, _, rfl, p, l, a + 4, rfl, d4, by omega, fun m H5 s5 d5 hm => ?_⟩
    refine ⟨_, rfl, _, _, rfl, rfl, ⟨by decide, by decide⟩, _, _, rfl, rfl, (by show (0 : Int) < 6; decide), ?_⟩
    have e0 := Int.emod_nonneg (size / 2) (show (6 : Int) ≠ 0 by decide)
    have e1 := Int.emod_lt_of_pos (size / 2) (show (0 : Int) < 6 by decide)
    refine ⟨_, rfl, by show -2 ^ 62 ≤ size / 2 % 6; omega, by show size / 2 % 6 < 2 ^ 62; omega, fun D hD => ?_⟩
    refine lc_range (lo := 0) (n := (size / 2 % 6).toNat) (PvD H5 p l (a + 11) 2 D 2 (fun v => Dt.v v) (fun v => okV v = true)) (lcd_0 d5 hD) ?_ ?_
    · rintro i Hn hi pv
      refine ⟨rfl, ?_⟩
      unfold tYes
      simp only [if_true]
      exact ⟨_, rfl, p, l, a + 11 + 2 * i, rfl, pv.2.1, by omega, fun v H6 s6 d6 hv => lcd_s (fun _ _ => .v) pv s6 d6 hv (atD_v (okV_pln hv)) (by omega)⟩
    · rintro Hn ⟨s6, d6, _, vs, zs, g, al, hl, hok⟩
      have lz := al.len
      rw [List.length_map] at lz
      refine ⟨D, vs, rfl, .inl ⟨SqL.of g, fun t ht => ?_⟩⟩
      have s7 := same_new ht (.tup vs)
      exact fin (d := .begin ko m zs) (s14.trans (s5.trans (s6.trans (SX.same s7)))) (d6.same s7) (by omega) ⟨hkk, hm, hok, by omega⟩ (.cons (atD_v (.str _)) (.cons (by cases ko <;> first | exact atD_v .non | exact atD_v (.str _)) (.cons (atD_v (.str _)) (.cons ⟨t, vs, rfl, .inl upd_same, by rw [List.length_map]; omega, al.same s7⟩ .nil))))
  refine ⟨_, rfl, rfl, _, rfl, ?_⟩
  refine ite2 (fun _ => ?_) (fun _ => ?_)
  · have e0 := Int.emod_nonneg size (show (4 : Int) ≠ 0 by decide)
    have e1 := Int.emod_lt_of_pos size (show (0 : Int) < 4 by decide)
    refine ⟨_, rfl, _, _, rfl, rfl, (by show (0 : Int) < 4; decide), _, rfl, by show -2 ^ 62 ≤ size % 4; omega, by show size % 4 < 2 ^ 62; omega, fun D hD => ?_⟩
    refine lc_range (lo := 0) (n := (size % 4).toNat) (PvD H2 p l (a + 1) 3 D 2 dMark MkOk) (lcd_0 d2 hD) ?_ ?_
    · rintro i Hn hi pv
      refine ⟨rfl, ?_⟩
      unfold tYes
      simp only [if_true]
      refine ⟨_, rfl, p, l, a + 1 + 3 * i, rfl, pv.2.1, by omega, fun z H6 s6 d6 hz => ?_⟩
      refine ⟨_, rfl, p, l, a + 1 + 3 * i + 2, rfl, d6, by omega, fun m H7 s7 d7 hm => ?_⟩
      have m0 := Int.emod_nonneg m (show (300 : Int) ≠ 0 by decide)
      have m1 := Int.emod_lt_of_pos m (show (0 : Int) < 300 by decide)
      refine ⟨_, _, rfl, rfl, (by show (0 : Int) < 300; decide), _, _, rfl, rfl, by show 2 ≤ sizeLine; decide, fun t ht => ?_⟩
      have s8 := same_new ht (.tup [V.str z, V.int (1 + m % 300)])
      refine lcd_s (z := (z, (1 + m % 300).toNat)) (fun q _ => .tup fun x hx => ?_) pv (s6.trans (s7.trans (SX.same s8))) (d7.same s8) ⟨hz, by show 1 ≤ (1 + m % 300).toNat; omega, by show (1 + m % 300).toNat ≤ 300; omega⟩ ⟨t, _, rfl, .inl upd_same, Nat.le_of_ble_eq_true rfl, .cons (atD_v (.str _)) (.cons ?_ .nil)⟩ (by omega)
      · simp only [List.mem_cons, List.not_mem_nil, or_false] at hx
        rcases hx with rfl | rfl <;> exact .v
      · have : (((1 + m % 300).toNat : Nat) : Int) = 1 + m % 300 := by omega
        show AtD _ 1 (.v (.int (((1 + m % 300).toNat : Nat) : Int))) _
        rw [this]
        exact atD_v (.int _)
    · rintro Hn ⟨s6, d6, _, vs, zs, g, al, hl, hok⟩
      have lz := al.len
      rw [List.length_map] at lz
      refine ⟨D, vs, rfl, .inl ⟨SqL.of g, fun t ht => ?_⟩⟩
      have s7 := same_new ht (.tup vs)
      have ft : upd Hn t (.tup vs) t = some (.tup vs) := upd_same
      have al7 := al.same s7
      have s27 := s12.trans (s6.trans (SX.same s7))
      have d7 := d6.same s7
      show gName 6 (V.ref t) _ (upd Hn t (.tup vs)) _
      generalize upd Hn t (.tup vs) = H7 at ft al7 s27 d7 ⊢
      have g0 := Int.emod_nonneg size (show (2001 : Int) ≠ 0 by decide)
      have g1 := Int.emod_lt_of_pos size (show (0 : Int) < 2001 by decide)
      refine ⟨_, rfl, _, _, rfl, rfl, (by show (0 : Int) < 2001; decide), by show 4 ≤ sizeLine; decide, fun t2 ht2 => ?_⟩
      have s8 := same_new ht2 (.lst [V.int 0, V.int 1, V.int 2000, V.int (size % 2001)])
      obtain ⟨b, hb, hb0, hb1⟩ := pick (n := 4) (xs := [V.int 0, V.int 1, V.int 2000, V.int (size % 2001)]) rfl (f := V.int) (Pz := fun z => 0 ≤ z ∧ z ≤ 2000) (by
        intro v hv
        simp only [List.mem_cons, List.not_mem_nil, or_false] at hv
        rcases hv with rfl | rfl | rfl | rfl
        · exact ⟨_, rfl, by decide, by decide⟩
        · exact ⟨_, rfl, by decide, by decide⟩
        · exact ⟨_, rfl, by decide, by decide⟩
        · exact ⟨_, rfl, by omega, by omega⟩) (d := size / 4 % 4) (Int.emod_nonneg _ (by decide)) (Int.emod_lt_of_pos _ (by decide))
      obtain ⟨bn, rfl⟩ := Int.eq_ofNat_of_zero_le hb0
      refine ⟨_, rfl, _, _, rfl, rfl, ⟨by decide, by decide⟩, _, _, rfl, rfl, (by show (0 : Int) < 4; decide), t2, _, _, _, rfl, rfl, SqL.of upd_same, hb, _, rfl, ?_⟩
      exact fin (d := .run bn zs) (s27.trans (SX.same s8)) (d7.same s8) (by omega) ⟨by omega, hok, by omega⟩ (.cons (atD_v (.str _)) (.cons (atD_v (.int _)) (.cons ⟨t, vs, rfl, .inl (s8 _ _ ft), by rw [List.length_map]; omega, al7.same s8⟩ .nil)))
  refine ⟨_, rfl, rfl, _, rfl, ?_⟩
  refine ite2 (fun _ => ?_) (fun _ => ?_)
  · exact ⟨_, rfl, fin (d := .again kn) s12 d2 (by omega) (by show kn ≤ 100000000000; omega) (.cons (atD_v (.str _)) (.cons (atD_v (.int _)) .nil))⟩
  refine ⟨_, rfl, rfl, _, rfl, ?_⟩
  refine ite2 (fun _ => ?_) (fun _ => ?_)
  · refine ⟨_, rfl, _, rfl, p, l, a + 1, rfl, d2, by omega, fun z H3 s3 d3 hz => ?_⟩
    refine ⟨_, rfl, p, l, a + 4, rfl, d3, by omega, fun v H4 s4 d4 hv => ?_⟩
    exact fin (d := .name kn z v) (s12.trans (s3.trans s4)) d4 (by omega) ⟨by omega, hz, hv⟩ (.cons (atD_v (.str _)) (.cons (atD_v (.int _)) (.cons (atD_v (.str _)) (.cons (atD_v (okV_pln hv)) .nil))))
  refine ⟨_, rfl, rfl, _, rfl, ?_⟩
  refine ite2 (fun _ => ?_) (fun _ => ?_)
  · refine ⟨_, rfl, p, l, a + 1, rfl, d2, by omega, fun z H3 s3 d3 hz => ?_⟩
    refine ⟨_, rfl, p, l, a + 4, rfl, d3, by omega, fun v H4 s4 d4 hv => ?_⟩
    exact fin (d := .gone z v) (s12.trans (s3.trans s4)) d4 (by omega) ⟨hz, hv⟩ (.cons (atD_v (.str _)) (.cons (atD_v (.str _)) (.cons (atD_v (.str _)) .nil)))
  refine ⟨_, rfl, rfl, _, rfl, ?_⟩
  refine ite2 (fun _ => ?_) (fun _ => ?_)
  · refine ⟨_, rfl, p, l, a + 1, rfl, d2, by omega, fun z H3 s3 d3 hz => ?_⟩
    refine ⟨_, rfl, p, l, a + 4, rfl, d3, by omega, fun y H4 s4 d4 hy => ?_⟩
    refine ⟨_, rfl, p, l, a + 7, rfl, d4, by omega, fun v H5 s5 d5 hv => ?_⟩
    exact fin (d := .field z y v) (s12.trans (s3.trans (s4.trans s5))) d5 (by omega) ⟨hz, hy, hv⟩ (.cons (atD_v (.str _)) (.cons (atD_v (.str _)) (.cons (atD_v (.str _)) (.cons (atD_v (okV_pln hv)) .nil))))
  refine ⟨_, rfl, rfl, _, rfl, ?_⟩
  refine ite2 (fun _ => ?_) (fun _ => ?_)
  · refine ⟨_, rfl, p, l, a + 1, rfl, d2, by omega, fun z H3 s3 d3 hz => ?_⟩
    refine ⟨_, rfl, p, l, a + 4, rfl, d3, by omega, fun v H4 s4 d4 hv => ?_⟩
    exact fin (d := .lost z v) (s12.trans (s3.trans s4)) d4 (by omega) ⟨hz, hv⟩ (.cons (atD_v (.str _)) (.cons (atD_v (.str _)) (.cons (atD_v (.str _)) .nil)))
  refine ⟨_, rfl, rfl, _, rfl, ?_⟩
  refine ite2 (fun _ => ?_) (fun _ => ?_)
  · refine ⟨_, rfl, p, l, a + 1, rfl, d2, by omega, fun z H3 s3 d3 hz => ?_⟩
    refine ⟨_, rfl, p, l, a + 4, rfl, d3, by omega, fun v H4 s4 d4 hv => ?_⟩
    refine ⟨by show 2 ≤ sizeLine; decide, fun t ht => ?_⟩
    have s5 := same_new ht (.lst [V.str v, V.str (Str.ofString "Thing")])
    obtain ⟨j, hj, hjk⟩ := pick (n := 2) (xs := [V.str v, V.str (Str.ofString "Thing")]) rfl (f := V.str) (Pz := fun z => isKindName (tl z) = true) (by
      intro x hx
      simp only [List.mem_cons, List.not_mem_nil, or_false] at hx
      rcases hx with rfl | rfl
      · exact ⟨_, rfl, hv⟩
      · exact ⟨_, rfl, thing_kind⟩) (d := size % 2) (Int.emod_nonneg _ (by decide)) (Int.emod_lt_of_pos _ (by decide))
    refine ⟨_, rfl, _, _, rfl, rfl, (by show (0 : Int) < 2; decide), t, _, _, _, rfl, rfl, SqL.of upd_same, hj, ?_⟩
    exact fin (d := .under z j) (s12.trans (s3.trans (s4.trans (SX.same s5)))) (d4.same s5) (by omega) ⟨hz, hjk⟩ (.cons (atD_v (.str _)) (.cons (atD_v (.str _)) (.cons (atD_v (.str _)) .nil)))
  refine ⟨_, rfl, rfl, _, rfl, ?_⟩
  refine ite2 (fun _ => ?_) (fun _ => ?_)
  · refine ⟨_, rfl, p, l, a + 1, rfl, d2, by omega, fun z H3 s3 d3 hz => ?_⟩
    refine ⟨_, rfl, p, l, a + 3, rfl, d3, by omega, fun v H4 s4 d4 hv => ?_⟩
    exact fin (d := .load z v) (s12.trans (s3.trans s4)) d4 (by omega) ⟨hz, hv.1, hv.2⟩ (.cons (atD_v (.str _)) (.cons (atD_v (.str _)) (.cons (atD_v (.str _)) .nil)))
  · refine ⟨by show 1 ≤ sizeLine; decide, fun t1 ht1 => ⟨by show 1 ≤ sizeLine; decide, fun t2 ht2 => ⟨by show 2 ≤ sizeLine; decide, fun k hk => ?_⟩⟩⟩
    have s3 := same_new ht1 (.tup [V.str (Str.ofString "sweep")])
    have s4 := same_new ht2 (.tup [V.str (Str.ofString "forget")])
    have s5 := same_new hk (.lst [V.ref t1, V.ref t2])
    obtain ⟨d, hd, hdk⟩ := pick (n := 2) (xs := [V.ref t1, V.ref t2]) rfl (f := fun d : Dd × Addr => V.ref d.2) (Pz := fun d => d.1.ok ∧ AtD (upd (upd (upd H2 t1 (.tup [V.str (Str.ofString "sweep")])) t2 (.tup [V.str (Str.ofString "forget")])) k (.lst [V.ref t1, V.ref t2])) 4 d.1.dt (.ref d.2)) (by
      intro x hx
      simp only [List.mem_cons, List.not_mem_nil, or_false] at hx
      rcases hx with rfl | rfl
      · exact ⟨(.sweep, t1), rfl, trivial, t1, _, rfl, .inl (s5 _ _ (s4 _ _ upd_same)), Nat.le_of_ble_eq_true rfl, .cons (atD_v (.str _)) .nil⟩
      · exact ⟨(.forget, t2), rfl, trivial, t2, _, rfl, .inl (s5 _ _ upd_same), Nat.le_of_ble_eq_true rfl, .cons (atD_v (.str _)) .nil⟩) (d := way % 2) (Int.emod_nonneg _ (by decide)) (Int.emod_lt_of_pos _ (by decide))
    have s35 := s3.trans (s4.trans s5)
    exact ⟨_, rfl, _, _, rfl, rfl, (by show (0 : Int) < 2; decide), k, _, _, _, rfl, rfl, SqL.of upd_same, hd, kq _ _ d.1 (s12.trans (SX.same s35)) ((d2.same s35).mono (by omega)) hdk.1 hdk.2⟩
end
end My
set_option Elab.async false
set_option linter.all false
set_option maxRecDepth 100000
set_option maxHeartbeats 4000000
namespace My
open PySem L2 SS
/-! ### what the law writes of a deed -/
theorem evd_strA {te : TE} {σ : L2.St} {H : Hp} {n m : Nat} {v : V} (h : EvD te σ H n (.v v)) (hi : ∀ i, v = .int i → i.natAbs.log2 < 1920) : EvD (tCB (fun xs H Q => ∃ v, xs = [v] ∧ Pln v ∧ (∀ i, v = .int i → i.natAbs.log2 < 1920) ∧ Q (.str (strV v)) H) (tCons te tNil)) σ H m (.v (.str (strV v))) := fun H1 s1 Q q => h H1 s1 _ fun u H2 s2 r => by
  obtain ⟨rfl, hp⟩ := atD_pl r
  exact ⟨u, rfl, hp, hi, q _ H2 s2 (atD_v (.str _))⟩
theorem evd_lower {te : TE} {σ : L2.St} {H : Hp} {n m : Nat} {z : Str} (h : EvD te σ H n (tS z)) (hz : z.length ≤ 100000) : EvD (tM0 (fun x xs H Q => ∃ a, x = .str a ∧ xs = [] ∧ a.length ≤ 5592405 ∧ Q (.str (Txt.lower a)) H) te) σ H m (tS (Txt.lower z)) := fun H1 s1 Q q => h H1 s1 _ fun u H2 s2 r => by
  obtain ⟨rfl, hp⟩ := atD_pl r
  exact ⟨⟨_, rfl⟩, z, rfl, rfl, by omega, q _ H2 s2 (atD_v (.str _))⟩
theorem quote_add (z : Str) : Str.ofString "'" ++ z = mk (39 :: tl z) := by
  apply TL.ext_tl
  show tl (Str.ofString "'" ++ z) = 39 :: tl z
  rw [tl_app]
  rfl
theorem flat_one (r : Str) : flatS [r] = r ++ Str.ofString "\n" := by
  apply TL.ext_tl
  show flatT [r] = tl (r ++ Str.ofString "\n")
  rw [tl_app, flat_cons]
  rfl
theorem flat_nl {rs : List Str} (h : rs ≠ []) : Txt.join (Str.ofString "\n") rs ++ Str.ofString "\n" = flatS rs := by
  apply TL.ext_tl
  show tl (Txt.join nl rs ++ nl) = flatT rs
  rw [tl_app, tl_join, nl_tl, flat_join, List.map_append]
  show TL.joinL [10] (rs.map tl) ++ [10] = TL.joinL [10] (rs.map tl ++ [tl Str.empty])
  rw [joinL_app _ _ _ (by simpa using h)]
  rfl
theorem add_assoc (a b c : Str) : a ++ b ++ c = a ++ (b ++ c) := by
  apply TL.ext_tl
  show tl (a ++ b ++ c) = tl (a ++ (b ++ c))
  rw [tl_app, tl_app, tl_app, tl_app, List.append_assoc]
theorem hd_blank (s t : String) (h : Str.ofString t = Str.ofString s ++ Str.ofString " ") (a : Str) (ws : List Str) : Txt.join (Str.ofString " ") ((Str.ofString t ++ a) :: ws) = Txt.join (Str.ofString " ") (Str.ofString s :: a :: ws) := by
  rw [h, join_two]
section
variable {P : Program} {w : World} {K : PySem.W.Frag} {mg : Str → Option Value} {base : Heap}
theorem scLw : FnScope ["_law_thing"] ["_law_thing"] (defScope s__law_word) := ⟨rfl, rfl, rfl, by decide +kernel, rfl, by decide +kernel, by decide +kernel⟩
theorem c_lw (b_isinstance : mg "isinstance" = none) (b_str : mg "str" = none) (b_bool : mg "bool" = none) (b_int : mg "int" = none) (D : Dn K mg "_law_word" s__law_word) : C0 P w K mg base 1 "_law_word" (spR 9 0 rWw) := by
  obtain ⟨f, fd, F, hmm⟩ := D.ex
  refine ⟨f, fd, ["_law_thing"], F.ok scLw (fun vs H Q E h => ?_) (fun cdv A outer s H vs Q E hr h => ?_), hmm, F.kp, F.binds (ps := ["_law_thing"]) fun _ _ _ _ _ _ us hl => match us, hl with | [_], _ => rfl⟩
  · obtain ⟨ds, d, al, ⟨i, rfl, _⟩, _⟩ := h
    exact al.len.symm
  obtain ⟨ds, d, al, ⟨v, rfl, hv, rfl⟩, kq⟩ := h
  obtain ⟨v', rfl, a1⟩ := all2_1 al
  obtain ⟨rfl, _⟩ := atD_pl a1
  refine ⟨_, pss_cons (ps_if (pt_cmpR op_isN (pv 0) pe_non (nomark _))
      (pss_one (ps_ret pe_str))
      (pss_nil)) <|
    pss_cons (ps_if (pt_val (pe_callB (r := rIsi K) (id := "isinstance") call_isi (by rfl) b_isinstance (by decide +kernel) (pa_cons (pv 0) (pa_cons (pe_bltn (v := .ty "bool") (by rfl) b_bool (by decide +kernel) rfl) pa_nil))))
      (pss_one (ps_ret (pe_lower (pe_callTy call_strA (by rfl) b_str (by decide +kernel) (pa_cons (pv 0) pa_nil)))))
      (pss_nil)) <|
    pss_cons (ps_if (pt_val (pe_callB (r := rIsi K) (id := "isinstance") call_isi (by rfl) b_isinstance (by decide +kernel) (pa_cons (pv 0) (pa_cons (pe_bltn (v := .ty "int") (by rfl) b_int (by decide +kernel) rfl) pa_nil))))
      (pss_one (ps_ret (pe_callTy call_strA (by rfl) b_str (by decide +kernel) (pa_cons (pv 0) pa_nil))))
      (pss_nil)) <|
    pss_one (ps_ret (pe_op op_add_str pe_str (pv 0))), ?_⟩
  have v0 : ∀ {σ : L2.St} {H : Hp}, σ[0]? = some (some v') → EvD (tVar 0) σ H 0 (.v v') := fun h => evd_var h (atD_v (okV_pln hv))
  cases v' with
  | non => exact EvR.go (evr_ifT (evt_as (evt_t (evd_isN (m := 0) (v0 rfl))) rfl) (evr_ret (evd_c (.str _)))) kq
  | bl b =>
    refine EvR.go (evr_ifF (evt_as (evt_t (evd_isN (m := 0) (v0 rfl))) rfl) (evr_ifT (evt_b (evd_isi (m := 0) (v0 rfl) (.inl rfl))) (evr_ret (evd_to (evd_lower (n := 0) (evd_strA (v0 rfl) fun i e => (by cases e)) ?_) ?_)))) kq
    · cases b <;> decide +kernel
    · cases b
      · have : Txt.lower (strV (.bl false)) = wordV (.bl false) := by decide +kernel
        rw [this]
      · have : Txt.lower (strV (.bl true)) = wordV (.bl true) := by decide +kernel
        rw [this]
  | int i => exact EvR.go (evr_ifF (evt_as (evt_t (evd_isN (m := 0) (v0 rfl))) rfl) (evr_ifF (evt_b (evd_isi (m := 0) (v0 rfl) (.inl rfl))) (evr_ifT (evt_b (evd_isi (m := 0) (v0 rfl) (.inr (.inl rfl)))) (evr_ret (evd_strA (v0 rfl) fun j e => (by cases e; exact int_log (okV_int hv))))))) kq
  | str z =>
    have wl := (wd_V hv).len
    have e : wordV (.str z) = Str.ofString "'" ++ z := (quote_add z).symm
    refine EvR.go (evr_ifF (evt_as (evt_t (evd_isN (m := 0) (v0 rfl))) rfl) (evr_ifF (evt_b (evd_isi (m := 0) (v0 rfl) (.inl rfl))) (evr_ifF (evt_b (evd_isi (m := 0) (v0 rfl) (.inr (.inl rfl)))) (evr_ret (evd_to (evd_addS (evd_c (.str _)) (v0 rfl) ?_) ?_))))) kq
    · rw [← e]
      omega
    · rw [← e]
  | _ => cases hv
theorem scTo : FnScope ["_law_deed_here", "_law_word_here", "_law_head", "_law_rows", "_law_worth_here", "_law_page", "_law_row_here", "_law_part"] ["_law_deed_here"] (defScope s__law_told) := ⟨rfl, rfl, rfl, by decide +kernel, rfl, by decide +kernel, by decide +kernel⟩
theorem c_to (b_str : mg "str" = none) (LW : C0 P w K mg base 1 "_law_word" (spR 9 0 rWw)) (D : Dn K mg "_law_told" s__law_told) : C0 P w K mg base 2 "_law_told" (spR 9 0 rDt) := by
  obtain ⟨f, fd, F, hmm⟩ := D.ex
  refine ⟨f, fd, ["_law_deed_here"], F.ok scTo (fun vs H Q E h => ?_) (fun cdv A outer s H vs Q E hr h => ?_), hmm, F.kp, F.binds (ps := ["_law_deed_here"]) fun _ _ _ _ _ _ us hl => match us, hl with | [_], _ => rfl⟩
  · obtain ⟨ds, d, al, ⟨d, rfl, _⟩, _⟩ := h
    exact al.len.symm
  obtain ⟨ds, x, al, ⟨d, rfl, ok, rfl⟩, kq⟩ := h
  obtain ⟨v, rfl, a1⟩ := all2_1 al
  refine ⟨_, pss_cons (ps_set (i := 1) scTo.nd rfl (Or.inl rfl) (pe_ix (r := rIxT K) ix_tup (pv 0) pe_int (fun _ _ => rfl))) <|
    pss_cons (ps_if (pt_cmpR op_eq (pv 1) pe_str (nomark _))
      (pss_cons (ps_set (i := 2) scTo.nd rfl (Or.inl rfl) (pe_op op_add_str (pe_op op_add_str (pe_op op_add_str pe_str (pe_callTy call_strA (by rfl) b_str (by decide +kernel) (pa_cons (pe_ix (r := rIxT K) ix_tup (pv 0) pe_int (fun _ _ => rfl)) pa_nil))) pe_str) (pe_ix (r := rIxT K) ix_tup (pv 0) pe_int (fun _ _ => rfl)))) <|
      pss_cons (ps_if (pt_cmpR op_isN (pe_ix (r := rIxT K) ix_tup (pv 0) pe_int (fun _ _ => rfl)) pe_non (nomark _))
        (pss_one (ps_set (i := 2) scTo.nd rfl (Or.inl rfl) (pe_op op_add_str pe_str (pe_ix (r := rIxT K) ix_tup (pv 0) pe_int (fun _ _ => rfl)))))
        (pss_nil)) <|
      pss_one (ps_ret (pe_op op_add_str (pe_join pe_str (pe_op op_cat (pe_lst (pa_cons (pv 2) pa_nil)) (pe_lc (own := [("_law_worth_here", 4)]) (g := (gName 4)) (tt := tYes) rfl scTo.nd (pi_tup (pe_ix (r := rIxT K) ix_tup (pv 0) pe_int (fun _ _ => rfl))) (blkOk_by (own := [("_law_worth_here", 4)]) (N := ["_law_deed_here", "_law_word_here", "_law_head", "_law_rows", "_law_worth_here", "_law_page", "_law_row_here", "_law_part"]) (sc := defScope s__law_told) (by decide +kernel)) (fun _ _ _ _ _ => (pg_name (i := 4) scTo.nd rfl (Or.inl rfl))) (fun _ _ _ _ _ => pts_nil) (fun _ _ _ _ _ => (pe_cc LW hr (by omega) pass0 (pa_cons (pv 4) pa_nil)))))) pe_str)))
      (pss_nil)) <|
    pss_cons (ps_if (pt_cmpR op_eq (pv 1) pe_str (nomark _))
      (pss_one (ps_ret (pe_op op_add_str (pe_join pe_str (pe_op op_cat (pe_lst (pa_cons (pe_op op_add_str pe_str (pe_callTy call_strA (by rfl) b_str (by decide +kernel) (pa_cons (pe_ix (r := rIxT K) ix_tup (pv 0) pe_int (fun _ _ => rfl)) pa_nil))) pa_nil)) (pe_lc (own := [("_law_page", 5), ("_law_row_here", 6)]) (g := (gTup K 2 (gCons (gName 5) (gCons (gName 6) gNil)))) (tt := tYes) rfl scTo.nd (pi_tup (pe_ix (r := rIxT K) ix_tup (pv 0) pe_int (fun _ _ => rfl))) (blkOk_by (own := [("_law_page", 5), ("_law_row_here", 6)]) (N := ["_law_deed_here", "_law_word_here", "_law_head", "_law_rows", "_law_worth_here", "_law_page", "_law_row_here", "_law_part"]) (sc := defScope s__law_told) (by decide +kernel)) (fun _ _ _ _ _ => (pg_tup (by rfl) (pgs_cons (pg_name (i := 5) scTo.nd rfl (Or.inl rfl)) (pgs_cons (pg_name (i := 6) scTo.nd rfl (Or.inl rfl)) pgs_nil)))) (fun _ _ _ _ _ => pts_nil) (fun _ _ _ _ _ => (pe_op op_add_str (pe_op op_add_str (pv 5) pe_str) (pe_callTy call_strA (by rfl) b_str (by decide +kernel) (pa_cons (pv 6) pa_nil))))))) pe_str)))
      (pss_nil)) <|
    pss_cons (ps_if (pt_cmpR op_in_seq (pv 1) (pe_tup (pa_cons pe_str (pa_cons pe_str pa_nil))) (by rfl))
      (pss_one (ps_ret (pe_op op_add_str (pe_join pe_str (pe_lst (pa_cons (pv 1) (pa_cons (pe_callTy call_strA (by rfl) b_str (by decide +kernel) (pa_cons (pe_ix (r := rIxT K) ix_tup (pv 0) pe_int (fun _ _ => rfl)) pa_nil)) (pa_cons (pe_ix (r := rIxT K) ix_tup (pv 0) pe_int (fun _ _ => rfl)) (pa_cons (pe_cc LW hr (by omega) pass0 (pa_cons (pe_ix (r := rIxT K) ix_tup (pv 0) pe_int (fun _ _ => rfl)) pa_nil)) pa_nil)))))) pe_str)))
      (pss_nil)) <|
    pss_cons (ps_if (pt_cmpR op_eq (pv 1) pe_str (nomark _))
      (pss_cons (ps_setLc (i := 3) (own := [("_law_row_here", 6)]) (g := (gName 6)) (by rfl) scTo.nd rfl rfl (sw_true rfl rfl rfl (by decide +kernel)) (pi_list (pe_split (pe_ix (r := rIxT K) ix_tup (pv 0) pe_int (fun _ _ => rfl)) pe_str)) (blkOk_by (own := [("_law_row_here", 6)]) (N := ["_law_deed_here", "_law_word_here", "_law_head", "_law_rows", "_law_worth_here", "_law_page", "_law_row_here", "_law_part"]) (sc := defScope s__law_told) (by decide +kernel)) (fun _ _ _ _ _ => (pg_name (i := 6) scTo.nd rfl (Or.inl rfl))) (fun _ _ _ _ _ => pts_nil) (fun _ _ _ _ _ => (pe_op op_add_str pe_str (pv 6)))) <|
      pss_one (ps_ret (pe_op op_add_str (pe_join pe_str (pe_op op_cat (pe_lst (pa_cons (pe_op op_add_str pe_str (pe_ix (r := rIxT K) ix_tup (pv 0) pe_int (fun _ _ => rfl))) pa_nil)) (pv 3))) pe_str)))
      (pss_nil)) <|
    pss_one (ps_ret (pe_op op_add_str (pe_join pe_str (pe_lc (own := [("_law_part", 7)]) (g := (gName 7)) (tt := tYes) rfl scTo.nd (pi_tup (pv 0)) (blkOk_by (own := [("_law_part", 7)]) (N := ["_law_deed_here", "_law_word_here", "_law_head", "_law_rows", "_law_worth_here", "_law_page", "_law_row_here", "_law_part"]) (sc := defScope s__law_told) (by decide +kernel)) (fun _ _ _ _ _ => (pg_name (i := 7) scTo.nd rfl (Or.inl rfl))) (fun _ _ _ _ _ => pts_nil) (fun _ _ _ _ _ => (pe_callTy call_strA (by rfl) b_str (by decide +kernel) (pa_cons (pv 7) pa_nil))))) pe_str)), ?_⟩
  have vt : ∀ {σ : L2.St} {H' : Hp}, Same H H' → σ[0]? = some (some v) → EvD (tVar 0) σ H' 9 d.dt := fun s h => evd_var h (a1.same s)
  have ix : ∀ {σ : L2.St} {H' : Hp} {i : Nat} {x : Dt}, Same H H' → σ[0]? = some (some v) → (kS d.hd :: d.rest)[i]? = some x → EvD (tOp (rIxT K) (tVar 0) (tC (.int ((i : Nat) : Int)))) σ H' 8 x := fun s h e => evd_ixT (K := K) (n := 8) (ds := kS d.hd :: d.rest) (vt s h) (evd_c (.int _)) (atI_nat e)
  have ixv : ∀ {σ : L2.St} {H' : Hp} {i n : Nat} {y : V}, Same H H' → σ[0]? = some (some v) → (kS d.hd :: d.rest)[i]? = some (.v y) → EvD (tOp (rIxT K) (tVar 0) (tC (.int ((i : Nat) : Int)))) σ H' n (.v y) := fun s h e H1 s1 Q q => ix s h e H1 s1 Q fun u H2 s2 r => by
    obtain ⟨rfl, hp⟩ := atD_pl r
    exact q _ H2 s2 (atD_v hp)
  have s0 := Same.refl H
  have rlen := Dd.row_len ok
  refine EvR.go (n := 0) (d := tS (flatS d.rows)) (evr_asg (m := 0) (e := kS d.hd) (ixv (i := 0) s0 rfl rfl) fun u H1 s1 r1 => ?_) kq
  obtain ⟨rfl, _⟩ := atD_pl r1
  have v1 : ∀ {σ : L2.St} {H : Hp} {n : Nat}, σ[1]? = some (some (V.str (Str.ofString d.hd))) → EvD (tVar 1) σ H n (kS d.hd) := fun h => evd_var h (atD_v (.str _))
  have eqt : ∀ {σ : L2.St} {H : Hp} {b : Bool} (z : String), σ[1]? = some (some (V.str (Str.ofString d.hd))) → decide (V.str (Str.ofString d.hd) = V.str (Str.ofString z)) = b → EvT (tTest (tOp rEq (tVar 1) (tC (.str (Str.ofString z))))) σ H b := fun z h e => evt_as (evt_t (evd_eqS (n := 0) (v1 h) (evd_c (.str _)))) e
  have nf : ∀ {σ : L2.St} {H : Hp}, EvD (tTup (tCons (tC (.str (Str.ofString "name"))) (tCons (tC (.str (Str.ofString "field"))) tNil))) σ H 1 (.tup ([Str.ofString "name", Str.ofString "field"].map tS)) := evd_tup (evds_cons (evd_c (.str _)) (evds_cons (evd_c (.str _)) evds_nil)) (Nat.le_of_ble_eq_true rfl)
  -- a row of these words, ended
  have fin : ∀ {te : TE} {σ : L2.St} {H : Hp} {zs : List Str}, d.more = [] → EvD te σ H 1 (.lst (zs.map tS)) → Txt.join (Str.ofString " ") zs = d.row → (zs.map (·.length)).sum + zs.length ≤ 1000 → EvR (L2.tRet (tOp (fun x y H Q => ∃ i j, x = .str i ∧ y = .str j ∧ i.length + j.length ≤ sizeLine ∧ Q (.str (i ++ j)) H) (tM1 (fun x xs H Q => ∃ a p, ∃ ys : List Str, x = .str a ∧ xs = [.ref p] ∧ (SqL K H p (ys.map V.str) ∨ SqT K H p (ys.map V.str)) ∧ (ys.map (·.length)).sum + ys.length * a.length ≤ 16777216 ∧ Q (.str (Txt.join a ys)) H) (tC (.str (Str.ofString " "))) te) (tC (.str (Str.ofString "\n"))))) σ H 0 (tS (flatS d.rows)) := fun hm h e hl => by
    have l1 : (Str.ofString " ").length = 1 := by decide +kernel
    have l2 : (Str.ofString "\n").length = 1 := by decide +kernel
    refine evr_ret (evd_to (evd_addS (evd_join (K := K) (n := 0) (evd_c (.str _)) h (by rw [l1]; omega)) (evd_c (.str _)) ?_) ?_)
    · rw [e, Str.length_append, l2]
      omega
    · rw [e, ← flat_one]
      show tS (flatS [d.row]) = tS (flatS (d.row :: d.more))
      rw [hm]
  cases d with
  | begin k m ws =>
    have pm := (wd_msg ok.2.1).len
    have pk : (strV (optS k)).length ≤ 41 := by
      cases k with
      | none => decide +kernel
      | some z => exact (wd_kind (ok.1 z rfl)).len
    have b6 : (Str.ofString "begin ").length = 6 := by decide +kernel
    have b8 : (Str.ofString "begin - ").length = 8 := by decide +kernel
    have b1 : (Str.ofString " ").length = 1 := by decide +kernel
    refine evr_ifT (eqt "begin" rfl (show decide (V.str (Str.ofString "begin") = V.str (Str.ofString "begin")) = true by decide +kernel)) (evr_asg (m := 0) (e := tS (Str.ofString "begin " ++ strV (optS k) ++ Str.ofString " " ++ m)) (evd_addS (evd_addS (evd_addS (evd_c (.str _)) (evd_strA (n := 0) (ixv (i := 1) s1 rfl rfl) fun i e => (by cases k <;> cases e)) ?_) (evd_c (.str _)) ?_) (ixv (i := 2) s1 rfl rfl) ?_) fun u H2 s2 r2 => ?_)
    · rw [Str.length_append, b6]; omega
    · rw [Str.length_append, Str.length_append, b6, b1]; omega
    · rw [Str.length_append, Str.length_append, Str.length_append, b6, b1]; omega
    obtain ⟨rfl, _⟩ := atD_pl r2
    have s02 := s1.trans s2
    refine evr_ifN (Pt := fun σ' H' => ∃ hd : Str, σ' = [some v, some (.str (Str.ofString "begin")), some (.str hd), none, none, none, none, none] ∧ hd = Str.ofString "begin " ++ k.getD (Str.ofString "-") ++ Str.ofString " " ++ m) (c := decide (optS k = .non)) (evt_as (evt_t (evd_isN (m := 0) (n := 0) (ixv (i := 1) s02 rfl rfl))) (by cases k <;> rfl)) (fun c => evn_asg (m := 0) (e := tS (Str.ofString "begin - " ++ m)) (evd_addS (evd_c (.str _)) (ixv (i := 2) s02 rfl rfl) ?_) fun u H3 s3 r3 => ?_) (fun c H3 s3 D q => q _ H3 (Same.refl _) ⟨_, rfl, ?_⟩) fun σ' H3 s3 ⟨hd, e, eh⟩ => ?_
    · rw [Str.length_append, b8]; omega
    · obtain ⟨rfl, _⟩ := atD_pl r3
      refine ⟨_, rfl, ?_⟩
      have : k = none := by
        cases k with
        | none => rfl
        | some z => exact absurd (of_decide_eq_true c) (by intro z; cases z)
      subst this
      show Str.ofString "begin - " ++ m = Str.ofString "begin " ++ Str.ofString "-" ++ Str.ofString " " ++ m
      have : Str.ofString "begin " ++ Str.ofString "-" ++ Str.ofString " " = Str.ofString "begin - " := by decide +kernel
      rw [this]
    · cases k with
      | none => exact absurd c (by decide)
      | some z => rfl
    · subst e
      have s03 := s02.trans s3
      refine fin (zs := hd :: ws.map wordV) rfl (evd_to (evd_cat (n := 0) (evd_lst (evds_cons (d := tS hd) (evd_var rfl (atD_v (.str _))) evds_nil) (Nat.le_of_ble_eq_true rfl)) (evd_lcAT (K := K) (as := ws) (a := fun v => Dt.v v) (b := fun v => tS (wordV v)) (m := 7) (ix (i := 3) s03 rfl rfl) (tg_one (fun _ => rfl) fun z hz x H4 s4 ax => evd_r (evds_cons (evd_var rfl (ax.mono (by decide))) evds_nil) ⟨z, rfl, ok.2.2.1 z hz, rfl⟩) fun _ _ => .v) ?_) ?_) ?_ ?_
      · have := ok.2.2.2
        simp only [List.length_cons, List.length_map, List.length_nil]
        omega
      · rw [List.map_cons, List.map_map]
        rfl
      · show _ = Txt.join (Str.ofString " ") (Str.ofString "begin" :: k.getD (Str.ofString "-") :: m :: ws.map wordV)
        have e6 : Str.ofString "begin " = Str.ofString "begin" ++ Str.ofString " " := by decide +kernel
        rw [join_two, join_two, eh, e6]
      · have h1 := rlen.2
        rw [eh]
        have e7 : (Str.ofString (Dd.begin k m ws).hd).length = 5 := by show (Str.ofString "begin").length = 5; decide +kernel
        have e8 : ((Str.ofString (Dd.begin k m ws).hd :: (Dd.begin k m ws).ws).map (·.length)).sum = 5 + ((k.getD (Str.ofString "-")).length + (m.length + ((ws.map wordV).map (·.length)).sum)) := by
          show ((Str.ofString (Dd.begin k m ws).hd :: k.getD (Str.ofString "-") :: m :: ws.map wordV).map (·.length)).sum = _
          rw [List.map_cons, List.map_cons, List.map_cons, List.sum_cons, List.sum_cons, List.sum_cons, e7]
        have e9 : (Str.ofString (Dd.begin k m ws).hd :: (Dd.begin k m ws).ws).length = 3 + (ws.map wordV).length := by
          show (Str.ofString (Dd.begin k m ws).hd :: k.getD (Str.ofString "-") :: m :: ws.map wordV).length = _
          simp only [List.length_cons]
          omega
        rw [e8, e9] at h1
        rw [List.map_cons, List.sum_cons, List.length_cons, Str.length_append, Str.length_append, Str.length_append, b6, b1]
        omega
  | run n ms =>
    have h1 := ok.1
    have pn := (wd_num (n := n) (by omega)).len
    have b4 : (Str.ofString "run ").length = 4 := by decide +kernel
    refine evr_ifF (eqt "begin" rfl (show decide (V.str (Str.ofString "run") = V.str (Str.ofString "begin")) = false by decide +kernel)) <| evr_ifT (eqt "run" rfl (show decide (V.str (Str.ofString "run") = V.str (Str.ofString "run")) = true by decide +kernel)) <| fin (zs := (Str.ofString "run " ++ numS n) :: ms.map wordM) rfl (evd_to (evd_cat (n := 0) (evd_lst (evds_cons (d := tS (Str.ofString "run " ++ numS n)) (evd_addS (evd_c (.str _)) (evd_to (evd_strA (n := 0) (v := .int ((n : Nat) : Int)) (ixv (i := 1) s1 rfl rfl) fun i e => (by cases e; exact log_1920 (by omega))) rfl) ?_) evds_nil) (Nat.le_of_ble_eq_true rfl)) (evd_lcAT (K := K) (as := ms) (a := dMark) (b := fun q => tS (wordM q)) (m := 7) (ix (i := 2) s1 rfl rfl) (fun z hz x H2 s2 ax R kR => tg_pair (m := 6) (p := tS z.1) (q := dNat z.2) ax fun u v au av => ?_) fun _ _ => .v) ?_) ?_) ?_ ?_
    · rw [Str.length_append, b4]
      omega
    · have mk_ := ok.2.1 z hz
      have pl := (wd_page mk_.1).len
      have nl := (wd_num (n := z.2) (by have := mk_.2.2; omega)).len
      have wm := word_len mk_
      obtain ⟨rfl, _⟩ := atD_pl au
      obtain ⟨rfl, _⟩ := atD_pl av
      have c1 : (Str.ofString ":").length = 1 := by decide +kernel
      exact kR _ H2 (Same.refl _) rfl (evd_addS (evd_addS (evd_var rfl (atD_v (.str _))) (evd_c (.str _)) (by rw [Str.length_append, c1]; omega)) (evd_to (evd_strA (n := 0) (v := .int ((z.2 : Nat) : Int)) (evd_var rfl (atD_v (.int _))) fun i e => (by cases e; exact log_1920 (by have := mk_.2.2; omega))) rfl) (by rw [Str.length_append, Str.length_append, c1]; show z.1.length + 1 + (numS z.2).length ≤ _; omega))
    · have := ok.2.2
      simp only [List.length_cons, List.length_map, List.length_nil]
      omega
    · rw [List.map_cons, List.map_map]
      rfl
    · exact hd_blank "run" "run " (by decide +kernel) _ _
    · have h2 := rlen.2
      have e7 : (Str.ofString (Dd.run n ms).hd).length = 3 := by show (Str.ofString "run").length = 3; decide +kernel
      have e8 : ((Str.ofString (Dd.run n ms).hd :: (Dd.run n ms).ws).map (·.length)).sum = 3 + ((numS n).length + ((ms.map wordM).map (·.length)).sum) := by
        show ((Str.ofString (Dd.run n ms).hd :: numS n :: ms.map wordM).map (·.length)).sum = _
        rw [List.map_cons, List.map_cons, List.sum_cons, List.sum_cons, e7]
      have e9 : (Str.ofString (Dd.run n ms).hd :: (Dd.run n ms).ws).length = 2 + (ms.map wordM).length := by
        show (Str.ofString (Dd.run n ms).hd :: numS n :: ms.map wordM).length = _
        simp only [List.length_cons]
        omega
      rw [e8, e9] at h2
      rw [List.map_cons, List.sum_cons, List.length_cons, Str.length_append, b4]
      omega
  | name k n v =>
    refine evr_ifF (eqt "begin" rfl (show decide (V.str (Str.ofString "name") = V.str (Str.ofString "begin")) = false by decide +kernel)) <| evr_ifF (eqt "run" rfl (show decide (V.str (Str.ofString "name") = V.str (Str.ofString "run")) = false by decide +kernel)) <| evr_ifT (evt_as (evt_t (evd_inS (n := 0) (m := 0) (x := Str.ofString "name") (v1 rfl) nf)) (by decide +kernel)) <| fin (zs := [Str.ofString "name", numS k, n, wordV v]) rfl (evd_lst (n := 0) (evds_cons (v1 rfl) (evds_cons (d := tS (numS k)) (evd_to (evd_strA (n := 0) (v := .int ((k : Nat) : Int)) (ixv (i := 1) s1 rfl rfl) fun i e => (by cases e; have := ok.1; exact log_1920 (by omega))) rfl) (evds_cons (d := tS n) (ixv (i := 2) s1 rfl rfl) (evds_cons (d := tS (wordV v)) (evd_r (evds_cons (EvD.lv (ix (i := 3) s1 rfl rfl) (by decide)) evds_nil) ⟨v, rfl, ok.2.2, rfl⟩) evds_nil)))) (Nat.le_of_ble_eq_true rfl)) rfl (Nat.le_trans rlen.2 (by decide))
  | field k n v =>
    refine evr_ifF (eqt "begin" rfl (show decide (V.str (Str.ofString "field") = V.str (Str.ofString "begin")) = false by decide +kernel)) <| evr_ifF (eqt "run" rfl (show decide (V.str (Str.ofString "field") = V.str (Str.ofString "run")) = false by decide +kernel)) <| evr_ifT (evt_as (evt_t (evd_inS (n := 0) (m := 0) (x := Str.ofString "field") (v1 rfl) nf)) (by decide +kernel)) <| fin (zs := [Str.ofString "field", k, n, wordV v]) rfl (evd_lst (n := 0) (evds_cons (v1 rfl) (evds_cons (d := tS (k)) (evd_strA (n := 0) (v := .str k) (ixv (i := 1) s1 rfl rfl) fun i e => (by cases e)) (evds_cons (d := tS n) (ixv (i := 2) s1 rfl rfl) (evds_cons (d := tS (wordV v)) (evd_r (evds_cons (EvD.lv (ix (i := 3) s1 rfl rfl) (by decide)) evds_nil) ⟨v, rfl, ok.2.2, rfl⟩) evds_nil)))) (Nat.le_of_ble_eq_true rfl)) rfl (Nat.le_trans rlen.2 (by decide))
  | load p t =>
    have pl := (wd_page ok.1).len
    have tl_ := ok.2.1
    have sp := split_sum tl_
    have ml := (Dd.more_len ok).1
    have b5 : (Str.ofString "load ").length = 5 := by decide +kernel
    have b1 : (Str.ofString " ").length = 1 := by decide +kernel
    have bn : (Str.ofString "\n").length = 1 := by decide +kernel
    have er : (Dd.load p t).row = Str.ofString "load " ++ p := by
      show Txt.join (Str.ofString " ") [Str.ofString "load", p] = _
      rw [← load_row]
      apply TL.ext_tl
      show tl ((Str.empty ++ Str.ofString "load ") ++ p) = tl (Str.ofString "load " ++ p)
      rw [tl_app, tl_app, tl_app]
      rfl
    refine evr_ifF (eqt "begin" rfl (show decide (V.str (Str.ofString "load") = V.str (Str.ofString "begin")) = false by decide +kernel)) <| evr_ifF (eqt "run" rfl (show decide (V.str (Str.ofString "load") = V.str (Str.ofString "run")) = false by decide +kernel)) <| evr_ifF (evt_as (evt_t (evd_inS (n := 0) (m := 0) (x := Str.ofString "load") (v1 rfl) nf)) (by decide +kernel)) <| evr_ifT (eqt "load" rfl (show decide (V.str (Str.ofString "load") = V.str (Str.ofString "load")) = true by decide +kernel)) (evr_asg (m := 1) (e := .lst (((Txt.split t nl).map blankS).map tS)) (evd_to (evd_lcAL (K := K) (as := Txt.split t nl) (a := tS) (b := fun z => tS (blankS z)) (m := 0) (evd_split (n := 0) (ixv (i := 2) s1 rfl rfl) (evd_c (.str _)) (by decide +kernel) (by omega)) (tg_one (fun _ => rfl) fun z hz x H3 s3 ax => evd_to (evd_addS (y := z) (evd_c (.str _)) (evd_var rfl ax) ?_) ?_) fun _ _ => .v) (by rw [List.map_map]; rfl)) fun rv H2 s2 r2 => evr_ret (evd_to (evd_addS (evd_join (K := K) (n := 0) (zs := (Dd.load p t).rows) (evd_c (.str _)) (evd_to (evd_cat (n := 0) (evd_lst (evds_cons (d := tS (Str.ofString "load " ++ p)) (evd_addS (evd_c (.str _)) (ixv (i := 1) (s1.trans s2) rfl rfl) ?_) evds_nil) (Nat.le_of_ble_eq_true rfl)) (evd_var rfl r2) ?_) ?_) ?_) (evd_c (.str _)) ?_) ?_))
    · have := lens_le (zs := Txt.split t nl) (m := 151) (by omega) z hz
      rw [Str.length_append, b1]
      omega
    · have : Str.ofString " " ++ z = blankS z := by
        apply TL.ext_tl
        show tl (Str.ofString " " ++ z) = 32 :: tl z
        rw [tl_app]
        rfl
      rw [this]
    · rw [Str.length_append, b5]
      omega
    · simp only [List.length_cons, List.length_map, List.length_nil]
      omega
    · show Dt.lst ([tS (Str.ofString "load " ++ p)] ++ ((Txt.split t nl).map blankS).map tS) = Dt.lst (((Dd.load p t).row :: (Txt.split t nl).map blankS).map tS)
      rw [List.map_cons, er]
      rfl
    · have fl := Dd.flat_len ok
      have e1 : (flatS (Dd.load p t).rows).length = (flatT (Dd.load p t).rows).length := mk_len _
      have e2 := len_flat (Dd.load p t).rows
      rw [bn]
      omega
    · rw [flat_nl (by show _ :: _ ≠ []; simp)]
      exact Nat.le_trans (Dd.flat_len ok) (by decide)
    · rw [flat_nl (by show _ :: _ ≠ []; simp)]
  | again k =>
    refine evr_ifF (eqt "begin" rfl (show decide (V.str (Str.ofString "again") = V.str (Str.ofString "begin")) = false by decide +kernel)) <| evr_ifF (eqt "run" rfl (show decide (V.str (Str.ofString "again") = V.str (Str.ofString "run")) = false by decide +kernel)) <| evr_ifF (evt_as (evt_t (evd_inS (n := 0) (m := 0) (x := Str.ofString "again") (v1 rfl) nf)) (by decide +kernel)) <| evr_ifF (eqt "load" rfl (show decide (V.str (Str.ofString "again") = V.str (Str.ofString "load")) = false by decide +kernel)) <| fin (zs := ([.str (Str.ofString "again"), .int ((k : Nat) : Int)] : List V).map strV) rfl (evd_to (evd_lcAT (K := K) (as := ([.str (Str.ofString "again"), .int ((k : Nat) : Int)] : List V)) (a := fun v => Dt.v v) (b := fun v => tS (strV v)) (m := 8) (vt s1 rfl) (tg_one (fun _ => rfl) fun z hz x H4 s4 ax => evd_strA (n := 0) (evd_vp rfl ax) fun i e => ?_) fun _ _ => .v) rfl) rfl (Nat.le_trans rlen.2 (by decide))
    subst e
    have : i = ((k : Nat) : Int) := by
      simp only [List.mem_cons, List.not_mem_nil, or_false] at hz
      rcases hz with hz | hz
      · cases hz
      · injection hz
    subst this
    have h1 : k ≤ 100000000000 := ok
    exact log_1920 (by omega)
  | gone k m =>
    refine evr_ifF (eqt "begin" rfl (show decide (V.str (Str.ofString "gone") = V.str (Str.ofString "begin")) = false by decide +kernel)) <| evr_ifF (eqt "run" rfl (show decide (V.str (Str.ofString "gone") = V.str (Str.ofString "run")) = false by decide +kernel)) <| evr_ifF (evt_as (evt_t (evd_inS (n := 0) (m := 0) (x := Str.ofString "gone") (v1 rfl) nf)) (by decide +kernel)) <| evr_ifF (eqt "load" rfl (show decide (V.str (Str.ofString "gone") = V.str (Str.ofString "load")) = false by decide +kernel)) <| fin (zs := ([.str (Str.ofString "gone"), .str k, .str m] : List V).map strV) rfl (evd_to (evd_lcAT (K := K) (as := ([.str (Str.ofString "gone"), .str k, .str m] : List V)) (a := fun v => Dt.v v) (b := fun v => tS (strV v)) (m := 8) (vt s1 rfl) (tg_one (fun _ => rfl) fun z hz x H4 s4 ax => evd_strA (n := 0) (evd_vp rfl ax) fun i e => ?_) fun _ _ => .v) rfl) rfl (Nat.le_trans rlen.2 (by decide))
    subst e
    simp at hz
  | lost k m =>
    refine evr_ifF (eqt "begin" rfl (show decide (V.str (Str.ofString "lost") = V.str (Str.ofString "begin")) = false by decide +kernel)) <| evr_ifF (eqt "run" rfl (show decide (V.str (Str.ofString "lost") = V.str (Str.ofString "run")) = false by decide +kernel)) <| evr_ifF (evt_as (evt_t (evd_inS (n := 0) (m := 0) (x := Str.ofString "lost") (v1 rfl) nf)) (by decide +kernel)) <| evr_ifF (eqt "load" rfl (show decide (V.str (Str.ofString "lost") = V.str (Str.ofString "load")) = false by decide +kernel)) <| fin (zs := ([.str (Str.ofString "lost"), .str k, .str m] : List V).map strV) rfl (evd_to (evd_lcAT (K := K) (as := ([.str (Str.ofString "lost"), .str k, .str m] : List V)) (a := fun v => Dt.v v) (b := fun v => tS (strV v)) (m := 8) (vt s1 rfl) (tg_one (fun _ => rfl) fun z hz x H4 s4 ax => evd_strA (n := 0) (evd_vp rfl ax) fun i e => ?_) fun _ _ => .v) rfl) rfl (Nat.le_trans rlen.2 (by decide))
    subst e
    simp at hz
  | under k m =>
    refine evr_ifF (eqt "begin" rfl (show decide (V.str (Str.ofString "under") = V.str (Str.ofString "begin")) = false by decide +kernel)) <| evr_ifF (eqt "run" rfl (show decide (V.str (Str.ofString "under") = V.str (Str.ofString "run")) = false by decide +kernel)) <| evr_ifF (evt_as (evt_t (evd_inS (n := 0) (m := 0) (x := Str.ofString "under") (v1 rfl) nf)) (by decide +kernel)) <| evr_ifF (eqt "load" rfl (show decide (V.str (Str.ofString "under") = V.str (Str.ofString "load")) = false by decide +kernel)) <| fin (zs := ([.str (Str.ofString "under"), .str k, .str m] : List V).map strV) rfl (evd_to (evd_lcAT (K := K) (as := ([.str (Str.ofString "under"), .str k, .str m] : List V)) (a := fun v => Dt.v v) (b := fun v => tS (strV v)) (m := 8) (vt s1 rfl) (tg_one (fun _ => rfl) fun z hz x H4 s4 ax => evd_strA (n := 0) (evd_vp rfl ax) fun i e => ?_) fun _ _ => .v) rfl) rfl (Nat.le_trans rlen.2 (by decide))
    subst e
    simp at hz
  | sweep =>
    refine evr_ifF (eqt "begin" rfl (show decide (V.str (Str.ofString "sweep") = V.str (Str.ofString "begin")) = false by decide +kernel)) <| evr_ifF (eqt "run" rfl (show decide (V.str (Str.ofString "sweep") = V.str (Str.ofString "run")) = false by decide +kernel)) <| evr_ifF (evt_as (evt_t (evd_inS (n := 0) (m := 0) (x := Str.ofString "sweep") (v1 rfl) nf)) (by decide +kernel)) <| evr_ifF (eqt "load" rfl (show decide (V.str (Str.ofString "sweep") = V.str (Str.ofString "load")) = false by decide +kernel)) <| fin (zs := ([.str (Str.ofString "sweep")] : List V).map strV) rfl (evd_to (evd_lcAT (K := K) (as := ([.str (Str.ofString "sweep")] : List V)) (a := fun v => Dt.v v) (b := fun v => tS (strV v)) (m := 8) (vt s1 rfl) (tg_one (fun _ => rfl) fun z hz x H4 s4 ax => evd_strA (n := 0) (evd_vp rfl ax) fun i e => ?_) fun _ _ => .v) rfl) rfl (Nat.le_trans rlen.2 (by decide))
    subst e
    simp at hz
  | forget =>
    refine evr_ifF (eqt "begin" rfl (show decide (V.str (Str.ofString "forget") = V.str (Str.ofString "begin")) = false by decide +kernel)) <| evr_ifF (eqt "run" rfl (show decide (V.str (Str.ofString "forget") = V.str (Str.ofString "run")) = false by decide +kernel)) <| evr_ifF (evt_as (evt_t (evd_inS (n := 0) (m := 0) (x := Str.ofString "forget") (v1 rfl) nf)) (by decide +kernel)) <| evr_ifF (eqt "load" rfl (show decide (V.str (Str.ofString "forget") = V.str (Str.ofString "load")) = false by decide +kernel)) <| fin (zs := ([.str (Str.ofString "forget")] : List V).map strV) rfl (evd_to (evd_lcAT (K := K) (as := ([.str (Str.ofString "forget")] : List V)) (a := fun v => Dt.v v) (b := fun v => tS (strV v)) (m := 8) (vt s1 rfl) (tg_one (fun _ => rfl) fun z hz x H4 s4 ax => evd_strA (n := 0) (evd_vp rfl ax) fun i e => ?_) fun _ _ => .v) rfl) rfl (Nat.le_trans rlen.2 (by decide))
    subst e
    simp at hz
end
end My
set_option Elab.async false
set_option linter.all false
set_option maxRecDepth 100000
set_option maxHeartbeats 4000000
namespace My
open PySem L2 SS
/-! ### repr of nested data -/
/-- d has at most n parts -/
inductive Wt : Nat → Dt → Prop
  | v {n : Nat} {x : V} (h : 1 ≤ n) : Wt n (.v x)
  | tup {k m n : Nat} {ds : List Dt} (h : ∀ d ∈ ds, Wt m d) (hk : ds.length ≤ k) (hn : 1 + k * m ≤ n) : Wt n (.tup ds)
theorem Wt.mono {n m : Nat} {d : Dt} (h : Wt n d) (hm : n ≤ m) : Wt m d := by
  cases h with
  | v h => exact .v (by omega)
  | tup h hk hn => exact .tup h hk (by omega)
/-- what Python sees of data -/
inductive PyOf : Dt → PyData → Prop
  | non : PyOf (.v .non) .none
  | bl {b : Bool} : PyOf (.v (.bl b)) (.bool b)
  | int {i : Int} : PyOf (.v (.int i)) (.int i)
  | str {z : Str} : PyOf (.v (.str z)) (.str z)
  | tup {ds : List Dt} {ps : List PyData} (hl : ds.length = ps.length) (h : ∀ (i : Nat) d p, ds[i]? = some d → ps[i]? = some p → PyOf d p) : PyOf (.tup ds) (.tuple ps)
theorem pyOf_all : ∀ {ds : List Dt}, (∀ d ∈ ds, ∃ p, PyOf d p) → ∃ ps : List PyData, ds.length = ps.length ∧ ∀ (i : Nat) d p, ds[i]? = some d → ps[i]? = some p → PyOf d p
  | [], _ => ⟨[], rfl, fun i d p h => by simp at h⟩
  | d :: ds, h => by
    obtain ⟨p, hp⟩ := h d List.mem_cons_self
    obtain ⟨ps, hl, hps⟩ := pyOf_all (ds := ds) fun d hd => h d (List.mem_cons_of_mem _ hd)
    refine ⟨p :: ps, by rw [List.length_cons, List.length_cons, hl], fun i d' p' h1 h2 => ?_⟩
    cases i with
    | zero =>
      obtain rfl := Option.some.inj h1
      obtain rfl := Option.some.inj h2
      exact hp
    | succ i => exact hps i d' p' h1 h2
theorem LfOk.py {d : Dt} (h : LfOk d) : ∃ p, PyOf d p := by
  induction h with
  | @v x h =>
    cases x with
    | non => exact ⟨_, .non⟩
    | bl b => exact ⟨_, .bl⟩
    | int i => exact ⟨_, .int⟩
    | str z => exact ⟨_, .str⟩
    | _ => cases h
  | tup _ ih =>
    obtain ⟨ps, hl, h⟩ := pyOf_all ih
    exact ⟨_, .tup hl h⟩
theorem shownAll_map : ∀ ps : List PyData, PyData.shownAll ps = ps.map PyData.shown
  | [] => rfl
  | p :: ps => by
    have ih := shownAll_map ps
    simp only [PyData.shownAll, List.map_cons, ih]
theorem showAll_iff : ∀ {ps : List PyData}, (∀ p ∈ ps, p.showable = true) → PyData.showableAll ps = true
  | [], _ => rfl
  | p :: ps, h => by
    have ih := showAll_iff (ps := ps) fun q hq => h q (List.mem_cons_of_mem _ hq)
    simp only [PyData.showableAll, h p List.mem_cons_self, ih, Bool.and_self]
theorem noDictAll : ∀ {ps : List PyData}, (∀ p ∈ ps, p.hasDict = false) → PyData.hasDictAll ps = false
  | [], _ => rfl
  | p :: ps, h => by
    have ih := noDictAll (ps := ps) fun q hq => h q (List.mem_cons_of_mem _ hq)
    simp only [PyData.hasDictAll, h p List.mem_cons_self, ih, Bool.or_self]
theorem piled_le {n : Nat} : ∀ {ts : List Str}, (∀ t ∈ ts, t.length + 2 ≤ n) → piled ts ≤ ts.length * n
  | [], _ => Nat.zero_le _
  | t :: ts, h => by
    have ih := piled_le (ts := ts) fun u hu => h u (List.mem_cons_of_mem _ hu)
    have h1 := h t List.mem_cons_self
    rw [piled_cons, List.length_cons, Nat.add_mul, Nat.one_mul]
    omega
theorem big_nat {i : Int} (h0 : -1000000000000000000000000 ≤ i) (h1 : i ≤ 1000000000000000000000000) : i.natAbs < 10 ^ 25 := by
  have e : (10 : Nat) ^ 25 = 10000000000000000000000000 := by decide
  rw [e]
  omega
theorem big_log {i : Int} (h0 : -1000000000000000000000000 ≤ i) (h1 : i ≤ 1000000000000000000000000) : i.natAbs.log2 < 1920 := by
  by_cases c : i.natAbs = 0
  · rw [c]
    decide
  · rw [Nat.log2_lt c]
    refine Nat.lt_of_lt_of_le (big_nat h0 h1) ?_
    exact Nat.le_trans (show 10 ^ 25 ≤ 2 ^ 100 by decide) (Nat.pow_le_pow_right (by decide) (by decide))
theorem PyOf.shows {d : Dt} {p : PyData} (h : PyOf d p) : LfOk d → p.showable = true ∧ p.hasDict = false ∧ ∀ n, Wt n d → p.shown.length + 2 ≤ 2010 * n := by
  induction h with
  | non =>
    refine fun _ => ⟨rfl, rfl, fun n hn => ?_⟩
    cases hn with
    | v h =>
      have e : (PyData.shown .none).length = 4 := by decide +kernel
      omega
  | @bl b =>
    refine fun _ => ⟨rfl, rfl, fun n hn => ?_⟩
    cases hn with
    | v h =>
      have e : (PyData.shown (.bool b)).length ≤ 5 := by cases b <;> decide +kernel
      omega
  | @int i =>
    intro hl
    cases hl with
    | v hl =>
      have hl2 := (Bool.and_eq_true _ _ ▸ (show (decide (-1000000000000000000000000 ≤ i) && decide (i ≤ 1000000000000000000000000)) = true from hl))
      have h0 := of_decide_eq_true hl2.1
      have h1 := of_decide_eq_true hl2.2
      refine ⟨by simp only [PyData.showable]; exact decide_eq_true (big_log h0 h1), rfl, fun n hn => ?_⟩
      cases hn with
      | v h =>
        have e := int_text_length_le10 (a := i) (k := 25) (by decide) (big_nat h0 h1)
        have e2 : (PyData.shown (.int i)).length ≤ 27 := by
          show (Str.ofString (toString i)).length ≤ 27
          rw [ofString_length]
          omega
        omega
  | @str z =>
    intro hl
    cases hl with
    | v hl =>
      have h0 : (reprText z).length ≤ 2002 := of_decide_eq_true hl
      refine ⟨rfl, rfl, fun n hn => ?_⟩
      cases hn with
      | v h =>
        have e2 : (PyData.shown (.str z)).length ≤ 2002 := by simpa only [PyData.shown] using h0
        omega
  | @tup ds ps hlen h ih =>
    intro hl
    have hu := lf_u hl
    have at_ : ∀ q ∈ ps, ∃ d ∈ ds, ∃ i : Nat, ds[i]? = some d ∧ ps[i]? = some q := fun q hq => by
      obtain ⟨i, hi⟩ := List.getElem?_of_mem hq
      have hil : i < ds.length := by
        rw [hlen]
        exact (List.getElem?_eq_some_iff.mp hi).1
      exact ⟨ds[i], List.getElem_mem hil, i, List.getElem?_eq_getElem hil, hi⟩
    refine ⟨?_, ?_, fun n hn => ?_⟩
    · simp only [PyData.showable]
      exact showAll_iff fun q hq => by
        obtain ⟨d, hd, i, h1, h2⟩ := at_ q hq
        exact (ih i d q h1 h2 (hu d hd)).1
    · simp only [PyData.hasDict]
      exact noDictAll fun q hq => by
        obtain ⟨d, hd, i, h1, h2⟩ := at_ q hq
        exact (ih i d q h1 h2 (hu d hd)).2.1
    · cases hn with
      | @tup k m _ _ hw hk hn =>
        have h1 : piled (PyData.shownAll ps) ≤ (PyData.shownAll ps).length * (2010 * m) := piled_le fun t ht => by
          rw [shownAll_map] at ht
          obtain ⟨q, hq, rfl⟩ := List.mem_map.mp ht
          obtain ⟨d, hd, i, h1, h2⟩ := at_ q hq
          exact (ih i d q h1 h2 (hu d hd)).2.2 m (hw d hd)
        rw [shownAll_map, List.length_map, ← hlen] at h1
        have h2 := fmt_text (PyData.shownAll ps)
        rw [shownAll_map] at h2
        have e : PyData.shown (.tuple ps) = tupleText (ps.map PyData.shown) := by simp only [PyData.shown, shownAll_map]
        have h3 : ds.length * (2010 * m) ≤ k * (2010 * m) := Nat.mul_le_mul_right _ hk
        have h4 : k * (2010 * m) = 2010 * (k * m) := by rw [← Nat.mul_assoc, Nat.mul_comm k 2010, Nat.mul_assoc]
        rw [e]
        omega
end My
set_option Elab.async false
set_option linter.all false
set_option maxRecDepth 100000
set_option maxHeartbeats 4000000
namespace My
open PySem L2 SS
theorem reads_all {h : Heap} : ∀ {us : List V} {its : List Value} {ps : List PyData}, Vals us its → us.length = ps.length → (∀ (i : Nat) x u p, us[i]? = some x → its[i]? = some u → RelV x u → ps[i]? = some p → ∃ as, Reads h u p as) → ∃ as, ReadsAll h its ps as
  | [], [], [], _, _, _ => ⟨_, .nil⟩
  | [], [], _ :: _, _, h, _ => by cases h
  | x :: us, u :: its, [], _, h, _ => by cases h
  | x :: us, u :: its, p :: ps, .cons r rs, hl, h => by
    obtain ⟨as, h1⟩ := h 0 x u p rfl rfl r rfl
    obtain ⟨bs, h2⟩ := reads_all rs (by simpa using hl) fun i x' u' p' e1 e2 r' e3 => h (i + 1) x' u' p' e1 e2 r' e3
    exact ⟨_, .cons h1 h2⟩
theorem PyOf.reads {P : Program} {w : World} {H : Hp} {h : Heap} (hok : HOk P w H h) {d : Dt} {p : PyData} (hp : PyOf d p) : ∀ {n : Nat} {v : V} {u : Value}, AtD H n d v → RelV v u → ∃ as, Reads h u p as := by
  induction hp with
  | non =>
    intro n v u a r
    obtain ⟨rfl, _⟩ := atD_pl a
    obtain rfl : u = .none := r
    exact ⟨_, .none⟩
  | bl =>
    intro n v u a r
    obtain ⟨rfl, _⟩ := atD_pl a
    obtain rfl : u = .bool _ := r
    exact ⟨_, .bool _⟩
  | int =>
    intro n v u a r
    obtain ⟨rfl, _⟩ := atD_pl a
    obtain ⟨t, rfl⟩ := r
    exact ⟨_, .int _ _⟩
  | str =>
    intro n v u a r
    obtain ⟨rfl, _⟩ := atD_pl a
    obtain ⟨t, rfl⟩ := r
    exact ⟨_, .str _ _⟩
  | @tup ds ps hl hd ih =>
    intro n v u a r
    cases n with
    | zero => exact a.elim
    | succ n =>
      obtain ⟨b, us, rfl, hb, _, al⟩ := a
      obtain rfl : u = .ref b := r
      obtain ⟨_, its, rv, o, ho, hc, m, hda⟩ : ∃ (_ : us.length ≤ sizeLine), ∃ its : List Value, Vals us its ∧ ∃ o, h.get? b = some o ∧ o.cls = .type "tuple" ∧ ∃ m, o.data = .seq its.toArray m := by
        obtain ⟨h1, its, r, t⟩ := (show ObjOk P w H h b (.tup us) from Rd.ok hb hok)
        obtain ⟨o, ho, hc, m, hda⟩ := t
        exact ⟨h1, its, r, o, ho, hc, m, hda⟩
      obtain ⟨as, hr⟩ := reads_all (ps := ps) rv (by rw [← al.len, hl]) fun i x u p e1 e2 r' e3 => by
        obtain ⟨d, hdi, ad⟩ := al.get e1
        exact ih i d p hdi e3 ad r'
      exact ⟨_, .tuple ho hc hda hr⟩
theorem depthAll_le {n : Nat} : ∀ {ps : List PyData}, (∀ p ∈ ps, p.depth ≤ n) → PyData.depthAll ps ≤ n
  | [], _ => by simp only [PyData.depthAll]; exact Nat.zero_le _
  | p :: ps, h => by
    have ih := depthAll_le (ps := ps) fun q hq => h q (List.mem_cons_of_mem _ hq)
    simp only [PyData.depthAll]
    exact Nat.max_le.mpr ⟨h p List.mem_cons_self, ih⟩
theorem PyOf.depth {H : Hp} {d : Dt} {p : PyData} (hp : PyOf d p) : ∀ {n : Nat} {v : V}, AtD H n d v → p.depth ≤ n + 1 := by
  induction hp with
  | @tup ds ps hl hd ih =>
    intro n v a
    cases n with
    | zero => exact a.elim
    | succ n =>
      obtain ⟨b, us, rfl, hb, _, al⟩ := a
      simp only [PyData.depth]
      have := depthAll_le (n := n + 1) (ps := ps) fun q hq => by
        obtain ⟨i, hi⟩ := List.getElem?_of_mem hq
        have hil : i < ds.length := by
          rw [hl]
          exact (List.getElem?_eq_some_iff.mp hi).1
        obtain ⟨u, _, ad⟩ := al.getA (List.getElem?_eq_getElem hil)
        exact ih i ds[i] q (List.getElem?_eq_getElem hil) hi ad
      omega
  | _ =>
    intro n v a
    simp only [PyData.depth]
    omega
section
variable {X : Cx}
/-- repr(e), e nested data -/
def rRepr : List V → Hp → VK → Prop := fun xs H Q => ∃ (d : Dt) (n m : Nat) (b : Addr) (p : PyData), xs = [.ref b] ∧ AtD H n d (.ref b) ∧ LfOk d ∧ Wt m d ∧ m ≤ 8000 ∧ n ≤ 50 ∧ PyOf d p ∧ Q (.str p.shown) H
theorem call_reprD (hg : X.A.guards = some []) (hu : X.A.units + 200 < cLine) : CallR X (.builtin "repr") rRepr := by
  intro pins s σ H xs us Q I r hh
  obtain ⟨d, n, m, b, p, rfl, a, hl, hw, hm, hn, hp, q⟩ := hh
  obtain ⟨u, rfl, rx⟩ := vals1 r
  obtain rfl : u = .ref b := rx
  obtain ⟨as, hr⟩ := hp.reads I.hok a (show RelV (.ref b) (.ref b) from rfl)
  obtain ⟨h1, h2, h3⟩ := hp.shows hl
  have h4 := h3 m hw
  have h5 := hp.depth a
  exact repr_of_reads' hr h1 (PyData.noDict_hsm h2) hg (by omega) (fun _ _ e => e) (fun h' u tk hk => ⟨.str p.shown, H, I.kept (t' := tk) hk, ⟨u, rfl⟩, q⟩) (by rw [sizeLine_eq]; omega)
end
end My
set_option Elab.async false
set_option linter.all false
set_option maxRecDepth 100000
set_option maxHeartbeats 4000000
namespace My
open PySem PySem.Spec PyProof.Rows L2 SS LamX
/-! ### a law whose body asks for repr: it is run where no guard stands -/
/-- what the law's def does when the claim calls it -/
def FnG (P : Program) (w : World) (K : PySem.W.Frag) (mg : Str → Option Value) (base : Heap) (k : Nat) (fa : Addr) (fd : FuncData) (x : Str) (sp : Sp) : Prop :=
  ∀ (st : Shared) (H : Hp) (u : Value) (v : V) (Q : VK) (E : XK), Room k callerA → Env0 P w K mg base callerA [] st H → BindsTo st fd ⟨[u], []⟩ [(x, u)] → RelV v u → sp [v] H Q E →
    codeAny (model P w) callerA (.call (.ref fa) ⟨[u], []⟩) (CR CX0 [] P w H st Q E) st
section
variable {P : Program} {w : World} {K : PySem.W.Frag} {mg : Str → Option Value} {base : Heap}
theorem fnG_of {q x : Str} {st : Stmt} {fa : Addr} {fd : FuncData} {N : List Str} {k : Nat} {sp : Sp} (F : Fun K q q st fa fd) (S : FnScope N [x] (defScope st))
    (len : ∀ vs H Q E, sp vs H Q E → vs.length = 1)
    (hb : ∀ (cdv : Value) (sh : Shared) (H : Hp) (v : V) (Q : VK) (E : XK), Room k (callerA.deeper (envOfC q (defScope st) sh.heap.objs.size fa cdv)) → sp [v] H Q E →
      ∃ t, PSs (cxOf CX0 P w K mg base N q (defScope st) fa cdv callerA [] sh H E).nox (defBody st) t ∧ t { nx := fun _ H' => Q .non H', rt := Q } (L2.start N [v]) H) :
    FnG P w K mg base (k + 1) fa fd x sp := by
  intro sh H u v Q E room env bnd rel hsp
  obtain ⟨oc, od, kw, doc, pm, an, cdv, cell, slots, rfl, look, code⟩ := F.ex
  have inK : K.In sh.heap := env.mod.kin.keeps fun c ob z => (env.bs c ob z).1
  have free : sh.heap.NoLimit := env.mod.nolimit.keeps fun c ob z => (env.bs c ob z).1
  have kinds : ∀ z ∈ [x].zip [u], (defScope st).names.lookup z.1 = some .local ∨ ((defScope st).names.lookup z.1 = some .cell ∧ ((cellsFrom (sh.heap.objs.size + 1) (defScope st).names []).lookup z.1).isSome = true) := fun z hz => by
    have hx : z.1 ∈ [x] := (List.of_mem_zip (a := z.1) (b := z.2) hz).1
    rcases S.par z.1 hx with lo | ce
    · exact .inl lo
    · exact .inr ⟨ce, PySem.W.cellsFrom_some _ _ _ (.inl ce)⟩
  refine codeAny_call_function room.depth (inK _ _ look) rfl S.co S.gen rfl (PySem.W.codeRec_of inK code) (bnd _ _ _ _ (wpAny_newFunctionEnv_cells S.kind kinds fun e' same sh1 laid => ?_))
  subst same
  refine ⟨free.keeps laid.toInCall.keep, codeAny_func ?_⟩
  obtain ⟨t, hp, ht⟩ := hb cdv sh H v Q E (room.deeper _) hsp
  have J := inv_start (CX := CX0) (base := base) (E := E) S room.hd env (vs := [v]) (us := [u]) rfl (.cons rel .nil) laid
  refine wpAny_mono (hp.nox.run [] sh1 (L2.start N [v]) H _ J ht) (fun out sh2 got => ?_) fun _ _ got => got
  match out, got with
  | .ret u2, ⟨v2, _, H2, J2, rel2, q2⟩ => exact ⟨v2, H2, J2.os, J2.bare, J2.base, J2.hok, rel2, q2⟩
  | .next, ⟨_, H2, J2, q2⟩ => exact ⟨.non, H2, J2.os, J2.bare, J2.base, J2.hok, rfl, q2⟩
  | .brk, ⟨_, _, _, no⟩ => exact no.elim
  | .cont, ⟨_, _, _, no⟩ => exact no.elim
theorem law_callG {mb : Str → Option Value} {k : Nat} {fa scr code tab : Addr} {fd : FuncData} {x : Str} {sp : Sp} {sh : Shared} {vs : List Value} {ns : List Int}
    (inK : K.In sh.heap) (top : sh.heap.Ns mainGlobals mg) (bi : sh.heap.Ns builtinsNs mb) (boot : ∀ y : Str, y ≠ "__name__" → mb y = bootBuiltins y) (nolim : sh.heap.NoLimit) (nogen : sh.gens = #[])
    (empty : sh.heap.get? tab = some { cls := .none, data := .fields #[] }) (loose : K.lookup tab = none) (hd : PySem.W.CodeHd sh.heap code tab)
    (bmod : ∃ (bm : Addr) (ob : Obj), mg "__builtins__" = some (.ref bm) ∧ bm ≠ builtinsNs ∧ sh.heap.get? bm = some ob ∧ ob.cls = .type "module" ∧ ob.dict = some builtinsNs ∧ ob.data = .plain)
    (lst : sh.heap.get? scr = some { cls := .type "list", data := .seq vs.toArray }) (numb : IntsAre vs ns) (fits : ns.length ≤ sizeLine) (room : Room k callerA)
    (F : ∀ base : Heap, K.In base → base.Ns mainGlobals mg → LamX.TabB base mg code tab → FnG P w K mg base k fa fd x sp) (binds : ∀ (s : Shared) (u : Value), BindsTo s fd ⟨[u], []⟩ [(x, u)])
    (post : ∀ H : Hp, H tab = some (.tbl #[]) → SqL K H scr (ns.map V.int) → sp [.ref scr] H (fun v _ => v = .bl true) fun _ _ _ => False) :
    codeAny (model P w) callerA (.call (.ref fa) ⟨[.ref scr], []⟩) (fun r s' => r = .ok (.ret (.bool true)) ∧ OldK sh.heap s'.heap ∧ s'.os = sh.os ∧ AllBare s'.gens) sh := by
  have vals := vals_ints numb
  have vlen := numb.length
  have apart : scr ≠ tab := fun z => by
    rw [z, empty] at lst
    have := congrArg Obj.data (Option.some.inj lst)
    cases this
  -- what is tracked: the table, and the script where K doesn't hold it
  have main : ∀ H : Hp, H tab = some (.tbl #[]) → (∀ c u, H c = some u → c = tab ∨ (c = scr ∧ K.lookup scr = none ∧ ∃ o xs, u = .frz o (.lst xs))) → SqL K H scr (ns.map V.int) → HOk P w H sh.heap →
      codeAny (model P w) callerA (.call (.ref fa) ⟨[.ref scr], []⟩) (fun r s' => r = .ok (.ret (.bool true)) ∧ OldK sh.heap s'.heap ∧ s'.os = sh.os ∧ AllBare s'.gens) sh := by
    intro H ht only sq ok
    -- an object that is neither a list nor a table isn't tracked
    have plain : ∀ {c : Addr} {ob : Obj}, sh.heap.get? c = some ob → (∀ ws m, ob.data ≠ .seq ws m) → ob.data ≠ .fields #[] → H c = none := fun {c ob} g n1 n2 => by
      cases tr : H c with
      | none => rfl
      | some u =>
        rcases only c u tr with rfl | ⟨rfl, _, _⟩
        · rw [empty] at g
          obtain rfl := Option.some.inj g
          exact absurd rfl n2
        · rw [lst] at g
          obtain rfl := Option.some.inj g
          exact absurd rfl (n1 _ _)
    have ns' : ∀ {c : Addr} {m : Str → Option Value}, sh.heap.Ns c m → (hidT sh.heap H).Ns c m := fun {c m} ⟨ob, es, ep, g, isD, rest⟩ => ⟨ob, es, ep, hidT_get g (plain g (fun ws j z => by rw [isD] at z; cases z) fun z => by rw [isD] at z; cases z), isD, rest⟩
    have inK' : K.In (hidT sh.heap H) := fun c ob g => hidT_get (inK c ob g) (by
      cases tr : H c with
      | none => rfl
      | some u =>
        rcases only c u tr with rfl | ⟨rfl, no, _⟩
        · rw [loose] at g; cases g
        · rw [no] at g; cases g)
    have mod : L2.Mod K mg (hidT sh.heap H) := by
      obtain ⟨mc, l1, l2⟩ := nolim
      exact ⟨inK', ns' top, ⟨mb, ns' bi, boot⟩, ⟨mc, ns' l1, l2⟩⟩
    have tabB : LamX.TabB (hidT sh.heap H) mg code tab := by
      constructor
      · obtain ⟨ob, us, file, tf, fl, tg, inF, tx, tt, g, r1, r2, r3, r4⟩ := hd
        refine ⟨ob, us, file, tf, fl, tg, inF, tx, tt, hidT_get g (plain g (fun ws j z => by rw [r2] at z; cases z) fun z => ?_), r1, r2, r3, r4⟩
        rw [r2] at z
        obtain rfl := Data.fields.inj z
        cases r3
      · obtain ⟨bm, ob, b1, b2, g, b4, b5, b6⟩ := bmod
        have notTop : bm ≠ mainGlobals := fun z => by
          obtain ⟨o2, es, ep, g2, d2, _⟩ := top
          rw [← z, g] at g2
          obtain rfl := Option.some.inj g2
          rw [b6] at d2
          cases d2
        have notTab : bm ≠ tab := fun z => by
          rw [z, empty] at g
          obtain rfl := Option.some.inj g
          cases b6
        exact ⟨bm, ob, b1, b2, notTop, notTab, hidT_get g (plain g (fun ws j z => by rw [b6] at z; cases z) fun z => by rw [b6] at z; cases z), b4, b5, b6⟩
      · intro z
        obtain ⟨o2, es, ep, g2, d2, _⟩ := top
        rw [z, empty] at g2
        obtain rfl := Option.some.inj g2
        cases d2
    have env : Env0 P w K mg (hidT sh.heap H) callerA [] sh H :=
      { frames := rfl, mod := mod, bs := fun c ob g => of_hidT g, bsz := Nat.le_of_eq (hidT_size _ _), funs := trivial, frf := fun c hc => absurd (show c ∈ ([] : List Addr) from hc) (by simp), hok := ok, bare := .of_eq nogen }
    refine codeAny_mono (F _ inK' (ns' top) tabB sh H (.ref scr) (.ref scr) _ _ room env (binds sh _) rfl (post H ht sq)) fun r s' got => ?_
    match r, got with
    | .error e, no => exact no.elim
    | .ok .next, no => exact no.elim
    | .ok .brk, no => exact no.elim
    | .ok .cont, no => exact no.elim
    | .ok (.ret u), ⟨v, H', os, bare, un, ok', rel, q⟩ =>
      have q : v = .bl true := q
      subst q
      obtain rfl : u = Value.bool true := rel
      have stay : ∀ c ob, c ≠ tab → sh.heap.get? c = some ob → s'.heap.get? c = some ob := fun c ob nt g => by
        cases tr : H c with
        | none => exact un.keep c ob g tr (fun z => nomatch (show c ∈ ([] : List Addr) from z)) (fun z => nomatch z)
        | some u =>
          rcases only c u tr with z | ⟨_, _, o, xs, rfl⟩
          · exact absurd z nt
          · have a1 := (ok c _ tr).1
            have a2 := (ok' c _ (un.frzs c o _ tr)).1
            rw [g] at a1
            obtain rfl := Option.some.inj a1
            exact a2
      obtain ⟨more, grown⟩ := un.tbls tab #[] ht
      have grown : s'.heap.get? tab = some { cls := .none, data := .fields (#[] ++ more) } := ok' tab _ grown
      refine ⟨rfl, ⟨fun c ob g => ?_, fun c ob g => ?_⟩, os, bare⟩
      · by_cases z : c = tab
        · subst z
          rw [empty] at g
          obtain rfl := Option.some.inj g
          exact .inr (.inl ⟨(hd.tab empty).isCodeTable, rfl, #[], more, rfl, grown⟩)
        · exact .inl (stay c ob z g)
      · by_cases z : c = tab
        · subst z
          exact ⟨_, grown⟩
        · exact ⟨ob, stay c ob z g⟩
  cases held : K.lookup scr with
  | some ob =>
    have g := inK scr ob held
    rw [lst] at g
    obtain rfl := Option.some.inj g
    refine main (fun c => if c = tab then some (.tbl #[]) else none) (if_pos rfl) (fun c u tr => ?_) (.inr ⟨_, vs.toArray, _, held, rfl, rfl, rfl, by rw [List.size_toArray, vlen]; exact fits, by simpa using vals⟩) fun c u tr => ?_
    · try dsimp only at tr
      by_cases z : c = tab
      · exact .inl z
      · rw [if_neg z] at tr
        cases tr
    · try dsimp only at tr
      by_cases z : c = tab
      · rw [if_pos z] at tr
        obtain rfl := Option.some.inj tr
        rw [z]
        exact empty
      · rw [if_neg z] at tr
        cases tr
  | none =>
    refine main (fun c => if c = tab then some (.tbl #[]) else if c = scr then some (.frz { cls := .type "list", data := .seq vs.toArray } (.lst (ns.map V.int))) else none) (if_pos rfl) (fun c u tr => ?_) (.inl (.inr ⟨{ cls := .type "list", data := .seq vs.toArray }, ?_⟩)) fun c u tr => ?_
    · try dsimp only at tr
      by_cases z : c = tab
      · exact .inl z
      · rw [if_neg z] at tr
        by_cases z2 : c = scr
        · rw [if_pos z2] at tr
          exact .inr ⟨z2, held, _, _, (Option.some.inj tr).symm⟩
        · rw [if_neg z2] at tr
          cases tr
    · show (if scr = tab then _ else if scr = scr then _ else _) = _
      rw [if_neg apart, if_pos rfl]
    · try dsimp only at tr
      by_cases z : c = tab
      · rw [if_pos z] at tr
        obtain rfl := Option.some.inj tr
        rw [z]
        exact empty
      · rw [if_neg z] at tr
        by_cases z2 : c = scr
        · rw [if_pos z2] at tr
          obtain rfl := Option.some.inj tr
          rw [z2]
          exact ⟨lst, by rw [List.length_map]; exact fits, vs, _, vals, lst⟩
        · rw [if_neg z2] at tr
          cases tr
end
end My
namespace My
open PySem PySem.Spec PyProof.Rows L2 SS LamX
/-- what must be known of the law at the head's heap -/
def LawG (l : PySem.W.OpenLaw) (w : World) (K : PySem.W.Frag) (k n : Nat) (x : Str) (mg : Str → Option Value) (fa : Addr) (h : Heap) : Prop :=
  ∃ (fd : FuncData) (code tab : Addr) (sp : Sp), h.get? tab = some { cls := .none, data := .fields #[] } ∧ K.lookup tab = none ∧ PySem.W.CodeHd h code tab ∧ (∀ (s : Shared) (u : Value), BindsTo s fd ⟨[u], []⟩ [(x, u)]) ∧
    (∀ (H : Hp) (a : Addr) (ns : List Int), ns.length ≤ n → H tab = some (.tbl #[]) → SqL K H a (ns.map V.int) → sp [.ref a] H (fun v _ => v = .bl true) fun _ _ _ => False) ∧
    ∀ base : Heap, K.In base → base.Ns mainGlobals mg → LamX.TabB base mg code tab → FnG l.prog w K mg base k fa fd x sp
theorem walk_G {l : PySem.W.OpenLaw} {n k : Nat} {q : Program} {names : List Str} {XP : (Str → Option Value) → Heap → Prop} {YP : World → Heap → Prop} {d : DefRec} {K : Params → PySem.W.Frag} {x : Str}
    (most : l.most = some n) (line : n ≤ sizeLine) (plain : d.params.defaults = []) (room : Room k callerA) (inK : ∀ (w : World) (h : Heap), YP w h → (K w.params).In h)
    (F : ∀ (w : World) (mg : Str → Option Value) (fa : Addr) (h : Heap), YP w h → (K w.params).In h → h.Ns mainGlobals mg → mg d.name = some (.ref fa) → LawG l w (K w.params) k n x mg fa h) :
    PySem.W.WalkO q names XP YP l.row.toRowW d [] (fun f vs => PySem.call f vs) :=
  Att.attach_callB most plain fun w _ sh mg _ fa _ _ _ _ scr vs ns grd Y _ _ _ name lst numb few _ nogen => by
    obtain ⟨fd, code, tab, sp, h1, h2, h3, h4, h5, h6⟩ := F w mg fa _ Y (inK w _ Y) grd.T.g name
    exact law_callG (inK w _ Y) grd.T.g grd.T.b grd.T.builtins grd.T.nolimit nogen h1 h2 h3 grd.T.bmain lst numb (Nat.le_trans few line) room h6 h4 fun H a b => h5 H scr ns few a b
end My
set_option Elab.async false
set_option linter.all false
set_option maxRecDepth 100000
set_option maxHeartbeats 4000000
namespace My
open PySem L2 SS
/-! ### the law -/
def spLaw (K : PySem.W.Frag) : Sp := fun vs H Q _ => ∃ (a : Addr) (ns : List Int), vs = [.ref a] ∧ SqL K H a (ns.map V.int) ∧ ns.length ≤ 63 ∧ ∀ H', Q (.bl true) H'
theorem evd_repr {te : TE} {σ : L2.St} {H : Hp} {n m k : Nat} {ds : List Dt} {p : PyData} (h : EvD te σ H n (.tup ds)) (hl : LfOk (.tup ds)) (hw : Wt k (.tup ds)) (hk : k ≤ 8000) (hn : n ≤ 50) (hp : PyOf (.tup ds) p) : EvD (tCB rRepr (tCons te tNil)) σ H m (tS p.shown) := fun H1 s1 Q q => h H1 s1 _ fun v H2 s2 r => by
  obtain ⟨m', b, us, e, rfl, _⟩ := atd_tup r
  exact ⟨.tup ds, n, k, b, p, rfl, r, hl, hw, hk, hn, hp, q _ H2 s2 (atD_v (.str _))⟩
theorem EvD.app {te : TE} {σ : L2.St} {H : Hp} {n : Nat} {d : Dt} {Q : VK} (h : EvD te σ H n d) (k : ∀ v H2, Same H H2 → AtD H2 n d v → Q v H2) : te σ H Q := h H (Same.refl _) Q k
theorem EvD.gn {te : TE} {tz : TS} {σ : L2.St} {H : Hp} {n i j : Nat} {d : Dt} {v0 : V} {D : Ends} {bk ct : L2.St → Hp → Prop} {rt : VK} (h : EvD te (σ.set i (some v0)) H n d) (k : ∀ v H2, Same H H2 → AtD H2 n d v → tz D ((σ.set i (some v0)).set j (some v)) H2) : gName i v0 σ H (Ends.mk (tSeq (tAsg te (gName j)) tz D) rt bk ct).nx := h H (Same.refl _) _ k
theorem ifs_F {tt : TT} {ts tu : TS} {σ : L2.St} {H : Hp} {D : Ends} (h : EvT tt σ H false) (k : ∀ H2, Same H H2 → tu D σ H2) : tIfS tt ts tu D σ H := h H (Same.refl _) _ fun H2 s2 => iteF (k H2 s2)
theorem lf_wd {z : Str} (h : Wd z) : LfOk (tS z) := lf_s (Nat.le_trans h.len (by decide)) h.s
theorem lf_nat {n : Nat} (h : n ≤ 100000000000) : LfOk (dNat n) := lf_i (by omega) (by omega)
theorem lf_V {v : V} (h : okV v = true) : LfOk (.v v) := by
  cases v with
  | int i =>
    have := okV_int h
    exact lf_i (by omega) (by omega)
  | str z =>
    have := Bool.and_eq_true _ _ ▸ (show (decide ((tl z).length ≤ 40) && hasOnly (tl z) TEXTS) = true from h)
    have hl := of_decide_eq_true this.1
    rw [len_tl] at hl
    have h3 : ∀ c ∈ TEXTS, c < 256 := by decide +kernel
    exact lf_s (by omega) fun c hc => h3 c (only_mem this.2 hc)
  | bl b => exact .v rfl
  | non => exact .v rfl
  | _ => cases h
theorem lf_hd (d : Dd) : LfOk (kS d.hd) := lf_wd (wd_hd d)
theorem lf_M {q : Str × Nat} (h : MkOk q) : LfOk (dMark q) := .tup fun x hx => by
  simp only [List.mem_cons, List.not_mem_nil, or_false] at hx
  rcases hx with rfl | rfl
  · exact lf_wd (wd_page h.1)
  · exact lf_nat (by have := h.2.2; omega)
theorem Dd.lf {d : Dd} (ok : d.ok) : LfOk d.dt := .tup fun x hx => by
  rcases List.mem_cons.mp hx with rfl | hx
  · exact lf_hd d
  cases d with
  | begin k m ws =>
    simp only [Dd.rest, List.mem_cons, List.not_mem_nil, or_false] at hx
    rcases hx with rfl | rfl | rfl
    · cases k with
      | none => exact .v rfl
      | some z => exact lf_wd (wd_kind (ok.1 z rfl))
    · exact lf_wd (wd_msg ok.2.1)
    · exact .tup fun y hy => by
        obtain ⟨v, hv, rfl⟩ := List.mem_map.mp hy
        exact lf_V (ok.2.2.1 v hv)
  | run n ms =>
    simp only [Dd.rest, List.mem_cons, List.not_mem_nil, or_false] at hx
    rcases hx with rfl | rfl
    · exact lf_nat (by have := ok.1; omega)
    · exact .tup fun y hy => by
        obtain ⟨v, hv, rfl⟩ := List.mem_map.mp hy
        exact lf_M (ok.2.1 v hv)
  | again k =>
    simp only [Dd.rest, List.mem_cons, List.not_mem_nil, or_false] at hx
    subst hx
    exact lf_nat ok
  | name k n v =>
    simp only [Dd.rest, List.mem_cons, List.not_mem_nil, or_false] at hx
    rcases hx with rfl | rfl | rfl
    · exact lf_nat ok.1
    · exact lf_wd (wd_free ok.2.1)
    · exact lf_V ok.2.2
  | gone k m =>
    simp only [Dd.rest, List.mem_cons, List.not_mem_nil, or_false] at hx
    rcases hx with rfl | rfl
    · exact lf_wd (wd_kind ok.1)
    · exact lf_wd (wd_msg ok.2)
  | field k n v =>
    simp only [Dd.rest, List.mem_cons, List.not_mem_nil, or_false] at hx
    rcases hx with rfl | rfl | rfl
    · exact lf_wd (wd_kind ok.1)
    · exact lf_wd (wd_free ok.2.1)
    · exact lf_V ok.2.2
  | lost k m =>
    simp only [Dd.rest, List.mem_cons, List.not_mem_nil, or_false] at hx
    rcases hx with rfl | rfl
    · exact lf_wd (wd_kind ok.1)
    · exact lf_wd (wd_free ok.2)
  | under k m =>
    simp only [Dd.rest, List.mem_cons, List.not_mem_nil, or_false] at hx
    rcases hx with rfl | rfl
    · exact lf_wd (wd_kind ok.1)
    · exact lf_wd (wd_kind ok.2)
  | load p t =>
    simp only [Dd.rest, List.mem_cons, List.not_mem_nil, or_false] at hx
    rcases hx with rfl | rfl
    · exact lf_wd (wd_page ok.1)
    · exact lf_s (by have := ok.2.1; omega) ok.2.2
  | sweep => cases hx
  | forget => cases hx
theorem Dd.wt {d : Dd} (ok : d.ok) : Wt 50 d.dt := by
  refine .tup (k := 4) (m := 12) (fun x hx => ?_) (by have := d.rest_len; rw [List.length_cons]; omega) (by decide)
  rcases List.mem_cons.mp hx with rfl | hx
  · exact .v (by decide)
  have tv : ∀ ws : List V, ws.length ≤ 5 → Wt 12 (.tup (ws.map .v)) := fun ws h => .tup (k := 5) (m := 1) (fun y hy => by
    obtain ⟨v, _, rfl⟩ := List.mem_map.mp hy
    exact .v (by decide)) (by rw [List.length_map]; exact h) (by decide)
  have tm : ∀ ms : List (Str × Nat), ms.length ≤ 3 → Wt 12 (.tup (ms.map dMark)) := fun ms h => .tup (k := 3) (m := 3) (fun y hy => by
    obtain ⟨v, _, rfl⟩ := List.mem_map.mp hy
    refine .tup (k := 2) (m := 1) (fun z hz => ?_) (Nat.le_refl 2) (by decide)
    simp only [List.mem_cons, List.not_mem_nil, or_false] at hz
    rcases hz with rfl | rfl <;> exact .v (by decide)) (by rw [List.length_map]; exact h) (by decide)
  cases d <;> simp only [Dd.rest, List.mem_cons, List.not_mem_nil, or_false] at hx
  · rcases hx with rfl | rfl | rfl
    · exact .v (by decide)
    · exact .v (by decide)
    · exact tv _ ok.2.2.2
  · rcases hx with rfl | rfl
    · exact .v (by decide)
    · exact tm _ ok.2.2
  · subst hx; exact .v (by decide)
  · rcases hx with rfl | rfl | rfl <;> exact .v (by decide)
  · rcases hx with rfl | rfl <;> exact .v (by decide)
  · rcases hx with rfl | rfl | rfl <;> exact .v (by decide)
  · rcases hx with rfl | rfl <;> exact .v (by decide)
  · rcases hx with rfl | rfl <;> exact .v (by decide)
  · rcases hx with rfl | rfl <;> exact .v (by decide)
theorem all_flat (zs : List Dd) : Txt.join (Str.ofString "") (zs.map fun d => flatS d.rows) = flatS (allRows zs) := by
  apply TL.ext_tl
  show tl _ = flatT (allRows zs)
  have e : tl (Str.ofString "") = [] := by decide +kernel
  rw [tl_join, e, joinL_nil]
  induction zs with
  | nil => rfl
  | cons d zs ih =>
    have e2 : allRows (d :: zs) = d.rows ++ allRows zs := rfl
    rw [List.map_cons, List.map_cons, List.flatten_cons, ih, e2, flat_app]
    rfl
theorem flat_sum {zs : List Dd} (ok : ∀ d ∈ zs, d.ok) : ((zs.map fun d => flatS d.rows).map (·.length)).sum ≤ 700 * zs.length := by
  have := sum_le' (m := 700) (ls := (zs.map fun d => flatS d.rows).map (·.length)) fun l hl => by
    obtain ⟨y, hy, rfl⟩ := List.mem_map.mp hl
    obtain ⟨d, hd, rfl⟩ := List.mem_map.mp hy
    exact Dd.flat_len (ok d hd)
  rw [List.length_map, List.length_map] at this
  omega
section
variable {P : Program} {w : World} {K : PySem.W.Frag} {mg : Str → Option Value} {base : Heap}
theorem scLaw : FnScope ["_law_script", "_law_deck_here", "_law_deeds", "_law_texts", "_law_deed_here", "_law_text_here", "_law_k"] ["_law_script"] (defScope s_law) := ⟨rfl, rfl, rfl, by decide +kernel, rfl, by decide +kernel, by decide +kernel⟩
theorem law_go {fa : Addr} {fd : FuncData} (b_range : mg "range" = none) (b_tuple : mg "tuple" = none) (b_zip : mg "zip" = none) (b_repr : mg "repr" = none) (DK : C0 P w K mg base 1 "_law_deck" (spDk K)) (NX : C0 P w K mg base 1 "_law_next" spNx) (DD : C0 P w K mg base 5 "_law_deed" spDd) (TO : C0 P w K mg base 2 "_law_told" (spR 9 0 rDt)) (DT : C0 P w K mg base 11 "deed_text" (spR 9 0 rDt)) (RD : C0 P w K mg base 11 "read_deeds" (spR 9 4 rRd)) (F : Fun K "law" "law" s_law fa fd) : FnG P w K mg base 20 fa fd "_law_script" (spLaw K) := by
  refine fnG_of (x := "_law_script") F scLaw (fun vs H Q E h => ?_) fun cdv s H v Q E hr h => ?_
  · obtain ⟨a, ns, rfl, _⟩ := h
    rfl
  obtain ⟨a, ns, e, hS, hl, kq⟩ := h
  obtain rfl : v = .ref a := by injection e
  have hg : (callerA.deeper (PyProof.Rows.envOfC "law" (defScope s_law) s.heap.objs.size fa cdv)).guards = some [] := rfl
  have hug : (callerA.deeper (PyProof.Rows.envOfC "law" (defScope s_law) s.heap.objs.size fa cdv)).units + 200 < cLine := by
    have := hr.un
    omega
  refine ⟨_, pss_cons (ps_set (i := 1) scLaw.nd rfl (Or.inr rfl) (pe_cc DK hr (by omega) pass0 (pa_cons (pv 0) pa_nil))) <|
    pss_cons (ps_setLc (i := 2) (own := [("_law_k", 6)]) (g := (gName 6)) (by rfl) scLaw.nd rfl rfl (sw_true rfl rfl rfl (by decide +kernel)) (pi_range1 rfl b_range (pa_cons (pe_op op_add pe_int (pe_op op_mod (pe_cc NX hr (by omega) pass0 (pa_cons (pv 1) pa_nil)) pe_int)) pa_nil)) (blkOk_by (own := [("_law_k", 6)]) (N := ["_law_script", "_law_deck_here", "_law_deeds", "_law_texts", "_law_deed_here", "_law_text_here", "_law_k"]) (sc := defScope s_law) (by decide +kernel)) (fun _ _ _ _ _ => (pg_name (i := 6) scLaw.nd rfl (Or.inl rfl))) (fun _ _ _ _ _ => pts_nil) (fun _ _ _ _ _ => (pe_cc DD hr (by omega) pass0 (pa_cons (pv 1) pa_nil)))) <|
    pss_cons (ps_setLc (i := 3) (own := [("_law_deed_here", 4)]) (g := (gName 4)) (by rfl) scLaw.nd rfl rfl (sw_true rfl rfl rfl (by decide +kernel)) (pi_list (pv 2)) (blkOk_by (own := [("_law_deed_here", 4)]) (N := ["_law_script", "_law_deck_here", "_law_deeds", "_law_texts", "_law_deed_here", "_law_text_here", "_law_k"]) (sc := defScope s_law) (by decide +kernel)) (fun _ _ _ _ _ => (pg_name (i := 4) scLaw.nd rfl (Or.inl rfl))) (fun _ _ _ _ _ => pts_nil) (fun _ _ _ _ _ => (pe_cc TO hr (by omega) pass0 (pa_cons (pv 4) pa_nil)))) <|
    pss_cons (ps_for PassesOwn.never rfl (RZ.pi_zipA (by rfl) b_zip (pa_cons (pv 2) (pa_cons (pv 3) pa_nil))) (pg_tup (by rfl) (pgs_cons (pg_name (i := 4) scLaw.nd rfl (Or.inl rfl)) (pgs_cons (pg_name (i := 5) scLaw.nd rfl (Or.inl rfl)) pgs_nil)))
      (pss_one (ps_if (PW.pt (pw_or (pt_cmpR op_ne (pe_cc DT hr (by omega) pass0 (pa_cons (pv 4) pa_nil)) (pv 5) (nomark _)) (pw_or1 (pt_cmpR op_ne (pe_callB (call_reprD hg hug) (by rfl) b_repr (by decide +kernel) (pa_cons (pe_cc RD hr (by omega) pass0 (pa_cons (pv 5) pa_nil)) pa_nil)) (pe_callB (call_reprD hg hug) (by rfl) b_repr (by decide +kernel) (pa_cons (pe_tup (pa_cons (pv 4) pa_nil)) pa_nil)) (nomark _)))))
        (pss_one (ps_ret pe_bl))
        (pss_nil)))) <|
    pss_one (ps_ret (pe_and (pe_cmpR op_eq (pe_callB (call_reprD hg hug) (by rfl) b_repr (by decide +kernel) (pa_cons (pe_cc RD hr (by omega) pass0 (pa_cons (pe_join pe_str (pv 3)) pa_nil)) pa_nil)) (pe_callB (call_reprD hg hug) (by rfl) b_repr (by decide +kernel) (pa_cons (pe_callTy call_tuple_of (by rfl) b_tuple (by decide +kernel) (pa_cons (pv 2) pa_nil)) pa_nil)) (nomark _)) (pe_one (pe_cmpR op_eq (pe_callB (call_reprD hg hug) (by rfl) b_repr (by decide +kernel) (pa_cons (pe_cc RD hr (by omega) pass0 (pa_cons pe_str pa_nil)) pa_nil)) pe_str (nomark _))))), ?_⟩
  refine ⟨_, rfl, a, ns, rfl, hS, hl, fun H1 p l s1 d1 => ?_⟩
  refine ⟨_, rfl, p, l, 0, rfl, d1, by decide, fun n H2 s2 d2 hn => ?_⟩
  have n0 := Int.emod_nonneg n (show (14 : Int) ≠ 0 by decide)
  have n1 := Int.emod_lt_of_pos n (show (0 : Int) < 14 by decide)
  refine ⟨_, _, rfl, rfl, (by show (0 : Int) < 14; decide), _, _, rfl, rfl, _, rfl, by show -2 ^ 62 ≤ 1 + n % 14; omega, by show 1 + n % 14 < 2 ^ 62; omega, fun D hD => ?_⟩
  refine lc_range (lo := 0) (n := (1 + n % 14).toNat) (PvD H2 p l (0 + 1) 40 D 4 Dd.dt Dd.ok) (lcd_0 d2 hD) ?_ ?_
  · rintro i Hn hi pv
    refine ⟨rfl, ?_⟩
    unfold tYes
    simp only [if_true]
    exact ⟨_, rfl, p, l, 0 + 1 + 40 * i, rfl, pv.2.1, by omega, fun v H6 d s6 d6 hok av => lcd_s (fun d h => d.nld h) pv s6 d6 hok av (by omega)⟩
  rintro Hn ⟨s6, d6, _, vs, zs, g, al, hz, ok⟩
  have hz14 : zs.length ≤ 14 := by omega
  clear s6 d6 d2 s2 d1 s1
  have aD : ∀ {H' : Hp}, Same Hn H' → AtD H' 5 (.lst (zs.map Dd.dt)) (.ref D) := fun s => ⟨D, vs, rfl, s _ _ g, by rw [List.length_map]; omega, al.same s⟩
  have nlen : ∀ d ∈ zs, (flatS d.rows).length ≤ 700 := fun d hd => Dd.flat_len (ok d hd)
  refine EvD.gn (n := 1) (d := .lst ((zs.map fun d => flatS d.rows).map tS)) ?_ fun tv H3 s3 r3 => ?_
  · exact evd_to (evd_lcAL (K := K) (as := zs) (a := Dd.dt) (b := fun d => tS (flatS d.rows)) (m := 4) (evd_var rfl (aD (Same.refl _))) (tg_one (fun _ => rfl) fun z hz x H3 s3 ax => evd_r (evds_cons (evd_var rfl (ax.mono (by decide))) evds_nil) ⟨z, rfl, ok z hz, rfl⟩) fun _ _ => .v) (by rw [List.map_map]; rfl)
  obtain ⟨t, us, rfl, ht, htl, alt⟩ := r3
  have eus := all2_strs alt
  subst eus
  have gD := s3 _ _ g
  refine ⟨_, rfl, _, rfl, D, t, vs, _, rfl, .inl ⟨SqL.of gD, SqL.of ht, ?_⟩⟩
  have lvs : vs.length = zs.length := by rw [← al.len, List.length_map]
  refine RZ.for_zipL (by rw [lvs, List.length_map, List.length_map]) (fun i σ H' => ∃ (x4 x5 : Option V), σ = [some (.ref a), some (.ref p), some (.ref D), some (.ref t), x4, x5, none] ∧ Same H3 H') ⟨none, none, rfl, Same.refl _⟩ (fun i σ H' ⟨x4, x5, _, s⟩ => ⟨SqL.of (s _ _ gD), SqL.of (s _ _ ht)⟩) ?_ ?_
  · rintro i x y T σ H' hx hy ⟨x4, x5, rfl, s⟩ hT
    have sT := same_new hT (.tup [x, y])
    have fT : upd H' T (.tup [x, y]) T = some (.tup [x, y]) := upd_same
    generalize upd H' T (.tup [x, y]) = H5 at sT fT ⊢
    obtain ⟨d0, hd0, ad⟩ := al.get hx
    rw [List.getElem?_map] at hd0
    obtain ⟨d, hd, e0⟩ := Option.map_eq_some_iff.mp hd0
    subst e0
    rw [List.getElem?_map, List.getElem?_map, hd] at hy
    obtain rfl := Option.some.inj (show some (V.str (flatS d.rows)) = some y from hy)
    have okd := ok d (List.mem_of_getElem? hd)
    have s5 := s3.trans (s.trans sT)
    have ad5 := ad.same s5
    obtain ⟨py, hpy⟩ := (LfOk.tup (ds := [d.dt]) fun x hx => by rw [List.mem_singleton.mp hx]; exact Dd.lf okd).py
    have lf1 : LfOk (.tup [d.dt]) := .tup fun x hx => by rw [List.mem_singleton.mp hx]; exact Dd.lf okd
    have wt1 : Wt 51 (.tup [d.dt]) := .tup (k := 1) (m := 50) (fun x hx => by rw [List.mem_singleton.mp hx]; exact Dd.wt okd) (Nat.le_refl 1) (by decide)
    refine ⟨T, _, rfl, SqT.of fT, rfl, _, _, rfl, _, _, rfl, rfl, ?_⟩
    have v4 : ∀ {H6 : Hp}, Same H5 H6 → EvD (tVar 4) [some (.ref a), some (.ref p), some (.ref D), some (.ref t), some x, some (.str (flatS d.rows)), none] H6 9 d.dt := fun s => evd_var rfl ((ad5.same s).mono (by decide))
    have v5 : ∀ {H6 : Hp} {n : Nat}, EvD (tVar 5) [some (.ref a), some (.ref p), some (.ref D), some (.ref t), some x, some (.str (flatS d.rows)), none] H6 n (tS (flatS d.rows)) := evd_var rfl (atD_v (.str _))
    refine ifs_F ?_ fun H6 s6 => ⟨_, _, rfl, s.trans (sT.trans s6)⟩
    exact evt_or (a := false) (b := false) (evt_as (evt_t (evd_op (r := rNe) (evd_r (evds_cons (v4 (Same.refl _)) evds_nil) ⟨d, rfl, okd, rfl⟩) v5 (fun H Q q => ⟨rfl, q⟩) (.bl (!decide (V.str (flatS d.rows) = V.str (flatS d.rows)))))) (by rw [decide_eq_true rfl]; rfl)) fun _ => evt_as (evt_t (evd_op (r := rNe) (n := 0) (evd_repr (n := 4) (evd_r (evds_cons v5 evds_nil) ⟨[d], by show [tS (flatS d.rows)] = [tS (flatS (d.rows ++ []))]; rw [List.append_nil], fun x hx => by rw [List.mem_singleton.mp hx]; exact okd, Nat.le_of_ble_eq_true rfl, rfl⟩) lf1 wt1 (by decide) (by decide) hpy) (evd_repr (n := 10) (evd_tup (evds_cons (v4 (Same.refl _)) evds_nil) (Nat.le_of_ble_eq_true rfl)) lf1 wt1 (by decide) (by decide) hpy) (fun H Q q => ⟨rfl, q⟩) (.bl (!decide (V.str py.shown = V.str py.shown))))) (by rw [decide_eq_true rfl]; rfl)
  · rintro σ H' ⟨x4, x5, rfl, s⟩
    have lfz : LfOk (.tup (zs.map Dd.dt)) := .tup fun x hx => by
      obtain ⟨d, hd, rfl⟩ := List.mem_map.mp hx
      exact Dd.lf (ok d hd)
    obtain ⟨py, hpy⟩ := lfz.py
    have wtz : Wt 701 (.tup (zs.map Dd.dt)) := .tup (k := 14) (m := 50) (fun x hx => by
      obtain ⟨d, hd, rfl⟩ := List.mem_map.mp hx
      exact Dd.wt (ok d hd)) (by rw [List.length_map]; exact hz14) (by decide)
    have ss := flat_sum ok
    have l0 : (Str.ofString "").length = 0 := by decide +kernel
    have at_ : AtD H' 9 (.lst ((zs.map fun d => flatS d.rows).map tS)) (.ref t) := ⟨t, _, rfl, s _ _ ht, htl, strs_all2 _⟩
    have wt0 : Wt 1 (.tup []) := .tup (k := 0) (m := 0) (fun x hx => by cases hx) (Nat.le_refl 0) (by decide)
    have lf0 : LfOk (.tup []) := .tup fun x hx => by cases hx
    have py0 : PyOf (.tup []) (.tuple []) := .tup rfl fun i d p h => by simp at h
    refine EvR.nxgo (n := 0) (d := .v (.bl true)) (evr_ret (evd_as (evd_and (a := true) (b := true) (evd_as (evd_eqS (n := 0) (evd_repr (n := 4) (evd_r (evds_cons (d := tS (flatS (allRows zs))) (evd_to (evd_join (K := K) (n := 8) (zs := zs.map fun d => flatS d.rows) (evd_c (.str _)) (evd_var rfl at_) ?_) (by rw [all_flat])) evds_nil) ⟨zs, rfl, ok, hz14, rfl⟩) lfz wtz (by decide) (by decide) hpy) (evd_repr (n := 5) (evd_tupof (K := K) (evd_var rfl (aD (s3.trans s)))) lfz wtz (by decide) (by decide) hpy)) (decide_eq_true rfl)) fun _ => evd_as (evd_eqS (n := 0) (evd_repr (n := 4) (evd_r (evds_cons (d := tS (Str.ofString "")) (evd_c (.str _)) evds_nil) ⟨[], rfl, fun x hx => (by cases hx), by decide, rfl⟩) lf0 wt0 (by decide) (by decide) py0) (evd_c (.str _))) (by decide +kernel)) rfl)) fun v H6 s6 av => ?_
    · rw [l0]
      omega
    · obtain ⟨rfl, _⟩ := atD_pl av
      exact kq H6
end
end My
set_option Elab.async false
set_option linter.all false
set_option maxRecDepth 100000
set_option maxHeartbeats 4000000
namespace My
open PySem PySem.Spec PyProof.Rows L2 SS LamX
/-! ### a law that asks for repr, without a table: run where no guard stands -/
section
variable {P : Program} {w : World} {K : PySem.W.Frag} {mg : Str → Option Value} {base : Heap}
theorem law_call0 {mb : Str → Option Value} {k : Nat} {fa scr : Addr} {fd : FuncData} {x : Str} {sp : Sp} {sh : Shared} {vs : List Value} {ns : List Int}
    (inK : K.In sh.heap) (top : sh.heap.Ns mainGlobals mg) (bi : sh.heap.Ns builtinsNs mb) (boot : ∀ y : Str, y ≠ "__name__" → mb y = bootBuiltins y) (nolim : sh.heap.NoLimit) (nogen : sh.gens = #[])
    (lst : sh.heap.get? scr = some { cls := .type "list", data := .seq vs.toArray }) (numb : IntsAre vs ns) (fits : ns.length ≤ sizeLine) (room : Room k callerA)
    (F : ∀ base : Heap, K.In base → base.Ns mainGlobals mg → FnG P w K mg base k fa fd x sp) (binds : ∀ (s : Shared) (u : Value), BindsTo s fd ⟨[u], []⟩ [(x, u)])
    (post : ∀ H : Hp, SqL K H scr (ns.map V.int) → sp [.ref scr] H (fun v _ => v = .bl true) fun _ _ _ => False) :
    codeAny (model P w) callerA (.call (.ref fa) ⟨[.ref scr], []⟩) (fun r s' => r = .ok (.ret (.bool true)) ∧ OldK sh.heap s'.heap ∧ s'.os = sh.os ∧ AllBare s'.gens) sh := by
  have vals := vals_ints numb
  have vlen := numb.length
  -- what is tracked: the script where K doesn't hold it
  have main : ∀ H : Hp, (∀ c u, H c = some u → c = scr ∧ K.lookup scr = none ∧ ∃ o xs, u = .frz o (.lst xs)) → SqL K H scr (ns.map V.int) → HOk P w H sh.heap →
      codeAny (model P w) callerA (.call (.ref fa) ⟨[.ref scr], []⟩) (fun r s' => r = .ok (.ret (.bool true)) ∧ OldK sh.heap s'.heap ∧ s'.os = sh.os ∧ AllBare s'.gens) sh := by
    intro H only sq ok
    -- an object that isn't a list isn't tracked
    have plain : ∀ {c : Addr} {ob : Obj}, sh.heap.get? c = some ob → (∀ ws m, ob.data ≠ .seq ws m) → H c = none := fun {c ob} got no => by
      cases tr : H c with
      | none => rfl
      | some u =>
        obtain ⟨rfl, _, _⟩ := only c u tr
        rw [lst] at got
        obtain rfl := Option.some.inj got
        exact absurd rfl (no _ _)
    have names : ∀ {c : Addr} {m : Str → Option Value}, sh.heap.Ns c m → (hidT sh.heap H).Ns c m := fun {c m} ⟨ob, es, ep, got, isD, more⟩ => ⟨ob, es, ep, hidT_get got (plain got fun ws j z => by rw [isD] at z; cases z), isD, more⟩
    have held : K.In (hidT sh.heap H) := fun c ob got => hidT_get (inK c ob got) (by
      cases tr : H c with
      | none => rfl
      | some u =>
        obtain ⟨rfl, no, _⟩ := only c u tr
        rw [no] at got
        cases got)
    have mod : L2.Mod K mg (hidT sh.heap H) := by
      obtain ⟨mc, l1, l2⟩ := nolim
      exact ⟨held, names top, ⟨mb, names bi, boot⟩, ⟨mc, names l1, l2⟩⟩
    have env : Env0 P w K mg (hidT sh.heap H) callerA [] sh H :=
      { frames := rfl, mod := mod, bs := fun c ob got => of_hidT got, bsz := Nat.le_of_eq (hidT_size _ _), funs := trivial, frf := fun c hc => absurd (show c ∈ ([] : List Addr) from hc) (by simp), hok := ok, bare := .of_eq nogen }
    refine codeAny_mono (F _ held (names top) sh H (.ref scr) (.ref scr) _ _ room env (binds sh _) rfl (post H sq)) fun r s' got => ?_
    match r, got with
    | .error e, no => exact no.elim
    | .ok .next, no => exact no.elim
    | .ok .brk, no => exact no.elim
    | .ok .cont, no => exact no.elim
    | .ok (.ret u), ⟨v, H', os, bare, un, ok', rel, q⟩ =>
      have q : v = .bl true := q
      subst q
      obtain rfl : u = Value.bool true := rel
      have stay : ∀ c ob, sh.heap.get? c = some ob → s'.heap.get? c = some ob := fun c ob was => by
        cases tr : H c with
        | none => exact un.keep c ob was tr (fun z => nomatch (show c ∈ ([] : List Addr) from z)) (fun z => nomatch z)
        | some u =>
          obtain ⟨_, _, o, xs, rfl⟩ := only c u tr
          have a1 := (ok c _ tr).1
          have a2 := (ok' c _ (un.frzs c o _ tr)).1
          rw [was] at a1
          obtain rfl := Option.some.inj a1
          exact a2
      exact ⟨rfl, ⟨fun c ob was => .inl (stay c ob was), fun c ob was => ⟨ob, stay c ob was⟩⟩, os, bare⟩
  cases known : K.lookup scr with
  | some ob =>
    have got := inK scr ob known
    rw [lst] at got
    obtain rfl := Option.some.inj got
    exact main (fun _ => none) (fun c u tr => by cases tr) (.inr ⟨_, vs.toArray, _, known, rfl, rfl, rfl, by rw [List.size_toArray, vlen]; exact fits, by simpa using vals⟩) fun c u tr => by cases tr
  | none =>
    refine main (fun c => if c = scr then some (.frz { cls := .type "list", data := .seq vs.toArray } (.lst (ns.map V.int))) else none) (fun c u tr => ?_) (.inl (.inr ⟨{ cls := .type "list", data := .seq vs.toArray }, if_pos rfl⟩)) fun c u tr => ?_
    · try dsimp only at tr
      by_cases z : c = scr
      · rw [if_pos z] at tr
        exact ⟨z, known, _, _, (Option.some.inj tr).symm⟩
      · rw [if_neg z] at tr
        cases tr
    · try dsimp only at tr
      by_cases z : c = scr
      · rw [if_pos z] at tr
        obtain rfl := Option.some.inj tr
        rw [z]
        exact ⟨lst, by rw [List.length_map]; exact fits, vs, _, vals, lst⟩
      · rw [if_neg z] at tr
        cases tr
end
/-- what must be known of the law at the head's heap -/
def Law0 (l : PySem.W.OpenLaw) (w : World) (K : PySem.W.Frag) (k n : Nat) (x : Str) (mg : Str → Option Value) (fa : Addr) (h : Heap) : Prop :=
  ∃ (fd : FuncData) (sp : Sp), (∀ (s : Shared) (u : Value), BindsTo s fd ⟨[u], []⟩ [(x, u)]) ∧
    (∀ (H : Hp) (a : Addr) (ns : List Int), ns.length ≤ n → SqL K H a (ns.map V.int) → sp [.ref a] H (fun v _ => v = .bl true) fun _ _ _ => False) ∧
    ∀ base : Heap, K.In base → base.Ns mainGlobals mg → FnG l.prog w K mg base k fa fd x sp
theorem walk_0 {l : PySem.W.OpenLaw} {n k : Nat} {q : Program} {names : List Str} {XP : (Str → Option Value) → Heap → Prop} {YP : World → Heap → Prop} {d : DefRec} {K : Params → PySem.W.Frag} {x : Str}
    (most : l.most = some n) (line : n ≤ sizeLine) (plain : d.params.defaults = []) (room : Room k callerA) (inK : ∀ (w : World) (h : Heap), YP w h → (K w.params).In h)
    (F : ∀ (w : World) (mg : Str → Option Value) (fa : Addr) (h : Heap), YP w h → (K w.params).In h → h.Ns mainGlobals mg → mg d.name = some (.ref fa) → Law0 l w (K w.params) k n x mg fa h) :
    PySem.W.WalkO q names XP YP l.row.toRowW d [] (fun f vs => PySem.call f vs) :=
  Att.attach_call most plain fun w _ sh mg _ fa _ _ _ _ scr vs ns grd Y _ _ _ name lst numb few nogen => by
    obtain ⟨fd, sp, h4, h5, h6⟩ := F w mg fa _ Y (inK w _ Y) grd.T.g name
    exact law_call0 (inK w _ Y) grd.T.g grd.T.b grd.T.builtins grd.T.nolimit nogen lst numb (Nat.le_trans few line) room h6 h4 fun H b => h5 H scr ns few b
end My
set_option Elab.async false
set_option linter.all false
set_option maxRecDepth 100000
set_option maxHeartbeats 4000000
namespace My
open PySem L2 SS
theorem law_ok {P : Program} {w : World} {K : PySem.W.Frag} {mg : Str → Option Value} {base : Heap} (Z : Fz K mg) (PT : PtOk K w mg) {f : Addr} {fd : FuncData} (F : Fun K "law" "law" s_law f fd) : FnG P w K mg base 20 f fd "_law_script" (spLaw K) := by
  have HO := ct_has_only (P := P) (w := w) (base := base) Z.D_has_only
  have NM := ct_is_name (P := P) (w := w) (base := base) Z.b_len Z.g_MOST_NAME_SIGNS HO Z.D_is_name
  have KN := ct_is_kind_name (P := P) (w := w) (base := base) Z.g_CAPITALS Z.g_KIND_SIGNS NM Z.D_is_kind_name
  have TXT := ct_is_text (P := P) (w := w) (base := base) Z.b_len Z.g_MOST_TEXT_SIGNS Z.g_TEXT_SIGNS HO Z.D_is_text
  have SL := c_small (P := P) (w := w) (base := base) Z.g_SMALL Z.g_SMALL_SIGNS NM Z.D_is_small
  have PG := c_page (P := P) (w := w) (base := base) Z.g_SMALL NM Z.D_is_page_name
  have FR := c_free (P := P) (w := w) (base := base) Z.g_KEPT SL Z.D_is_free
  have MSG := c_msg (P := P) (w := w) (base := base) Z.g_MESSAGE_MARKS FR Z.D_is_message
  have NUM := c_num (P := P) (w := w) (base := base) Z.b_len Z.b_int Z.b_str Z.g_BIG Z.g_FIGURES HO Z.D_is_number
  have WH := c_wh (P := P) (w := w) (base := base) Z.b_isinstance Z.b_int Z.b_bool Z.D_is_whole
  have NWI := c_nwi (P := P) (w := w) (base := base) WH Z.D_is_number_within
  have NU := c_nu (P := P) (w := w) (base := base) WH Z.D_is_number_from_0
  have RW_ := c_rw (P := P) (w := w) (base := base) Z.b_isinstance Z.b_tuple Z.b_len Z.D_is_row
  have PLA := c_pla (P := P) (w := w) (base := base) Z.b_isinstance Z.b_int Z.b_bool Z.b_str Z.g_BIG TXT Z.D_is_plain
  have SO := c_so (P := P) (w := w) (base := base) Z.b_isinstance Z.b_bool Z.b_int Z.b_str Z.b_tuple Z.D_sort_of
  have FG := c_fg (P := P) (w := w) (base := base) Z.g_FIGURES HO Z.D_is_figures
  have NO := c_no (P := P) (w := w) (base := base) Z.b_len Z.b_int Z.b_range Z.g_PART_FIGURES Z.D_number_of
  have FO := c_fo (P := P) (w := w) (base := base) Z.b_str Z.g_PART Z.D_figures_of
  have WW := c_ww (P := P) (w := w) (base := base) Z.b_str SO Z.D_word_of_worth
  have WO := c_wo (P := P) (w := w) (base := base) Z.b_int TXT NUM Z.D_worth_of_word
  have WP := c_wp (P := P) (w := w) (base := base) Z.b_isinstance Z.b_str FO Z.D_word_of_part
  have NW := c_nw (P := P) (w := w) (base := base) NO FG Z.D_number_of_word
  have MW := c_mw (P := P) (w := w) (base := base) NW Z.D_mark_of_word
  have WD := c_wd (P := P) (w := w) (base := base) KN MSG FR PG Z.D_is_word_of_deed
  have PDN := c_pdn (P := P) (w := w) (base := base) Z.D_is_part_of_deed
  have IMN := c_imn (P := P) (w := w) (base := base) Z.D_is_mark
  have PD0 := c_pd0 (P := P) (w := w) (base := base) Z.b_isinstance Z.b_str Z.b_tuple Z.b_all Z.g_MOST_BEATS PDN IMN NWI NU PLA WD Z.D_is_part_of_deed
  have IM := c_im (P := P) (w := w) (base := base) Z.g_MOST_ROWS PD0 RW_ NWI Z.D_is_mark
  have PD := c_pd (P := P) (w := w) (base := base) Z.b_isinstance Z.b_str Z.b_tuple Z.b_all Z.g_MOST_BEATS PD0 IM NWI NU PLA WD Z.D_is_part_of_deed
  have IS := c_is (P := P) (w := w) (base := base) Z.b_isinstance Z.b_str Z.b_tuple Z.b_all Z.b_len Z.b_zip PT PD Z.D_is_deed
  have WDS := c_wds (P := P) (w := w) (base := base) WW WP FO Z.D_words_of_deed
  have DT := c_dt (P := P) (w := w) (base := base) IS WDS Z.D_deed_text
  have DW := c_dw (P := P) (w := w) (base := base) Z.b_len Z.b_tuple WO NW MW Z.D_deed_of_words
  have ML := c_ml (P := P) (w := w) (base := base) Z.b_len Z.D_many_lines
  have DL := c_dl (P := P) (w := w) (base := base) DW ML Z.D_deed_of_lines
  have RD := c_rd (P := P) (w := w) (base := base) Z.b_isinstance Z.b_str Z.b_tuple DL IS ML Z.D_read_deeds
  have DK := c_dk (P := P) (w := w) (base := base) Z.b_min Z.b_len Z.b_range Z.D__law_deck
  have NX := c_nx (P := P) (w := w) (base := base) Z.b_len Z.D__law_next
  have RWW := c_row (P := P) (w := w) (base := base) Z.b_len Z.b_range NX Z.D__law_row
  have SHE := c_sh (P := P) (w := w) (base := base) NX RWW Z.D__law_sheet
  have KI := c_ki (P := P) (w := w) (base := base) NX RWW Z.D__law_kind
  have SMA := c_sma (P := P) (w := w) (base := base) NX RWW Z.D__law_small
  have MES := c_mes (P := P) (w := w) (base := base) NX SMA Z.D__law_message
  have WOR := c_wor (P := P) (w := w) (base := base) NX RWW Z.D__law_worth
  have TEX := c_tex (P := P) (w := w) (base := base) Z.b_range NX Z.D__law_text
  have DD := c_dd (P := P) (w := w) (base := base) Z.b_range Z.b_tuple NX KI MES WOR SHE SMA TEX Z.D__law_deed
  have LW := c_lw (P := P) (w := w) (base := base) Z.b_isinstance Z.b_str Z.b_bool Z.b_int Z.D__law_word
  have TO := c_to (P := P) (w := w) (base := base) Z.b_str LW Z.D__law_told
  exact law_go Z.b_range Z.b_tuple Z.b_zip Z.b_repr DK NX DD TO DT RD F
end My
set_option Elab.async false
set_option linter.all false
set_option maxRecDepth 100000
set_option maxHeartbeats 8000000
namespace My
open PySem L2 SS
theorem vals_strs : ∀ (zs : List Str) (us : List Value), us.map (fun u => match u with | .str z _ => some z | _ => none) = zs.map some → Vals (zs.map V.str) us
  | [], [], _ => .nil
  | [], u :: us, h => by simp at h
  | z :: zs, [], h => by simp at h
  | z :: zs, u :: us, h => by
    rw [List.map_cons, List.map_cons] at h
    injection h with h1 h2
    refine .cons ?_ (vals_strs zs us h2)
    cases u with
    | str y t =>
      obtain rfl := Option.some.inj h1
      exact ⟨t, rfl⟩
    | _ => cases h1
theorem exm_self {K : PySem.W.Frag} {S : Addr} (h1 : PySem.W.subIn K (.ref S) (.type "BaseException") = some true) (h2 : PySem.W.isClsIn K S = true) (h3 : PySem.W.typeIn K (.ref S) = some (.type "type")) (h4 : PySem.W.subIn K (.ref S) (.ref S) = some true) :
    PySem.W.exmOne K (.ref S) (.ref S) = some true := by
  have e1 : (PySem.W.subIn K (.ref S) (.type "BaseException") == some true) = true := by rw [h1] <;> rfl
  have e2 : ((PySem.W.clsIn K S).isSome && PySem.W.typeIn K (.ref S) == some (.type "type")) = true := by
    have h2' : (PySem.W.clsIn K S).isSome = true := h2
    rw [h2', h3] <;> rfl
  show (if (PySem.W.subIn K (.ref S) (.type "BaseException") == some true) = true then (if ((PySem.W.clsIn K S).isSome && PySem.W.typeIn K (.ref S) == some (.type "type")) = true then PySem.W.subIn K (.ref S) (.ref S) else none) else none) = some true
  rw [if_pos e1, if_pos e2]
  exact h4
/-- two defs of two names stand at two places -/
def nameAt : Option Obj → Str
  | some ⟨_, _, .func fd, _⟩ => fd.name
  | _ => ""
theorem two_places {o1 o2 : Option Obj} (h : nameAt o1 ≠ nameAt o2) : o1 ≠ o2 := fun e => h (by rw [e])
theorem all_mk {l : PySem.W.OpenLaw} {w : World} {K : PySem.W.Frag} {h : Heap} {mg : Str → Option Value} {fa : Addr} (X : K.In h) (G : h.Ns mainGlobals mg) (hfa : mg "law" = some (.ref fa))
    {f0 : Addr} {oc0 kV0 dc0 pm0 cd0 ct0 : Value} {od0 an0 : Option Addr} {sl0 : Array (Option Value)}
    {f1 : Addr} {oc1 kV1 dc1 pm1 cd1 ct1 : Value} {od1 an1 : Option Addr} {sl1 : Array (Option Value)}
    {f2 : Addr} {oc2 kV2 dc2 pm2 cd2 ct2 : Value} {od2 an2 : Option Addr} {sl2 : Array (Option Value)}
    {f3 : Addr} {oc3 kV3 dc3 pm3 cd3 ct3 : Value} {od3 an3 : Option Addr} {sl3 : Array (Option Value)}
    {f4 : Addr} {oc4 kV4 dc4 pm4 cd4 ct4 : Value} {od4 an4 : Option Addr} {sl4 : Array (Option Value)}
    {f5 : Addr} {oc5 kV5 dc5 pm5 cd5 ct5 : Value} {od5 an5 : Option Addr} {sl5 : Array (Option Value)}
    {f6 : Addr} {oc6 kV6 dc6 pm6 cd6 ct6 : Value} {od6 an6 : Option Addr} {sl6 : Array (Option Value)}
    {f7 : Addr} {oc7 kV7 dc7 pm7 cd7 ct7 : Value} {od7 an7 : Option Addr} {sl7 : Array (Option Value)}
    {f8 : Addr} {oc8 kV8 dc8 pm8 cd8 ct8 : Value} {od8 an8 : Option Addr} {sl8 : Array (Option Value)}
    {f9 : Addr} {oc9 kV9 dc9 pm9 cd9 ct9 : Value} {od9 an9 : Option Addr} {sl9 : Array (Option Value)}
    {f10 : Addr} {oc10 kV10 dc10 pm10 cd10 ct10 : Value} {od10 an10 : Option Addr} {sl10 : Array (Option Value)}
    {f11 : Addr} {oc11 kV11 dc11 pm11 cd11 ct11 : Value} {od11 an11 : Option Addr} {sl11 : Array (Option Value)}
    {f12 : Addr} {oc12 kV12 dc12 pm12 cd12 ct12 : Value} {od12 an12 : Option Addr} {sl12 : Array (Option Value)}
    {f13 : Addr} {oc13 kV13 dc13 pm13 cd13 ct13 : Value} {od13 an13 : Option Addr} {sl13 : Array (Option Value)}
    {f14 : Addr} {oc14 kV14 dc14 pm14 cd14 ct14 : Value} {od14 an14 : Option Addr} {sl14 : Array (Option Value)}
    {f15 : Addr} {oc15 kV15 dc15 pm15 cd15 ct15 : Value} {od15 an15 : Option Addr} {sl15 : Array (Option Value)}
    {f16 : Addr} {oc16 kV16 dc16 pm16 cd16 ct16 : Value} {od16 an16 : Option Addr} {sl16 : Array (Option Value)}
    {f17 : Addr} {oc17 kV17 dc17 pm17 cd17 ct17 : Value} {od17 an17 : Option Addr} {sl17 : Array (Option Value)}
    {f18 : Addr} {oc18 kV18 dc18 pm18 cd18 ct18 : Value} {od18 an18 : Option Addr} {sl18 : Array (Option Value)}
    {f19 : Addr} {oc19 kV19 dc19 pm19 cd19 ct19 : Value} {od19 an19 : Option Addr} {sl19 : Array (Option Value)}
    {f20 : Addr} {oc20 kV20 dc20 pm20 cd20 ct20 : Value} {od20 an20 : Option Addr} {sl20 : Array (Option Value)}
    {f21 : Addr} {oc21 kV21 dc21 pm21 cd21 ct21 : Value} {od21 an21 : Option Addr} {sl21 : Array (Option Value)}
    {f22 : Addr} {oc22 kV22 dc22 pm22 cd22 ct22 : Value} {od22 an22 : Option Addr} {sl22 : Array (Option Value)}
    {f23 : Addr} {oc23 kV23 dc23 pm23 cd23 ct23 : Value} {od23 an23 : Option Addr} {sl23 : Array (Option Value)}
    {f24 : Addr} {oc24 kV24 dc24 pm24 cd24 ct24 : Value} {od24 an24 : Option Addr} {sl24 : Array (Option Value)}
    {f25 : Addr} {oc25 kV25 dc25 pm25 cd25 ct25 : Value} {od25 an25 : Option Addr} {sl25 : Array (Option Value)}
    {f26 : Addr} {oc26 kV26 dc26 pm26 cd26 ct26 : Value} {od26 an26 : Option Addr} {sl26 : Array (Option Value)}
    {f27 : Addr} {oc27 kV27 dc27 pm27 cd27 ct27 : Value} {od27 an27 : Option Addr} {sl27 : Array (Option Value)}
    {f28 : Addr} {oc28 kV28 dc28 pm28 cd28 ct28 : Value} {od28 an28 : Option Addr} {sl28 : Array (Option Value)}
    {f29 : Addr} {oc29 kV29 dc29 pm29 cd29 ct29 : Value} {od29 an29 : Option Addr} {sl29 : Array (Option Value)}
    {f30 : Addr} {oc30 kV30 dc30 pm30 cd30 ct30 : Value} {od30 an30 : Option Addr} {sl30 : Array (Option Value)}
    {f31 : Addr} {oc31 kV31 dc31 pm31 cd31 ct31 : Value} {od31 an31 : Option Addr} {sl31 : Array (Option Value)}
    {f32 : Addr} {oc32 kV32 dc32 pm32 cd32 ct32 : Value} {od32 an32 : Option Addr} {sl32 : Array (Option Value)}
    {f33 : Addr} {oc33 kV33 dc33 pm33 cd33 ct33 : Value} {od33 an33 : Option Addr} {sl33 : Array (Option Value)}
    {f34 : Addr} {oc34 kV34 dc34 pm34 cd34 ct34 : Value} {od34 an34 : Option Addr} {sl34 : Array (Option Value)}
    {f35 : Addr} {oc35 kV35 dc35 pm35 cd35 ct35 : Value} {od35 an35 : Option Addr} {sl35 : Array (Option Value)}
    {f36 : Addr} {oc36 kV36 dc36 pm36 cd36 ct36 : Value} {od36 an36 : Option Addr} {sl36 : Array (Option Value)}
    {f37 : Addr} {oc37 kV37 dc37 pm37 cd37 ct37 : Value} {od37 an37 : Option Addr} {sl37 : Array (Option Value)}
    {f38 : Addr} {oc38 kV38 dc38 pm38 cd38 ct38 : Value} {od38 an38 : Option Addr} {sl38 : Array (Option Value)}
    {f39 : Addr} {oc39 kV39 dc39 pm39 cd39 ct39 : Value} {od39 an39 : Option Addr} {sl39 : Array (Option Value)}
    {f40 : Addr} {oc40 kV40 dc40 pm40 cd40 ct40 : Value} {od40 an40 : Option Addr} {sl40 : Array (Option Value)}
    {f41 : Addr} {oc41 kV41 dc41 pm41 cd41 ct41 : Value} {od41 an41 : Option Addr} {sl41 : Array (Option Value)}
    {f42 : Addr} {oc42 kV42 dc42 pm42 cd42 ct42 : Value} {od42 an42 : Option Addr} {sl42 : Array (Option Value)}
    {f43 : Addr} {oc43 kV43 dc43 pm43 cd43 ct43 : Value} {od43 an43 : Option Addr} {sl43 : Array (Option Value)}
    {f44 : Addr} {oc44 kV44 dc44 pm44 cd44 ct44 : Value} {od44 an44 : Option Addr} {sl44 : Array (Option Value)}
    {f45 : Addr} {oc45 kV45 dc45 pm45 cd45 ct45 : Value} {od45 an45 : Option Addr} {sl45 : Array (Option Value)}
    {t_BIG : Tok}
    {t_MOST_ROWS : Tok}
    {t_MOST_TEXT_SIGNS : Tok}
    {t_MOST_NAME_SIGNS : Tok}
    {t_SMALL : Tok} {s_SMALL : Str}
    {t_CAPITALS : Tok} {s_CAPITALS : Str}
    {t_FIGURES : Tok} {s_FIGURES : Str}
    {t_SMALL_SIGNS : Tok} {s_SMALL_SIGNS : Str}
    {t_KIND_SIGNS : Tok} {s_KIND_SIGNS : Str}
    {t_TEXT_SIGNS : Tok} {s_TEXT_SIGNS : Str}
    {p_KEPT : Addr} {o_KEPT : Obj} {i_KEPT : Array Value} {n_KEPT : Nat}
    {p_MESSAGE_MARKS : Addr} {o_MESSAGE_MARKS : Obj} {i_MESSAGE_MARKS : Array Value} {n_MESSAGE_MARKS : Nat}
    {t_MOST_BEATS : Tok}
    {t_PART_FIGURES : Tok}
    {t_PART : Tok}
    {pd : Addr}
    {q0 : Addr} {qo0 : Obj} {qi0 : Array Value} {qn0 : Nat}
    {q1 : Addr} {qo1 : Obj} {qi1 : Array Value} {qn1 : Nat}
    {q2 : Addr} {qo2 : Obj} {qi2 : Array Value} {qn2 : Nat}
    {q3 : Addr} {qo3 : Obj} {qi3 : Array Value} {qn3 : Nat}
    {q4 : Addr} {qo4 : Obj} {qi4 : Array Value} {qn4 : Nat}
    {q5 : Addr} {qo5 : Obj} {qi5 : Array Value} {qn5 : Nat}
    {q6 : Addr} {qo6 : Obj} {qi6 : Array Value} {qn6 : Nat}
    {q7 : Addr} {qo7 : Obj} {qi7 : Array Value} {qn7 : Nat}
    {q8 : Addr} {qo8 : Obj} {qi8 : Array Value} {qn8 : Nat}
    {q9 : Addr} {qo9 : Obj} {qi9 : Array Value} {qn9 : Nat}
    {q10 : Addr} {qo10 : Obj} {qi10 : Array Value} {qn10 : Nat}
    (a0 : PySem.W.nsIn K mainGlobals "is_small" = some (some (.ref f0)))
    (l0 : K.lookup f0 = some ⟨oc0, od0, .func (PySem.W.fnOf "is_small" "is_small" (defArgs s_is_small) (defBody s_is_small) (defScope s_is_small) .none kV0 dc0 pm0 an0 cd0 ct0), sl0⟩)
    (c0 : PySem.W.codeIn K cd0 "is_small" = true)
    (k0 : PySem.W.keepIn K (.ref f0) = true)
    (a1 : PySem.W.nsIn K mainGlobals "is_free" = some (some (.ref f1)))
    (l1 : K.lookup f1 = some ⟨oc1, od1, .func (PySem.W.fnOf "is_free" "is_free" (defArgs s_is_free) (defBody s_is_free) (defScope s_is_free) .none kV1 dc1 pm1 an1 cd1 ct1), sl1⟩)
    (c1 : PySem.W.codeIn K cd1 "is_free" = true)
    (k1 : PySem.W.keepIn K (.ref f1) = true)
    (a2 : PySem.W.nsIn K mainGlobals "is_kind_name" = some (some (.ref f2)))
    (l2 : K.lookup f2 = some ⟨oc2, od2, .func (PySem.W.fnOf "is_kind_name" "is_kind_name" (defArgs s_is_kind_name) (defBody s_is_kind_name) (defScope s_is_kind_name) .none kV2 dc2 pm2 an2 cd2 ct2), sl2⟩)
    (c2 : PySem.W.codeIn K cd2 "is_kind_name" = true)
    (k2 : PySem.W.keepIn K (.ref f2) = true)
    (a3 : PySem.W.nsIn K mainGlobals "is_page_name" = some (some (.ref f3)))
    (l3 : K.lookup f3 = some ⟨oc3, od3, .func (PySem.W.fnOf "is_page_name" "is_page_name" (defArgs s_is_page_name) (defBody s_is_page_name) (defScope s_is_page_name) .none kV3 dc3 pm3 an3 cd3 ct3), sl3⟩)
    (c3 : PySem.W.codeIn K cd3 "is_page_name" = true)
    (k3 : PySem.W.keepIn K (.ref f3) = true)
    (a4 : PySem.W.nsIn K mainGlobals "is_name" = some (some (.ref f4)))
    (l4 : K.lookup f4 = some ⟨oc4, od4, .func (PySem.W.fnOf "is_name" "is_name" (defArgs s_is_name) (defBody s_is_name) (defScope s_is_name) .none kV4 dc4 pm4 an4 cd4 ct4), sl4⟩)
    (c4 : PySem.W.codeIn K cd4 "is_name" = true)
    (k4 : PySem.W.keepIn K (.ref f4) = true)
    (a5 : PySem.W.nsIn K mainGlobals "is_text" = some (some (.ref f5)))
    (l5 : K.lookup f5 = some ⟨oc5, od5, .func (PySem.W.fnOf "is_text" "is_text" (defArgs s_is_text) (defBody s_is_text) (defScope s_is_text) .none kV5 dc5 pm5 an5 cd5 ct5), sl5⟩)
    (c5 : PySem.W.codeIn K cd5 "is_text" = true)
    (k5 : PySem.W.keepIn K (.ref f5) = true)
    (a6 : PySem.W.nsIn K mainGlobals "is_number" = some (some (.ref f6)))
    (l6 : K.lookup f6 = some ⟨oc6, od6, .func (PySem.W.fnOf "is_number" "is_number" (defArgs s_is_number) (defBody s_is_number) (defScope s_is_number) .none kV6 dc6 pm6 an6 cd6 ct6), sl6⟩)
    (c6 : PySem.W.codeIn K cd6 "is_number" = true)
    (k6 : PySem.W.keepIn K (.ref f6) = true)
    (a7 : PySem.W.nsIn K mainGlobals "has_only" = some (some (.ref f7)))
    (l7 : K.lookup f7 = some ⟨oc7, od7, .func (PySem.W.fnOf "has_only" "has_only" (defArgs s_has_only) (defBody s_has_only) (defScope s_has_only) .none kV7 dc7 pm7 an7 cd7 ct7), sl7⟩)
    (c7 : PySem.W.codeIn K cd7 "has_only" = true)
    (k7 : PySem.W.keepIn K (.ref f7) = true)
    (a8 : PySem.W.nsIn K mainGlobals "sort_of" = some (some (.ref f8)))
    (l8 : K.lookup f8 = some ⟨oc8, od8, .func (PySem.W.fnOf "sort_of" "sort_of" (defArgs s_sort_of) (defBody s_sort_of) (defScope s_sort_of) .none kV8 dc8 pm8 an8 cd8 ct8), sl8⟩)
    (c8 : PySem.W.codeIn K cd8 "sort_of" = true)
    (k8 : PySem.W.keepIn K (.ref f8) = true)
    (a9 : PySem.W.nsIn K mainGlobals "is_number_within" = some (some (.ref f9)))
    (l9 : K.lookup f9 = some ⟨oc9, od9, .func (PySem.W.fnOf "is_number_within" "is_number_within" (defArgs s_is_number_within) (defBody s_is_number_within) (defScope s_is_number_within) .none kV9 dc9 pm9 an9 cd9 ct9), sl9⟩)
    (c9 : PySem.W.codeIn K cd9 "is_number_within" = true)
    (k9 : PySem.W.keepIn K (.ref f9) = true)
    (a10 : PySem.W.nsIn K mainGlobals "is_whole" = some (some (.ref f10)))
    (l10 : K.lookup f10 = some ⟨oc10, od10, .func (PySem.W.fnOf "is_whole" "is_whole" (defArgs s_is_whole) (defBody s_is_whole) (defScope s_is_whole) .none kV10 dc10 pm10 an10 cd10 ct10), sl10⟩)
    (c10 : PySem.W.codeIn K cd10 "is_whole" = true)
    (k10 : PySem.W.keepIn K (.ref f10) = true)
    (a11 : PySem.W.nsIn K mainGlobals "is_row" = some (some (.ref f11)))
    (l11 : K.lookup f11 = some ⟨oc11, od11, .func (PySem.W.fnOf "is_row" "is_row" (defArgs s_is_row) (defBody s_is_row) (defScope s_is_row) .none kV11 dc11 pm11 an11 cd11 ct11), sl11⟩)
    (c11 : PySem.W.codeIn K cd11 "is_row" = true)
    (k11 : PySem.W.keepIn K (.ref f11) = true)
    (a12 : PySem.W.nsIn K mainGlobals "is_plain" = some (some (.ref f12)))
    (l12 : K.lookup f12 = some ⟨oc12, od12, .func (PySem.W.fnOf "is_plain" "is_plain" (defArgs s_is_plain) (defBody s_is_plain) (defScope s_is_plain) .none kV12 dc12 pm12 an12 cd12 ct12), sl12⟩)
    (c12 : PySem.W.codeIn K cd12 "is_plain" = true)
    (k12 : PySem.W.keepIn K (.ref f12) = true)
    (a13 : PySem.W.nsIn K mainGlobals "is_number_from_0" = some (some (.ref f13)))
    (l13 : K.lookup f13 = some ⟨oc13, od13, .func (PySem.W.fnOf "is_number_from_0" "is_number_from_0" (defArgs s_is_number_from_0) (defBody s_is_number_from_0) (defScope s_is_number_from_0) .none kV13 dc13 pm13 an13 cd13 ct13), sl13⟩)
    (c13 : PySem.W.codeIn K cd13 "is_number_from_0" = true)
    (k13 : PySem.W.keepIn K (.ref f13) = true)
    (a14 : PySem.W.nsIn K mainGlobals "is_message" = some (some (.ref f14)))
    (l14 : K.lookup f14 = some ⟨oc14, od14, .func (PySem.W.fnOf "is_message" "is_message" (defArgs s_is_message) (defBody s_is_message) (defScope s_is_message) .none kV14 dc14 pm14 an14 cd14 ct14), sl14⟩)
    (c14 : PySem.W.codeIn K cd14 "is_message" = true)
    (k14 : PySem.W.keepIn K (.ref f14) = true)
    (a15 : PySem.W.nsIn K mainGlobals "is_deed" = some (some (.ref f15)))
    (l15 : K.lookup f15 = some ⟨oc15, od15, .func (PySem.W.fnOf "is_deed" "is_deed" (defArgs s_is_deed) (defBody s_is_deed) (defScope s_is_deed) .none kV15 dc15 pm15 an15 cd15 ct15), sl15⟩)
    (c15 : PySem.W.codeIn K cd15 "is_deed" = true)
    (k15 : PySem.W.keepIn K (.ref f15) = true)
    (a16 : PySem.W.nsIn K mainGlobals "is_part_of_deed" = some (some (.ref f16)))
    (l16 : K.lookup f16 = some ⟨oc16, od16, .func (PySem.W.fnOf "is_part_of_deed" "is_part_of_deed" (defArgs s_is_part_of_deed) (defBody s_is_part_of_deed) (defScope s_is_part_of_deed) .none kV16 dc16 pm16 an16 cd16 ct16), sl16⟩)
    (c16 : PySem.W.codeIn K cd16 "is_part_of_deed" = true)
    (k16 : PySem.W.keepIn K (.ref f16) = true)
    (a17 : PySem.W.nsIn K mainGlobals "is_mark" = some (some (.ref f17)))
    (l17 : K.lookup f17 = some ⟨oc17, od17, .func (PySem.W.fnOf "is_mark" "is_mark" (defArgs s_is_mark) (defBody s_is_mark) (defScope s_is_mark) .none kV17 dc17 pm17 an17 cd17 ct17), sl17⟩)
    (c17 : PySem.W.codeIn K cd17 "is_mark" = true)
    (k17 : PySem.W.keepIn K (.ref f17) = true)
    (a18 : PySem.W.nsIn K mainGlobals "is_word_of_deed" = some (some (.ref f18)))
    (l18 : K.lookup f18 = some ⟨oc18, od18, .func (PySem.W.fnOf "is_word_of_deed" "is_word_of_deed" (defArgs s_is_word_of_deed) (defBody s_is_word_of_deed) (defScope s_is_word_of_deed) .none kV18 dc18 pm18 an18 cd18 ct18), sl18⟩)
    (c18 : PySem.W.codeIn K cd18 "is_word_of_deed" = true)
    (k18 : PySem.W.keepIn K (.ref f18) = true)
    (a19 : PySem.W.nsIn K mainGlobals "is_figures" = some (some (.ref f19)))
    (l19 : K.lookup f19 = some ⟨oc19, od19, .func (PySem.W.fnOf "is_figures" "is_figures" (defArgs s_is_figures) (defBody s_is_figures) (defScope s_is_figures) .none kV19 dc19 pm19 an19 cd19 ct19), sl19⟩)
    (c19 : PySem.W.codeIn K cd19 "is_figures" = true)
    (k19 : PySem.W.keepIn K (.ref f19) = true)
    (a20 : PySem.W.nsIn K mainGlobals "number_of" = some (some (.ref f20)))
    (l20 : K.lookup f20 = some ⟨oc20, od20, .func (PySem.W.fnOf "number_of" "number_of" (defArgs s_number_of) (defBody s_number_of) (defScope s_number_of) .none kV20 dc20 pm20 an20 cd20 ct20), sl20⟩)
    (c20 : PySem.W.codeIn K cd20 "number_of" = true)
    (k20 : PySem.W.keepIn K (.ref f20) = true)
    (a21 : PySem.W.nsIn K mainGlobals "figures_of" = some (some (.ref f21)))
    (l21 : K.lookup f21 = some ⟨oc21, od21, .func (PySem.W.fnOf "figures_of" "figures_of" (defArgs s_figures_of) (defBody s_figures_of) (defScope s_figures_of) .none kV21 dc21 pm21 an21 cd21 ct21), sl21⟩)
    (c21 : PySem.W.codeIn K cd21 "figures_of" = true)
    (k21 : PySem.W.keepIn K (.ref f21) = true)
    (a22 : PySem.W.nsIn K mainGlobals "word_of_worth" = some (some (.ref f22)))
    (l22 : K.lookup f22 = some ⟨oc22, od22, .func (PySem.W.fnOf "word_of_worth" "word_of_worth" (defArgs s_word_of_worth) (defBody s_word_of_worth) (defScope s_word_of_worth) .none kV22 dc22 pm22 an22 cd22 ct22), sl22⟩)
    (c22 : PySem.W.codeIn K cd22 "word_of_worth" = true)
    (k22 : PySem.W.keepIn K (.ref f22) = true)
    (a23 : PySem.W.nsIn K mainGlobals "worth_of_word" = some (some (.ref f23)))
    (l23 : K.lookup f23 = some ⟨oc23, od23, .func (PySem.W.fnOf "worth_of_word" "worth_of_word" (defArgs s_worth_of_word) (defBody s_worth_of_word) (defScope s_worth_of_word) .none kV23 dc23 pm23 an23 cd23 ct23), sl23⟩)
    (c23 : PySem.W.codeIn K cd23 "worth_of_word" = true)
    (k23 : PySem.W.keepIn K (.ref f23) = true)
    (a24 : PySem.W.nsIn K mainGlobals "deed_text" = some (some (.ref f24)))
    (l24 : K.lookup f24 = some ⟨oc24, od24, .func (PySem.W.fnOf "deed_text" "deed_text" (defArgs s_deed_text) (defBody s_deed_text) (defScope s_deed_text) .none kV24 dc24 pm24 an24 cd24 ct24), sl24⟩)
    (c24 : PySem.W.codeIn K cd24 "deed_text" = true)
    (k24 : PySem.W.keepIn K (.ref f24) = true)
    (a25 : PySem.W.nsIn K mainGlobals "words_of_deed" = some (some (.ref f25)))
    (l25 : K.lookup f25 = some ⟨oc25, od25, .func (PySem.W.fnOf "words_of_deed" "words_of_deed" (defArgs s_words_of_deed) (defBody s_words_of_deed) (defScope s_words_of_deed) .none kV25 dc25 pm25 an25 cd25 ct25), sl25⟩)
    (c25 : PySem.W.codeIn K cd25 "words_of_deed" = true)
    (k25 : PySem.W.keepIn K (.ref f25) = true)
    (a26 : PySem.W.nsIn K mainGlobals "word_of_part" = some (some (.ref f26)))
    (l26 : K.lookup f26 = some ⟨oc26, od26, .func (PySem.W.fnOf "word_of_part" "word_of_part" (defArgs s_word_of_part) (defBody s_word_of_part) (defScope s_word_of_part) .none kV26 dc26 pm26 an26 cd26 ct26), sl26⟩)
    (c26 : PySem.W.codeIn K cd26 "word_of_part" = true)
    (k26 : PySem.W.keepIn K (.ref f26) = true)
    (a27 : PySem.W.nsIn K mainGlobals "read_deeds" = some (some (.ref f27)))
    (l27 : K.lookup f27 = some ⟨oc27, od27, .func (PySem.W.fnOf "read_deeds" "read_deeds" (defArgs s_read_deeds) (defBody s_read_deeds) (defScope s_read_deeds) .none kV27 dc27 pm27 an27 cd27 ct27), sl27⟩)
    (c27 : PySem.W.codeIn K cd27 "read_deeds" = true)
    (k27 : PySem.W.keepIn K (.ref f27) = true)
    (a28 : PySem.W.nsIn K mainGlobals "many_lines" = some (some (.ref f28)))
    (l28 : K.lookup f28 = some ⟨oc28, od28, .func (PySem.W.fnOf "many_lines" "many_lines" (defArgs s_many_lines) (defBody s_many_lines) (defScope s_many_lines) .none kV28 dc28 pm28 an28 cd28 ct28), sl28⟩)
    (c28 : PySem.W.codeIn K cd28 "many_lines" = true)
    (k28 : PySem.W.keepIn K (.ref f28) = true)
    (a29 : PySem.W.nsIn K mainGlobals "deed_of_lines" = some (some (.ref f29)))
    (l29 : K.lookup f29 = some ⟨oc29, od29, .func (PySem.W.fnOf "deed_of_lines" "deed_of_lines" (defArgs s_deed_of_lines) (defBody s_deed_of_lines) (defScope s_deed_of_lines) .none kV29 dc29 pm29 an29 cd29 ct29), sl29⟩)
    (c29 : PySem.W.codeIn K cd29 "deed_of_lines" = true)
    (k29 : PySem.W.keepIn K (.ref f29) = true)
    (a30 : PySem.W.nsIn K mainGlobals "deed_of_words" = some (some (.ref f30)))
    (l30 : K.lookup f30 = some ⟨oc30, od30, .func (PySem.W.fnOf "deed_of_words" "deed_of_words" (defArgs s_deed_of_words) (defBody s_deed_of_words) (defScope s_deed_of_words) .none kV30 dc30 pm30 an30 cd30 ct30), sl30⟩)
    (c30 : PySem.W.codeIn K cd30 "deed_of_words" = true)
    (k30 : PySem.W.keepIn K (.ref f30) = true)
    (a31 : PySem.W.nsIn K mainGlobals "number_of_word" = some (some (.ref f31)))
    (l31 : K.lookup f31 = some ⟨oc31, od31, .func (PySem.W.fnOf "number_of_word" "number_of_word" (defArgs s_number_of_word) (defBody s_number_of_word) (defScope s_number_of_word) .none kV31 dc31 pm31 an31 cd31 ct31), sl31⟩)
    (c31 : PySem.W.codeIn K cd31 "number_of_word" = true)
    (k31 : PySem.W.keepIn K (.ref f31) = true)
    (a32 : PySem.W.nsIn K mainGlobals "mark_of_word" = some (some (.ref f32)))
    (l32 : K.lookup f32 = some ⟨oc32, od32, .func (PySem.W.fnOf "mark_of_word" "mark_of_word" (defArgs s_mark_of_word) (defBody s_mark_of_word) (defScope s_mark_of_word) .none kV32 dc32 pm32 an32 cd32 ct32), sl32⟩)
    (c32 : PySem.W.codeIn K cd32 "mark_of_word" = true)
    (k32 : PySem.W.keepIn K (.ref f32) = true)
    (a33 : PySem.W.nsIn K mainGlobals "_law_deck" = some (some (.ref f33)))
    (l33 : K.lookup f33 = some ⟨oc33, od33, .func (PySem.W.fnOf "_law_deck" "_law_deck" (defArgs s__law_deck) (defBody s__law_deck) (defScope s__law_deck) .none kV33 dc33 pm33 an33 cd33 ct33), sl33⟩)
    (c33 : PySem.W.codeIn K cd33 "_law_deck" = true)
    (k33 : PySem.W.keepIn K (.ref f33) = true)
    (a34 : PySem.W.nsIn K mainGlobals "_law_next" = some (some (.ref f34)))
    (l34 : K.lookup f34 = some ⟨oc34, od34, .func (PySem.W.fnOf "_law_next" "_law_next" (defArgs s__law_next) (defBody s__law_next) (defScope s__law_next) .none kV34 dc34 pm34 an34 cd34 ct34), sl34⟩)
    (c34 : PySem.W.codeIn K cd34 "_law_next" = true)
    (k34 : PySem.W.keepIn K (.ref f34) = true)
    (a35 : PySem.W.nsIn K mainGlobals "_law_row" = some (some (.ref f35)))
    (l35 : K.lookup f35 = some ⟨oc35, od35, .func (PySem.W.fnOf "_law_row" "_law_row" (defArgs s__law_row) (defBody s__law_row) (defScope s__law_row) .none kV35 dc35 pm35 an35 cd35 ct35), sl35⟩)
    (c35 : PySem.W.codeIn K cd35 "_law_row" = true)
    (k35 : PySem.W.keepIn K (.ref f35) = true)
    (a36 : PySem.W.nsIn K mainGlobals "_law_small" = some (some (.ref f36)))
    (l36 : K.lookup f36 = some ⟨oc36, od36, .func (PySem.W.fnOf "_law_small" "_law_small" (defArgs s__law_small) (defBody s__law_small) (defScope s__law_small) .none kV36 dc36 pm36 an36 cd36 ct36), sl36⟩)
    (c36 : PySem.W.codeIn K cd36 "_law_small" = true)
    (k36 : PySem.W.keepIn K (.ref f36) = true)
    (a37 : PySem.W.nsIn K mainGlobals "_law_kind" = some (some (.ref f37)))
    (l37 : K.lookup f37 = some ⟨oc37, od37, .func (PySem.W.fnOf "_law_kind" "_law_kind" (defArgs s__law_kind) (defBody s__law_kind) (defScope s__law_kind) .none kV37 dc37 pm37 an37 cd37 ct37), sl37⟩)
    (c37 : PySem.W.codeIn K cd37 "_law_kind" = true)
    (k37 : PySem.W.keepIn K (.ref f37) = true)
    (a38 : PySem.W.nsIn K mainGlobals "_law_sheet" = some (some (.ref f38)))
    (l38 : K.lookup f38 = some ⟨oc38, od38, .func (PySem.W.fnOf "_law_sheet" "_law_sheet" (defArgs s__law_sheet) (defBody s__law_sheet) (defScope s__law_sheet) .none kV38 dc38 pm38 an38 cd38 ct38), sl38⟩)
    (c38 : PySem.W.codeIn K cd38 "_law_sheet" = true)
    (k38 : PySem.W.keepIn K (.ref f38) = true)
    (a39 : PySem.W.nsIn K mainGlobals "_law_message" = some (some (.ref f39)))
    (l39 : K.lookup f39 = some ⟨oc39, od39, .func (PySem.W.fnOf "_law_message" "_law_message" (defArgs s__law_message) (defBody s__law_message) (defScope s__law_message) .none kV39 dc39 pm39 an39 cd39 ct39), sl39⟩)
    (c39 : PySem.W.codeIn K cd39 "_law_message" = true)
    (k39 : PySem.W.keepIn K (.ref f39) = true)
    (a40 : PySem.W.nsIn K mainGlobals "_law_worth" = some (some (.ref f40)))
    (l40 : K.lookup f40 = some ⟨oc40, od40, .func (PySem.W.fnOf "_law_worth" "_law_worth" (defArgs s__law_worth) (defBody s__law_worth) (defScope s__law_worth) .none kV40 dc40 pm40 an40 cd40 ct40), sl40⟩)
    (c40 : PySem.W.codeIn K cd40 "_law_worth" = true)
    (k40 : PySem.W.keepIn K (.ref f40) = true)
    (a41 : PySem.W.nsIn K mainGlobals "_law_text" = some (some (.ref f41)))
    (l41 : K.lookup f41 = some ⟨oc41, od41, .func (PySem.W.fnOf "_law_text" "_law_text" (defArgs s__law_text) (defBody s__law_text) (defScope s__law_text) .none kV41 dc41 pm41 an41 cd41 ct41), sl41⟩)
    (c41 : PySem.W.codeIn K cd41 "_law_text" = true)
    (k41 : PySem.W.keepIn K (.ref f41) = true)
    (a42 : PySem.W.nsIn K mainGlobals "_law_deed" = some (some (.ref f42)))
    (l42 : K.lookup f42 = some ⟨oc42, od42, .func (PySem.W.fnOf "_law_deed" "_law_deed" (defArgs s__law_deed) (defBody s__law_deed) (defScope s__law_deed) .none kV42 dc42 pm42 an42 cd42 ct42), sl42⟩)
    (c42 : PySem.W.codeIn K cd42 "_law_deed" = true)
    (k42 : PySem.W.keepIn K (.ref f42) = true)
    (a43 : PySem.W.nsIn K mainGlobals "_law_word" = some (some (.ref f43)))
    (l43 : K.lookup f43 = some ⟨oc43, od43, .func (PySem.W.fnOf "_law_word" "_law_word" (defArgs s__law_word) (defBody s__law_word) (defScope s__law_word) .none kV43 dc43 pm43 an43 cd43 ct43), sl43⟩)
    (c43 : PySem.W.codeIn K cd43 "_law_word" = true)
    (k43 : PySem.W.keepIn K (.ref f43) = true)
    (a44 : PySem.W.nsIn K mainGlobals "_law_told" = some (some (.ref f44)))
    (l44 : K.lookup f44 = some ⟨oc44, od44, .func (PySem.W.fnOf "_law_told" "_law_told" (defArgs s__law_told) (defBody s__law_told) (defScope s__law_told) .none kV44 dc44 pm44 an44 cd44 ct44), sl44⟩)
    (c44 : PySem.W.codeIn K cd44 "_law_told" = true)
    (k44 : PySem.W.keepIn K (.ref f44) = true)
    (a45 : PySem.W.nsIn K mainGlobals "law" = some (some (.ref f45)))
    (l45 : K.lookup f45 = some ⟨oc45, od45, .func (PySem.W.fnOf "law" "law" (defArgs s_law) (defBody s_law) (defScope s_law) .none kV45 dc45 pm45 an45 cd45 ct45), sl45⟩)
    (c45 : PySem.W.codeIn K cd45 "law" = true)
    (k45 : PySem.W.keepIn K (.ref f45) = true)
    (v_BIG : PySem.W.nsIn K mainGlobals "BIG" = some (some (.int 1000000000000 t_BIG)))
    (v_MOST_ROWS : PySem.W.nsIn K mainGlobals "MOST_ROWS" = some (some (.int 300 t_MOST_ROWS)))
    (v_MOST_TEXT_SIGNS : PySem.W.nsIn K mainGlobals "MOST_TEXT_SIGNS" = some (some (.int 40 t_MOST_TEXT_SIGNS)))
    (v_MOST_NAME_SIGNS : PySem.W.nsIn K mainGlobals "MOST_NAME_SIGNS" = some (some (.int 12 t_MOST_NAME_SIGNS)))
    (v_SMALL : PySem.W.nsIn K mainGlobals "SMALL" = some (some (.str s_SMALL t_SMALL)))
    (e_SMALL : s_SMALL = mk [97, 98, 99, 100, 101, 102, 103, 104, 105, 106, 107, 108, 109, 110, 111, 112, 113, 114, 115, 116, 117, 118, 119, 120, 121, 122])
    (v_CAPITALS : PySem.W.nsIn K mainGlobals "CAPITALS" = some (some (.str s_CAPITALS t_CAPITALS)))
    (e_CAPITALS : s_CAPITALS = mk [65, 66, 67, 68, 69, 70, 71, 72, 73, 74, 75, 76, 77, 78, 79, 80, 81, 82, 83, 84, 85, 86, 87, 88, 89, 90])
    (v_FIGURES : PySem.W.nsIn K mainGlobals "FIGURES" = some (some (.str s_FIGURES t_FIGURES)))
    (e_FIGURES : s_FIGURES = mk [48, 49, 50, 51, 52, 53, 54, 55, 56, 57])
    (v_SMALL_SIGNS : PySem.W.nsIn K mainGlobals "SMALL_SIGNS" = some (some (.str s_SMALL_SIGNS t_SMALL_SIGNS)))
    (e_SMALL_SIGNS : s_SMALL_SIGNS = mk [97, 98, 99, 100, 101, 102, 103, 104, 105, 106, 107, 108, 109, 110, 111, 112, 113, 114, 115, 116, 117, 118, 119, 120, 121, 122, 48, 49, 50, 51, 52, 53, 54, 55, 56, 57])
    (v_KIND_SIGNS : PySem.W.nsIn K mainGlobals "KIND_SIGNS" = some (some (.str s_KIND_SIGNS t_KIND_SIGNS)))
    (e_KIND_SIGNS : s_KIND_SIGNS = mk [97, 98, 99, 100, 101, 102, 103, 104, 105, 106, 107, 108, 109, 110, 111, 112, 113, 114, 115, 116, 117, 118, 119, 120, 121, 122, 65, 66, 67, 68, 69, 70, 71, 72, 73, 74, 75, 76, 77, 78, 79, 80, 81, 82, 83, 84, 85, 86, 87, 88, 89, 90, 48, 49, 50, 51, 52, 53, 54, 55, 56, 57])
    (v_TEXT_SIGNS : PySem.W.nsIn K mainGlobals "TEXT_SIGNS" = some (some (.str s_TEXT_SIGNS t_TEXT_SIGNS)))
    (e_TEXT_SIGNS : s_TEXT_SIGNS = mk [97, 98, 99, 100, 101, 102, 103, 104, 105, 106, 107, 108, 109, 110, 111, 112, 113, 114, 115, 116, 117, 118, 119, 120, 121, 122, 65, 66, 67, 68, 69, 70, 71, 72, 73, 74, 75, 76, 77, 78, 79, 80, 81, 82, 83, 84, 85, 86, 87, 88, 89, 90, 48, 49, 50, 51, 52, 53, 54, 55, 56, 57, 95])
    (v_KEPT : PySem.W.nsIn K mainGlobals "KEPT" = some (some (.ref p_KEPT)))
    (l_KEPT : K.lookup p_KEPT = some o_KEPT)
    (y_KEPT : o_KEPT.cls = .type "tuple")
    (w_KEPT : o_KEPT.data = .seq i_KEPT n_KEPT)
    (s_KEPT : i_KEPT.size ≤ sizeLine)
    (u_KEPT : Vals (L_KEPT.map V.str) i_KEPT.toList)
    (v_MESSAGE_MARKS : PySem.W.nsIn K mainGlobals "MESSAGE_MARKS" = some (some (.ref p_MESSAGE_MARKS)))
    (l_MESSAGE_MARKS : K.lookup p_MESSAGE_MARKS = some o_MESSAGE_MARKS)
    (y_MESSAGE_MARKS : o_MESSAGE_MARKS.cls = .type "tuple")
    (w_MESSAGE_MARKS : o_MESSAGE_MARKS.data = .seq i_MESSAGE_MARKS n_MESSAGE_MARKS)
    (s_MESSAGE_MARKS : i_MESSAGE_MARKS.size ≤ sizeLine)
    (u_MESSAGE_MARKS : Vals (L_MESSAGE_MARKS.map V.str) i_MESSAGE_MARKS.toList)
    (v_MOST_BEATS : PySem.W.nsIn K mainGlobals "MOST_BEATS" = some (some (.int 2000 t_MOST_BEATS)))
    (v_PART_FIGURES : PySem.W.nsIn K mainGlobals "PART_FIGURES" = some (some (.int 60 t_PART_FIGURES)))
    (v_PART : PySem.W.nsIn K mainGlobals "PART" = some (some (.int 1000000000000000000000000000000000000000000000000000000000000 t_PART)))
    (z_ValueError : PySem.W.nsIn K mainGlobals "ValueError" = some none)
    (z_abs : PySem.W.nsIn K mainGlobals "abs" = some none)
    (z_all : PySem.W.nsIn K mainGlobals "all" = some none)
    (z_any : PySem.W.nsIn K mainGlobals "any" = some none)
    (z_bool : PySem.W.nsIn K mainGlobals "bool" = some none)
    (z_dict : PySem.W.nsIn K mainGlobals "dict" = some none)
    (z_divmod : PySem.W.nsIn K mainGlobals "divmod" = some none)
    (z_enumerate : PySem.W.nsIn K mainGlobals "enumerate" = some none)
    (z_int : PySem.W.nsIn K mainGlobals "int" = some none)
    (z_isinstance : PySem.W.nsIn K mainGlobals "isinstance" = some none)
    (z_len : PySem.W.nsIn K mainGlobals "len" = some none)
    (z_list : PySem.W.nsIn K mainGlobals "list" = some none)
    (z_max : PySem.W.nsIn K mainGlobals "max" = some none)
    (z_min : PySem.W.nsIn K mainGlobals "min" = some none)
    (z_range : PySem.W.nsIn K mainGlobals "range" = some none)
    (z_repr : PySem.W.nsIn K mainGlobals "repr" = some none)
    (z_reversed : PySem.W.nsIn K mainGlobals "reversed" = some none)
    (z_set : PySem.W.nsIn K mainGlobals "set" = some none)
    (z_sorted : PySem.W.nsIn K mainGlobals "sorted" = some none)
    (z_str : PySem.W.nsIn K mainGlobals "str" = some none)
    (z_sum : PySem.W.nsIn K mainGlobals "sum" = some none)
    (z_tuple : PySem.W.nsIn K mainGlobals "tuple" = some none)
    (z_zip : PySem.W.nsIn K mainGlobals "zip" = some none)
    (npd : PySem.W.nsIn K mainGlobals "PARTS_OF_DEEDS" = some (some (.ref pd)))
    (dpd : He.dicW K pd = some (He.keysIn w.params (PTAB.map fun e => Str.ofString e.1)))
    (qe0 : PySem.W.nsIn K pd (Str.ofString "begin") = some (some (.ref q0)))
    (ql0 : K.lookup q0 = some qo0)
    (qy0 : qo0.cls = .type "tuple")
    (qw0 : qo0.data = .seq qi0 qn0)
    (qs0 : qi0.size ≤ sizeLine)
    (qu0 : Vals (((["kind or none", "message", "worths"] : List String).map Str.ofString).map V.str) qi0.toList)
    (qe1 : PySem.W.nsIn K pd (Str.ofString "run") = some (some (.ref q1)))
    (ql1 : K.lookup q1 = some qo1)
    (qy1 : qo1.cls = .type "tuple")
    (qw1 : qo1.data = .seq qi1 qn1)
    (qs1 : qi1.size ≤ sizeLine)
    (qu1 : Vals (((["beats", "marks"] : List String).map Str.ofString).map V.str) qi1.toList)
    (qe2 : PySem.W.nsIn K pd (Str.ofString "again") = some (some (.ref q2)))
    (ql2 : K.lookup q2 = some qo2)
    (qy2 : qo2.cls = .type "tuple")
    (qw2 : qo2.data = .seq qi2 qn2)
    (qs2 : qi2.size ≤ sizeLine)
    (qu2 : Vals (((["number"] : List String).map Str.ofString).map V.str) qi2.toList)
    (qe3 : PySem.W.nsIn K pd (Str.ofString "name") = some (some (.ref q3)))
    (ql3 : K.lookup q3 = some qo3)
    (qy3 : qo3.cls = .type "tuple")
    (qw3 : qo3.data = .seq qi3 qn3)
    (qs3 : qi3.size ≤ sizeLine)
    (qu3 : Vals (((["number", "word", "worth"] : List String).map Str.ofString).map V.str) qi3.toList)
    (qe4 : PySem.W.nsIn K pd (Str.ofString "forget") = some (some (.ref q4)))
    (ql4 : K.lookup q4 = some qo4)
    (qy4 : qo4.cls = .type "tuple")
    (qw4 : qo4.data = .seq qi4 qn4)
    (qs4 : qi4.size ≤ sizeLine)
    (qu4 : Vals ((([] : List String).map Str.ofString).map V.str) qi4.toList)
    (qe5 : PySem.W.nsIn K pd (Str.ofString "gone") = some (some (.ref q5)))
    (ql5 : K.lookup q5 = some qo5)
    (qy5 : qo5.cls = .type "tuple")
    (qw5 : qo5.data = .seq qi5 qn5)
    (qs5 : qi5.size ≤ sizeLine)
    (qu5 : Vals (((["kind", "message"] : List String).map Str.ofString).map V.str) qi5.toList)
    (qe6 : PySem.W.nsIn K pd (Str.ofString "field") = some (some (.ref q6)))
    (ql6 : K.lookup q6 = some qo6)
    (qy6 : qo6.cls = .type "tuple")
    (qw6 : qo6.data = .seq qi6 qn6)
    (qs6 : qi6.size ≤ sizeLine)
    (qu6 : Vals (((["kind", "word", "worth"] : List String).map Str.ofString).map V.str) qi6.toList)
    (qe7 : PySem.W.nsIn K pd (Str.ofString "lost") = some (some (.ref q7)))
    (ql7 : K.lookup q7 = some qo7)
    (qy7 : qo7.cls = .type "tuple")
    (qw7 : qo7.data = .seq qi7 qn7)
    (qs7 : qi7.size ≤ sizeLine)
    (qu7 : Vals (((["kind", "word"] : List String).map Str.ofString).map V.str) qi7.toList)
    (qe8 : PySem.W.nsIn K pd (Str.ofString "under") = some (some (.ref q8)))
    (ql8 : K.lookup q8 = some qo8)
    (qy8 : qo8.cls = .type "tuple")
    (qw8 : qo8.data = .seq qi8 qn8)
    (qs8 : qi8.size ≤ sizeLine)
    (qu8 : Vals (((["kind", "kind"] : List String).map Str.ofString).map V.str) qi8.toList)
    (qe9 : PySem.W.nsIn K pd (Str.ofString "sweep") = some (some (.ref q9)))
    (ql9 : K.lookup q9 = some qo9)
    (qy9 : qo9.cls = .type "tuple")
    (qw9 : qo9.data = .seq qi9 qn9)
    (qs9 : qi9.size ≤ sizeLine)
    (qu9 : Vals ((([] : List String).map Str.ofString).map V.str) qi9.toList)
    (qe10 : PySem.W.nsIn K pd (Str.ofString "load") = some (some (.ref q10)))
    (ql10 : K.lookup q10 = some qo10)
    (qy10 : qo10.cls = .type "tuple")
    (qw10 : qo10.data = .seq qi10 qn10)
    (qs10 : qi10.size ≤ sizeLine)
    (qu10 : Vals (((["page", "text"] : List String).map Str.ofString).map V.str) qi10.toList)
    : Law0 l w K 20 63 "_law_script" mg fa h := by
  have e := hfa.symm.trans (PySem.W.mg_of X G a45)
  cases e
  have ZF : Fz K mg := {
    D_is_small := ⟨⟨f0, _, fun_mk l0 c0 k0, PySem.W.mg_of X G a0⟩⟩,
    D_is_free := ⟨⟨f1, _, fun_mk l1 c1 k1, PySem.W.mg_of X G a1⟩⟩,
    D_is_kind_name := ⟨⟨f2, _, fun_mk l2 c2 k2, PySem.W.mg_of X G a2⟩⟩,
    D_is_page_name := ⟨⟨f3, _, fun_mk l3 c3 k3, PySem.W.mg_of X G a3⟩⟩,
    D_is_name := ⟨⟨f4, _, fun_mk l4 c4 k4, PySem.W.mg_of X G a4⟩⟩,
    D_is_text := ⟨⟨f5, _, fun_mk l5 c5 k5, PySem.W.mg_of X G a5⟩⟩,
    D_is_number := ⟨⟨f6, _, fun_mk l6 c6 k6, PySem.W.mg_of X G a6⟩⟩,
    D_has_only := ⟨⟨f7, _, fun_mk l7 c7 k7, PySem.W.mg_of X G a7⟩⟩,
    D_sort_of := ⟨⟨f8, _, fun_mk l8 c8 k8, PySem.W.mg_of X G a8⟩⟩,
    D_is_number_within := ⟨⟨f9, _, fun_mk l9 c9 k9, PySem.W.mg_of X G a9⟩⟩,
    D_is_whole := ⟨⟨f10, _, fun_mk l10 c10 k10, PySem.W.mg_of X G a10⟩⟩,
    D_is_row := ⟨⟨f11, _, fun_mk l11 c11 k11, PySem.W.mg_of X G a11⟩⟩,
    D_is_plain := ⟨⟨f12, _, fun_mk l12 c12 k12, PySem.W.mg_of X G a12⟩⟩,
    D_is_number_from_0 := ⟨⟨f13, _, fun_mk l13 c13 k13, PySem.W.mg_of X G a13⟩⟩,
    D_is_message := ⟨⟨f14, _, fun_mk l14 c14 k14, PySem.W.mg_of X G a14⟩⟩,
    D_is_deed := ⟨⟨f15, _, fun_mk l15 c15 k15, PySem.W.mg_of X G a15⟩⟩,
    D_is_part_of_deed := ⟨⟨f16, _, fun_mk l16 c16 k16, PySem.W.mg_of X G a16⟩⟩,
    D_is_mark := ⟨⟨f17, _, fun_mk l17 c17 k17, PySem.W.mg_of X G a17⟩⟩,
    D_is_word_of_deed := ⟨⟨f18, _, fun_mk l18 c18 k18, PySem.W.mg_of X G a18⟩⟩,
    D_is_figures := ⟨⟨f19, _, fun_mk l19 c19 k19, PySem.W.mg_of X G a19⟩⟩,
    D_number_of := ⟨⟨f20, _, fun_mk l20 c20 k20, PySem.W.mg_of X G a20⟩⟩,
    D_figures_of := ⟨⟨f21, _, fun_mk l21 c21 k21, PySem.W.mg_of X G a21⟩⟩,
    D_word_of_worth := ⟨⟨f22, _, fun_mk l22 c22 k22, PySem.W.mg_of X G a22⟩⟩,
    D_worth_of_word := ⟨⟨f23, _, fun_mk l23 c23 k23, PySem.W.mg_of X G a23⟩⟩,
    D_deed_text := ⟨⟨f24, _, fun_mk l24 c24 k24, PySem.W.mg_of X G a24⟩⟩,
    D_words_of_deed := ⟨⟨f25, _, fun_mk l25 c25 k25, PySem.W.mg_of X G a25⟩⟩,
    D_word_of_part := ⟨⟨f26, _, fun_mk l26 c26 k26, PySem.W.mg_of X G a26⟩⟩,
    D_read_deeds := ⟨⟨f27, _, fun_mk l27 c27 k27, PySem.W.mg_of X G a27⟩⟩,
    D_many_lines := ⟨⟨f28, _, fun_mk l28 c28 k28, PySem.W.mg_of X G a28⟩⟩,
    D_deed_of_lines := ⟨⟨f29, _, fun_mk l29 c29 k29, PySem.W.mg_of X G a29⟩⟩,
    D_deed_of_words := ⟨⟨f30, _, fun_mk l30 c30 k30, PySem.W.mg_of X G a30⟩⟩,
    D_number_of_word := ⟨⟨f31, _, fun_mk l31 c31 k31, PySem.W.mg_of X G a31⟩⟩,
    D_mark_of_word := ⟨⟨f32, _, fun_mk l32 c32 k32, PySem.W.mg_of X G a32⟩⟩,
    D__law_deck := ⟨⟨f33, _, fun_mk l33 c33 k33, PySem.W.mg_of X G a33⟩⟩,
    D__law_next := ⟨⟨f34, _, fun_mk l34 c34 k34, PySem.W.mg_of X G a34⟩⟩,
    D__law_row := ⟨⟨f35, _, fun_mk l35 c35 k35, PySem.W.mg_of X G a35⟩⟩,
    D__law_small := ⟨⟨f36, _, fun_mk l36 c36 k36, PySem.W.mg_of X G a36⟩⟩,
    D__law_kind := ⟨⟨f37, _, fun_mk l37 c37 k37, PySem.W.mg_of X G a37⟩⟩,
    D__law_sheet := ⟨⟨f38, _, fun_mk l38 c38 k38, PySem.W.mg_of X G a38⟩⟩,
    D__law_message := ⟨⟨f39, _, fun_mk l39 c39 k39, PySem.W.mg_of X G a39⟩⟩,
    D__law_worth := ⟨⟨f40, _, fun_mk l40 c40 k40, PySem.W.mg_of X G a40⟩⟩,
    D__law_text := ⟨⟨f41, _, fun_mk l41 c41 k41, PySem.W.mg_of X G a41⟩⟩,
    D__law_deed := ⟨⟨f42, _, fun_mk l42 c42 k42, PySem.W.mg_of X G a42⟩⟩,
    D__law_word := ⟨⟨f43, _, fun_mk l43 c43 k43, PySem.W.mg_of X G a43⟩⟩,
    D__law_told := ⟨⟨f44, _, fun_mk l44 c44 k44, PySem.W.mg_of X G a44⟩⟩,
    g_BIG := ⟨_, PySem.W.mg_of X G v_BIG, ⟨_, rfl⟩⟩,
    g_MOST_ROWS := ⟨_, PySem.W.mg_of X G v_MOST_ROWS, ⟨_, rfl⟩⟩,
    g_MOST_TEXT_SIGNS := ⟨_, PySem.W.mg_of X G v_MOST_TEXT_SIGNS, ⟨_, rfl⟩⟩,
    g_MOST_NAME_SIGNS := ⟨_, PySem.W.mg_of X G v_MOST_NAME_SIGNS, ⟨_, rfl⟩⟩,
    g_SMALL := ⟨_, PySem.W.mg_of X G v_SMALL, ⟨_, by rw [e_SMALL]⟩⟩,
    g_CAPITALS := ⟨_, PySem.W.mg_of X G v_CAPITALS, ⟨_, by rw [e_CAPITALS]⟩⟩,
    g_FIGURES := ⟨_, PySem.W.mg_of X G v_FIGURES, ⟨_, by rw [e_FIGURES]⟩⟩,
    g_SMALL_SIGNS := ⟨_, PySem.W.mg_of X G v_SMALL_SIGNS, ⟨_, by rw [e_SMALL_SIGNS]⟩⟩,
    g_KIND_SIGNS := ⟨_, PySem.W.mg_of X G v_KIND_SIGNS, ⟨_, by rw [e_KIND_SIGNS]⟩⟩,
    g_TEXT_SIGNS := ⟨_, PySem.W.mg_of X G v_TEXT_SIGNS, ⟨_, by rw [e_TEXT_SIGNS]⟩⟩,
    g_KEPT := ⟨_, PySem.W.mg_of X G v_KEPT, fun _ => .inr ⟨_, _, _, l_KEPT, y_KEPT, w_KEPT, s_KEPT, u_KEPT⟩⟩,
    g_MESSAGE_MARKS := ⟨_, PySem.W.mg_of X G v_MESSAGE_MARKS, fun _ => .inr ⟨_, _, _, l_MESSAGE_MARKS, y_MESSAGE_MARKS, w_MESSAGE_MARKS, s_MESSAGE_MARKS, u_MESSAGE_MARKS⟩⟩,
    g_MOST_BEATS := ⟨_, PySem.W.mg_of X G v_MOST_BEATS, ⟨_, rfl⟩⟩,
    g_PART_FIGURES := ⟨_, PySem.W.mg_of X G v_PART_FIGURES, ⟨_, rfl⟩⟩,
    g_PART := ⟨_, PySem.W.mg_of X G v_PART, ⟨_, rfl⟩⟩,
    b_ValueError := PySem.W.mg_none_of X G z_ValueError,
    b_abs := PySem.W.mg_none_of X G z_abs,
    b_all := PySem.W.mg_none_of X G z_all,
    b_any := PySem.W.mg_none_of X G z_any,
    b_bool := PySem.W.mg_none_of X G z_bool,
    b_dict := PySem.W.mg_none_of X G z_dict,
    b_divmod := PySem.W.mg_none_of X G z_divmod,
    b_enumerate := PySem.W.mg_none_of X G z_enumerate,
    b_int := PySem.W.mg_none_of X G z_int,
    b_isinstance := PySem.W.mg_none_of X G z_isinstance,
    b_len := PySem.W.mg_none_of X G z_len,
    b_list := PySem.W.mg_none_of X G z_list,
    b_max := PySem.W.mg_none_of X G z_max,
    b_min := PySem.W.mg_none_of X G z_min,
    b_range := PySem.W.mg_none_of X G z_range,
    b_repr := PySem.W.mg_none_of X G z_repr,
    b_reversed := PySem.W.mg_none_of X G z_reversed,
    b_set := PySem.W.mg_none_of X G z_set,
    b_sorted := PySem.W.mg_none_of X G z_sorted,
    b_str := PySem.W.mg_none_of X G z_str,
    b_sum := PySem.W.mg_none_of X G z_sum,
    b_tuple := PySem.W.mg_none_of X G z_tuple,
    b_zip := PySem.W.mg_none_of X G z_zip }
  obtain ⟨es_, nn_, kd_⟩ := He.dicW_ok dpd
  have PT : PtOk K w mg := ⟨⟨pd, PySem.W.mg_of X G npd, kd_.low, ⟨es_, nn_, kd_.at_⟩, fun e he => by
    unfold PTAB at he
    simp only [List.mem_cons, List.not_mem_nil, or_false] at he
    rcases he with rfl | rfl | rfl | rfl | rfl | rfl | rfl | rfl | rfl | rfl | rfl
    · exact ⟨q0, ⟨es_, nn_, _, kd_.at_, kd_.lit, qe0, rfl⟩, fun _ => .inr ⟨_, _, _, ql0, qy0, qw0, qs0, qu0⟩⟩
    · exact ⟨q1, ⟨es_, nn_, _, kd_.at_, kd_.lit, qe1, rfl⟩, fun _ => .inr ⟨_, _, _, ql1, qy1, qw1, qs1, qu1⟩⟩
    · exact ⟨q2, ⟨es_, nn_, _, kd_.at_, kd_.lit, qe2, rfl⟩, fun _ => .inr ⟨_, _, _, ql2, qy2, qw2, qs2, qu2⟩⟩
    · exact ⟨q3, ⟨es_, nn_, _, kd_.at_, kd_.lit, qe3, rfl⟩, fun _ => .inr ⟨_, _, _, ql3, qy3, qw3, qs3, qu3⟩⟩
    · exact ⟨q4, ⟨es_, nn_, _, kd_.at_, kd_.lit, qe4, rfl⟩, fun _ => .inr ⟨_, _, _, ql4, qy4, qw4, qs4, qu4⟩⟩
    · exact ⟨q5, ⟨es_, nn_, _, kd_.at_, kd_.lit, qe5, rfl⟩, fun _ => .inr ⟨_, _, _, ql5, qy5, qw5, qs5, qu5⟩⟩
    · exact ⟨q6, ⟨es_, nn_, _, kd_.at_, kd_.lit, qe6, rfl⟩, fun _ => .inr ⟨_, _, _, ql6, qy6, qw6, qs6, qu6⟩⟩
    · exact ⟨q7, ⟨es_, nn_, _, kd_.at_, kd_.lit, qe7, rfl⟩, fun _ => .inr ⟨_, _, _, ql7, qy7, qw7, qs7, qu7⟩⟩
    · exact ⟨q8, ⟨es_, nn_, _, kd_.at_, kd_.lit, qe8, rfl⟩, fun _ => .inr ⟨_, _, _, ql8, qy8, qw8, qs8, qu8⟩⟩
    · exact ⟨q9, ⟨es_, nn_, _, kd_.at_, kd_.lit, qe9, rfl⟩, fun _ => .inr ⟨_, _, _, ql9, qy9, qw9, qs9, qu9⟩⟩
    · exact ⟨q10, ⟨es_, nn_, _, kd_.at_, kd_.lit, qe10, rfl⟩, fun _ => .inr ⟨_, _, _, ql10, qy10, qw10, qs10, qu10⟩⟩⟩⟩
  exact ⟨PySem.W.fnOf "law" "law" (defArgs s_law) (defBody s_law) (defScope s_law) .none kV45 dc45 pm45 an45 cd45 ct45, spLaw K, fun s v => .of_eq rfl, fun H a ns hl hS => ⟨a, ns, rfl, hS, hl, fun _ => rfl⟩, fun base _ _ => law_ok ZF PT (fun_mk l45 c45 k45)⟩
end My
open PySem PySem.W PyProof.Rows in
set_option maxRecDepth 100000 in
set_option maxHeartbeats 0 in
theorem PySem.Challenge.cw_sendstead_k76_deeds_as_texts_holds : PySem.Challenge.rw_sendstead_k76_deeds_as_texts.Holds := by
  w_on; o_law; k_head; (case hw => w_witness2)
  k_fill
  refine My.walk_0 (l := PySem.Challenge.rw_sendstead_k76_deeds_as_texts) (n := 63) (k := 20) (x := "_law_script") rfl (by decide) rfl ⟨rfl, by decide, by decide⟩ (fun w h Y => PySem.W.kIn_of Y) ?F
  case F =>
    intro w mg fa h Y KX G hmg
    refine' My.all_mk KX G hmg ?a0 ?l0 ?c0 ?k0 ?a1 ?l1 ?c1 ?k1 ?a2 ?l2 ?c2 ?k2 ?a3 ?l3 ?c3 ?k3 ?a4 ?l4 ?c4 ?k4 ?a5 ?l5 ?c5 ?k5 ?a6 ?l6 ?c6 ?k6 ?a7 ?l7 ?c7 ?k7 ?a8 ?l8 ?c8 ?k8 ?a9 ?l9 ?c9 ?k9 ?a10 ?l10 ?c10 ?k10 ?a11 ?l11 ?c11 ?k11 ?a12 ?l12 ?c12 ?k12 ?a13 ?l13 ?c13 ?k13 ?a14 ?l14 ?c14 ?k14 ?a15 ?l15 ?c15 ?k15 ?a16 ?l16 ?c16 ?k16 ?a17 ?l17 ?c17 ?k17 ?a18 ?l18 ?c18 ?k18 ?a19 ?l19 ?c19 ?k19 ?a20 ?l20 ?c20 ?k20 ?a21 ?l21 ?c21 ?k21 ?a22 ?l22 ?c22 ?k22 ?a23 ?l23 ?c23 ?k23 ?a24 ?l24 ?c24 ?k24 ?a25 ?l25 ?c25 ?k25 ?a26 ?l26 ?c26 ?k26 ?a27 ?l27 ?c27 ?k27 ?a28 ?l28 ?c28 ?k28 ?a29 ?l29 ?c29 ?k29 ?a30 ?l30 ?c30 ?k30 ?a31 ?l31 ?c31 ?k31 ?a32 ?l32 ?c32 ?k32 ?a33 ?l33 ?c33 ?k33 ?a34 ?l34 ?c34 ?k34 ?a35 ?l35 ?c35 ?k35 ?a36 ?l36 ?c36 ?k36 ?a37 ?l37 ?c37 ?k37 ?a38 ?l38 ?c38 ?k38 ?a39 ?l39 ?c39 ?k39 ?a40 ?l40 ?c40 ?k40 ?a41 ?l41 ?c41 ?k41 ?a42 ?l42 ?c42 ?k42 ?a43 ?l43 ?c43 ?k43 ?a44 ?l44 ?c44 ?k44 ?a45 ?l45 ?c45 ?k45 ?v_BIG ?v_MOST_ROWS ?v_MOST_TEXT_SIGNS ?v_MOST_NAME_SIGNS ?v_SMALL ?e_SMALL ?v_CAPITALS ?e_CAPITALS ?v_FIGURES ?e_FIGURES ?v_SMALL_SIGNS ?e_SMALL_SIGNS ?v_KIND_SIGNS ?e_KIND_SIGNS ?v_TEXT_SIGNS ?e_TEXT_SIGNS ?v_KEPT ?l_KEPT ?y_KEPT ?w_KEPT ?s_KEPT ?u_KEPT ?v_MESSAGE_MARKS ?l_MESSAGE_MARKS ?y_MESSAGE_MARKS ?w_MESSAGE_MARKS ?s_MESSAGE_MARKS ?u_MESSAGE_MARKS ?v_MOST_BEATS ?v_PART_FIGURES ?v_PART ?z_ValueError ?z_abs ?z_all ?z_any ?z_bool ?z_dict ?z_divmod ?z_enumerate ?z_int ?z_isinstance ?z_len ?z_list ?z_max ?z_min ?z_range ?z_repr ?z_reversed ?z_set ?z_sorted ?z_str ?z_sum ?z_tuple ?z_zip ?npd ?dpd ?qe0 ?ql0 ?qy0 ?qw0 ?qs0 ?qu0 ?qe1 ?ql1 ?qy1 ?qw1 ?qs1 ?qu1 ?qe2 ?ql2 ?qy2 ?qw2 ?qs2 ?qu2 ?qe3 ?ql3 ?qy3 ?qw3 ?qs3 ?qu3 ?qe4 ?ql4 ?qy4 ?qw4 ?qs4 ?qu4 ?qe5 ?ql5 ?qy5 ?qw5 ?qs5 ?qu5 ?qe6 ?ql6 ?qy6 ?qw6 ?qs6 ?qu6 ?qe7 ?ql7 ?qy7 ?qw7 ?qs7 ?qu7 ?qe8 ?ql8 ?qy8 ?qw8 ?qs8 ?qu8 ?qe9 ?ql9 ?qy9 ?qw9 ?qs9 ?qu9 ?qe10 ?ql10 ?qy10 ?qw10 ?qs10 ?qu10
    (case a0 => k_is)
    (case l0 => k_is)
    (case c0 => k_is)
    (case k0 => k_is)
    (case a1 => k_is)
    (case l1 => k_is)
    (case c1 => k_is)
    (case k1 => k_is)
    (case a2 => k_is)
    (case l2 => k_is)
    (case c2 => k_is)
    (case k2 => k_is)
    (case a3 => k_is)
    (case l3 => k_is)
    (case c3 => k_is)
    (case k3 => k_is)
    (case a4 => k_is)
    (case l4 => k_is)
    (case c4 => k_is)
    (case k4 => k_is)
    (case a5 => k_is)
    (case l5 => k_is)
    (case c5 => k_is)
    (case k5 => k_is)
    (case a6 => k_is)
    (case l6 => k_is)
    (case c6 => k_is)
    (case k6 => k_is)
    (case a7 => k_is)
    (case l7 => k_is)
    (case c7 => k_is)
    (case k7 => k_is)
    (case a8 => k_is)
    (case l8 => k_is)
    (case c8 => k_is)
    (case k8 => k_is)
    (case a9 => k_is)
    (case l9 => k_is)
    (case c9 => k_is)
    (case k9 => k_is)
    (case a10 => k_is)
    (case l10 => k_is)
    (case c10 => k_is)
    (case k10 => k_is)
    (case a11 => k_is)
    (case l11 => k_is)
    (case c11 => k_is)
    (case k11 => k_is)
    (case a12 => k_is)
    (case l12 => k_is)
    (case c12 => k_is)
    (case k12 => k_is)
    (case a13 => k_is)
    (case l13 => k_is)
    (case c13 => k_is)
    (case k13 => k_is)
    (case a14 => k_is)
    (case l14 => k_is)
    (case c14 => k_is)
    (case k14 => k_is)
    (case a15 => k_is)
    (case l15 => k_is)
    (case c15 => k_is)
    (case k15 => k_is)
    (case a16 => k_is)
    (case l16 => k_is)
    (case c16 => k_is)
    (case k16 => k_is)
    (case a17 => k_is)
    (case l17 => k_is)
    (case c17 => k_is)
    (case k17 => k_is)
    (case a18 => k_is)
    (case l18 => k_is)
    (case c18 => k_is)
    (case k18 => k_is)
    (case a19 => k_is)
    (case l19 => k_is)
    (case c19 => k_is)
    (case k19 => k_is)
    (case a20 => k_is)
    (case l20 => k_is)
    (case c20 => k_is)
    (case k20 => k_is)
    (case a21 => k_is)
    (case l21 => k_is)
    (case c21 => k_is)
    (case k21 => k_is)
    (case a22 => k_is)
    (case l22 => k_is)
    (case c22 => k_is)
    (case k22 => k_is)
    (case a23 => k_is)
    (case l23 => k_is)
    (case c23 => k_is)
    (case k23 => k_is)
    (case a24 => k_is)
    (case l24 => k_is)
    (case c24 => k_is)
    (case k24 => k_is)
    (case a25 => k_is)
    (case l25 => k_is)
    (case c25 => k_is)
    (case k25 => k_is)
    (case a26 => k_is)
    (case l26 => k_is)
    (case c26 => k_is)
    (case k26 => k_is)
    (case a27 => k_is)
    (case l27 => k_is)
    (case c27 => k_is)
    (case k27 => k_is)
    (case a28 => k_is)
    (case l28 => k_is)
    (case c28 => k_is)
    (case k28 => k_is)
    (case a29 => k_is)
    (case l29 => k_is)
    (case c29 => k_is)
    (case k29 => k_is)
    (case a30 => k_is)
    (case l30 => k_is)
    (case c30 => k_is)
    (case k30 => k_is)
    (case a31 => k_is)
    (case l31 => k_is)
    (case c31 => k_is)
    (case k31 => k_is)
    (case a32 => k_is)
    (case l32 => k_is)
    (case c32 => k_is)
    (case k32 => k_is)
    (case a33 => k_is)
    (case l33 => k_is)
    (case c33 => k_is)
    (case k33 => k_is)
    (case a34 => k_is)
    (case l34 => k_is)
    (case c34 => k_is)
    (case k34 => k_is)
    (case a35 => k_is)
    (case l35 => k_is)
    (case c35 => k_is)
    (case k35 => k_is)
    (case a36 => k_is)
    (case l36 => k_is)
    (case c36 => k_is)
    (case k36 => k_is)
    (case a37 => k_is)
    (case l37 => k_is)
    (case c37 => k_is)
    (case k37 => k_is)
    (case a38 => k_is)
    (case l38 => k_is)
    (case c38 => k_is)
    (case k38 => k_is)
    (case a39 => k_is)
    (case l39 => k_is)
    (case c39 => k_is)
    (case k39 => k_is)
    (case a40 => k_is)
    (case l40 => k_is)
    (case c40 => k_is)
    (case k40 => k_is)
    (case a41 => k_is)
    (case l41 => k_is)
    (case c41 => k_is)
    (case k41 => k_is)
    (case a42 => k_is)
    (case l42 => k_is)
    (case c42 => k_is)
    (case k42 => k_is)
    (case a43 => k_is)
    (case l43 => k_is)
    (case c43 => k_is)
    (case k43 => k_is)
    (case a44 => k_is)
    (case l44 => k_is)
    (case c44 => k_is)
    (case k44 => k_is)
    (case a45 => k_is)
    (case l45 => k_is)
    (case c45 => k_is)
    (case k45 => k_is)
    (case v_BIG => k_is)
    (case v_MOST_ROWS => k_is)
    (case v_MOST_TEXT_SIGNS => k_is)
    (case v_MOST_NAME_SIGNS => k_is)
    (case v_SMALL => k_is)
    (case e_SMALL => decide +kernel)
    (case v_CAPITALS => k_is)
    (case e_CAPITALS => decide +kernel)
    (case v_FIGURES => k_is)
    (case e_FIGURES => decide +kernel)
    (case v_SMALL_SIGNS => k_is)
    (case e_SMALL_SIGNS => decide +kernel)
    (case v_KIND_SIGNS => k_is)
    (case e_KIND_SIGNS => decide +kernel)
    (case v_TEXT_SIGNS => k_is)
    (case e_TEXT_SIGNS => decide +kernel)
    (case v_KEPT => k_is)
    (case l_KEPT => k_is)
    (case y_KEPT => first | rfl | kernel_rfl)
    (case w_KEPT => first | rfl | kernel_rfl)
    (case s_KEPT => decide +kernel)
    (case u_KEPT => exact My.vals_strs _ _ (by decide +kernel))
    (case v_MESSAGE_MARKS => k_is)
    (case l_MESSAGE_MARKS => k_is)
    (case y_MESSAGE_MARKS => first | rfl | kernel_rfl)
    (case w_MESSAGE_MARKS => first | rfl | kernel_rfl)
    (case s_MESSAGE_MARKS => decide +kernel)
    (case u_MESSAGE_MARKS => exact My.vals_strs _ _ (by decide +kernel))
    (case v_MOST_BEATS => k_is)
    (case v_PART_FIGURES => k_is)
    (case v_PART => k_is)
    (case z_ValueError => k_is)
    (case z_abs => k_is)
    (case z_all => k_is)
    (case z_any => k_is)
    (case z_bool => k_is)
    (case z_dict => k_is)
    (case z_divmod => k_is)
    (case z_enumerate => k_is)
    (case z_int => k_is)
    (case z_isinstance => k_is)
    (case z_len => k_is)
    (case z_list => k_is)
    (case z_max => k_is)
    (case z_min => k_is)
    (case z_range => k_is)
    (case z_repr => k_is)
    (case z_reversed => k_is)
    (case z_set => k_is)
    (case z_sorted => k_is)
    (case z_str => k_is)
    (case z_sum => k_is)
    (case z_tuple => k_is)
    (case z_zip => k_is)
    (case npd => k_is)
    (case dpd => first | rfl | kernel_rfl)
    (case qe0 => k_is)
    (case ql0 => k_is)
    (case qy0 => first | rfl | kernel_rfl)
    (case qw0 => first | rfl | kernel_rfl)
    (case qs0 => decide +kernel)
    (case qu0 => exact My.vals_strs _ _ (by decide +kernel))
    (case qe1 => k_is)
    (case ql1 => k_is)
    (case qy1 => first | rfl | kernel_rfl)
    (case qw1 => first | rfl | kernel_rfl)
    (case qs1 => decide +kernel)
    (case qu1 => exact My.vals_strs _ _ (by decide +kernel))
    (case qe2 => k_is)
    (case ql2 => k_is)
    (case qy2 => first | rfl | kernel_rfl)
    (case qw2 => first | rfl | kernel_rfl)
    (case qs2 => decide +kernel)
    (case qu2 => exact My.vals_strs _ _ (by decide +kernel))
    (case qe3 => k_is)
    (case ql3 => k_is)
    (case qy3 => first | rfl | kernel_rfl)
    (case qw3 => first | rfl | kernel_rfl)
    (case qs3 => decide +kernel)
    (case qu3 => exact My.vals_strs _ _ (by decide +kernel))
    (case qe4 => k_is)
    (case ql4 => k_is)
    (case qy4 => first | rfl | kernel_rfl)
    (case qw4 => first | rfl | kernel_rfl)
    (case qs4 => decide +kernel)
    (case qu4 => exact My.vals_strs _ _ (by decide +kernel))
    (case qe5 => k_is)
    (case ql5 => k_is)
    (case qy5 => first | rfl | kernel_rfl)
    (case qw5 => first | rfl | kernel_rfl)
    (case qs5 => decide +kernel)
    (case qu5 => exact My.vals_strs _ _ (by decide +kernel))
    (case qe6 => k_is)
    (case ql6 => k_is)
    (case qy6 => first | rfl | kernel_rfl)
    (case qw6 => first | rfl | kernel_rfl)
    (case qs6 => decide +kernel)
    (case qu6 => exact My.vals_strs _ _ (by decide +kernel))
    (case qe7 => k_is)
    (case ql7 => k_is)
    (case qy7 => first | rfl | kernel_rfl)
    (case qw7 => first | rfl | kernel_rfl)
    (case qs7 => decide +kernel)
    (case qu7 => exact My.vals_strs _ _ (by decide +kernel))
    (case qe8 => k_is)
    (case ql8 => k_is)
    (case qy8 => first | rfl | kernel_rfl)
    (case qw8 => first | rfl | kernel_rfl)
    (case qs8 => decide +kernel)
    (case qu8 => exact My.vals_strs _ _ (by decide +kernel))
    (case qe9 => k_is)
    (case ql9 => k_is)
    (case qy9 => first | rfl | kernel_rfl)
    (case qw9 => first | rfl | kernel_rfl)
    (case qs9 => decide +kernel)
    (case qu9 => exact My.vals_strs _ _ (by decide +kernel))
    (case qe10 => k_is)
    (case ql10 => k_is)
    (case qy10 => first | rfl | kernel_rfl)
    (case qw10 => first | rfl | kernel_rfl)
    (case qs10 => decide +kernel)
    (case qu10 => exact My.vals_strs _ _ (by decide +kernel))
