import PyProof.Rows.All
import Wide.All
import OpenK.AllK
import Wide.FinOn
import PySem.Challenge.RW_shadowpages_k02_sums_and_bits
open PySem PySem.W PyProof.Rows
set_option Elab.async false
namespace K02

def word (c : Int) : Int := if Int.fmod c 4 = 3 then 281474976710655 - Int.fmod (Int.fdiv c 4) 281474976710656 else Int.fmod c 281474976710656
theorem word_in (c : Int) : 0 ≤ word c ∧ word c < 281474976710656 := by
  have h1 := Int.fmod_nonneg_of_pos c (show (0:Int) < 281474976710656 by decide)
  have h2 := Int.fmod_lt_of_pos c (show (0:Int) < 281474976710656 by decide)
  have h3 := Int.fmod_nonneg_of_pos (Int.fdiv c 4) (show (0:Int) < 281474976710656 by decide)
  have h4 := Int.fmod_lt_of_pos (Int.fdiv c 4) (show (0:Int) < 281474976710656 by decide)
  unfold word
  split <;> omega

/-- what the 48 turns keep -/
structure Bits (n : Nat) (one other here there : Int) : Prop where
  ex : ∃ a b : Nat, one = a ∧ other = b ∧ here = ((a &&& b : Nat) : Int) ∧ there = ((a ^^^ b : Nat) : Int) ∧ a < 2 ^ (48 - n) ∧ b < 2 ^ (48 - n)

theorem and_mod (a b : Nat) : (a &&& b) % 2 = a % 2 * (b % 2) := by
  have h := Nat.testBit_and a b 0
  simp only [Nat.testBit_zero] at h
  have ha : a % 2 = 0 ∨ a % 2 = 1 := by omega
  have hb : b % 2 = 0 ∨ b % 2 = 1 := by omega
  have hc : (a &&& b) % 2 = 0 ∨ (a &&& b) % 2 = 1 := by omega
  rcases ha with ha | ha <;> rcases hb with hb | hb <;> rcases hc with hc | hc <;> simp_all
theorem xor_mod (a b : Nat) : (a ^^^ b) % 2 = (a + b) % 2 := by
  have h := Nat.testBit_xor a b 0
  simp only [Nat.testBit_zero] at h
  have ha : a % 2 = 0 ∨ a % 2 = 1 := by omega
  have hb : b % 2 = 0 ∨ b % 2 = 1 := by omega
  have hc : (a ^^^ b) % 2 = 0 ∨ (a ^^^ b) % 2 = 1 := by omega
  have e : (a + b) % 2 = (a % 2 + b % 2) % 2 := by omega
  rw [e]
  rcases ha with ha | ha <;> rcases hb with hb | hb <;> rcases hc with hc | hc <;> rw [ha, hb, hc] at h ⊢ <;> first | rfl | (exact absurd h (by decide))
theorem xor_add : ∀ (n a b : Nat), a < n → a + b = (a ^^^ b) + 2 * (a &&& b)
  | 0, _, _, h => absurd h (Nat.not_lt_zero _)
  | n + 1, a, b, h => by
    by_cases z : a = 0
    · subst z; simp
    · have ih := xor_add n (a / 2) (b / 2) (by omega)
      rw [← Nat.xor_div_two, ← Nat.and_div_two] at ih
      have m1 := xor_mod a b
      have m2 := and_mod a b
      have ha : a % 2 = 0 ∨ a % 2 = 1 := by omega
      have hb : b % 2 = 0 ∨ b % 2 = 1 := by omega
      have hm : a % 2 * (b % 2) + ((a + b) % 2) / 2 = (a % 2 + b % 2) / 2 := by
        have e : (a + b) % 2 = (a % 2 + b % 2) % 2 := by omega
        rw [e]
        rcases ha with ha | ha <;> rcases hb with hb | hb <;> rw [ha, hb]
      rw [← m2] at hm
      omega
theorem bitXor_pp {x y : Int} (hx : 0 ≤ x) (hy : 0 ≤ y) : Builtin.bitXor x y = ((x.toNat ^^^ y.toNat : Nat) : Int) := by
  have e := xor_add (x.toNat + 1) x.toNat y.toNat (by omega)
  have f := PyProof.Rows.bitOr_and x y
  have g := PyProof.Rows.bitAnd_pp hx hy
  unfold Builtin.bitXor
  omega
theorem bits_start {one other : Int} (h0 : 0 ≤ one) (h1 : one < 281474976710656) (g0 : 0 ≤ other) (g1 : other < 281474976710656) :
    Bits 0 one other (Builtin.bitAnd one other) (Builtin.bitXor one other) := by
  refine ⟨one.toNat, other.toNat, by omega, by omega, ?_, ?_, by omega, by omega⟩
  · rw [PyProof.Rows.bitAnd_pp h0 g0]
  · rw [bitXor_pp h0 g0]
theorem fm (x : Int) : Int.fmod x 2 = x % 2 := Int.fmod_eq_emod_of_nonneg x (by decide)
theorem fd (x : Int) : Int.fdiv x 2 = x / 2 := Int.fdiv_eq_ediv_of_nonneg x (by decide)
theorem bits_and {n : Nat} {one other here there : Int} (h : Bits n one other here there) : Int.fmod here 2 = Int.fmod one 2 * Int.fmod other 2 := by
  obtain ⟨a, b, rfl, rfl, rfl, rfl, _, _⟩ := h
  rw [fm, fm, fm]
  have := and_mod a b
  have e : ((((a &&& b) % 2 : Nat)) : Int) = ((a % 2 * (b % 2) : Nat) : Int) := by rw [this]
  simpa using e
theorem bits_xor {n : Nat} {one other here there : Int} (h : Bits n one other here there) : Int.fmod there 2 = Int.fmod (one + other) 2 := by
  obtain ⟨a, b, rfl, rfl, rfl, rfl, _, _⟩ := h
  rw [fm, fm]
  have := xor_mod a b
  omega
theorem bits_turn {n : Nat} {one other here there : Int} (h : Bits n one other here there) (hn : n < 48) : Bits (n + 1) (Int.fdiv one 2) (Int.fdiv other 2) (Int.fdiv here 2) (Int.fdiv there 2) := by
  obtain ⟨a, b, rfl, rfl, rfl, rfl, ha, hb⟩ := h
  have e : 2 ^ (48 - n) = 2 * 2 ^ (48 - (n + 1)) := by
    have : 48 - n = (48 - (n + 1)) + 1 := by omega
    rw [this, Nat.pow_succ, Nat.mul_comm]
  rw [e] at ha hb
  refine ⟨a / 2, b / 2, ?_, ?_, ?_, ?_, by omega, by omega⟩
  · rw [fd]; omega
  · rw [fd]; omega
  · rw [fd, ← Nat.and_div_two]; omega
  · rw [fd, ← Nat.xor_div_two]; omega
theorem bits_end {one other here there : Int} (h : Bits 48 one other here there) : here = 0 ∧ there = 0 := by
  obtain ⟨a, b, rfl, rfl, rfl, rfl, ha, hb⟩ := h
  have ha' : a = 0 := by simp at ha; exact ha
  have hb' : b = 0 := by simp at hb; exact hb
  subst ha'; subst hb'
  exact ⟨rfl, rfl⟩

structure Words (xs : List Int) : Prop where
  all : ∀ x ∈ xs, 0 ≤ x ∧ x < 281474976710656
theorem words_map (l : List Int) : Words (l.map word) := ⟨by
  intro x hx
  obtain ⟨c, _, rfl⟩ := List.mem_map.mp hx
  exact word_in c⟩
theorem Words.get {xs : List Int} (h : Words xs) (i : Nat) : 0 ≤ xs.getD i 0 ∧ xs.getD i 0 < 281474976710656 := by
  by_cases hi : i < xs.length
  · have := h.all xs[i] (List.getElem_mem hi)
    simpa [List.getD, hi] using this
  · have : xs.getD i 0 = 0 := by simp [List.getD, Nat.le_of_not_lt hi]
    rw [this]; decide
theorem take_more {xs : List Int} {m : Nat} (h : m < xs.length) : (xs.take (m + 1)).sum = (xs.take m).sum + xs.getD m 0 := by
  rw [List.take_add_one, List.getElem?_eq_getElem h, List.sum_append]
  simp [List.getD, h]
structure Tot (xs : List Int) (n : Nat) (total : Int) : Prop where
  eq : ∃ q : Int, (xs.take n).sum = total + 281474976710656 * q
theorem fm48 (x : Int) : Int.fmod x 281474976710656 = x % 281474976710656 := Int.fmod_eq_emod_of_nonneg x (by decide)
theorem tot_turn {xs : List Int} {n : Nat} {total : Int} (h : Tot xs n total) (hn : n < xs.length) : Tot xs (n + 1) (Int.fmod (total + xs.getD n 0) 281474976710656) := by
  obtain ⟨q, hq⟩ := h
  refine ⟨q + (total + xs.getD n 0) / 281474976710656, ?_⟩
  rw [take_more hn, fm48]
  omega
theorem tot_end {xs : List Int} {total : Int} (h : Tot xs xs.length total) : Int.fmod (xs.sum - total) 281474976710656 = 0 := by
  obtain ⟨q, hq⟩ := h
  rw [List.take_length] at hq
  rw [fm48, hq]
  omega
end K02
namespace K02
theorem len41 {h : Heap} {r : Addr} {f : Int → Int} {l : List Int} {x : Int} {t u v : Tok} (_ : IsRange h r 0 (((List.map f (List.take 40 l ++ [x])).length : Nat) : Int) 1 t u v) : (List.map f (List.take 40 l ++ [x])).length ≤ 41 := by
  simp only [List.length_map, List.length_append, List.length_take, List.length_cons, List.length_nil]
  omega
theorem start {l : List Int} : Words (List.map (fun k' : Int => if k'.fmod 4 = 3 then 2 ^ Int.toNat 48 - 1 - (k'.fdiv 4).fmod (2 ^ Int.toNat 48) else k'.fmod (2 ^ Int.toNat 48)) l) ∧ Tot (List.map (fun k' : Int => if k'.fmod 4 = 3 then 2 ^ Int.toNat 48 - 1 - (k'.fdiv 4).fmod (2 ^ Int.toNat 48) else k'.fmod (2 ^ Int.toNat 48)) l) ([] : List Int).length 0 ∧ (0 : Int) ≤ 0 ∧ (0 : Int) < 281474976710656 :=
  ⟨words_map l, ⟨0, by simp⟩, Int.le_refl _, by decide⟩
section
variable {prog : Program} {w : World} {A : Around} {E : Value → Shared → Prop} {s : Shared} {h₀ : Heap} {L : Addr} {news : List (Addr × Obj)} {vx sx : PySem.Expr} {a : Addr} {ys : List Value} {ns : List Int} {k : Int} {u : Tok} {Q : Value → Shared → Prop}
theorem item_here (N : News h₀ L s.heap news) (hm : (a, LCg.lst ys) ∈ news) (hi : IntsAre ys ns) (hW : Words ns) (hk : 0 ≤ k) (h1 : k < (ns.length : Int)) (hb : ns.length ≤ 41)
    (h : 0 ≤ ns.getD k.toNat 0 → ns.getD k.toNat 0 < 281474976710656 → ∀ t, Q (.int (ns.getD k.toNat 0) t) s)
    (hsub : subscripted sx false (.ref a) (.int k u) = operate [.ref a, .int k u] (getItem (.ref a) (.int k u)) := by with_unfolding_all rfl) (hgo : ∀ r, letTemporaryGo vx (.ref a) r = pure () := by intro _; with_unfolding_all rfl) :
    wpAny (model prog w) A (subscriptTail vx sx (.ref a) (.int k u)) Q E s := by
  have el : ys.length = ns.length := hi.length
  obtain ⟨t, ht⟩ := hi.get k.toNat (ns.getD k.toNat 0) (by
    have : k.toNat < ns.length := by omega
    simp [List.getD, this])
  have := hW.get k.toNat
  exact kim_list N hm rfl rfl hk (by omega) ht (h this.1 this.2 t) hsub hgo
theorem item_before (N : News h₀ L s.heap news) (hm : (a, LCg.lst ys) ∈ news) (hi : IntsAre ys ns) (hW : Words ns) (h0 : -1 ≤ k) (h1 : k < (ns.length : Int)) (hl : 1 ≤ ns.length) (hb : ns.length ≤ 41)
    (h : ∀ v t, 0 ≤ v → v < 281474976710656 → Q (.int v t) s)
    (hsub : subscripted sx false (.ref a) (.int k u) = operate [.ref a, .int k u] (getItem (.ref a) (.int k u)) := by with_unfolding_all rfl) (hgo : ∀ r, letTemporaryGo vx (.ref a) r = pure () := by intro _; with_unfolding_all rfl) :
    wpAny (model prog w) A (subscriptTail vx sx (.ref a) (.int k u)) Q E s := by
  have el : ys.length = ns.length := hi.length
  by_cases hk : 0 ≤ k
  · obtain ⟨t, ht⟩ := hi.get k.toNat (ns.getD k.toNat 0) (by
      have : k.toNat < ns.length := by omega
      simp [List.getD, this])
    have := hW.get k.toNat
    exact kim_list N hm rfl rfl hk (by omega) ht (h _ t this.1 this.2) hsub hgo
  · have e : k = -1 := by omega
    subst e
    obtain ⟨t, ht⟩ := hi.get (ns.length - 1) (ns.getD (ns.length - 1) 0) (by
      have : ns.length - 1 < ns.length := by omega
      simp [List.getD, this])
    have := hW.get (ns.length - 1)
    have e2 : ((-1 : Int) + (ys.length : Int)).toNat = ns.length - 1 := by omega
    exact kim_back N hm rfl rfl (by decide) (by omega) (by decide) (by rw [e2]; exact ht) (h _ t this.1 this.2) hsub hgo
end
theorem bits_startL {one other : Int} (h0 : 0 ≤ one) (h1 : one < 281474976710656) (g0 : 0 ≤ other) (g1 : other < 281474976710656) :
    Bits ([] : List Int).length one other (Builtin.bitAnd one other) (Builtin.bitXor one other) := bits_start h0 h1 g0 g1
theorem bits_turnL {pre : List Int} {k one other here there : Int} (h : Bits pre.length one other here there) (hn : pre.length < 48) :
    Bits (pre ++ [k]).length (Int.fdiv one 2) (Int.fdiv other 2) (Int.fdiv here 2) (Int.fdiv there 2) := by
  have e : (pre ++ [k]).length = pre.length + 1 := by simp
  rw [e]
  exact bits_turn h hn
theorem turn {xs pre : List Int} {k total : Int} (hW : Words xs) (h : Tot xs pre.length total) (hk : k = 0 + (pre.length : Int)) (hl : pre.length < xs.length) :
    Words xs ∧ Tot xs (pre ++ [k]).length (Int.fmod (total + xs.getD k.toNat 0) 281474976710656) ∧ 0 ≤ Int.fmod (total + xs.getD k.toNat 0) 281474976710656 ∧ Int.fmod (total + xs.getD k.toNat 0) 281474976710656 < 281474976710656 := by
  have e : (pre ++ [k]).length = pre.length + 1 := by simp
  have e2 : k.toNat = pre.length := by omega
  refine ⟨hW, ?_, Int.fmod_nonneg_of_pos _ (by decide), Int.fmod_lt_of_pos _ (by decide)⟩
  rw [e, e2]
  exact tot_turn h hl
theorem fin {xs : List Int} {total : Int} {m : Nat} (h : Tot xs (rangeKs 0 m).length total) (hm : m = xs.length) : Int.fmod (xs.sum - total) (2 ^ Int.toNat 48) = 0 := by
  rw [rangeKs_length, hm] at h
  exact tot_end h
section
variable {prog : Program} {w : World} {A : Around} {E : Value → Shared → Prop} {s : Shared} {x y : Int} {t u : Tok} {Q : Value → Shared → Prop}
theorem step_eq (e : x = y) (h : Q (.bool true) s) : wpAny (model prog w) A (compareOp .Eq (.int x t) (.int y u)) Q E s := by
  refine PyProof.Rows.eq_int ?_
  have d : (x == y) = true := beq_iff_eq.mpr e
  rw [d]
  exact h
theorem step_ne (e : x = y) (h : Q (.bool false) s) : wpAny (model prog w) A (compareOp .NotEq (.int x t) (.int y u)) Q E s := by
  refine PyProof.Rows.ne_int ?_
  have d : (x != y) = false := by simp [e]
  rw [d]
  exact h
end
end K02
set_option maxRecDepth 100000 in
set_option maxHeartbeats 8000000 in
open_top k02_hd for PySem.Challenge.rw_shadowpages_k02_sums_and_bits
local macro_rules | `(tactic| walk_at "subscriptTail Name BinOp ref int") => `(tactic| (k_here; (with_reducible show wpAny _ _ (subscriptTail _ _ (Value.ref _) (Value.int _ _)) _ _ _); (rename News _ _ _ _ => lN'); (with_unfolding_all refine' K02.item_before lN' ?k1 ?k2 ?k3 ?k4 ?k5 ?k6 ?k7 ?_); (case k1 => k_memK); (case k2 => assumption); (case k3 => assumption); (case k4 => k_dflt omega); (case k5 => k_dflt omega); (case k6 => k_dflt omega); (case k7 => k_dflt omega); intro v' t' hv0 hv1))
local macro_rules | `(tactic| walk_at "subscriptTail Name Name ref int") => `(tactic| (k_here; (with_reducible show wpAny _ _ (subscriptTail _ _ (Value.ref _) (Value.int _ _)) _ _ _); (rename News _ _ _ _ => lN'); (with_unfolding_all refine' K02.item_here lN' ?k1 ?k2 ?k3 ?k4 ?k5 ?k7 ?_); (case k1 => k_memK); (case k2 => assumption); (case k3 => assumption); (case k4 => k_dflt omega); (case k5 => k_dflt omega); (case k7 => k_dflt omega); intro hv0 hv1 t'))
local macro_rules | `(tactic| walk_at "compareOp NotEq int int") => `(tactic| (k_here; (with_reducible refine' K02.step_ne ?k1 ?_); (case k1 => k_dflt (first | exact K02.bits_and (by assumption) | exact K02.bits_xor (by assumption)))))
local macro_rules | `(tactic| walk_at "compareOp Eq int int") => `(tactic| (k_here; (with_reducible refine' K02.step_eq ?k1 ?_); (case k1 => k_dflt (first | exact K02.fin (by assumption) (by first | rfl | omega) | exact (K02.bits_end (by assumption)).1 | exact (K02.bits_end (by assumption)).2))))
local macro_rules | `(tactic| walk_at "eval BinOp") => `(tactic| (k_here; (try dsimp only); k_gentoks))
local macro_rules | `(tactic| walk_at "isTrue Compare") => `(tactic| (k_here; (try dsimp only); k_gentoks))
local macro_rules | `(tactic| walk_at "isTrue BoolOp") => `(tactic| (k_here; (try dsimp only); k_gentoks))
local macro_rules | `(tactic| walk_at "eval Compare") => `(tactic| (k_here; (try dsimp only); k_gentoks))
local macro_rules | `(tactic| walk_at "eval BoolOp") => `(tactic| (k_here; (try dsimp only); k_gentoks))
local macro_rules | `(tactic| walk_at "eval UnaryOp") => `(tactic| (k_here; (try dsimp only); k_gentoks))
local macro_rules | `(tactic| walk_at "isTrue UnaryOp") => `(tactic| (k_here; (try dsimp only); k_gentoks))
local macro_rules | `(tactic| walk_at "eval Call") => `(tactic| (k_here; (try dsimp only); k_gentoks))
set_option maxRecDepth 100000 in
set_option maxHeartbeats 8000000 in
theorem PySem.Challenge.cw_shadowpages_k02_sums_and_bits_holds : PySem.Challenge.rw_shadowpages_k02_sums_and_bits.Holds :=
  k02_hd (by
    k_with "state" => first | exact K02.start | exact K02.turn (by assumption) (by assumption) (by assumption) (by omega) | exact K02.bits_startL (by omega) (by omega) (by omega) (by omega) | exact K02.bits_turnL (by assumption) (by omega)
    k_with "pyIter ref" => ((rename IsRange _ _ _ _ _ _ _ _ => rg9); (have hB := K02.len41 rg9); k_state_given ["_law_words"] (fun xs pre total => K02.Words xs ∧ K02.Tot xs pre.length total ∧ 0 ≤ total ∧ total < 281474976710656) "_law_total")
    k_with "pyIter ref" => k_state (fun pre one other here there => K02.Bits pre.length one other here there) "_law_one" "_law_other" "_law_here" "_law_there"
    k_with "call ref" => k_call_by "_law_sum" (fun (_ _ : Int) => true) (fun (a b : Int) => 0 ≤ a ∧ a < 281474976710656 ∧ 0 ≤ b ∧ b < 281474976710656)
    k_with "call ref" => k_call_by "_law_bits" (fun (_ _ : Int) => true) (fun (a b : Int) => 0 ≤ a ∧ a < 281474976710656 ∧ 0 ≤ b ∧ b < 281474976710656)
    w_strict k_go)
