import PyProof.Rows.All
import Wide.All
import OpenK.AllK
import Wide.FinOn
import PySem.Challenge.RW_shadowpages_k01_words
open PySem PySem.W PyProof.Rows
set_option Elab.async false
namespace K01
inductive Mk2 : Prop | mk
inductive Mk4 : Prop | mk
theorem fmod10 (c : Int) : Int.fmod c 10 = 0 ∨ Int.fmod c 10 = 1 ∨ Int.fmod c 10 = 2 ∨ Int.fmod c 10 = 3 ∨ Int.fmod c 10 = 4 ∨ Int.fmod c 10 = 5 ∨ Int.fmod c 10 = 6 ∨ Int.fmod c 10 = 7 ∨ Int.fmod c 10 = 8 ∨ Int.fmod c 10 = 9 := by
  have h1 := Int.fmod_nonneg_of_pos c (show (0:Int) < 10 by decide)
  have h2 := Int.fmod_lt_of_pos c (show (0:Int) < 10 by decide)
  omega
section
variable {prog : Program} {w : World} {A : Around} {E : Value → Shared → Prop} {s : Shared} {x y : Int} {t u : Tok} {Q : Value → Shared → Prop}
theorem item10 {vx sx : PySem.Expr} {a : Addr} {c : Int} (h : Mk4 → ∀ j : Int, (j = 0 ∨ j = 1 ∨ j = 2 ∨ j = 3 ∨ j = 4 ∨ j = 5 ∨ j = 6 ∨ j = 7 ∨ j = 8 ∨ j = 9) → wpAny (model prog w) A (subscriptTail vx sx (.ref a) (.int j u)) Q E s) :
    wpAny (model prog w) A (subscriptTail vx sx (.ref a) (.int (Int.fmod c 10) u)) Q E s := h .mk _ (fmod10 c)
theorem call_any {f : Addr} (h : ∀ (x : Int) (t : Tok), Mk2 → wpAny (model prog w) A (call (.ref f) [.int x t]) Q E s) : wpAny (model prog w) A (call (.ref f) [.int (Int.fdiv y 7) u]) Q E s := h _ _ .mk
theorem quot (x y : Int) : x = y * Int.fdiv x y + Int.fmod x y := by
  rw [Int.fmod_def]
  omega
structure Rest (n r : Int) : Prop where
  ex : ∃ k, n = 281474976710656 * k + r
theorem step_mod48 (hy : y = 281474976710656) (h : ∀ r, Rest x r → 0 ≤ r → r < 281474976710656 → Q (.int r s.toks) { s with toks := s.toks + 1 }) :
    wpAny (model prog w) A (binaryOp .Mod (.int x t) (.int y u)) Q E s := by
  subst hy
  exact PyProof.Rows.mod_int (by decide) (h _ ⟨_, quot x _⟩ (Int.fmod_nonneg_of_pos x (by decide)) (Int.fmod_lt_of_pos x (by decide)))
theorem mod_nought {n r : Int} (h : Rest n r) : Int.fmod (n - r) 281474976710656 = 0 := by
  obtain ⟨k, rfl⟩ := h
  rw [Int.fmod_eq_emod_of_nonneg _ (by decide)]
  omega
theorem step_mod0 {n r : Int} (hR : Rest n r) (hy : y = 281474976710656) (h : Q (.int 0 s.toks) { s with toks := s.toks + 1 }) :
    wpAny (model prog w) A (binaryOp .Mod (.int (n - r) t) (.int y u)) Q E s := by
  subst hy
  refine PyProof.Rows.mod_int (by decide) ?_
  rw [mod_nought hR]
  exact h
theorem step_ge (hy : y = 281474976710656) (e : x < 281474976710656) (h : Q (.bool false) s) : wpAny (model prog w) A (compareOp .GtE (.int x t) (.int y u)) Q E s := by
  refine PyProof.Rows.ge_int ?_
  have d : decide (y ≤ x) = false := by simp; omega
  rw [d]
  exact h
theorem step_lt (e : 0 ≤ x) (h : Q (.bool false) s) : wpAny (model prog w) A (compareOp .Lt (.int x t) (.int 0 u)) Q E s := by
  refine PyProof.Rows.lt_int ?_
  have d : decide (x < 0) = false := by simp; omega
  rw [d]
  exact h
end
@[irreducible] def num (c : Int) : Int :=
  if Int.fmod c 4 = 0 then (c.fdiv 4).fmod (10 ^ Int.toNat 60 + 1) - 5 * 10 ^ Int.toNat 59
  else if Int.fmod c 4 = 1 then ((c.fdiv 4).fmod 5 - 2 + 5 * ((c.fdiv 4).fdiv 35).fmod 200) * 2 ^ Int.toNat 48 + ((c.fdiv 4).fdiv 5).fmod 7 - 3
  else if Int.fmod c 4 = 2 then (c.fdiv 4).fmod 281474976710656
  else (c.fdiv 4).fmod 13 - 6
theorem num_0 {c : Int} (h : Int.fmod c 4 = 0) : (c.fdiv 4).fmod (10 ^ Int.toNat 60 + 1) - 5 * 10 ^ Int.toNat 59 = num c := by
  unfold num; rw [if_pos h]
theorem num_1 {c : Int} (h0 : Int.fmod c 4 ≠ 0) (h : Int.fmod c 4 = 1) : ((c.fdiv 4).fmod 5 - 2 + 5 * ((c.fdiv 4).fdiv 35).fmod 200) * 2 ^ Int.toNat 48 + ((c.fdiv 4).fdiv 5).fmod 7 - 3 = num c := by
  unfold num; rw [if_neg h0, if_pos h]
theorem num_2 {c r : Int} (h0 : Int.fmod c 4 ≠ 0) (h1 : Int.fmod c 4 ≠ 1) (h : Int.fmod c 4 = 2) (hR : Rest (c.fdiv 4) r) (r0 : 0 ≤ r) (r1 : r < 281474976710656) : r = num c := by
  unfold num; rw [if_neg h0, if_neg h1, if_pos h]
  obtain ⟨k, hk⟩ := hR
  rw [hk, Int.fmod_eq_emod_of_nonneg _ (by decide)]
  omega
theorem num_3 {c : Int} (h0 : Int.fmod c 4 ≠ 0) (h1 : Int.fmod c 4 ≠ 1) (h : Int.fmod c 4 ≠ 2) : (c.fdiv 4).fmod 13 - 6 = num c := by
  unfold num; rw [if_neg h0, if_neg h1, if_neg h]
end K01
section
open PySem PySem.W PyProof.Rows PySem.Calls PySem.Spec
open Builtin Builtin.ObjectAttr Builtin.Getset_descriptor
set_option maxRecDepth 100000
set_option maxHeartbeats 4000000
namespace EX
section
variable {prog : Program} {w : World} {A : Around} {E : Value → Shared → Prop} {s : Shared} {K : Frag} {x C D : Addr}
theorem ty {M : Model} {h : Heap} {ox : Obj} (hx : h.get? x = some ox) (hc : ox.cls = .ref C) : Looks M h (typeOf (.ref x)) (.ref C) := hc ▸ (Looks.ld hx).andThen .now
theorem class_get {R : Result → Shared → Prop} {tp : Value} (X : K.In s.heap) (L0 : Looks (model prog w) s.heap (typeOf (.ref x)) (.ref C)) (hm : mroIn K C (.type "object") = some true)
    (h : R (.ok (.ret (.ref C))) s) : codeAny (model prog w) A (.call (.builtin "getset_descriptor.__get__") ⟨[.builtin "object.__class__", .ref x, tp], []⟩) R s := by
  obtain ⟨hh, g, dr, t, os⟩ := s
  have L1 := looks_mroIn (M := model prog w) X hm
  refine codeAny_call_builtin KF.slot_gs.plain KF.entry_gs (KF.slot_gs.check _ _ _ _ _ _ _ _ KF.type_class (KF.args_gs _ _ _) ?_)
  unfold Builtin.«getset_descriptor.__get__» descrGet
  rw [dga_obj]
  refine wpAny_bind (wpAny_pure ?_)
  unfold descrGetter descrCheckInstance descrNameAndClass isInstance
  simp only [KF.owner_class]
  repeat lk
  refine ⟨Code.quiet_builtin _ (by decide +kernel), codeAny_builtin KF.entry_class ?_⟩
  unfold Builtin.«object.__class__» shownTypeOf
  repeat lk
  exact h
theorem look {M : Model} {h : Heap} {a g : Value} {name : Str} (X : K.In h) (ha : findIn K (.ref C) name = some (some a)) (hn : specialIn K a "__get__" = some (some g)) (htk : takesIn K a = some true) :
    Looks M h (Builtin.ObjectAttr.find (.ref x) (.ref C) name) (.bind g a) :=
  (looks_findIn X ha).andThen ((looks_specialIn X hn).andThen ((show Looks M h (Builtin.ObjectAttr.dataDescriptor? (some a) (some g)) (some (g, a)) from (looks_takesIn X htk).andThen .now).andThen (Looks.tag .now)))
theorem check_ga {M : Model} {nameV : Value} {Q : Unit → Shared → Prop} (X : K.In s.heap) (L0 : Looks M s.heap (typeOf (.ref x)) (.ref C)) (hm : mroIn K C (.type "BaseException") = some true) (hq : Q () s) :
    wpAny M A (checkBuiltinCall "BaseException.__getattribute__" ⟨[.ref x, nameV], []⟩) Q E s := by
  obtain ⟨hh, g, dr, t, os⟩ := s
  have L1 := looks_mroIn (M := M) X hm
  have hk : builtinKind "BaseException.__getattribute__" = some .slot := by decide +kernel
  have hsplit : splitId "BaseException.__getattribute__" = some ("BaseException", "__getattribute__") := by decide +kernel
  have ha := F.args_bexc_ga (.ref x) nameV
  simp only [checkBuiltinCall, hk, hsplit]
  refine wpAny_bind ?_
  unfold isInstance
  repeat (first | lk | wp_step)
  exact hq
theorem ga_entry {g a : Value} {tk : Tok} {name : Str} {Q : Fin → Shared → Prop} (L0 : Looks (model prog w) s.heap (typeOf (.ref x)) (.ref C)) (Lf : Looks (model prog w) s.heap (find (.ref x) (.ref C) name) (.bind g a))
    (h : wpAny (model prog w) A (call g [a, .ref x, .ref C]) (fun v s' => Q (.done (.ret v)) s') E s) :
    wpAny (model prog w) A (Builtin.«object.__getattribute__» ⟨[.ref x, .str name tk], []⟩) Q E s := by
  obtain ⟨hh, gg, dr, t, os⟩ := s
  refine wpAny_bind (wpAny_pure (a := (Value.ref x, [Value.str name tk])) ?_)
  refine wpAny_bind (wpAny_pure (a := name) ?_)
  refine wpAny_bind (L0.at ?_)
  refine wpAny_bind (Lf.at ?_)
  show wpAny _ _ (holding [a] (call g [a, .ref x, .ref C]) >>= ret) _ _ _
  exact wpAny_bind (wpAny_holding (wpAny_mono h (fun v s' z => wpAny_pure z) fun _ _ z => z))
theorem class_attr {Q : Option Value → Shared → Prop} (X : K.In s.heap) (L0 : Looks (model prog w) s.heap (typeOf (.ref x)) (.ref C))
    (hga : findIn K (.ref C) "__getattribute__" = some (some (.builtin "BaseException.__getattribute__"))) (hk : findIn K (.ref C) "__getattr__" = some none)
    (ha : findIn K (.ref C) "__class__" = some (some (.builtin "object.__class__"))) (hn : specialIn K (.builtin "object.__class__") "__get__" = some (some (.builtin "getset_descriptor.__get__")))
    (htk : takesIn K (.builtin "object.__class__") = some true) (hm : mroIn K C (.type "object") = some true) (hb : mroIn K C (.type "BaseException") = some true)
    (h : Q (some (.ref C)) { s with toks := s.toks + 1 }) : wpAny (model prog w) A (getAttr? (.ref x) "__class__") Q E s := by
  obtain ⟨hh, g, d, t, os⟩ := s
  have L1 := looks_findIn (M := model prog w) X hga
  have L2 := looks_findIn (M := model prog w) X hk
  have Lf := look (M := model prog w) (x := x) X ha hn htk
  have hx2 : (Value.builtin "BaseException.__getattribute__" == Value.builtin "object.__getattribute__") = false := by decide +kernel
  unfold getAttr? getAttrBy? getAttrBy
  refine wpAny_bind (wpAny_mkText (wpAny_bind (wpAny_attempt (wpAny_holding (wpAny_bind (L0.at (wpAny_bind (L1.at ?_))))))))
  dsimp only
  rw [if_neg (by rw [hx2, Bool.and_false]; exact Bool.false_ne_true)]
  unfold getAttrByItsOwn hookBefore
  refine wpAny_bind (L2.at ?_)
  refine wpAny_bind (wpAny_attempt (wpAny_holding ?_))
  unfold callGetattribute boundAndCalled
  rw [if_neg (by decide)]
  rw [PySem.F.attr_ValueError.ga.bind (.ref x)]
  refine wpAny_bind (wpAny_pure (wpAny_call ?_))
  refine codeAny_call_builtin PySem.F.attr_ValueError.ga.plain F.entry_bexc_ga (check_ga X L0 hb ?_)
  refine ga_entry L0 Lf ?_
  refine wpAny_call (class_get X L0 hm ?_)
  exact handed_on rfl (wpAny_pure h)
theorem nested {c : Value} {dep : Int} {tk : Tok} {Q : Fin → Shared → Prop} (X : K.In s.heap) (L0 : Looks (model prog w) s.heap (typeOf (.ref x)) (.ref D))
    (hga : findIn K (.ref D) "__getattribute__" = some (some (.builtin "BaseException.__getattribute__"))) (hk : findIn K (.ref D) "__getattr__" = some none)
    (ha : findIn K (.ref D) "__class__" = some (some (.builtin "object.__class__"))) (hn : specialIn K (.builtin "object.__class__") "__get__" = some (some (.builtin "getset_descriptor.__get__")))
    (htk : takesIn K (.builtin "object.__class__") = some true) (hm : mroIn K D (.type "object") = some true) (hb : mroIn K D (.type "BaseException") = some true)
    (hty : Looks (model prog w) s.heap (typeOf c) (.type "type")) (his : Looks (model prog w) s.heap (isType c) true) (hisD : Looks (model prog w) s.heap (isType (.ref D)) true)
    (hne : (Value.ref D == c) = false) (hsub : Looks (model prog w) s.heap (isSubtype (.ref D) c) false) (h : Q (.done (.ret (.bool false))) { s with toks := s.toks + 1 }) :
    wpAny (model prog w) A (Builtin.«isinstance.nested» ⟨[.ref x, c, .int dep tk], []⟩) Q E s := by
  obtain ⟨h0, g, d, tt, os⟩ := s
  have LI : Looks (model prog w) h0 (isInstance (.ref x) c) false := L0.andThen hsub
  unfold Builtin.«isinstance.nested»
  refine wpAny_bind (L0.at ?_)
  rw [if_neg (fun q => by rw [hne] at q; exact Bool.noConfusion q)]
  refine wpAny_bind (hty.at ?_)
  rw [if_pos (by decide)]
  k_delta "plainIsInstance"
  refine wpAny_bind (wpAny_bind (his.at ?_))
  simp only [Bool.not_true, Bool.false_eq_true, if_false]
  refine wpAny_bind (LI.at ?_)
  simp only [Bool.false_eq_true, if_false]
  refine wpAny_bind (class_attr X L0 hga hk ha hn htk hm hb ?_)
  refine wpAny_bind (hisD.at ?_)
  simp only [Bool.not_true, Bool.false_eq_true, if_false]
  refine wpAny_bind (wpAny_rule ?_)
  refine hsub.at ?_
  first
    | exact wpAny_pure h
    | exact wpAny_pure (wpAny_pure h)
    | exact wpAny_bind (wpAny_pure (wpAny_pure h))
theorem isType_of {M : Model} {h : Heap} (X : K.In h) (e : (clsIn K C).isSome = true) : Looks M h (isType (.ref C)) true := by
  obtain ⟨cd, hc⟩ := Option.isSome_iff_exists.mp e
  unfold clsIn at hc
  split at hc
  · rename_i c' d' cd' sl' ho
    intro A' Q' E' s' k q
    unfold isType loadHead
    exact wpAny_bind (wpAny_loadPart (k _ _ (X _ _ ho)) (wpAny_pure q))
  · cases hc
theorem nested_yes {c : Value} {dep : Int} {tk : Tok} {Q : Fin → Shared → Prop} (L0 : Looks (model prog w) s.heap (typeOf (.ref x)) (.ref D))
    (hty : Looks (model prog w) s.heap (typeOf c) (.type "type")) (his : Looks (model prog w) s.heap (isType c) true)
    (hsub : Looks (model prog w) s.heap (isSubtype (.ref D) c) true) (h : Q (.done (.ret (.bool true))) s) :
    wpAny (model prog w) A (Builtin.«isinstance.nested» ⟨[.ref x, c, .int dep tk], []⟩) Q E s := by
  obtain ⟨h0, g, d, tt, os⟩ := s
  have LI : Looks (model prog w) h0 (isInstance (.ref x) c) true := L0.andThen hsub
  unfold Builtin.«isinstance.nested»
  refine wpAny_bind (L0.at ?_)
  by_cases hq : (Value.ref D == c) = true
  · rw [if_pos hq]
    exact wpAny_bind (wpAny_rule (wpAny_bind (wpAny_pure (wpAny_pure h))))
  · rw [if_neg hq]
    refine wpAny_bind (hty.at ?_)
    rw [if_pos (by decide)]
    k_delta "plainIsInstance"
    refine wpAny_bind (wpAny_bind (his.at ?_))
    simp only [Bool.not_true, Bool.false_eq_true, if_false]
    refine wpAny_bind (LI.at ?_)
    simp only [if_true]
    first
      | exact wpAny_pure (wpAny_bind (wpAny_pure (wpAny_pure h)))
      | exact wpAny_pure (wpAny_pure h)
      | exact wpAny_bind (wpAny_pure (wpAny_pure h))
/-- what the class of a caught refusal is asked for, once for all the questions about it -/
structure Cls (K : Frag) (D : Addr) : Prop where
  ga : findIn K (.ref D) "__getattribute__" = some (some (.builtin "BaseException.__getattribute__"))
  noHook : findIn K (.ref D) "__getattr__" = some none
  kind : findIn K (.ref D) "__class__" = some (some (.builtin "object.__class__"))
  get : specialIn K (.builtin "object.__class__") "__get__" = some (some (.builtin "getset_descriptor.__get__"))
  takes : takesIn K (.builtin "object.__class__") = some true
  obj : mroIn K D (.type "object") = some true
  exc : mroIn K D (.type "BaseException") = some true
theorem Cls.of {h : Heap} {oe : Obj} (_ : K.In h) (_ : oe.cls = .ref D) (e1 : findIn K (.ref D) "__getattribute__" = some (some (.builtin "BaseException.__getattribute__"))) (e2 : findIn K (.ref D) "__getattr__" = some none)
    (e3 : findIn K (.ref D) "__class__" = some (some (.builtin "object.__class__"))) (e4 : specialIn K (.builtin "object.__class__") "__get__" = some (some (.builtin "getset_descriptor.__get__")))
    (e5 : takesIn K (.builtin "object.__class__") = some true) (e6 : mroIn K D (.type "object") = some true) (e7 : mroIn K D (.type "BaseException") = some true) : Cls K D := ⟨e1, e2, e3, e4, e5, e6, e7⟩
theorem Cls.isCls (c : Cls K D) : (clsIn K D).isSome = true := by
  obtain ⟨cd, e, _⟩ := Option.bind_eq_some_iff.mp c.obj
  rw [e]; rfl
variable {ox : Obj} {Q : Value → Shared → Prop} {h₀ : Heap} {L : Addr} {news : List (Addr × Obj)} {T : String}
theorem call_not (X : K.In s.heap) (N : News h₀ L s.heap news) (hx : (x, ox) ∈ news) (hc : ox.cls = .ref D) (k : Cls K D) (e : kin_not K D C = true) (h : Q (.bool false) { s with toks := s.toks + 1 }) :
    wpAny (model prog w) A (call (.builtin "isinstance") [.ref x, .ref C]) Q E s := by
  unfold kin_not at e
  simp only [Bool.and_eq_true, beq_iff_eq, decide_eq_true_eq] at e
  obtain ⟨⟨⟨e9, e10⟩, e11⟩, e12⟩ := e
  exact call_isinstance (S := fun _ R s => (K.In s.heap ∧ s.heap.get? x = some ox) ∧ R (.ok (.ret (.bool false))) { s with toks := s.toks + 1 })
    (fun _ _ _ _ _ hs => isinstance_outer (nested hs.1.1 (ty hs.1.2 hc) k.ga k.noHook k.kind k.get k.takes k.obj k.exc (looks_typeIn hs.1.1 e11) (isType_of hs.1.1 e10) (isType_of hs.1.1 k.isCls)
      (Bool.eq_false_iff.mpr fun q => e9 (Value.ref.inj (beq_iff_eq.mp q))) (looks_subIn hs.1.1 e12) hs.2) (by intro q; cases q)) ⟨⟨X, (N _ hx).1⟩, h⟩
theorem call_yes (X : K.In s.heap) (N : News h₀ L s.heap news) (hx : (x, ox) ∈ news) (hc : ox.cls = .ref D) (_k : Cls K D) (e1 : typeIn K (.ref C) = some (.type "type")) (e2 : mroIn K C (.type "object") = some true)
    (e3 : subIn K (.ref D) (.ref C) = some true) (h : Q (.bool true) s) : wpAny (model prog w) A (call (.builtin "isinstance") [.ref x, .ref C]) Q E s :=
  call_isinstance (S := fun _ R s => (K.In s.heap ∧ s.heap.get? x = some ox) ∧ R (.ok (.ret (.bool true))) s)
    (fun _ _ _ _ _ hs => isinstance_outer (nested_yes (ty hs.1.2 hc) (looks_typeIn hs.1.1 e1) (isType_of hs.1.1 (by obtain ⟨cd, e, _⟩ := Option.bind_eq_some_iff.mp e2; rw [e]; rfl)) (looks_subIn hs.1.1 e3) hs.2)
      (by intro q; cases q)) ⟨⟨X, (N _ hx).1⟩, h⟩
theorem call_yesT (X : K.In s.heap) (N : News h₀ L s.heap news) (hx : (x, ox) ∈ news) (hc : ox.cls = .ref D) (_k : Cls K D) (e1 : typeOf (.type T) = pure (.type "type"))
    (e3 : subIn K (.ref D) (.type T) = some true) (h : Q (.bool true) s) : wpAny (model prog w) A (call (.builtin "isinstance") [.ref x, .type T]) Q E s :=
  call_isinstance (S := fun _ R s => (K.In s.heap ∧ s.heap.get? x = some ox) ∧ R (.ok (.ret (.bool true))) s)
    (fun _ _ _ _ _ hs => isinstance_outer (nested_yes (ty hs.1.2 hc) (Looks.of_pure e1) (Looks.of_pure rfl) (looks_subIn hs.1.1 e3) hs.2)
      (by intro q; cases q)) ⟨⟨X, (N _ hx).1⟩, h⟩
theorem got {h : Heap} {e t : Addr} {news₂ : List (Addr × Obj)} {cls : Value} {vs : List Value} (N₂ : News h₀ L h news₂) (G : Got news₂ e t cls vs) (N : News h₀ L h news) :
    ∃ oe : Obj, News h₀ L h ((e, oe) :: news) ∧ oe.cls = cls := by
  obtain ⟨oe, ot, ws, nt, h1, _, h3, _⟩ := G
  exact ⟨oe, fun p hp => (List.mem_cons.mp hp).elim (fun q => by rw [q]; exact N₂ _ h1) (N p), h3⟩
theorem cont {g : Heap} {m : Str → Option Value} {a L' : Addr} {o : Obj} {T₀ : String} {b : Bool} (Z : KitX K (.ref a) (.type T₀) (KitAt a T₀)) (X : K.In g) (F : Fr g L' s.heap m) (N : News h₀ L s.heap news) (hm : (a, o) ∈ news) (hc : o.cls = .type T₀)
    (e : kitOne K (.type T₀) (.type T) = some b) (h : ∀ tk, Q (.bool b) { s with toks := tk }) : wpAny (model prog w) A (call (.builtin "isinstance") [.ref a, .type T]) Q E s :=
  kia_one Z (X.keeps F.keep) (kitAt_N N hm hc) e (by intro q; cases q) h
theorem contT {g : Heap} {m : Str → Option Value} {a L' : Addr} {b : Bool} (X : K.In g) (F : Fr g L' s.heap m) (p : KitAt a "dict" s.heap)
    (e : kitOne K (.type "dict") (.type T) = some b) (h : ∀ tk, Q (.bool b) { s with toks := tk }) : wpAny (model prog w) A (call (.builtin "isinstance") [.ref a, .type T]) Q E s :=
  kia_one kitx_dict (X.keeps F.keep) p e (by intro q; cases q) h
end
end EX
end
set_option maxRecDepth 100000 in
set_option maxHeartbeats 8000000 in
open_top k01_hd for PySem.Challenge.rw_shadowpages_k01_words
namespace K01
inductive Mk : Prop | mk
/-- the def at f, asked with any whole number from the frame at L, tells True and leaves frame and ledger as they are -/
structure Yes (prog : Program) (w : World) (A : Around) (h₀ : Heap) (L : Addr) (news : List (Addr × Obj)) (f : Addr) : Prop where
  all : ∀ (m : Str → Option Value) (s : Shared) (Q E : Value → Shared → Prop) (x : Int) (u : Tok), Fr h₀ L s.heap m → News h₀ L s.heap news →
    (∀ (t : Tok) (h' : Heap) (tk' : Nat), Fr h₀ L h' m → News h₀ L h' news → Q (.bool true) { s with heap := h', toks := tk' }) → wpAny (model prog w) A (call (.ref f) [.int x u]) Q E s
/-- the same for those numbers alone that leave j by ten -/
structure YesJ (prog : Program) (w : World) (A : Around) (h₀ : Heap) (L : Addr) (news : List (Addr × Obj)) (f : Addr) (j : Int) : Prop where
  all : ∀ (m : Str → Option Value) (s : Shared) (Q E : Value → Shared → Prop) (x : Int) (u : Tok), Int.fmod x 10 = j → Fr h₀ L s.heap m → News h₀ L s.heap news →
    (∀ (t : Tok) (h' : Heap) (tk' : Nat), Fr h₀ L h' m → News h₀ L h' news → Q (.bool true) { s with heap := h', toks := tk' }) → wpAny (model prog w) A (call (.ref f) [.int x u]) Q E s
theorem yes_of {prog : Program} {w : World} {A : Around} {h₀ : Heap} {L f : Addr} {news : List (Addr × Obj)} (c0 : YesJ prog w A h₀ L news f 0) (c1 : YesJ prog w A h₀ L news f 1) (c2 : YesJ prog w A h₀ L news f 2) (c3 : YesJ prog w A h₀ L news f 3) (c4 : YesJ prog w A h₀ L news f 4)
    (c5 : YesJ prog w A h₀ L news f 5) (c6 : YesJ prog w A h₀ L news f 6) (c7 : YesJ prog w A h₀ L news f 7) (c8 : YesJ prog w A h₀ L news f 8) (c9 : YesJ prog w A h₀ L news f 9) : Yes prog w A h₀ L news f := ⟨by
  intro m s Q E x u F N k
  rcases fmod10 x with e | e | e | e | e | e | e | e | e | e
  · exact c0.all m s Q E x u e F N k
  · exact c1.all m s Q E x u e F N k
  · exact c2.all m s Q E x u e F N k
  · exact c3.all m s Q E x u e F N k
  · exact c4.all m s Q E x u e F N k
  · exact c5.all m s Q E x u e F N k
  · exact c6.all m s Q E x u e F N k
  · exact c7.all m s Q E x u e F N k
  · exact c8.all m s Q E x u e F N k
  · exact c9.all m s Q E x u e F N k⟩
section
variable {prog : Program} {w : World} {A : Around} {E : Value → Shared → Prop} {s : Shared} {h₀ : Heap} {L f : Addr} {news : List (Addr × Obj)} {m : Str → Option Value}
theorem itemJ {vx sx : PySem.Expr} {a : Addr} {c j : Int} {u : Tok} {Q : Value → Shared → Prop} (e : Int.fmod c 10 = j) (h : Mk4 → wpAny (model prog w) A (subscriptTail vx sx (.ref a) (.int j u)) Q E s) :
    wpAny (model prog w) A (subscriptTail vx sx (.ref a) (.int (Int.fmod c 10) u)) Q E s := by
  rw [e]
  exact h .mk
theorem hold {V : Int} {t : Tok} {Q : Unit → Shared → Prop} {env : Env} {nm : Str} (f : Addr) (_F : Fr h₀ L s.heap m) (_N : News h₀ L s.heap news) (C : Yes prog w A h₀ L news f)
    (k : Yes prog w A h₀ L news f → ∀ n : Int, Mk → wpAny (model prog w) A (storeName env nm (.int n t)) Q E s) : wpAny (model prog w) A (storeName env nm (.int V t)) Q E s := k C V .mk
theorem ask {x : Int} {u : Tok} {Q : Value → Shared → Prop} (C : Yes prog w A h₀ L news f) (F : Fr h₀ L s.heap m) (N : News h₀ L s.heap news)
    (k : ∀ (t : Tok) (h' : Heap) (tk' : Nat), Fr h₀ L h' m → News h₀ L h' news → Q (.bool true) { s with heap := h', toks := tk' }) : wpAny (model prog w) A (call (.ref f) [.int x u]) Q E s := C.all m s Q E x u F N k
end
end K01
local macro_rules | `(tactic| walk_at "exec For Name BinOp cons nil") => `(tactic| (k_here; (rename Fr _ _ _ _ => lF'); (with_unfolding_all refine' For_invVF lF' ?k1 ?k2 ?_; (case k1 => exact rfl); (case k2 => exact rfl); k_whole)))
local macro_rules | `(tactic| walk_at "binaryOp Mod int int") => `(tactic| (k_here; (with_reducible refine' K01.step_mod48 ?k1 ?_); (case k1 => k_dflt (first | rfl | (simp; done))); intro r' e' hr0 hr1))
local macro_rules | `(tactic| walk_at "binaryOp Mod int int") => `(tactic| (k_here; (with_reducible refine' K01.step_mod0 ?k1 ?k2 ?_); (case k1 => k_dflt assumption); (case k2 => k_dflt (first | rfl | (simp; done)))))
local macro_rules | `(tactic| walk_at "compareOp GtE int int") => `(tactic| (k_here; (with_reducible refine' K01.step_ge ?k0 ?k1 ?_); (case k0 => k_dflt (first | rfl | (simp; done))); (case k1 => k_dflt assumption)))
local macro_rules | `(tactic| walk_at "compareOp Lt int int") => `(tactic| (k_here; (with_reducible refine' K01.step_lt ?k1 ?_); (case k1 => k_dflt assumption)))
local macro_rules | `(tactic| walk_at "eval BinOp") => `(tactic| (k_here; (try dsimp only); k_gentoks))
local macro_rules | `(tactic| walk_at "isTrue Compare") => `(tactic| (k_here; (try dsimp only); k_gentoks))
local macro_rules | `(tactic| walk_at "isTrue BoolOp") => `(tactic| (k_here; (try dsimp only); k_gentoks))
local macro_rules | `(tactic| walk_at "eval Compare") => `(tactic| (k_here; (try dsimp only); k_gentoks))
local macro_rules | `(tactic| walk_at "eval BoolOp") => `(tactic| (k_here; (try dsimp only); k_gentoks))
local macro_rules | `(tactic| walk_at "eval UnaryOp") => `(tactic| (k_here; (try dsimp only); k_gentoks))
local macro_rules | `(tactic| walk_at "isTrue UnaryOp") => `(tactic| (k_here; (try dsimp only); k_gentoks))
local macro_rules | `(tactic| walk_at "eval Call") => `(tactic| (k_here; (try dsimp only); k_gentoks))
local macro_rules | `(tactic| walk_at "subscriptTail Name BinOp ref int") => `(tactic| (k_here; (fail_if_success (have : K01.Mk4 := by assumption)); (with_reducible refine' K01.itemJ ?e ?_); (case e => assumption); (intro mk4')))
local macro_rules | `(tactic| walk_at "subscriptTail Name BinOp ref int") => `(tactic| (k_here; (have : K01.Mk4 := by assumption); (with_unfolding_all refine' item_litK ?k1 ?k2 ?k3 ?k4 ?_ ?k6; (case k1 => is_list); (case k2 => decide); (case k3 => decide); (case k4 => rfl); (case k6 => with_unfolding_all rfl); k_whole)))
local macro_rules | `(tactic| walk_at "call ref") => `(tactic| (k_here; (fail_if_success k_inElt); kts_any; k_dflt ((refine wpAny_call ?_); first
  | (refine' code_defS0 ?k1 ?k2 ?k3 ?k4 ?k5 ?kA ?k6 ?k7 ?k8 ?k9 ?kB ?_ ?cK ?c2 ?c3 ?c4 ?c5; (case kA => exact rfl); (case k2 => k_asm); (case k1 => k_asm); (case k3 => k_asm); (case k4 => k_asm); (case k5 => k_asm); (case k6 => k_is); (case k7 => k_is); (case k8 => k_room); (case k9 => exact BindsTo.of_eq rfl); (case kB => exact locs rfl); (case cK => first | exact rfl | assumption); (case c2 => exact rfl); (case c3 => exact rfl); (case c4 => exact rfl); (case c5 => decide); k_whole; intro g' L' h' FG' F' N' B' X' T' D'; (try dsimp only); (try k_lift B'); (try k_fold))
  | (refine' code_defS ?k1 ?k2 ?k3 ?k4 ?k5 ?XB ?TB ?D ?T0 ?kA ?k6 ?k7 ?k8 ?k9 ?kB ?_ ?cK ?c2 ?c3 ?c4 ?c5; (case kA => exact rfl); (case k2 => k_asm); (case k1 => k_asm); (case XB => assumption); (case TB => assumption); (case D => assumption); (case T0 => first | assumption | exact KtsTurn.refl); (case k3 => k_asm); (case k4 => k_asm); (case k5 => k_asm); (case k6 => k_is); (case k7 => k_is); (case k8 => k_room); (case k9 => exact BindsTo.of_eq rfl); (case kB => exact locs rfl); (case cK => first | exact rfl | assumption); (case c2 => exact rfl); (case c3 => exact rfl); (case c4 => exact rfl); (case c5 => decide); k_whole; intro g' L' h' FG' F' N' B' X' T' D'; (try dsimp only); (try k_lift B'); (try k_fold)))))
local macro_rules | `(tactic| walk_at "call builtin:isinstance") => `(tactic| (k_here; (with_reducible show wpAny _ _ (call _ [Value.ref _, Value.type _]) _ _ _); (rename Frag.In _ _ => xK9); (k_dflt ((refine' EX.contT xK9 ?F ?p ?e ?_); (case F => k_asm); (case p => first | exact kitAt_tab (knd := strKind _ _) (enc := PyData.str) (by k_tabat) | exact kitAt_tab (knd := intKind _ _) (enc := PyData.int) (by k_tabat)); (case e => kit_is); k_whole)); (intro _)))
local macro_rules | `(tactic| walk_at "call builtin:isinstance") => `(tactic| (k_here; (with_reducible show wpAny _ _ (call _ [Value.ref _, Value.type _]) _ _ _); (rename Frag.In _ _ => xK9); (k_dflt (first | ((refine' EX.cont kitx_list xK9 ?F ?N ?m ?c ?e ?_); (case F => k_asm); (case N => k_asm); (case m => k_mem); (case c => rfl); (case e => kit_is); k_whole) | ((refine' EX.cont kitx_tuple xK9 ?F ?N ?m ?c ?e ?_); (case F => k_asm); (case N => k_asm); (case m => k_mem); (case c => rfl); (case e => kit_is); k_whole) | ((refine' EX.cont kitx_dict xK9 ?F ?N ?m ?c ?e ?_); (case F => k_asm); (case N => k_asm); (case m => k_mem); (case c => rfl); (case e => kit_is); k_whole))); (intro _)))
local macro_rules | `(tactic| walk_at "handleBy ref") => `(tactic| (k_here; (with_reducible rename KtsDicts _ _ => kdX); (k_dflt (refine' hit_SB ?R ?F ?K ?U ?XB ?TB ?D ?T0 ?T ?_; (case R => assumption); (case F => assumption); (case K => assumption); (case U => assumption); (case XB => assumption); (case TB => assumption); (case D => assumption); (case T0 => first | assumption | exact KtsTurn.refl); (case T => kts_test); k_whole)); intro h' g' n₂ tk' T' F' N₂ G' N' K' X' P' D'; (obtain ⟨oe', Ne', hoe'⟩ := EX.got N₂ G' N'); (clear N₂ G' N'); (have ek' := EX.Cls.of X' hoe' (by k_is) (by k_is) (by k_is) (by k_is) (by k_is) (by k_is) (by k_is)); (try k_lift K'); (try k_sweep)))
local macro_rules | `(tactic| walk_at "call builtin:isinstance") => `(tactic| (k_here; (with_reducible rename EX.Cls _ _ => ek9); (with_reducible show wpAny _ _ (call _ [Value.ref _, Value.ref _]) _ _ _); k_dflt (refine' EX.call_yes ?X ?N ?m ?c ?k ?e1 ?e2 ?e3 ?_; (case N => k_asm); (case m => k_mem); (case c => assumption); (case k => assumption); (case X => k_in); (case e1 => k_is); (case e2 => k_is); (case e3 => k_is); k_whole)))
local macro_rules | `(tactic| walk_at "call builtin:isinstance") => `(tactic| (k_here; (with_reducible rename EX.Cls _ _ => ek9); (with_reducible show wpAny _ _ (call _ [Value.ref _, Value.type _]) _ _ _); k_dflt (refine' EX.call_yesT ?X ?N ?m ?c ?k ?e1 ?e3 ?_; (case N => k_asm); (case m => k_mem); (case c => assumption); (case k => assumption); (case X => k_in); (case e1 => kernel_rfl); (case e3 => k_is); k_whole)))
local macro_rules | `(tactic| walk_at "call builtin:isinstance") => `(tactic| (k_here; (with_reducible rename EX.Cls _ _ => ek9); (with_reducible show wpAny _ _ (call _ [Value.ref _, Value.ref _]) _ _ _); k_dflt (refine' EX.call_not ?X ?N ?m ?c ?k ?e ?_; (case N => k_asm); (case m => k_mem); (case c => assumption); (case k => assumption); (case X => k_in); (case e => kin_no); k_whole)))
local macro_rules | `(tactic| walk_at "binaryOp Mult ref int") => `(tactic| (k_here; (with_reducible show wpAny _ _ (binaryOp Operator.Mult (Value.ref _) (Value.int 16 _)) _ _ _); (k_dflt ((refine' KMa.mul ?F ?N ?l ?lo ?hi ?z ?e ?_); (case F => k_asm); (case N => k_asm); (case l => is_list); (case lo => decide); (case hi => decide); (case z => (simp only [List.length_cons, List.length_nil]; decide)); (case e => (simp only [Int.reduceToNat, List.replicate_succ, List.replicate_zero, List.flatten_cons, List.flatten_nil, List.cons_append, List.nil_append, List.append_nil]; first | done | exact rfl)); k_whole)); (intro D' h' F' N' l1); (try k_lt l1); (try k_sweep)))
local macro_rules | `(tactic| walk_at "compareOp Eq ref ref") => `(tactic| (k_here; (with_reducible show wpAny _ _ (compareOp CmpOp.Eq (Value.ref _) (Value.ref _)) _ _ _); (k_dflt (refine' eq_dataH ?r1 ?r2 ?s1 ?s2 ?ro ?_; (case r1 => ke_read); (case r2 => ke_read); (case s1 => ke_shaped); (case s2 => ke_shaped); (case ro => ke_room); k_whole)); ke_norm))
set_option maxRecDepth 100000 in
set_option maxHeartbeats 8000000 in
theorem K01.none_0 {w : World} {mean : ExcName → Option Value} {mg mb : Str → Option Value} {h₀ : Heap} {L a : Addr} {cn : Str} {cs : Scope} {ccd : Value} {news : List (Addr × Obj)} :
    (k01_hd.heap_39 w.params).In h₀ → Top k01_hd.view_39 (looseW k01_hd.view_39 []) mean mg mb h₀ → Below callerA h₀ [] h₀ → cs.kind = .function → K01.YesJ PySem.Challenge.rw_shadowpages_k01_words.row.prog w (callerA.deeper (envOf cn cs L a ccd)) h₀ L news 322 0 := by
  k_fill
  intro KX T K0 hcs
  refine ⟨?_⟩
  intro mm ss QQ EE xx tt hx FF NN hret
  obtain ⟨h2, g2, d2, t2, o2⟩ := ss
  dsimp only at FF NN hret ⊢
  w_strict (k_steps; all_goals ((refine hret 0 _ _ ?a1 ?a2); (case a1 => ((rename Fr _ _ _ _ => fE'); exact fE')); (case a2 => ((rename News _ _ _ _ => nE'); (refine cb_drop nE' ?cbS); (intro p9 hp9); (repeat (first | (with_reducible exact hp9) | (with_reducible refine List.mem_cons_of_mem _ ?_) | (with_reducible refine List.mem_append_right _ ?_)))))))
set_option maxRecDepth 100000 in
set_option maxHeartbeats 8000000 in
theorem K01.none_1 {w : World} {mean : ExcName → Option Value} {mg mb : Str → Option Value} {h₀ : Heap} {L a : Addr} {cn : Str} {cs : Scope} {ccd : Value} {news : List (Addr × Obj)} :
    (k01_hd.heap_39 w.params).In h₀ → Top k01_hd.view_39 (looseW k01_hd.view_39 []) mean mg mb h₀ → Below callerA h₀ [] h₀ → cs.kind = .function → K01.YesJ PySem.Challenge.rw_shadowpages_k01_words.row.prog w (callerA.deeper (envOf cn cs L a ccd)) h₀ L news 322 1 := by
  k_fill
  intro KX T K0 hcs
  refine ⟨?_⟩
  intro mm ss QQ EE xx tt hx FF NN hret
  obtain ⟨h2, g2, d2, t2, o2⟩ := ss
  dsimp only at FF NN hret ⊢
  w_strict (k_steps; all_goals ((refine hret 0 _ _ ?a1 ?a2); (case a1 => ((rename Fr _ _ _ _ => fE'); exact fE')); (case a2 => ((rename News _ _ _ _ => nE'); (refine cb_drop nE' ?cbS); (intro p9 hp9); (repeat (first | (with_reducible exact hp9) | (with_reducible refine List.mem_cons_of_mem _ ?_) | (with_reducible refine List.mem_append_right _ ?_)))))))
set_option maxRecDepth 100000 in
set_option maxHeartbeats 8000000 in
theorem K01.none_2 {w : World} {mean : ExcName → Option Value} {mg mb : Str → Option Value} {h₀ : Heap} {L a : Addr} {cn : Str} {cs : Scope} {ccd : Value} {news : List (Addr × Obj)} :
    (k01_hd.heap_39 w.params).In h₀ → Top k01_hd.view_39 (looseW k01_hd.view_39 []) mean mg mb h₀ → Below callerA h₀ [] h₀ → cs.kind = .function → K01.YesJ PySem.Challenge.rw_shadowpages_k01_words.row.prog w (callerA.deeper (envOf cn cs L a ccd)) h₀ L news 322 2 := by
  k_fill
  intro KX T K0 hcs
  refine ⟨?_⟩
  intro mm ss QQ EE xx tt hx FF NN hret
  obtain ⟨h2, g2, d2, t2, o2⟩ := ss
  dsimp only at FF NN hret ⊢
  w_strict (k_steps; all_goals ((refine hret 0 _ _ ?a1 ?a2); (case a1 => ((rename Fr _ _ _ _ => fE'); exact fE')); (case a2 => ((rename News _ _ _ _ => nE'); (refine cb_drop nE' ?cbS); (intro p9 hp9); (repeat (first | (with_reducible exact hp9) | (with_reducible refine List.mem_cons_of_mem _ ?_) | (with_reducible refine List.mem_append_right _ ?_)))))))
set_option maxRecDepth 100000 in
set_option maxHeartbeats 8000000 in
theorem K01.none_3 {w : World} {mean : ExcName → Option Value} {mg mb : Str → Option Value} {h₀ : Heap} {L a : Addr} {cn : Str} {cs : Scope} {ccd : Value} {news : List (Addr × Obj)} :
    (k01_hd.heap_39 w.params).In h₀ → Top k01_hd.view_39 (looseW k01_hd.view_39 []) mean mg mb h₀ → Below callerA h₀ [] h₀ → cs.kind = .function → K01.YesJ PySem.Challenge.rw_shadowpages_k01_words.row.prog w (callerA.deeper (envOf cn cs L a ccd)) h₀ L news 322 3 := by
  k_fill
  intro KX T K0 hcs
  refine ⟨?_⟩
  intro mm ss QQ EE xx tt hx FF NN hret
  obtain ⟨h2, g2, d2, t2, o2⟩ := ss
  dsimp only at FF NN hret ⊢
  w_strict (k_steps; all_goals ((refine hret 0 _ _ ?a1 ?a2); (case a1 => ((rename Fr _ _ _ _ => fE'); exact fE')); (case a2 => ((rename News _ _ _ _ => nE'); (refine cb_drop nE' ?cbS); (intro p9 hp9); (repeat (first | (with_reducible exact hp9) | (with_reducible refine List.mem_cons_of_mem _ ?_) | (with_reducible refine List.mem_append_right _ ?_)))))))
set_option maxRecDepth 100000 in
set_option maxHeartbeats 8000000 in
theorem K01.none_4 {w : World} {mean : ExcName → Option Value} {mg mb : Str → Option Value} {h₀ : Heap} {L a : Addr} {cn : Str} {cs : Scope} {ccd : Value} {news : List (Addr × Obj)} :
    (k01_hd.heap_39 w.params).In h₀ → Top k01_hd.view_39 (looseW k01_hd.view_39 []) mean mg mb h₀ → Below callerA h₀ [] h₀ → cs.kind = .function → K01.YesJ PySem.Challenge.rw_shadowpages_k01_words.row.prog w (callerA.deeper (envOf cn cs L a ccd)) h₀ L news 322 4 := by
  k_fill
  intro KX T K0 hcs
  refine ⟨?_⟩
  intro mm ss QQ EE xx tt hx FF NN hret
  obtain ⟨h2, g2, d2, t2, o2⟩ := ss
  dsimp only at FF NN hret ⊢
  w_strict (k_steps; all_goals ((refine hret 0 _ _ ?a1 ?a2); (case a1 => ((rename Fr _ _ _ _ => fE'); exact fE')); (case a2 => ((rename News _ _ _ _ => nE'); (refine cb_drop nE' ?cbS); (intro p9 hp9); (repeat (first | (with_reducible exact hp9) | (with_reducible refine List.mem_cons_of_mem _ ?_) | (with_reducible refine List.mem_append_right _ ?_)))))))
set_option maxRecDepth 100000 in
set_option maxHeartbeats 8000000 in
theorem K01.none_5 {w : World} {mean : ExcName → Option Value} {mg mb : Str → Option Value} {h₀ : Heap} {L a : Addr} {cn : Str} {cs : Scope} {ccd : Value} {news : List (Addr × Obj)} :
    (k01_hd.heap_39 w.params).In h₀ → Top k01_hd.view_39 (looseW k01_hd.view_39 []) mean mg mb h₀ → Below callerA h₀ [] h₀ → cs.kind = .function → K01.YesJ PySem.Challenge.rw_shadowpages_k01_words.row.prog w (callerA.deeper (envOf cn cs L a ccd)) h₀ L news 322 5 := by
  k_fill
  intro KX T K0 hcs
  refine ⟨?_⟩
  intro mm ss QQ EE xx tt hx FF NN hret
  obtain ⟨h2, g2, d2, t2, o2⟩ := ss
  dsimp only at FF NN hret ⊢
  w_strict (k_steps; all_goals ((refine hret 0 _ _ ?a1 ?a2); (case a1 => ((rename Fr _ _ _ _ => fE'); exact fE')); (case a2 => ((rename News _ _ _ _ => nE'); (refine cb_drop nE' ?cbS); (intro p9 hp9); (repeat (first | (with_reducible exact hp9) | (with_reducible refine List.mem_cons_of_mem _ ?_) | (with_reducible refine List.mem_append_right _ ?_)))))))
set_option maxRecDepth 100000 in
set_option maxHeartbeats 8000000 in
theorem K01.none_6 {w : World} {mean : ExcName → Option Value} {mg mb : Str → Option Value} {h₀ : Heap} {L a : Addr} {cn : Str} {cs : Scope} {ccd : Value} {news : List (Addr × Obj)} :
    (k01_hd.heap_39 w.params).In h₀ → Top k01_hd.view_39 (looseW k01_hd.view_39 []) mean mg mb h₀ → Below callerA h₀ [] h₀ → cs.kind = .function → K01.YesJ PySem.Challenge.rw_shadowpages_k01_words.row.prog w (callerA.deeper (envOf cn cs L a ccd)) h₀ L news 322 6 := by
  k_fill
  intro KX T K0 hcs
  refine ⟨?_⟩
  intro mm ss QQ EE xx tt hx FF NN hret
  obtain ⟨h2, g2, d2, t2, o2⟩ := ss
  dsimp only at FF NN hret ⊢
  w_strict (k_steps; all_goals ((refine hret 0 _ _ ?a1 ?a2); (case a1 => ((rename Fr _ _ _ _ => fE'); exact fE')); (case a2 => ((rename News _ _ _ _ => nE'); (refine cb_drop nE' ?cbS); (intro p9 hp9); (repeat (first | (with_reducible exact hp9) | (with_reducible refine List.mem_cons_of_mem _ ?_) | (with_reducible refine List.mem_append_right _ ?_)))))))
set_option maxRecDepth 100000 in
set_option maxHeartbeats 8000000 in
theorem K01.none_7 {w : World} {mean : ExcName → Option Value} {mg mb : Str → Option Value} {h₀ : Heap} {L a : Addr} {cn : Str} {cs : Scope} {ccd : Value} {news : List (Addr × Obj)} :
    (k01_hd.heap_39 w.params).In h₀ → Top k01_hd.view_39 (looseW k01_hd.view_39 []) mean mg mb h₀ → Below callerA h₀ [] h₀ → cs.kind = .function → K01.YesJ PySem.Challenge.rw_shadowpages_k01_words.row.prog w (callerA.deeper (envOf cn cs L a ccd)) h₀ L news 322 7 := by
  k_fill
  intro KX T K0 hcs
  refine ⟨?_⟩
  intro mm ss QQ EE xx tt hx FF NN hret
  obtain ⟨h2, g2, d2, t2, o2⟩ := ss
  dsimp only at FF NN hret ⊢
  w_strict (k_steps; all_goals ((refine hret 0 _ _ ?a1 ?a2); (case a1 => ((rename Fr _ _ _ _ => fE'); exact fE')); (case a2 => ((rename News _ _ _ _ => nE'); (refine cb_drop nE' ?cbS); (intro p9 hp9); (repeat (first | (with_reducible exact hp9) | (with_reducible refine List.mem_cons_of_mem _ ?_) | (with_reducible refine List.mem_append_right _ ?_)))))))
set_option maxRecDepth 100000 in
set_option maxHeartbeats 8000000 in
theorem K01.none_8 {w : World} {mean : ExcName → Option Value} {mg mb : Str → Option Value} {h₀ : Heap} {L a : Addr} {cn : Str} {cs : Scope} {ccd : Value} {news : List (Addr × Obj)} :
    (k01_hd.heap_39 w.params).In h₀ → Top k01_hd.view_39 (looseW k01_hd.view_39 []) mean mg mb h₀ → Below callerA h₀ [] h₀ → cs.kind = .function → K01.YesJ PySem.Challenge.rw_shadowpages_k01_words.row.prog w (callerA.deeper (envOf cn cs L a ccd)) h₀ L news 322 8 := by
  k_fill
  intro KX T K0 hcs
  refine ⟨?_⟩
  intro mm ss QQ EE xx tt hx FF NN hret
  obtain ⟨h2, g2, d2, t2, o2⟩ := ss
  dsimp only at FF NN hret ⊢
  w_strict (k_steps; all_goals ((refine hret 0 _ _ ?a1 ?a2); (case a1 => ((rename Fr _ _ _ _ => fE'); exact fE')); (case a2 => ((rename News _ _ _ _ => nE'); (refine cb_drop nE' ?cbS); (intro p9 hp9); (repeat (first | (with_reducible exact hp9) | (with_reducible refine List.mem_cons_of_mem _ ?_) | (with_reducible refine List.mem_append_right _ ?_)))))))
set_option maxRecDepth 100000 in
set_option maxHeartbeats 8000000 in
theorem K01.none_9 {w : World} {mean : ExcName → Option Value} {mg mb : Str → Option Value} {h₀ : Heap} {L a : Addr} {cn : Str} {cs : Scope} {ccd : Value} {news : List (Addr × Obj)} :
    (k01_hd.heap_39 w.params).In h₀ → Top k01_hd.view_39 (looseW k01_hd.view_39 []) mean mg mb h₀ → Below callerA h₀ [] h₀ → cs.kind = .function → K01.YesJ PySem.Challenge.rw_shadowpages_k01_words.row.prog w (callerA.deeper (envOf cn cs L a ccd)) h₀ L news 322 9 := by
  k_fill
  intro KX T K0 hcs
  refine ⟨?_⟩
  intro mm ss QQ EE xx tt hx FF NN hret
  obtain ⟨h2, g2, d2, t2, o2⟩ := ss
  dsimp only at FF NN hret ⊢
  w_strict (k_steps; all_goals ((refine hret 0 _ _ ?a1 ?a2); (case a1 => ((rename Fr _ _ _ _ => fE'); exact fE')); (case a2 => ((rename News _ _ _ _ => nE'); (refine cb_drop nE' ?cbS); (intro p9 hp9); (repeat (first | (with_reducible exact hp9) | (with_reducible refine List.mem_cons_of_mem _ ?_) | (with_reducible refine List.mem_append_right _ ?_)))))))
theorem K01.none_yes {w : World} {mean : ExcName → Option Value} {mg mb : Str → Option Value} {h₀ : Heap} {L a : Addr} {cn : Str} {cs : Scope} {ccd : Value} {news : List (Addr × Obj)} (KX : (k01_hd.heap_39 w.params).In h₀) (T : Top k01_hd.view_39 (looseW k01_hd.view_39 []) mean mg mb h₀) (K0 : Below callerA h₀ [] h₀) (hcs : cs.kind = .function) :
    K01.Yes PySem.Challenge.rw_shadowpages_k01_words.row.prog w (callerA.deeper (envOf cn cs L a ccd)) h₀ L news 322 :=
  K01.yes_of (K01.none_0 KX T K0 hcs) (K01.none_1 KX T K0 hcs) (K01.none_2 KX T K0 hcs) (K01.none_3 KX T K0 hcs) (K01.none_4 KX T K0 hcs) (K01.none_5 KX T K0 hcs) (K01.none_6 KX T K0 hcs) (K01.none_7 KX T K0 hcs) (K01.none_8 KX T K0 hcs) (K01.none_9 KX T K0 hcs)
local macro_rules | `(tactic| walk_at "storeName") => `(tactic| (k_here; (fail_if_success (have : K01.Mk := by assumption)); (with_reducible show wpAny _ _ (storeName _ (Str.ofString "_law_number_here") (Value.int _ _)) _ _ _); (rename Fr _ _ _ _ => lF'); (rename News _ _ _ _ => lN'); (refine' K01.hold 322 lF' lN' ?C ?_); (case C => exact K01.none_yes (by assumption) (by assumption) (by assumption) rfl); (intro yes' n' mk')))
local macro_rules | `(tactic| walk_at "call ref") => `(tactic| (k_here; (have mk' : K01.Mk := by assumption); (with_reducible refine' K01.ask ?C ?F ?N ?_); (case C => assumption); (case F => k_asm); (case N => k_asm); (intro t9 h9 tk9 F9 N9); (try dsimp only); (try k_fold)))
set_option maxRecDepth 100000 in
set_option maxHeartbeats 8000000 in
theorem PySem.Challenge.cw_shadowpages_k01_words_holds : PySem.Challenge.rw_shadowpages_k01_words.Holds :=
  k01_hd (by
    k_with "pyIter ref" => k_search (fun _ => True)
    k_with "tree" => first | exact K01.num_0 (by assumption) | exact K01.num_1 (by assumption) (by assumption) | exact K01.num_2 (by assumption) (by assumption) (by assumption) (by assumption) (by assumption) (by assumption) | exact K01.num_3 (by assumption) (by assumption) (by assumption)
    k_with "call ref" => k_call_by "_law_number" K01.num
    w_strict k_go)
