import PyProof.Rows.All
import Wide.All
import OpenK.AllK
import Wide.FinOn
import HandS.ForMost
import HandS.IsInst
import HandS.Property
import HandS.Star
import HandS.Rev
import HandS.TupMul
import HandS.Wide
import HandS.Style
import HandS.Walk
import HandS.Defaults
import HandS.ForExc
import HandS.ExcInit
import HandS.ExcIs
import HandS.ExcField
import HandS.RaiseMore
import HandS.ExcValue
import KE.GoesEnum
import KE.GoesMore
import HandS.TupAny
import KE.KRevSl
import KE.KExcIs
import PyProof.ReprRoads
import HandS.TryMany
import HandS.Gcd
import KE.KMathGC
import HandS.ClsMeth
import HandS.Steps
import HandS.Text
import PySem.Challenge.RW_farmisses_k14_texts_of_caches
import HandS.WordsExc
import HandS.ExcOwn
import HandS.Codes
import HandS.Conv
import PyProof.P3Eq
import PyProof.Rows.StrJoinRep
import KE.KExcInit
set_option Elab.async false
set_option linter.all false
set_option maxRecDepth 100000
set_option maxHeartbeats 4000000
/-! Rules of my own over the hand layer. -/
namespace VR
open PySem PySem.Spec PyProof.Rows L2

/-! ### an own binary operator whose right side is of the same class, or of a built-in type -/
section
open PySem.W
variable {prog : Program} {w : World} {A : Around} {E : Value → Shared → Prop} {s : Shared} {K : Frag} {x C L f y : Addr} {h₀ : Heap} {m : Str → Option Value} {ox : Obj} {od : Option Obj} {nm : String}
theorem binSame {op : Operator} {Q : Value → Shared → Prop} (X : K.In s.heap) (I : InstAt s.heap x ox C od) (hb : Looks (model prog w) s.heap (typeOf (.ref y)) (.ref C)) (hc : selfFirst K C = true)
    (hs : findIn K (.ref C) (PySem.dunder op.info.2) = some (some (.ref f))) (hf : isFn K (.ref f) = true)
    (h : wpAny (model prog w) A (call (.ref f) [.ref x, .ref y]) (PySem.W.CmpBack Q) E s) : wpAny (model prog w) A (binaryOp op (.ref x) (.ref y)) Q E s := by
  obtain ⟨cd, rest, hcd, hm⟩ := ksp_first hc
  rcases hi : op.info with ⟨sym, nm'⟩
  rw [hi] at hs
  dsimp only at hs
  have one := ksp_try X I hs hf h
  obtain ⟨hh, g, d, tt, os⟩ := s
  have L1 : Looks (model prog w) hh (typeOf (.ref x)) (.ref C) := I.type
  have L2 : Looks (model prog w) hh (typeOf (.ref y)) (.ref C) := hb
  have L3 : Looks (model prog w) hh (fillsNumberSlot (.ref C) nm') true := fills_K X hcd hm hs
  have he : (Value.ref C == Value.ref C) = true := by simp
  simp only [binaryOp, hi]
  refine wpAny_holding (wpAny_bind ?_)
  unfold binaryOp1
  refine wpAny_bind (L1.at (wpAny_bind (L2.at (wpAny_bind (L3.at ?_)))))
  simp only [he, if_true]
  ksp_lk
  refine wpAny_mono one (fun r s' hr' => ?_) fun _ _ e => e
  obtain ⟨v, rfl, hq⟩ := hr'
  ksp_lk
  exact hq
end

/-- what the class at C must say that its own operator f is asked -/
structure BinOwn (K : PySem.W.Frag) (C : Addr) (nm : String) (f : Addr) : Prop where
  sf : PySem.W.selfFirst K C = true
  hs : PySem.W.findIn K (.ref C) (PySem.dunder nm) = some (some (.ref f))
  hf : PySem.W.isFn K (.ref f) = true
  hr : PySem.W.findIn K (.ref C) (dunderR nm) = some none
  ti : ∃ fo ro, PySem.W.findIn K (.type "int") (PySem.dunder nm) = some fo ∧ PySem.W.findIn K (.type "int") (dunderR nm) = some ro
  su : PySem.W.subIn K (.type "int") (.ref C) = some false

theorem relV_back {v : V} {u : Value} (r : RelV v u) {Q : Value → Shared → Prop} {s : Shared} (q : Q u s) : PySem.W.CmpBack Q u s := by
  cases v with
  | non => cases (show u = Value.none from r); exact q
  | bl b => cases (show u = Value.bool b from r); exact q
  | int i => obtain ⟨t, e⟩ := (show ∃ t, u = Value.int i t from r); cases e; exact q
  | str i => obtain ⟨t, e⟩ := (show ∃ t, u = Value.str i t from r); cases e; exact q
  | byt i => obtain ⟨t, e⟩ := (show ∃ t, u = Value.bytes i t from r); cases e; exact q
  | flt i => obtain ⟨t, e⟩ := (show ∃ t, u = Value.float i t from r); cases e; exact q
  | ref a => cases (show u = Value.ref a from r); exact q
  | ty n => cases (show u = Value.type n from r); exact q

/-- one + other -/
def rOwn (C : Addr) (sp : Sp) (E : XK) : R2 := fun x y H Q => ∃ a dx fs, x = .ref a ∧ H a = some (.ins C dx fs) ∧ ((∃ b dy gs, y = .ref b ∧ H b = some (.ins C dy gs)) ∨ ∃ i, y = .int i) ∧ sp [x, y] H Q E
section
variable {X : Cx} {CX : CXT} {k : Nat} {C f : Addr} {fd : FuncData} {ps : List Str} {sp : Sp} {E : XK} {op : Operator}
theorem op_own (B : BinOwn X.K C op.info.2 f) (F : FnOk X.prog X.w X.K X.mg X.base CX k f fd ps sp) (hr : Room k X.A) (hb : Binds X.K fd ps []) (hx : Passes CX X E) : OpR X (binaryOp op) (rOwn C sp E) := by
  intro pins s σ H x y v u Q I rx ry h
  obtain ⟨a, dx, fs, rfl, ha, hy, q⟩ := h
  cases rx
  obtain ⟨mA, O, _⟩ := ins_get I.hok ha
  obtain ⟨od, J, _⟩ := O.look
  have call : ∀ {u : Value}, RelV y u → wpAny (model X.prog X.w) X.A (call (.ref f) [.ref a, u]) (PySem.W.CmpBack (EP X pins σ Q)) X.xe s := fun {u} ry =>
    wpAny_mono (run_fn (us := [.ref a, u]) (vs := [.ref a, y]) (dvs := []) F hr hb .nil hx I (.cons rfl (.cons ry .nil)) q) (fun r s' hq => by
      obtain ⟨z, H', I', rz, hz⟩ := hq
      exact relV_back rz ⟨z, H', I', rz, hz⟩) fun _ _ z => z
  rcases hy with ⟨b, dy, gs, rfl, hb'⟩ | ⟨i, rfl⟩
  · cases ry
    obtain ⟨mB, O', _⟩ := ins_get I.hok hb'
    obtain ⟨od', J', _⟩ := O'.look
    exact binSame I.kIn J J'.type B.sf B.hs B.hf (call rfl)
  · obtain ⟨t, rfl⟩ := (show ∃ t, u = Value.int i t from ry)
    obtain ⟨m, hF⟩ := I.fr
    obtain ⟨fo, ro, h1, h2⟩ := B.ti
    exact PySem.W.ksp_binT hF I.ok.mod.kin J rfl B.sf B.hs B.hf B.hr (.inl rfl) h1 h2 B.su (call ⟨t, rfl⟩)
/-- -one -/
def rOwnU (C : Addr) (sp : Sp) (E : XK) : V → Hp → VK → Prop := fun x H Q => ∃ a dx fs, x = .ref a ∧ H a = some (.ins C dx fs) ∧ sp [x] H Q E
theorem un_own (hs : PySem.W.findIn X.K (.ref C) "__neg__" = some (some (.ref f))) (hf : PySem.W.isFn X.K (.ref f) = true) (F : FnOk X.prog X.w X.K X.mg X.base CX k f fd ps sp) (hr : Room k X.A) (hb : Binds X.K fd ps []) (hx : Passes CX X E) :
    UnR X (unaryOp .USub) (rOwnU C sp E) := by
  intro pins s σ H x v Q I rx h
  obtain ⟨a, dx, fs, rfl, ha, q⟩ := h
  cases rx
  obtain ⟨mA, O, _⟩ := ins_get I.hok ha
  obtain ⟨od, J, _⟩ := O.look
  obtain ⟨m, hF⟩ := I.fr
  exact PySem.W.ksp_neg hF I.ok.mod.kin J hs hf (run_fn (us := [.ref a]) (vs := [.ref a]) (dvs := []) F hr hb .nil hx I (.cons rfl .nil) q)
end

/-! ### enumerate(tuple) -/
def IteT (K : PySem.W.Frag) (a : Addr) : It :=
  ⟨fun i H => ∃ (xs : List V) (x : V), SqT K H a xs ∧ xs[i]? = some x, fun i H v H' => ∃ T x, v = .ref T ∧ H T = none ∧ H' = upd H T (.tup [.int (i : Nat), x]) ∧ ∀ xs, SqT K H a xs → xs[i]? = some x, fun i H => ∃ xs : List V, SqT K H a xs ∧ xs.length = i⟩
theorem isTup_isTuple {h : Heap} {a : Addr} {its : Array Value} (x : IsTup h a its) : h.IsTuple a its := x
theorem turn_enumT {P : Program} {w : World} {K : PySem.W.Frag} {elts : List Expr} {kk : Nat} {tpos : Pos} (a e it : Addr) (hai : a ≠ it) (hae : a ≠ e) :
    Turn P w K (.Tuple elts kk tpos) (IteT K a) [e, it] e (fun i h => (∃ old, IsEnum h e it ((i : Nat) : Int) old) ∧ h.IsTupleIter it a i ∧ e ≠ it) where
  mem := by simp
  obj := fun i h st b hb => by
    obtain ⟨⟨old, he⟩, ⟨o, ho, hc, hd⟩, _⟩ := st
    have e' : b = e ∨ b = it := by simpa using hb
    rcases e' with z | z
    · rw [z]; exact ⟨_, he, fun v q => nomatch q⟩
    · rw [z]; exact ⟨o, ho, fun v q => by rw [hd] at q; cases q⟩
  keep := fun i h h' st k => let ⟨⟨old, he⟩, hi, hne⟩ := st; ⟨⟨old, k e (by simp) _ he⟩, hi.at fun o q => k it (by simp) o q, hne⟩
  item := by
    intro X hP hw hK hc i pins s σ H E I hf st hg
    subst hP hw hK
    obtain ⟨⟨old, he⟩, hit, hne⟩ := st
    obtain ⟨xs, x, hq, hx⟩ := hg
    obtain ⟨its, rv, p, hz⟩ := I.tuple hq
    obtain ⟨u, hu, ru⟩ := rv.get hx
    have hel : e < s.heap.objs.size := Heap.lt_size he
    have hil : it < s.heap.objs.size := by obtain ⟨_, q, _⟩ := hit; exact Heap.lt_size q
    have hlt : i < its.toArray.size := by
      have := (List.getElem?_eq_some_iff.mp hu).1
      simpa using this
    have D := Draws.tuple (prog := X.prog) (w := X.w) (A := X.A.in1) (show X.A.in1.handled = none from I.ok.hd hc) it a hai its.toArray
    refine wpAny_pyNext_enum_itemC (i := i) D he ⟨hit, isTup_isTuple p⟩ hlt hne (by simp [hne, Ne.symm hae]) fun y h' tk hy ho hst' hT hsz hk => ?_
    obtain ⟨hit', hit2⟩ := hst'
    have ey : y = u := by
      have q : its.toArray[i]? = some u := by simpa using hu
      have q2 : its.toArray[i]? = some y := hy
      rw [q] at q2
      exact (Option.some.inj q2).symm
    subst ey
    refine ⟨_, rfl, wpAny_letOwnedTupleGo_enum (s := { s with heap := h', toks := tk + 1 }) ho fun h'' he' sb => ?_⟩
    have hT2 : h''.get? s.heap.objs.size = some { cls := .type "tuple", data := .seq #[.int i tk, y] } := (sb.2 _ (Nat.ne_of_gt hel)).trans hT
    have new : ObjOk X.prog X.w (upd H s.heap.objs.size (.tup [.int (i : Nat), x])) h'' s.heap.objs.size (.tup [.int (i : Nat), x]) :=
      ⟨by show 2 ≤ sizeLine; decide, [.int i tk, y], .cons ⟨_, rfl⟩ (.cons ru .nil), ⟨_, hT2, rfl, _, rfl⟩⟩
    have I1 : Inv X pins σ (upd H s.heap.objs.size (.tup [.int (i : Nat), x])) { s with heap := h'', toks := tk + 1 } :=
      I.turnedNew (ch := [e, it]) (fun b ob hb q => (sb.2 b (fun z => hb (by simp [z]))).trans (hk b ob (fun z => hb (by simp [z])) (fun z => hb (by simp [z])) q)) hf (Nat.le_refl _) new
    refine ⟨.ref s.heap.objs.size, _, I1, rfl, ⟨_, x, rfl, I.hok.fresh (Nat.le_refl _), rfl, fun ys hy => by rw [I.tuple_inj hy hq]; exact hx⟩, ⟨⟨y, ?_⟩, hit'.at fun o q => (sb.2 it (Ne.symm hne)).trans q, hne⟩, fun b hb => ?_⟩
    · have e1 : ((i + 1 : Nat) : Int) = (i : Int) + 1 := by omega
      rw [e1]; exact he'
    · have hb' : b < s.heap.objs.size := by
        have e' : b = e ∨ b = it := by simpa using hb
        rcases e' with z | z
        · rw [z]; exact hel
        · rw [z]; exact hil
      rw [upd_ne (Nat.ne_of_lt hb')]
      exact (hf b hb).1
  done := by
    intro X hP hw hK hc i pins s σ H E I hf st hg
    subst hP hw hK
    obtain ⟨⟨old, he⟩, hit, hne⟩ := st
    obtain ⟨xs, hq, hx⟩ := hg
    obtain ⟨its, rv, p, hz⟩ := I.tuple hq
    obtain ⟨f0, f1, f2, f3, f4, f5⟩ := hf it (by simp)
    have hl := rv.length
    have D := Draws.tuple (prog := X.prog) (w := X.w) (A := X.A.in1) (show X.A.in1.handled = none from I.ok.hd hc) it a hai its.toArray
    have hz : its.toArray.size = i := by rw [List.size_toArray]; omega
    subst hz
    exact wpAny_pyNext_enum_endD D he ⟨hit, isTup_isTuple p⟩ fun h' eb => ⟨rfl, I.turned (t' := s.toks) (fun b o hb q => eb b o hb q) f0 f1 f3 f4 f5⟩
  self := fun A i s Q E st h => let ⟨⟨_, he⟩, _⟩ := st; wpAny_pyIter_enum he h
theorem meets_enumB1 {v : Value} {o : Obj} {H : Heap → Prop} (B : Begins v o H) :
    Meets (Builtin.«enumerate.__new__» ⟨[.type "enumerate", v], []⟩) (fun _ R s => H s.heap ∧
      R (.ok (.ret (.ref (s.heap.push o).objs.size))) { s with heap := (s.heap.push o).push { cls := .type "enumerate", data := .fields #[.none, .bool false, .ref s.heap.objs.size, rawInt 0, .none, .none] } }) :=
  .of_wp fun prog w A R s h => by
    obtain ⟨hp, g, d, tk, os⟩ := s; obtain ⟨h1, h⟩ := h
    have hsub := sub_enumerate
    have q1 : ∀ {A' : Around} {E : Value → Shared → Prop} {Q : Value → Shared → Prop}, Q (.ref hp.objs.size) ⟨hp.push o, g, d, tk, os⟩ → wpAny (model prog w) A' (pyIter v) Q E ⟨hp, g, d, tk, os⟩ :=
      fun q => B.iter prog w _ _ ⟨hp, g, d, tk, os⟩ _ h1 q
    wp_walk using q1
    refine wpAny_stack_any fun st => wpAny_pure ?_
    split
    · rename_i c _ _ _ _ _
      cases (c == Value.type "enumerate")
      · wp_walk using q1
        exact ⟨_, rfl, h⟩
      · wp_walk using q1
        exact ⟨_, rfl, h⟩
    · wp_walk using q1
      exact ⟨_, rfl, h⟩
theorem call_enumT {prog : Program} {w : World} {A : Around} {E : Value → Shared → Prop} {s : Shared} {l : Addr} {items : Array Value} {Q : Value → Shared → Prop} (hL : s.heap.IsTuple l items)
    (h : ∀ h', IsEnum h' (s.heap.objs.size + 1) s.heap.objs.size 0 .none → h'.IsTupleIter s.heap.objs.size l 0 → h'.objs.size = s.heap.objs.size + 2 →
      (∀ b o, s.heap.get? b = some o → h'.get? b = some o) → Q (.ref (s.heap.objs.size + 1)) { s with heap := h' }) :
    wpAny (model prog w) A (call (.type "enumerate") [.ref l]) Q E s := by
  refine callType_new F.called_enumerate (by decide) (F.typeCall_enumerate_1 _) (F.newCall_enumerate_1 _) (fun obj => F.args_object_init_2 obj _) F.entry_enumerate_new
    (meets_enumB1 (begins_tuple l items)) ⟨hL, ?_⟩
  have hz : (s.heap.push { cls := .type "tuple_iterator", data := .fields #[.ref l, .int 0 0] }).objs.size = s.heap.objs.size + 1 := Heap.size_push ..
  show _ ∧ _
  rw [hz]
  have he : IsEnum ((s.heap.push { cls := .type "tuple_iterator", data := .fields #[.ref l, .int 0 0] }).push
      { cls := .type "enumerate", data := .fields #[.none, .bool false, .ref s.heap.objs.size, rawInt 0, .none, .none] }) (s.heap.objs.size + 1) s.heap.objs.size 0 .none := by
    have := Heap.get?_push_size (s.heap.push { cls := .type "tuple_iterator", data := .fields #[.ref l, .int 0 0] })
      (o := { cls := .type "enumerate", data := .fields #[.none, .bool false, .ref s.heap.objs.size, rawInt 0, .none, .none] }) rfl
    rw [hz] at this; exact this
  refine ⟨⟨_, he, rfl⟩, h _ he ⟨_, Heap.get?_push_of_some _ (Heap.get?_push_size _ rfl), rfl, rfl⟩ (by rw [Heap.size_push, hz]) fun b o x => Heap.get?_push_of_some _ (Heap.get?_push_of_some _ x)⟩
def iEnumT (K : PySem.W.Frag) (ta : TA) : TI := fun σ H R => ta σ H fun vs H1 => ∃ a xs, vs = [.ref a] ∧ SqT K H1 a xs ∧ R (IteT K a) H1
theorem pi_enumT {X : Cx} {e : Expr} {ta : TA} {p pos tpos : Pos} {elts : List Expr} {kk : Nat} (hg : Gl X "enumerate") (hm : X.mg "enumerate" = none) (ha : PA X [e] ta) (hs : starEach [e] X.env = [(false, eval e X.env)] := by rfl) :
    PI X (.Tuple elts kk tpos) (.Call (.Name "enumerate" p) [e] [] pos) (iEnumT X.K ta) := by
  refine ⟨fun pins s σ H R I h => ?_⟩
  refine Call_ (ld_blt I hg hm boot_enumerate (PyProof.Rows.callWith_type1 (thn (ha.run pos pins s σ H _ I h) fun us s1 ⟨vs, H1, I1, r1, q1⟩ => ?_) hs rfl))
  obtain ⟨a, xs, ex, hq, q⟩ := q1
  subst ex
  cases r1 with
  | cons r rr =>
    cases rr
    cases r
    obtain ⟨its, rv, p', hz⟩ := I1.tuple hq
    have hal : a < s1.heap.objs.size := by obtain ⟨o, ho, _⟩ := id p'; exact Heap.lt_size ho
    refine call_enumT (isTup_isTuple p') fun h' he hit hsz hk => wpAny_pyIter_enum he ?_
    have I2 : Inv X pins σ H1 { s1 with heap := h' } := I1.kept (t' := s1.toks) hk
    refine ⟨s1.heap.objs.size + 1, [s1.heap.objs.size + 1, s1.heap.objs.size], _, _, H1, rfl, I2, turn_enumT a (s1.heap.objs.size + 1) s1.heap.objs.size (Nat.ne_of_lt hal) (Nat.ne_of_lt (Nat.lt_succ_of_lt hal)), ⟨⟨.none, he⟩, hit, Nat.succ_ne_self _⟩, fun b hb => ?_, q⟩
    have e' : b = s1.heap.objs.size + 1 ∨ b = s1.heap.objs.size := by simpa using hb
    have hle : s1.heap.objs.size ≤ b := by
      rcases e' with z | z
      · rw [z]; exact Nat.le_add_right _ _
      · rw [z]; exact Nat.le_refl _
    exact I1.fpOk hle (I1.hok.fresh hle)
theorem walk_enumT {K : PySem.W.Frag} {a : Addr} {xs : List V} : Walk (IteT K a) xs.length (fun H => SqT K H a xs) (YPair (fun i => some (.int (i : Nat))) (fun i => xs[i]?)) := by
  refine ⟨fun i _ hi q => ⟨xs, xs[i], q, by simp [hi]⟩, fun _ q => ⟨xs, q, rfl⟩, fun i H v H' _ q y => ?_⟩
  obtain ⟨T, x, h1, h2, h3, h4⟩ := y
  exact ⟨T, .int (i : Nat), x, h1, h2, h3, rfl, h4 xs q⟩
end VR

namespace VR
open PySem PySem.Spec PyProof.Rows L2
section
open PySem.W
variable {prog : Program} {w : World} {A : Around} {E : Value → Shared → Prop} {s : Shared} {K : Frag} {x C L f y : Addr} {h₀ : Heap} {m : Str → Option Value} {ox : Obj} {od : Option Obj} {nm : String} {b tb : Value}
/-- x != b, the class at C with an own __eq__ and no __ne__ -/
theorem ne_K {Q : Value → Shared → Prop} (hu : A.units + 1 < cLine) (X : K.In s.heap) (I : InstAt s.heap x ox C od) (hb : Looks (model prog w) s.heap (typeOf b) tb) (hn : notFirst K C tb = true)
    (hs : findIn K (.ref C) "__ne__" = some (some (.builtin "object.__ne__"))) (he : findIn K (.ref C) "__eq__" = some (some (.ref f))) (hf : isFn K (.ref f) = true) (hm : mroIn K C (.type "object") = some true)
    (h : wpAny (model prog w) A.in1 (call (.ref f) [.ref x, b]) (fun v s' => ∃ c, v = .bool c ∧ Q (.bool (!c)) s') E s) : wpAny (model prog w) A (richCompare .NotEq (.ref x) b) Q E s := by
  have sub : Looks (model prog w) s.heap (isInstance (.ref x) (.type "object")) true := I.type.andThen (looks_mroIn X hm)
  have one : wpAny (model prog w) A (tryCompare (.ref x) "__ne__" b) (fun r s' => ∃ v, r = some v ∧ Q v s') E s := by
    unfold tryCompare
    have inner : wpAny (model prog w) A (call (.builtin "object.__ne__") [.ref x, b]) (fun v s' => ∃ c, v = .bool (!c) ∧ Q (.bool (!c)) s') E s := by
      refine wpAny_call (codeAny_call_builtin PySem.F.slot_tuple_iterator_ne.plain PySem.F.cmpEntry_ne (check_slot PySem.F.cmpKind_ne PySem.F.cmpSplit_ne sub (PySem.F.cmpArgs_ne _ _) ?_))
      unfold Builtin.«object.__ne__»
      refine wpAny_bind (wpAny_of_eq (a := ((Value.ref x : Value), [b])) (by first | rfl | (simp only [slotArgs]; rfl)) ?_)
      dsimp only
      refine wpAny_bind (wpAny_cRoomFor hu ?_)
      refine wpAny_bind (ifBound_K X I he hf (wpAny_mono h (fun v s' hv => ?_) fun _ _ e => e))
      obtain ⟨c, rfl, hq⟩ := hv
      dsimp only
      refine wpAny_bind (wpAny_truthy_bool ?_)
      exact wpAny_pure ⟨c, rfl, hq⟩
    have two : wpAny (model prog w) A (callSpecialIfBound? (.ref x) "__ne__" [b]) (fun r s' => ∃ c, r = some (.bool (!c)) ∧ Q (.bool (!c)) s') E s := by
      simp only [callSpecialIfBound?, bindSpecialIfBound?]
      refine wpAny_holding (wpAny_bind (wpAny_bind (wpAny_bind (I.type.here ((looks_findIn X hs).here ?_)))))
      simp only [PySem.F.slot_tuple_iterator_ne.bind]
      refine wpAny_bind (wpAny_askSetting (wpAny_ite ?_))
      have fin : wpAny (model prog w) A (call (.builtin "object.__ne__") ([.ref x] ++ [b]) >>= fun v => pure (some v)) (fun r s' => ∃ c, r = some (.bool (!c)) ∧ Q (.bool (!c)) s') E s :=
        wpAny_bind (wpAny_mono inner (fun v s' ⟨c, e, q⟩ => wpAny_pure ⟨c, by rw [e], q⟩) fun _ _ h' => h')
      split
      · exact wpAny_bind (wpAny_pure (wpAny_pure fin))
      · exact wpAny_tryCatch (wpAny_bind (wpAny_pure (wpAny_pure fin)))
    refine wpAny_bind (wpAny_mono two (fun v s' hv => ?_) fun _ _ e => e)
    obtain ⟨c, rfl, hq⟩ := hv
    exact wpAny_pure ⟨_, rfl, hq⟩
  unfold richCompare
  simp only [oneThing_ref]
  refine wpAny_holding (wpAny_bind (wpAny_cRoomFor (Nat.lt_of_succ_lt hu) ?_))
  refine wpAny_bind (I.type.here (wpAny_bind (hb.here ?_)))
  split
  · rename_i q
    have e : subIn K tb (.ref C) = some false := by
      rcases Bool.or_eq_true_iff.mp hn with e | e
      · rw [beq_iff_eq.mp e] at q; simp at q
      · exact beq_iff_eq.mp e
    refine wpAny_bind ((looks_subIn X e).here ?_)
    simp only [Bool.false_eq_true, if_false]
    refine wpAny_bind (wpAny_mono one (fun r s' z => ?_) fun _ _ e => e)
    obtain ⟨v, rfl, hq⟩ := z
    exact wpAny_pure hq
  · refine wpAny_bind (wpAny_pure ?_)
    simp only [Bool.false_eq_true, if_false]
    refine wpAny_bind (wpAny_mono one (fun r s' z => ?_) fun _ _ e => e)
    obtain ⟨v, rfl, hq⟩ := z
    exact wpAny_pure hq
end

/-- what the class at C must say for type(x) and isinstance -/
structure InsKit (K : PySem.W.Frag) (C : Addr) : Prop where
  cl : Cls K C
  ha : PySem.W.findIn K (.ref C) "__class__" = some (some (.builtin "object.__class__"))
  hn : PySem.W.specialIn K (.builtin "object.__class__") "__get__" = some (some (.builtin "getset_descriptor.__get__"))
  ht : PySem.W.takesIn K (.builtin "object.__class__") = some true
  hm : PySem.W.mroIn K C (.type "object") = some true
theorem InsKit.ty {K : PySem.W.Frag} {C a dx : Addr} {H : Hp} {fs : List (Str × V)} (k : InsKit K C) (e : H a = some (.ins C dx fs)) : TyX K H (.ref a) (.ref C) := .base (.ins e k.cl k.ha k.hn k.ht k.hm)
theorem TyX.tupT {K : PySem.W.Frag} {H : Hp} {a : Addr} {xs : List V} (h : SqT K H a xs) : TyX K H (.ref a) (.type "tuple") := by
  rcases h with (h | ⟨o, h⟩) | h
  · exact .base (.tup h)
  · exact .fTuple h
  · obtain ⟨o, its, n, h1, h2, _⟩ := h
    exact .kTuple h1 h2
/-- one == other, one != other by an own __eq__ that tells a bool -/
def rOwnE (K : PySem.W.Frag) (C : Addr) (sp : Sp) (E : XK) (neg : Bool) : R2 := fun x y H Q => ∃ a dx fs t, x = .ref a ∧ H a = some (.ins C dx fs) ∧ TyX K H y t ∧ PySem.W.notFirst K C t = true ∧ sp [x, y] H (fun v H' => ∃ c, v = .bl c ∧ Q (.bl (if neg then !c else c)) H') E
section
variable {X : Cx} {CX : CXT} {k : Nat} {C f : Addr} {fd : FuncData} {ps : List Str} {sp : Sp} {E : XK}
theorem op_ownEq (he : PySem.W.findIn X.K (.ref C) "__eq__" = some (some (.ref f))) (hf : PySem.W.isFn X.K (.ref f) = true) (F : FnOk X.prog X.w X.K X.mg X.base CX k f fd ps sp) (hr : Room k X.A) (hb : Binds X.K fd ps []) (hx : Passes CX X E) :
    OpR X (compareOp .Eq) (rOwnE X.K C sp E false) := by
  intro pins s σ H x y v u Q I rx ry h
  obtain ⟨a, dx, fs, t, rfl, ha, ty, hn, q⟩ := h
  cases rx
  obtain ⟨mA, O, _⟩ := ins_get I.hok ha
  obtain ⟨od, J, _⟩ := O.look
  obtain ⟨m, hF⟩ := I.fr
  obtain ⟨P, Z, hp, _⟩ := kit_of I ry ty
  show wpAny (model X.prog X.w) X.A (richCompare .Eq (.ref a) u) (EP X pins σ Q) X.xe s
  refine PySem.W.cmp_K (op := .Eq) hr.units0 hF I.ok.mod.kin J (Z.ty _ _ I.kIn hp) hn he hf ?_
  refine wpAny_mono (run_fn (us := [.ref a, u]) (vs := [.ref a, y]) (dvs := []) F hr hb .nil hx I (.cons rfl (.cons ry .nil)) q) (fun r s' hq => ?_) fun _ _ z => z
  obtain ⟨z, H', I', rz, c, ez, hz⟩ := hq
  subst ez
  cases rz
  exact ⟨.bl c, H', I', rfl, hz⟩
theorem op_ownNe (h0 : PySem.W.findIn X.K (.ref C) "__ne__" = some (some (.builtin "object.__ne__"))) (hmo : PySem.W.mroIn X.K C (.type "object") = some true)
    (he : PySem.W.findIn X.K (.ref C) "__eq__" = some (some (.ref f))) (hf : PySem.W.isFn X.K (.ref f) = true) (F : FnOk X.prog X.w X.K X.mg X.base CX k f fd ps sp) (hr : Room (k + 1) X.A) (hb : Binds X.K fd ps []) (hx : Passes CX X E) :
    OpR X (compareOp .NotEq) (rOwnE X.K C sp E true) := by
  intro pins s σ H x y v u Q I rx ry h
  obtain ⟨a, dx, fs, t, rfl, ha, ty, hn, q⟩ := h
  cases rx
  obtain ⟨mA, O, _⟩ := ins_get I.hok ha
  obtain ⟨od, J, _⟩ := O.look
  obtain ⟨P, Z, hp, _⟩ := kit_of I ry ty
  show wpAny (model X.prog X.w) X.A (richCompare .NotEq (.ref a) u) (EP X pins σ Q) X.xe s
  refine ne_K (Nat.lt_of_le_of_lt (Nat.add_le_add_left (by decide : 1 ≤ 64) _) hr.units) I.kIn J (Z.ty _ _ I.kIn hp) hn h0 he hf hmo ?_
  have r2 : Vals [V.ref a, y] [Value.ref a, u] := .cons rfl (.cons ry .nil)
  have hl : ([Value.ref a, u] : List Value).length = ps.length := by rw [← r2.length]; exact F.len _ _ _ _ q
  refine wpAny_call (codeAny_mono (F.run X.A.in1 X.stack s H ⟨[.ref a, u], []⟩ [.ref a, u] [.ref a, y] _ E hr.in1 I.env0.in1 (by simpa using hb s [.ref a, u] I.kIn (by simpa using hl)) r2 q) fun r s' hq => ?_)
  cases r with
  | error e => exact hx pins σ H s e s' I hq
  | ok fl =>
    cases fl with
    | ret w =>
      obtain ⟨z, H', I', rz, c, ez, hz⟩ := I.after hq
      subst ez
      cases rz
      exact ⟨c, rfl, .bl (!c), H', I', rfl, hz⟩
    | next => exact False.elim hq
    | brk => exact False.elim hq
    | cont => exact False.elim hq
end
end VR

namespace VR
open PySem PySem.Spec PyProof.Rows L2
theorem filterMap_cong {α β : Type} {f g : α → Option β} : ∀ {l : List α}, (∀ a, a ∈ l → f a = g a) → l.filterMap f = l.filterMap g
  | [], _ => rfl
  | a :: l, h => by
    rw [List.filterMap_cons, List.filterMap_cons, h a (List.mem_cons_self ..), filterMap_cong (l := l) fun b hb => h b (List.mem_cons_of_mem _ hb)]
section
open HT
variable {prog : Program} {w : World} {A : Around} {E : Value → Shared → Prop} {s : Shared}
theorem sliceApplied_rev {sl : Addr} {vs : Value} {n : Nat} {Q : Int × Int × Nat → Shared → Prop} (hs : s.heap.IsSliceOf sl .none .none vs) (ps : IsPart vs (some (-1)))
    (h : Q ((n : Int) - 1, -1, n) s) : wpAny (model prog w) A (Builtin.Slice.sliceApplied (.ref sl) (pure (n : Int))) Q E s := by
  obtain ⟨os, hos, hcs, hds⟩ := id hs
  unfold Builtin.Slice.sliceApplied Builtin.Slice.sliceFields
  refine wpAny_bind (wpAny_bind (wpAny_field hos hds (x := .none) rfl (wpAny_bind (wpAny_field hos hds (x := .none) rfl (wpAny_bind (wpAny_field hos hds (x := vs) rfl (wpAny_pure ?_)))))))
  refine wpAny_bind (slicePart_ ps ?_)
  show wpAny _ _ (if ((-1 : Int) == 0) = true then _ else _) _ _ s
  rw [if_neg (by decide)]
  refine wpAny_bind (slicePart_ .none (wpAny_bind (slicePart_ .none (wpAny_bind (wpAny_pure ?_)))))
  show wpAny _ _ (match Builtin.Slice.sliceAdjust none none (-1) (n : Int) with | (lo, hi) => pure (lo, (-1 : Int), Builtin.Slice.slicePlaces lo hi (-1))) _ _ s
  have e1 : Builtin.Slice.sliceAdjust none none (-1) (n : Int) = ((n : Int) - 1, -1) := by
    unfold Builtin.Slice.sliceAdjust
    have h1 : ((-1 : Int) < 0) := by decide
    simp only [h1, if_true]
  have e2 : Builtin.Slice.slicePlaces ((n : Int) - 1) (-1) (-1) = n := by
    unfold Builtin.Slice.slicePlaces
    have h1 : ¬ ((-1 : Int) > 0) := by decide
    have h2 : (-(-1 : Int)) = 1 := by decide
    simp only [h1, if_false, h2, Int.ediv_one]
    split <;> omega
  rw [e1]
  show wpAny _ _ (pure ((n : Int) - 1, (-1 : Int), Builtin.Slice.slicePlaces ((n : Int) - 1) (-1) (-1))) _ _ s
  rw [e2]
  exact wpAny_pure h
theorem pick_rev (xs : Array Value) : ((List.range xs.size).filterMap fun (m : Nat) => xs[(((xs.size : Int) - 1) + (m : Int) * (-1)).toNat]?).toArray = xs.toList.reverse.toArray := by
  have e : ∀ m, m ∈ List.range xs.size → xs[(((xs.size : Int) - 1) + (m : Int) * (-1)).toNat]? = xs[xs.size - 1 - m]? := by
    intro m hm
    have := List.mem_range.mp hm
    have q : (((xs.size : Int) - 1) + (m : Int) * (-1)).toNat = xs.size - 1 - m := by omega
    rw [q]
  have e3 : ((List.range xs.size).filterMap fun (m : Nat) => xs[(((xs.size : Int) - 1) + (m : Int) * (-1)).toNat]?) = (List.range xs.size).filterMap fun m => xs[xs.size - 1 - m]? :=
    filterMap_cong e
  rw [e3]
  have e4 : ((List.range xs.size).filterMap fun m => xs[xs.size - 1 - m]?) = ((List.range xs.size).map fun k => xs.size - 1 - k).filterMap (xs[·]?) := by
    rw [List.filterMap_map]; rfl
  rw [e4, PySem.W.krv_range, List.filterMap_reverse, PySem.W.krv_all]
theorem getItem_tuple_rev {t sl : Addr} {items : Array Value} {vs : Value} {Q : Value → Shared → Prop} (ht : IsTup s.heap t items) (hs : s.heap.IsSliceOf sl .none .none vs) (ps : IsPart vs (some (-1)))
    (h : Q (.ref s.heap.objs.size) { s with heap := s.heap.push { cls := .type "tuple", data := .seq items.toList.reverse.toArray } })
    (hsz : items.size ≤ sizeLine) : wpAny (model prog w) A (getItem (.ref t) (.ref sl)) Q E s := by
  have htake : sizeOk (.seq items.toList.reverse.toArray) := by
    show items.toList.reverse.toArray.size ≤ sizeLine
    rw [List.size_toArray, List.length_reverse, Array.length_toList]
    exact hsz
  obtain ⟨os, hos, hcs, hds⟩ := id hs
  have hTs : s.TypeIs (.ref sl) "slice" := ⟨os, hos, hcs⟩
  unfold getItem
  try with_reducible refine wpAny_holding ?_
  first | refine wpAny_bind (wpAny_pure ?_) | skip
  refine wpAny_bind (wpAny_sequenceKey ht.typeIs (by decide) ?_)
  refine wpAny_bind (wpAny_callSpecial?_slot (name := Str.ofString "__getitem__") ht.typeIs PyProof.Rows.slot_tuple_getitem
    (wpAny_call_entry PyProof.Rows.slot_tuple_getitem ht.typeIs entry_tuple_getitem ?_ (args_tuple_getitem _ _)))
  show wpAny _ _ (Builtin.Tuple.tupleItemsOf (.ref t) >>= _) _ _ s
  refine wpAny_bind (tupleItemsOf_ ht ?_)
  refine wpAny_bind (wpAny_typeOf hTs ?_)
  rw [if_pos (by decide)]
  refine wpAny_bind (sliceApplied_rev hs ps ?_)
  have hno : ¬ ((((items.size : Int) - 1) == 0 && (-1 : Int) == 1 && items.size == items.size) = true) := by
    intro q
    rw [Bool.and_eq_true, Bool.and_eq_true] at q
    exact absurd q.1.2 (by decide)
  show wpAny _ _ (if (((items.size : Int) - 1) == 0 && (-1 : Int) == 1 && items.size == items.size) = true then _ else _) _ _ s
  rw [if_neg hno, pick_rev]
  first
    | exact wpAny_bind (m := Builtin.Tuple.tupleExact _) (wpAny_newObj_type (wpAny_pure ⟨_, rfl, wpAny_pure h⟩) htake)
    | exact wpAny_bind (m := Builtin.Tuple.tupleExact _) (wpAny_newObj_type (wpAny_bind (wpAny_pure (wpAny_pure ⟨_, rfl, wpAny_pure h⟩))) htake)
    | exact wpAny_bind (wpAny_bind (m := Builtin.Tuple.tupleExact _) (wpAny_newObj_type (wpAny_pure (wpAny_pure ⟨_, rfl, wpAny_pure h⟩)) htake))
    | exact wpAny_bind (wpAny_bind (m := Builtin.Tuple.tupleExact _) (wpAny_newObj_type (wpAny_pure ⟨_, rfl, wpAny_pure h⟩) htake))
end
/-- t[::-1], a tuple -/
def tRevT (K : PySem.W.Frag) (te : TE) : TE := fun σ H Q => te σ H fun x H1 => ∃ a xs, x = .ref a ∧ SqT K H1 a xs ∧ ∀ p, H1 p = none → Q (.ref p) (upd H1 p (.tup xs.reverse))
theorem pe_revT {X : Cx} {e : Expr} {te : TE} {k : Nat} {p1 p2 p3 pos : Pos} (he : PE X e te) : PE X (.Subscript e (.Slice none none (some (.UnaryOp .USub (.Constant (.int 1) k p1) p2)) p3) pos) (tRevT X.K te) := by
  refine ⟨fun pins s σ H Q I h => ?_⟩
  refine Subscript_ (thn (he.run pins s σ H _ I h) fun v s1 ⟨x, H1, I1, r1, q1⟩ => ?_)
  obtain ⟨a, xs, ex, hx, q⟩ := q1
  subst ex
  cases r1
  have hst : PO X (some (.UnaryOp .USub (.Constant (.int 1) k p1) p2)) (tPart (tUn (rU fun i => .int (-i)) (tC (.int 1)))) := po_some (pe_un un_neg pe_int)
  refine wpAny_Slice (thn (po_none.run pins s1 σ H1 (fun o H2 => o = none ∧ H2 = H1) I1 ⟨rfl, rfl⟩) fun vl s2 ⟨l, H2, I2, pl, el, e2⟩ => ?_)
  subst el e2
  refine thn (po_none.run pins s2 σ H2 (fun o H3 => o = none ∧ H3 = H2) I2 ⟨rfl, rfl⟩) fun vu s3 ⟨u, H3, I3, pu, eu, e3⟩ => ?_
  subst eu e3
  refine thn (hst.run pins s3 σ H3 (fun o H4 => o = some (-1) ∧ H4 = H3) I3 ⟨1, rfl, -1, rfl, rfl, rfl⟩) fun vs s4 ⟨o, H4, I4, ps, eo, e4⟩ => ?_
  subst eo e4
  have I5 : Inv X pins σ H4 { s4 with heap := s4.heap.push { cls := .type "slice", data := .fields #[vl, vu, vs] } } := I4.kept (t' := s4.toks) fun b ob q => Heap.get?_push_of_some _ q
  obtain ⟨its, r, ht, hz⟩ := I5.tuple hx
  have hlen := r.length
  cases pl
  cases pu
  show wpAny (model X.prog X.w) X.A (subscriptTail e (.Slice none none (some (.UnaryOp .USub (.Constant (.int 1) k p1) p2)) p3) (.ref a) (.ref s4.heap.objs.size)) (EP X pins σ Q) X.xe { s4 with heap := s4.heap.push { cls := .type "slice", data := .fields #[.none, .none, vs] } }
  refine tail_any (ops := [.ref a, .ref s4.heap.objs.size]) ht.typeIs (PyProof.Rows.slot_tuple_getitem.lookup) ?_ (by with_unfolding_all rfl)
  refine getItem_tuple_rev ht (Heap.IsSliceOf.new _ .none .none vs) ps ?_ (by rw [List.size_toArray]; omega)
  refine ⟨.ref _, _, I5.laid (t' := s4.toks) (o := .tup xs.reverse) (fun b ob q => Heap.get?_push_of_some _ q) (Nat.le_refl _) ?_, rfl, q _ (I5.hok.fresh (Nat.le_refl _))⟩
  exact ⟨by rw [List.length_reverse]; exact hz, _, r.reverse, IsTup.new _ _⟩
end VR

/-! Small words: lists of ints as values, heaps that grow. -/
namespace VR
open PySem PySem.Spec PyProof.Rows L2
def iz (xs : List Int) : List V := xs.map V.int
theorem iz_get {xs : List Int} {i : Nat} {x : Int} (h : xs[i]? = some x) : (iz xs)[i]? = some (V.int x) := by unfold iz; rw [List.getElem?_map, h]; rfl
theorem of_iz_get {xs : List Int} {i : Nat} {v : V} (h : (iz xs)[i]? = some v) : ∃ x, xs[i]? = some x ∧ v = V.int x := by
  unfold iz at h
  rw [List.getElem?_map] at h
  cases e : xs[i]? with
  | none => rw [e] at h; cases h
  | some x => rw [e] at h; exact ⟨x, rfl, (Option.some.inj h).symm⟩
theorem iz_len (xs : List Int) : (iz xs).length = xs.length := by simp [iz]
theorem iz_set (xs : List Int) (j : Nat) (x : Int) : (iz xs).set j (V.int x) = iz (xs.set j x) := by simp [iz, List.map_set]
theorem smallL {n : Nat} (h : n ≤ 10000) : n ≤ sizeLine := by rw [sizeLine_eq]; omega
theorem _root_.L2.Same.tup {K : PySem.W.Frag} {H H' : Hp} {a : Addr} {xs : List V} (e : Same H H') (h : SqT K H a xs) : SqT K H' a xs := by
  rcases h with (h | ⟨o, h⟩) | h
  · exact .inl (.inl (e _ _ h))
  · exact .inl (.inr ⟨o, e _ _ h⟩)
  · exact .inr h
theorem _root_.L2.Same.new {H : Hp} {p : Addr} {o : HO} (h : H p = none) : Same H (upd H p o) := fun b u e => by rw [upd_ne (ne_of_none e h)]; exact e
theorem _root_.L2.Same.upd0 {H H' : Hp} {l : Addr} {o : HO} (e : Same H H') (h : H l = none) : Same H (upd H' l o) := fun b u q => by rw [upd_ne (ne_of_none q h)]; exact e b u q
theorem _root_.L2.Same.upN {H H' : Hp} {l : Addr} {o : HO} (e : Same H H') (h : H' l = none) : Same H (upd H' l o) := e.trans (L2.Same.new h)
theorem ite_max (a b : Nat) : (if (b : Int) > (a : Int) then V.int (b : Int) else V.int (a : Int)) = V.int ((max a b : Nat) : Int) := by
  split <;> congr 1 <;> omega
theorem iz_rep (n : Nat) : (List.replicate n [V.int 0]).flatten = iz (List.replicate n 0) := by
  induction n with
  | zero => rfl
  | succ n ih => rw [List.replicate_succ, List.flatten_cons, ih, List.replicate_succ]; rfl
theorem ixN_nat {n k : Nat} (h : k < n) : ixN n (k : Int) = some k := by
  unfold ixN
  rw [if_pos (by omega), if_pos (by omega)]
  simp

/-- a store to an object that is no tuple leaves the tuples -/
theorem _root_.L2.SqT.updNT {K : PySem.W.Frag} {H : Hp} {a p : Addr} {xs : List V} {o u : HO} (h : SqT K H a xs) (hp : H p = some u) (nt : ∀ ys, u ≠ .tup ys) (nf : ∀ ob v, u ≠ .frz ob v) : SqT K (upd H p o) a xs := by
  rcases h with (h | ⟨ob, h⟩) | h
  · exact .inl (.inl (by rw [upd_ne (ne_of h hp fun e => nt _ e.symm)]; exact h))
  · exact .inl (.inr ⟨ob, by rw [upd_ne (ne_of h hp fun e => nf _ _ e.symm)]; exact h⟩)
  · exact .inr h
theorem _root_.L2.SqT.updIns {K : PySem.W.Frag} {H : Hp} {a p C dx : Addr} {xs : List V} {o : HO} {fs : List (Str × V)} (h : SqT K H a xs) (hp : H p = some (.ins C dx fs)) : SqT K (upd H p o) a xs := h.updNT hp (fun _ e => nomatch e) (fun _ _ e => nomatch e)
end VR

/-! Tuples of ints as data. -/
namespace VR
open PySem PySem.Spec PyProof.Rows L2
def dI (xs : List Int) : PyData := .tuple (xs.map PyData.int)
theorem eqvAll_ints : ∀ xs ys : List Int, PyData.eqvAll (xs.map PyData.int) (ys.map PyData.int) = decide (xs = ys)
  | [], [] => by simp [PyData.eqvAll]
  | [], _ :: _ => by simp [PyData.eqvAll]
  | _ :: _, [] => by simp [PyData.eqvAll]
  | x :: xs, y :: ys => by
    rw [List.map_cons, List.map_cons, PyData.eqvAll, eqvAll_ints xs ys, PyData.eqv]
    by_cases h : x = y <;> by_cases g : xs = ys <;> simp [h, g]
theorem eqv_ints (xs ys : List Int) : PyData.eqv (dI xs) (dI ys) = decide (xs = ys) := by
  unfold dI
  rw [PyData.eqv, eqvAll_ints]
theorem canAll_ints : ∀ xs : List Int, PyData.canLayAll0 (xs.map PyData.int) = true
  | [] => by simp [PyData.canLayAll0]
  | x :: xs => by rw [List.map_cons, PyData.canLayAll0, canAll_ints xs, PyData.canLay0]; rfl
theorem depth_ints : ∀ xs : List Int, PyData.depthAll (xs.map PyData.int) = 0
  | [] => by simp [PyData.depthAll]
  | x :: xs => by rw [List.map_cons, PyData.depthAll, depth_ints xs, PyData.depth]; rfl
theorem shaped_ints (xs : List Int) : SeqAt.shaped (dI xs) = true := by
  unfold SeqAt.shaped dI
  rw [PyData.canLay0, canAll_ints, PyData.depth, depth_ints]
  rfl
theorem dpAll_ints {K : PySem.W.Frag} {H : Hp} : ∀ xs : List Int, DpAll K H (iz xs) (xs.map PyData.int)
  | [] => .nil
  | x :: xs => .cons (.int x) (dpAll_ints xs)
theorem dp_ints {K : PySem.W.Frag} {H : Hp} {a : Addr} {xs : List Int} (h : SqT K H a (iz xs)) : Dp K H (.ref a) (dI xs) := .tup h (dpAll_ints xs)
/-- a term of types for isinstance -/
theorem kit_cls_ref {K : PySem.W.Frag} {C : Addr} {t : Value} {b : Bool} (h1 : PySem.W.isClsIn K C = true) (h2 : PySem.W.typeIn K (.ref C) = some (.type "type")) (h3 : (t == .ref C) = false) (h4 : PySem.W.subIn K t (.ref C) = some b) : PySem.W.kitOne K t (.ref C) = some b := by
  unfold PySem.W.kitOne PySem.W.kitCls
  have h1' : (PySem.W.clsIn K C).isSome = true := h1
  rw [h3, if_neg (by decide)]
  show (if ((PySem.W.clsIn K C).isSome && PySem.W.typeIn K (Value.ref C) == some (Value.type "type")) = true then PySem.W.subIn K t (Value.ref C) else none) = some b
  rw [h1', h2, if_pos (by rfl), h4]
theorem kit_self {K : PySem.W.Frag} {t : Value} (h : (t == t) = true) : PySem.W.kitOne K t t = some true := by
  unfold PySem.W.kitOne
  rw [if_pos h]
end VR

/-! Own exceptions with their own __init__, as values. -/
namespace VX
open PySem PySem.W PySem.Calls PyProof.Rows PySem.HandSPX Builtin Builtin.ObjectAttr
section
variable {prog : Program} {w : World} {M : Model} {A : Around} {E : Value → Shared → Prop} {R : Result → Shared → Prop} {h : Heap} {g : Array GenState} {d : Drawn} {t : Nat} {os : OsState}
variable {nm q : Str} {C N : Addr} {bs bm bmB : List Value} {hdct : Bool} {sn : List Str} {sub : List Value} {ab : Bool} {col : Option Bool} {dd : Option Addr} {k0 k1 k2 k3 k5 : Option Value} {B newId initId : String}
theorem newC (F : ExcBaseFacts B newId initId bmB) (hT : ∀ Y : String, bm.contains (.type Y) = bmB.contains (.type Y)) {us : List Value} {kw : List (Str × Value)} {Q : Unit → Shared → Prop}
    (hC : h.get? C = some (excClassObj nm q C N bs bm hdct sn sub ab col dd k0 k1 k2 k3 k5 newId)) (hq : Q () ⟨h, g, d, t, os⟩) : wpAny M A (checkBuiltinCall newId ⟨.ref C :: us, kw⟩) Q E ⟨h, g, d, t, os⟩ := by
  have z1 : (Value.ref C :: bm).contains (.type B) = true := by rw [List.contains_cons, hT, F.hasB, Bool.or_true]
  have z2 := F.noStar
  simp only [checkBuiltinCall, F.newKind, F.newSplit, F.newRow]
  repeat (first | refine wpAny_loadPart_at hC ?_ | (refine wpAny_isSubtype_exc hC ?_; rw [z1]) | refine wpAny_staticBase_exc hC ?_ | refine wpAny_madeBy_exc hC ?_ | simp only [bne_self_eq_false, Bool.false_eq_true, if_false] | wp_step)
  exact hq
end
section
variable {prog : Program} {w : World} {A : Around} {E : Value → Shared → Prop} {R : Result → Shared → Prop} {h : Heap} {g : Array GenState} {d : Drawn} {t : Nat} {os : OsState}
variable {nm q : Str} {C N : Addr} {bs bm bmB : List Value} {hdct : Bool} {sn : List Str} {sub : List Value} {ab : Bool} {col : Option Bool} {dd : Option Addr} {k0 k1 k2 k3 k5 : Option Value} {B newId initId : String}
theorem newR (F : ExcBaseFacts B newId initId bmB) (hT : ∀ Y : String, bm.contains (.type Y) = bmB.contains (.type Y)) {us : List Value} {kw : List (Str × Value)}
    (hC : h.get? C = some (excClassObj nm q C N bs bm hdct sn sub ab col dd k0 k1 k2 k3 k5 newId))
    (hq : R (.ok (.ret (.ref (h.objs.size + 1)))) ⟨(h.push { cls := .type "tuple", data := .seq us.toArray }).push (excO C h.objs.size), g, d, t, os⟩) (hz : us.length ≤ sizeLine) :
    codeAny (model prog w) A (.builtin newId ⟨.ref C :: us, kw⟩) R ⟨h, g, d, t, os⟩ := by
  have z0 := F.ends
  have z1 : (Value.ref C :: bm).contains (.type B) = true := by rw [List.contains_cons, hT, F.hasB, Bool.or_true]
  have z2 : (Value.ref C :: bm).contains (.type "AttributeError") = false := by rw [List.contains_cons, hT, F.noAttr]; rfl
  have z3 : (Value.ref C :: bm).contains (.type "NameError") = false := by rw [List.contains_cons, hT, F.noName]; rfl
  refine codeAny_builtinAt F.entry ?_
  unfold Builtin.«BaseException.__new__»
  refine PySem.wpAt_bind ?_
  show PySem.wpAt _ _ _ (stack >>= _) _ _ _
  refine PySem.wpAt_bind (PySem.wpAt_stack fun p below => PySem.wpAt_of_wpAny ?_)
  wp_walk
  refine PySem.wpAt_of_wpAny ?_
  rw [F.owner]
  repeat (first | with_reducible refine wpAny_madeHere_exc F.canon hC ?_ | with_reducible refine wpAny_loadPart_at hC ?_ | (with_reducible refine wpAny_isSubtype_exc hC ?_; first | rw [z1] | rw [z2] | rw [z3]) | wp_step)
  show R _ _
  rw [Heap.size_push]
  exact hq
theorem tcR (F : ExcBaseFacts B newId initId bmB) (hT : ∀ Y : String, bm.contains (.type Y) = bmB.contains (.type Y)) {us : List Value} {kw : List (Str × Value)} {fI : Addr} {Q : Fin → Shared → Prop}
    (hC : h.get? C = some (excClassObj nm q C N bs bm hdct sn sub ab col dd k0 k1 k2 k3 k5 newId))
    (hi : W.Looks (model prog w) h (typeLookup (.ref C) "__init__") (some (.ref fI))) (hb : ∀ self, W.Looks (model prog w) h (bindSpecial (.ref fI) self) (.ref fI, [self])) (hz : us.length ≤ sizeLine)
    (hq : codeAny (model prog w) A (.call (.ref fI) ⟨.ref (h.objs.size + 1) :: us, kw⟩)
      (fun r s' => match r with | .ok (.ret v) => v = .none ∧ Q (.done (.ret (.ref (h.objs.size + 1)))) s' | .ok _ => False | .error e => E e s')
      ⟨(h.push (W.kdv_tup us)).push (excO C h.objs.size), g, d, t, os⟩) :
    wpAny (model prog w) A (Builtin.«type.__call__» ⟨.ref C :: us, kw⟩) Q E ⟨h, g, d, t, os⟩ := by
  repeat (first | with_reducible refine wpAny_loadPart_at hC ?_ | with_reducible refine wpAny_madeBy_exc hC ?_ | wp_step)
  refine codeAny_call_builtin_code (Code.quiet_builtin _ F.quiet) (newC F hT hC ?_)
  refine newR F hT hC ?_ hz
  show wpAny _ _ _ _ _ _
  have k : ∀ b o, h.get? b = some o → ((h.push (W.kdv_tup us)).push (excO C h.objs.size)).get? b = some o := fun b o e => Heap.get?_push_of_some _ (Heap.get?_push_of_some _ e)
  have y1 := k _ _ hC
  have y2 : ((h.push (W.kdv_tup us)).push (excO C h.objs.size)).get? (h.objs.size + 1) = some (excO C h.objs.size) := by heap_get
  have y3 : (Value.ref C :: bm).contains (.ref C) = true := by simp
  have i1 := hi.keeps k
  have b1 := (hb (.ref (h.objs.size + 1))).keeps k
  unfold isInstance
  repeat (first | with_reducible refine wpAny_loadPart_at y2 ?_ | (with_reducible refine wpAny_isSubtype_exc y1 ?_; rw [y3]) | wp_step)
  show wpAny _ _ (typeLookup (.ref C) _) _ _ _
  refine i1.at ?_
  refine wpAny_holding (wpAny_bind (b1.at ?_))
  refine wpAny_bind (wpAny_call (codeAny_mono hq fun r s' z => ?_))
  rcases r with e | (v | _ | _ | _) <;> first | exact z | exact z.elim | skip
  obtain ⟨rfl, z⟩ := z
  first
    | exact wpAny_pure (wpAny_pure z)
    | (wp_walk; exact z)
theorem tcC {M : Model} {us : List Value} {kw : List (Str × Value)} {Q : Unit → Shared → Prop} (hC : h.get? C = some (excClassObj nm q C N bs bm hdct sn sub ab col dd k0 k1 k2 k3 k5 newId))
    (hq : Q () ⟨h, g, d, t, os⟩) : wpAny M A (checkBuiltinCall "type.__call__" ⟨.ref C :: us, kw⟩) Q E ⟨h, g, d, t, os⟩ := by
  have z1 := tc_sub
  have z2 : (⟨h, g, d, t, os⟩ : Shared).TypeIs (.ref C) "type" := ⟨_, hC, rfl⟩
  simp only [checkBuiltinCall, tc_kind, tc_split]
  repeat (any_goals (first | assumption | with_reducible refine wpAny_loadPart_at hC ?_ | with_reducible refine wpAny_onRaise ?_ | with_reducible refine wpAny_map ?_ | wp_step))
/-- C(.., k = v, ..): the exception's own __init__ is called with the same -/
theorem callX (F : ExcBaseFacts B newId initId bmB) (hT : ∀ Y : String, bm.contains (.type Y) = bmB.contains (.type Y)) {us : List Value} {kw : List (Str × Value)} {fI : Addr}
    (hC : h.get? C = some (excClassObj nm q C N bs bm hdct sn sub ab col dd k0 k1 k2 k3 k5 newId))
    (hi : W.Looks (model prog w) h (typeLookup (.ref C) "__init__") (some (.ref fI))) (hb : ∀ self, W.Looks (model prog w) h (bindSpecial (.ref fI) self) (.ref fI, [self])) (hz : us.length ≤ sizeLine)
    (hq : codeAny (model prog w) (A.under (.builtin "type.__call__" ⟨.ref C :: us, kw⟩)) (.call (.ref fI) ⟨.ref (h.objs.size + 1) :: us, kw⟩) (W.InitBack (h.objs.size + 1) R)
      ⟨(h.push (W.kdv_tup us)).push (excO C h.objs.size), g, d, t, os⟩) :
    codeAny (model prog w) A (.call (.ref C) ⟨us, kw⟩) R ⟨h, g, d, t, os⟩ := by
  have f1 := tc_lookup
  have f2 := tc_bind (.ref C)
  have z2 : (⟨h, g, d, t, os⟩ : Shared).TypeIs (.ref C) "type" := ⟨_, hC, rfl⟩
  refine codeAny_of_tree ?_
  show wpAny _ _ (callAny (.ref C) _) _ _ _
  repeat (any_goals (first | assumption | with_reducible refine wpAny_loadPart_at hC ?_ | wp_step))
  refine ⟨rfl, ?_⟩
  refine codeAny_call_builtin_at (Code.quiet_builtin _ (by decide +kernel)) entry_typeCall (tcC hC (tcR F hT hC hi hb hz ?_))
  refine codeAny_mono hq fun r s' z => ?_
  rcases r with e | (v | _ | _ | _) <;> exact z
end
end VX

namespace VX
open PySem PySem.W PySem.Calls PyProof.Rows PySem.HandSPX Builtin Builtin.ObjectAttr
section
variable {prog : Program} {w : World} {A : Around} {R : Result → Shared → Prop} {hp : Heap} {g : Array GenState} {d : Drawn} {t : Nat} {os : OsState}
/-- self.x = v on an exception without a dict, whatever its built-in base -/
theorem osaX {K : W.Frag} {name : Str} {tk : Tok} {v : Value} {x C : Addr} {fv : Array Value} {cd : ClassData}
    (X : K.In hp) (hx : hp.get? x = some { cls := .ref C, data := .fields fv }) (hcd : W.clsIn K C = some cd) (ne : cd.mro.isEmpty = false) (hob : cd.mro.contains (.type "object") = true)
    (hr : ∀ self, refuseLoop self "__setattr__" cd.mro = pure ()) (hh : cd.hasDict = true) (ha : W.findIn K (.ref C) name = some none)
    (hq : ∀ h' tk' dx, (∀ b o, b ≠ x → hp.get? b = some o → h'.get? b = some o) → hp.objs.size ≤ dx → dx ≠ x → h'.get? x = some { cls := .ref C, dict := some dx, data := .fields fv } →
      h'.Ns1 dx (fun y => if y = name then some v else none) → R (.ok (.ret .none)) ⟨h', g, d, tk', os⟩) :
    codeAny (model prog w) A (.call (.builtin "object.__setattr__") ⟨[.ref x, .str name tk, v], []⟩) R ⟨hp, g, d, t, os⟩ := by
  have I : W.InstAt hp x { cls := .ref C, data := .fields fv } C none := ⟨hx, rfl, rfl, trivial⟩
  have F := PySem.F.store_object
  have dif : hp.objs.size ≠ x := (Nat.ne_of_lt (Heap.lt_size hx)).symm
  have isob : W.Looks (model prog w) hp (isInstance (.ref x) (.type "object")) true := I.type.andThen (W.looks_mroIn X (by unfold W.mroIn; rw [hcd, Option.bind_some, if_neg (by rw [ne]; decide), hob]))
  refine codeAny_call_builtin F.slot.plain F.entry (@W.check_slot (model prog w) _ _ ⟨hp, g, d, t, os⟩ "object.__setattr__" "object" "__setattr__" (.ref x) [.str name tk, v] [] _ F.kind F.split isob (F.args (.ref x) (.str name tk) v) ?_)
  have lm : W.Looks (model prog w) hp (mroOf (.ref C)) cd.mro := (W.looks_clsIn X hcd).andThen .now
  have lt : W.Looks (model prog w) hp (storeTaker? none) none := .now
  have lc : W.Looks (model prog w) hp (classData C) cd := W.looks_clsIn X hcd
  rw [W.osa_eq, refuse_eq]
  refine wpAny_bind (wpAny_bind (I.type.at (wpAny_bind (lm.at ?_))))
  rw [hr]
  refine wpAny_pure (wpAny_bind (I.type.at (wpAny_bind ((W.looks_findIn X ha).at (wpAny_bind (lt.at ?_))))))
  show wpAny _ _ (storeInOwnDict (.ref x) (.ref C) (.str name tk) name v false) _ _ _
  obtain ⟨nm, bs, mro, ns, qn, hd, sn, sb, ab, col, del⟩ := cd
  dsimp only at hh
  subst hh
  unfold storeInOwnDict ownDictForStores
  repeat (first | with_reducible refine store_in_new ?_ ?_ | with_reducible refine wpAny_loadPart_at hx ?_ | with_reducible refine lc.at ?_ | wp_step)
  · exact ⟨_, #[], _, (Heap.get?_update_ne _ _ _ _ dif).trans (Heap.get?_push_at rfl rfl), rfl, fun e he => absurd he (by simp), fun _ => rfl⟩
  · intro h' tk' hn' hs
    have x1 : (hp.push { cls := .type "dict", data := .dict #[] }).get? x = some { cls := .ref C, data := .fields fv } := Heap.get?_push_of_some _ hx
    refine hq h' tk' hp.objs.size (fun b o hb ho => ?_) (Nat.le_refl _) dif ?_ hn'
    · exact (hs.2 b (Nat.ne_of_lt (Heap.lt_size ho))).trans ((Heap.get?_update_ne _ _ _ _ hb).trans (Heap.get?_push_of_some _ ho))
    · exact (hs.2 x dif.symm).trans (Heap.get?_update_self _ x1 rfl)
end
end VX
namespace VX
open PySem PySem.Spec PyProof.Rows L2 VR

/-- an own exception class with an own __init__, no matter which built-in class it hangs on -/
structure OxC (K : PySem.W.Frag) (C : Addr) : Prop where
  cls : ∃ nm q N bs bm sn sub ab col dd k0 k1 k2 k3 k5 B newId initId bmB, ExcBaseFacts B newId initId bmB ∧ K.lookup C = some (excClassObj nm q C N bs bm true sn sub ab col dd k0 k1 k2 k3 k5 newId) ∧
    (∀ Y : String, bm.contains (.type Y) = bmB.contains (.type Y)) ∧ (∀ self, refuseLoop self "__setattr__" (.ref C :: bm) = pure ()) ∧ bm.contains (.type "object") = true
  sa : PySem.W.findIn K (.ref C) "__setattr__" = some (some (.builtin "object.__setattr__"))
  kC : PySem.W.keepIn K (.ref C) = true
  ga : PySem.W.findIn K (.ref C) "__getattribute__" = some (some (.builtin "BaseException.__getattribute__"))
  gg : PySem.W.findIn K (.ref C) "__getattr__" = some none
  ex : PySem.W.subIn K (.ref C) (.type "BaseException") = some true
  ac : PySem.W.findIn K (.ref C) "__class__" = some (some (.builtin "object.__class__"))
  an : PySem.W.specialIn K (.builtin "object.__class__") "__get__" = some (some (.builtin "getset_descriptor.__get__"))
  tk : PySem.W.takesIn K (.builtin "object.__class__") = some true
  mo : PySem.W.mroIn K C (.type "object") = some true
theorem OxC.cin {K : PySem.W.Frag} {C : Addr} (T : OxC K C) : (PySem.W.clsIn K C).isSome = true := by
  obtain ⟨nm, q, N, bs, bm, sn, sub, ab, col, dd, k0, k1, k2, k3, k5, B, ni, ii, bmB, _, hC, _⟩ := T.cls
  unfold PySem.W.clsIn; rw [hC]; rfl
theorem OxC.hd {K : PySem.W.Frag} {C : Addr} (T : OxC K C) : PySem.W.hasDictIn K C = true := by
  obtain ⟨nm, q, N, bs, bm, sn, sub, ab, col, dd, k0, k1, k2, k3, k5, B, ni, ii, bmB, _, hC, _⟩ := T.cls
  unfold PySem.W.hasDictIn PySem.W.clsIn; rw [hC]; rfl
/-- an exception of the class at C, its one field f holding v -/
def ExAt (H : Hp) (x : V) (C : Addr) (f : Str) (v : V) : Prop := ∃ a dx : Addr, x = .ref a ∧ H a = some (exo a C (some dx)) ∧ H dx = some (exd dx [(f, v)])
theorem ExAt.same {H H' : Hp} {x v : V} {C : Addr} {f : Str} (h : ExAt H x C f v) (s : Same H H') : ExAt H' x C f v := by
  obtain ⟨a, dx, e, h1, h2⟩ := h
  exact ⟨a, dx, e, s _ _ h1, s _ _ h2⟩
/-- self.f = e in such an __init__ -/
def tOx (K : PySem.W.Frag) (f : Str) (to te : TE) : TS := fun D σ H => te σ H fun y H1 => to σ H1 fun x H2 => ∃ a C : Addr, x = .ref a ∧ OxC K C ∧ PySem.W.findIn K (.ref C) f = some none ∧
  H2 a = some (exo a C none) ∧ ∀ dx, H2 dx = none → dx ≠ a → D.nx σ (upd (upd H2 dx (exd dx [(f, y)])) a (exo a C (some dx)))
section
variable {X : Cx} {pins : List (Addr × Obj)} {σ : L2.St} {H : Hp} {s : Shared} {a C dx : Addr} {f : Str} {y : V} {u : Value} {E : Value → Shared → Prop} {A : Around}
theorem putX {Q : Unit → Shared → Prop} (T : OxC X.K C) (I : Inv X pins σ H s) (e : H a = some (exo a C none)) (hno : PySem.W.findIn X.K (.ref C) f = some none) (ry : RelV y u)
    (h : ∀ dx s', H dx = none → dx ≠ a → Inv X pins σ (upd (upd H dx (exd dx [(f, y)])) a (exo a C (some dx))) s' → Q () s') : wpAny (model X.prog X.w) A (setAttr (.ref a) f u) Q E s := by
  obtain ⟨nm, q, N, bs, bm, sn, sub, ab, col, dd, k0, k1, k2, k3, k5, B, ni, ii, bmB, _, hC, _, hr, hob⟩ := T.cls
  have hcl : PySem.W.clsIn X.K C = some { name := nm, bases := bs, mro := .ref C :: bm, ns := N, qualname := q, hasDict := true, slotNames := sn, subclasses := sub, abstract := ab, collection := col, hasDel := false } := by unfold PySem.W.clsIn; rw [hC] <;> rfl
  obtain ⟨t1, ho⟩ := exo_at I.hok e
  obtain ⟨hp, g, d, t, os⟩ := s
  refine PySem.W.set_plain I.kIn (ox := { cls := .ref C, dict := none, data := .fields #[.ref t1, .none, .none, .none, .bool false, .none] }) (od := none) ⟨ho, rfl, rfl, trivial⟩ T.sa ?_
  refine osaX I.kIn ho hcl rfl (by show (Value.ref C :: bm).contains (.type "object") = true; rw [List.contains_cons, hob, Bool.or_true]) hr rfl hno (fun h' tk' dx k dn dne hx hn => ?_)
  have gone : H dx = none := I.hok.fresh dn
  have low : ∀ {b : Addr} {o : Obj}, hp.get? b = some o → b ≠ dx := fun {b o} q => Nat.ne_of_lt (Nat.lt_of_lt_of_le (Heap.lt_size q) dn)
  have apart : ∀ {b : Addr}, H b = none → b ≠ a := fun {b} n z => by
    rw [z, e] at n
    cases n
  have U : Un X.fs [] H (upd (upd H dx (exd dx [(f, y)])) a (exo a C (some dx))) hp h' := {
    keep := fun b o q n _ _ => k b o (apart n) q
    slot := fun b o q n _ _ => ⟨o.slots, k b o (apart n) q⟩
    free := fun b o q n _ => by rw [upd_ne (apart n), upd_ne (low q)]; exact n
    there := fun b o q _ => by
      by_cases hb : b = a
      · exact ⟨_, by rw [hb]; exact hx⟩
      · exact ⟨o, k b o hb q⟩
    tups := fun b xs q => by rw [upd_ne (at_ne e q exo_tup), upd_ne (ne_of_none q gone)]; exact q
    frzs := fun b o v q => by rw [upd_ne (at_ne e q exo_frz), upd_ne (ne_of_none q gone)]; exact q
    tbls := fun b ps q => ⟨#[], by rw [upd_ne (at_ne e q exo_tbl), upd_ne (ne_of_none q gone), q]; simp⟩ }
  refine h dx _ gone dne (I.un (t' := tk') U fun b o q => ?_)
  by_cases hb : b = a
  · subst hb
    rw [upd_same] at q
    cases q
    exact exo_ok hx
  rw [upd_ne hb] at q
  by_cases hd : b = dx
  · subst hd
    rw [upd_same] at q
    cases q
    exact exd_ok hn (relO_put (fs := []) ry fun g => True.intro)
  rw [upd_ne hd] at q
  refine (I.hok b o q).stay (fun c v hc z => k c v ?_ z) (fun c hc => ?_) (fun c xs hc => ?_)
  · rcases hc with hc | hc
    · rw [hc]
      exact hb
    · exact at_ne e hc exo_own
  · rw [upd_ne (at_ne e hc exo_own), upd_ne (ne_of_none hc gone)]; exact hc
  · rw [upd_ne (at_ne e hc exo_tup), upd_ne (ne_of_none hc gone)]; exact hc
end
theorem ps_ox {X : Cx} {o e : Expr} {to te : TE} {f : Str} {p' pos : Pos} (ho : PE X o to) (he : PE X e te) (hs : swapsWith e (some (.Attribute o f p')) pos.line X.env = pure false := by rfl) : PS X (.Assign [.Attribute o f p'] e pos) (tOx X.K f to te) := by
  refine ⟨fun pins s σ H D I h => ?_⟩
  refine plainObj_wpAny_Assign_Attribute (thn (he.run pins s σ H _ I h) fun v s1 ⟨y, H1, I1, r1, q1⟩ => thn (ho.run pins s1 σ H1 _ I1 q1) fun u s2 ⟨x, H2, I2, r2, a, C, ex, T, hno, ea, q⟩ => ?_) hs
  subst ex
  obtain rfl : u = Value.ref a := r2
  exact putX T I2 ea hno r1 fun dx s' n ne J => ⟨σ, _, J, q dx n ne⟩
/-- what __init__(self, v) promises -/
def spOx (K : PySem.W.Frag) (C : Addr) (f : Str) : Sp := fun vs H Q E => ∃ (a : Addr) (v : V), vs = [.ref a, v] ∧ H a = some (exo a C none) ∧ ∀ dx, H dx = none → dx ≠ a → Q .non (upd (upd H dx (exd dx [(f, v)])) a (exo a C (some dx)))
section
variable {X : Cx} {CX : CXT} {k : Nat} {fI C : Addr} {fd : FuncData} {p1 p2 : Str} {f x : Str} {e : Expr} {te : TE} {p pos kpos : Pos}
/-- the class, its __init__ and what that keeps -/
structure OxI (X : Cx) (CX : CXT) (C fI : Addr) (fd : FuncData) (k : Nat) (f : Str) : Prop where
  T : OxC X.K C
  no : PySem.W.findIn X.K (.ref C) f = some none
  iC : PySem.W.findIn X.K (.ref C) "__init__" = some (some (.ref fI))
  tI : PySem.W.typeIn X.K (.ref fI) = some (.type "function")
  F : FnOk X.prog X.w X.K X.mg X.base CX k fI fd [("self" : Str), f] (spOx X.K C f)
theorem runX {pins : List (Addr × Obj)} {σ : L2.St} {H : Hp} {s : Shared} {Q : VK} {us : List Value} {kw : List (Str × Value)} {v : V} {u : Value} (O : OxI X CX C fI fd k f) (hr : Room (k + 1) X.A) (hx : Passes CX X (fun _ _ _ => False))
    (I : Inv X pins σ H s) (hl : us.length ≤ sizeLine) (hb : ∀ (s : Shared) (a : Addr), X.K.In s.heap → BindsTo s fd ⟨.ref a :: us, kw⟩ (([("self" : Str), f]).zip [.ref a, u])) (ru : RelV v u)
    (h : ∀ x H2, Same H H2 → ExAt H2 x C f v → Q x H2) : wpAny (model X.prog X.w) X.A (call (.ref C) us kw) (EP X pins σ Q) X.xe s := by
  obtain ⟨nm, q, N, bs, bm, sn, sub, ab, col, dd, k0, k1, k2, k3, k5, B, ni, ii, bmB, FB, hC, hT, _⟩ := O.T.cls
  obtain ⟨hp, g, dr, tk, os⟩ := s
  have hsz : hp.objs.size ≤ hp.objs.size + 1 := Nat.le_succ _
  have hn : H (hp.objs.size + 1) = none := I.hok.fresh hsz
  have kk : ∀ b o, hp.get? b = some o → ((hp.push (PySem.W.kdv_tup us)).push (PySem.HandSPX.excO C hp.objs.size)).get? b = some o := fun b o e => Heap.get?_push_of_some _ (Heap.get?_push_of_some _ e)
  have hget : ((hp.push (PySem.W.kdv_tup us)).push (PySem.HandSPX.excO C hp.objs.size)).get? (hp.objs.size + 1) = some (PySem.HandSPX.excO C hp.objs.size) := by heap_get
  have I2 : Inv X pins σ (upd H (hp.objs.size + 1) (exo (hp.objs.size + 1) C none)) ⟨(hp.push (PySem.W.kdv_tup us)).push (PySem.HandSPX.excO C hp.objs.size), g, dr, tk, os⟩ :=
    I.laid (t' := tk) (a := hp.objs.size + 1) (o := exo (hp.objs.size + 1) C none) (h' := (hp.push (PySem.W.kdv_tup us)).push (PySem.HandSPX.excO C hp.objs.size)) kk hsz (exo_ok hget)
  have sp : spOx X.K C f [.ref (hp.objs.size + 1), v] (upd H (hp.objs.size + 1) (exo (hp.objs.size + 1) C none)) (fun w H2 => w = .non ∧ Q (.ref (hp.objs.size + 1)) H2) (fun _ _ _ => False) := by
    refine ⟨_, v, rfl, upd_same, fun dx h1 h2 => ⟨rfl, h _ _ ?_ ⟨_, dx, rfl, upd_same, ?_⟩⟩⟩
    · have hd : H dx = none := by rw [upd_ne h2] at h1; exact h1
      intro b o eb
      have b1 : b ≠ hp.objs.size + 1 := ne_of_none eb hn
      have b2 : b ≠ dx := ne_of_none eb hd
      rw [upd_ne b1, upd_ne b2, upd_ne b1]
      exact eb
    · rw [upd_ne h2, upd_same]
  have r2 : Vals [V.ref (hp.objs.size + 1), v] [Value.ref (hp.objs.size + 1), u] := .cons rfl (.cons ru .nil)
  refine wpAny_call (callX FB hT (I.kIn _ _ hC) (PySem.W.looks_findIn I.kIn O.iC) (fun self => PySem.W.bind_fn I.kIn self O.tI) hl
    (codeAny_mono (O.F.run _ X.stack _ _ ⟨Value.ref (hp.objs.size + 1) :: us, kw⟩ [Value.ref (hp.objs.size + 1), u] _ _ (fun _ _ _ => False) (hr.make C us kw) (I2.env0.make C us kw) (hb _ _ I2.kIn) r2 sp) fun r s' hq' => ?_))
  cases r with
  | error er => exact hx pins σ _ _ er s' I2 hq'
  | ok fl =>
    cases fl with
    | ret u =>
      obtain ⟨w, H', I3, rv, ev, q3⟩ := I2.after hq'
      subst ev
      exact ⟨rv, ⟨V.ref (hp.objs.size + 1), H', I3, rfl, q3⟩⟩
    | next => exact False.elim hq'
    | brk => exact False.elim hq'
    | cont => exact False.elim hq'
/-- C(e) -/
def tOxV (C : Addr) (f : Str) (te : TE) : TE := fun σ H Q => te σ H fun v H1 => ∀ x H2, Same H1 H2 → ExAt H2 x C f v → Q x H2
theorem pe_oxP (O : OxI X CX C fI fd k f) (hr : Room (k + 1) X.A) (hx : Passes CX X (fun _ _ _ => False)) (hb : ∀ (s : Shared) (a : Addr) (u : Value), X.K.In s.heap → BindsTo s fd ⟨[.ref a, u], []⟩ (([("self" : Str), f]).zip [.ref a, u]))
    (hg : Gl X x) (hm : X.mg x = some (.ref C)) (he : PE X e te) (hdb : (x == ("__debug__" : Str)) = false := by decide) (hs : starEach [e] X.env = (false, eval e X.env) :: starEach [] X.env := by rfl) :
    PE X (.Call (.Name x p) [e] [] pos) (tOxV C f te) := by
  refine ⟨fun pins s σ H Q I h => ?_⟩
  refine wpAny_Call_Name_kw (ld_glob I hg hm ?_ hdb)
  refine PySem.W.callWith_K (h₀ := X.base) I.ok.mod.kin O.T.kC ?_ hs (by rfl)
  rw [hs]
  show wpAny _ _ (spliced ((false, eval e X.env) :: backTo pos (starEach [] X.env))) _ _ s
  refine Calls.spliced_cons (thn (he.run pins s σ H _ I h) fun u s1 ⟨v, H1, I1, r1, q1⟩ => ?_)
  refine Calls.spliced_nil ⟨I1.kIn, ?_⟩
  exact runX (us := [u]) (kw := []) O hr hx I1 (by show 1 ≤ sizeLine; rw [sizeLine_eq]; omega) (fun s a K => hb s a u K) r1 q1
/-- C(f=e) -/
theorem pe_oxK (O : OxI X CX C fI fd k f) (hr : Room (k + 1) X.A) (hx : Passes CX X (fun _ _ _ => False)) (hb : ∀ (s : Shared) (a : Addr) (u : Value), X.K.In s.heap → BindsTo s fd ⟨[.ref a], [(f, u)]⟩ (([("self" : Str), f]).zip [.ref a, u]))
    (hg : Gl X x) (hm : X.mg x = some (.ref C)) (he : PE X e te) (hdb : (x == ("__debug__" : Str)) = false := by decide) :
    PE X (.Call (.Name x p) [] [⟨some f, e, kpos⟩] pos) (tOxV C f te) := by
  refine ⟨fun pins s σ H Q I h => ?_⟩
  refine wpAny_Call_Name_kw (ld_glob I hg hm ?_ hdb)
  refine PySem.W.callWith_KW0 (h₀ := X.base) I.ok.mod.kin O.T.kC (by rfl) ?_ (by rfl)
  refine thn ((pk_cons (nm := some f) (kpos := kpos) he pk_nil).run pos pins s σ H (fun zs H2 => match zs with | [v] => ∀ x H3, Same H2 H3 → ExAt H3 x C f v → Q x H3 | _ => False) I h) fun ws s2 ⟨zs, H2, I2, rz, q2⟩ => ⟨I2.kIn, ?_⟩
  match zs, ws, rz, q2 with
  | [v], _, .cons r1 .nil, q2 => exact runX (us := []) (kw := [(f, _)]) O hr hx I2 (Nat.zero_le _) (fun s a K => hb s a _ K) r1 q2
end
end VX

namespace VX
open PySem PySem.Spec PyProof.Rows L2 VR
/-! ### fields, isinstance -/
def tOxF (K : PySem.W.Frag) (f : Str) (te : TE) : TE := fun σ H Q => te σ H fun x H1 => ∃ (C : Addr) (v : V), ExAt H1 x C f v ∧ OxC K C ∧ PySem.W.findIn K (.ref C) f = some none ∧ Q v H1
theorem pe_oxf {X : Cx} {e : Expr} {te : TE} {pos : Pos} {n : Str} (he : PE X e te) (hb : attributeBase e n X.env (eval e X.env) = eval e X.env := by rfl) : PE X (.Attribute e n pos) (tOxF X.K n te) := by
  refine ⟨fun pins s σ H Q I h => ?_⟩
  refine attr_of hb (thn (he.run pins s σ H _ I h) fun u s1 ⟨x, H1, I1, rx, C, v, hx, T, hno, q⟩ => ?_)
  obtain ⟨a, dx, rfl, ea, ed⟩ := hx
  obtain rfl : u = Value.ref a := rx
  obtain ⟨t1, ho⟩ := exo_at I1.hok ea
  obtain ⟨mA, hns, hr⟩ := exd_at I1.hok ed
  obtain ⟨od, hod, hl⟩ := lookIn_ns hns
  obtain ⟨u, hu, ru⟩ := RelO.some_of (v := v) (o := mA n) (by have := hr n; simpa [List.lookup] using this)
  have J : PySem.W.InstAt s1.heap a _ C (some od) := ⟨ho, rfl, rfl, hod⟩
  exact HandSPX.exc_get I1.kIn J T.ga T.gg T.ex (PySem.W.findObj_own T.hd hno rfl (by rw [hl, hu])) (handed_of ru) ⟨v, H1, I1.tok _, ru, q⟩
/-- isinstance(e, c), e such an exception -/
def rIsX (K : PySem.W.Frag) : List V → Hp → VK → Prop := fun xs H Q => ∃ (x c : V) (cv : Value) (C : Addr) (f : Str) (v : V) (b : Bool), xs = [x, c] ∧ ClsV c cv ∧ ExAt H x C f v ∧ OxC K C ∧ PySem.W.kitOne K (.ref C) cv = some b ∧ Q (.bl b) H
theorem call_isX {X : Cx} : CallR X (.builtin "isinstance") (rIsX X.K) := by
  intro pins s σ H xs us Q I r h
  obtain ⟨x, c, cv, C, f, v, b, rfl, hc, hx, T, e, q⟩ := h
  obtain ⟨a, dx, rfl, ea, ed⟩ := hx
  obtain ⟨u1, u2, rfl, r1, r2⟩ := vals2 r
  have e2 := hc.eq r2
  subst e2
  obtain rfl : u1 = Value.ref a := r1
  obtain ⟨t1, ho⟩ := exo_at I.hok ea
  obtain ⟨mA, hns, hr⟩ := exd_at I.hok ed
  obtain ⟨od, hod, hl⟩ := lookIn_ns hns
  have J : PySem.W.InstAt s.heap a _ C (some od) := ⟨ho, rfl, rfl, hod⟩
  exact PySem.W.kia_one (PySem.W.kitx_exc T.cin T.ga T.gg T.ex T.ac T.an T.tk T.mo) I.kIn J e (fun z => nomatch z) fun tk => ⟨.bl b, H, I.tok tk, rfl, q⟩
/-! ### repr of a list -/
/-- the items' data: no dict among them, or all the one empty dict -/
def Rpd (K : PySem.W.Frag) (H : Hp) (vs : List V) (ds : List PyData) : Prop :=
  (DpAll K H vs ds ∧ PyData.hasDictAll ds = false) ∨ ∃ (b : Addr) (n : Nat), H b = some (.dT []) ∧ vs = List.replicate n (.ref b) ∧ ds = List.replicate n (.dict [])
theorem reads_dicts {h : Heap} {b : Addr} {o : Obj} {ep : Nat} (e : h.get? b = some o) (c : o.cls = .type "dict") (d : o.data = .dict #[] ep) (nb : b ≠ sysModules) : ∀ (n : Nat) (us : List Value), Vals (List.replicate n (V.ref b)) us →
    ∃ as, ReadsAll h us (List.replicate n (.dict [])) as ∧ sysModules ∉ as
  | 0, _, r => by
    cases r
    exact ⟨[], .nil, fun z => nomatch z⟩
  | n + 1, _, r => by
    rw [List.replicate_succ] at r
    cases r with
    | cons r1 r2 =>
      obtain ⟨as, h1, h2⟩ := reads_dicts e c d nb n _ r2
      obtain rfl := (show _ = Value.ref b from r1)
      refine ⟨([b] ++ []) ++ as, ?_, ?_⟩
      · rw [List.replicate_succ]
        exact .cons (.dict (kvs := []) e c d .nil .nil) h1
      · intro z
        rcases List.mem_append.mp z with z | z
        · simp at z
          exact nb z.symm
        · exact h2 z
theorem Rpd.reads {X : Cx} {pins : List (Addr × Obj)} {σ : L2.St} {H : Hp} {s : Shared} {vs : List V} {ds : List PyData} {us : List Value} (I : L2.Inv X pins σ H s) (h : Rpd X.K H vs ds) (r : Vals vs us) :
    ∃ as, ReadsAll s.heap us ds as ∧ (PyData.hasDictAll ds = true → sysModules ∉ as) := by
  rcases h with ⟨h1, h2⟩ | ⟨b, n, hb, rfl, rfl⟩
  · obtain ⟨as, q⟩ := Dp.readsAll I ds vs us h1 r
    exact ⟨as, q, fun z => by rw [h2] at z; cases z⟩
  · obtain ⟨_, nb, xs, pr, o, es, ep, e1, e2, e3, e4, _⟩ := (show ObjOk X.prog X.w H s.heap b (.dT []) from I.hok b _ hb)
    cases pr
    have es0 : es = #[] := by
      have : es.toList = [] := by rw [e4]; rfl
      exact Array.toList_eq_nil_iff.mp this
    subst es0
    obtain ⟨as, q, z⟩ := reads_dicts e1 e2.1 e3 (beq_eq_false_iff_ne.mp nb) n us r
    exact ⟨as, q, fun _ => z⟩
def rReprL (K : PySem.W.Frag) : List V → Hp → VK → Prop := fun xs H Q => ∃ (a : Addr) (v : V) (vs : List V) (ds : List PyData), xs = [.ref a] ∧ SqL K H a (v :: vs) ∧ Rpd K H (v :: vs) ds ∧ PyData.showableAll ds = true ∧ PyData.depthAll ds ≤ 8 ∧
  (listText (PyData.shownAll ds)).length ≤ sizeLine ∧ Q (.str (listText (PyData.shownAll ds))) H
theorem call_reprL {X : Cx} {k : Nat} (hg : X.A.guards = some []) (hr : Room k X.A) : CallR X (.builtin "repr") (rReprL X.K) := by
  intro pins s σ H xs us Q I r h
  obtain ⟨a, v, vs, ds, rfl, hl, hd, hs, hdp, hz, q⟩ := h
  obtain ⟨u, rfl, r1⟩ := vals1 r
  obtain rfl : u = Value.ref a := r1
  obtain ⟨its, rv, ⟨o, n, ho, hc, _, hda⟩, _⟩ := I.list hl
  obtain ⟨as, ra, hsm⟩ := hd.reads I rv
  cases rv with
  | @cons _ u0 _ ur r1 r2 =>
    obtain ⟨bs, hb, hk⟩ := ReprAllK.of_readsAll (prog := X.prog) (w := X.w) ra hs hsm (fun t ht => Nat.le_trans (listText_mem_le ht) hz)
    have hna : a ∉ bs := not_mem_of_deeper (.list ho hc hda (by simpa using ra)) (by simp only [PyData.depth]; omega) hb
    have hu := hr.units
    refine call_repr_slot (by omega) ⟨o, ho, hc⟩ F.slot_list_repr.toG ?_
    exact call_list_reprK ho hc hda hna (by simpa using hk.length_eq) (fun i y e => hk.item i y (by simpa using e)) (g := []) (by exact hg) (fun b _ => Clear.nil b) (by show X.A.units + 1 + _ < cLine; omega) (fun _ _ e => e)
      (fun h' u tk hk' => ⟨_, _, rfl, .str _, H, I.kept hk', ⟨u, rfl⟩, q⟩) hz
end VX

/-! A law whose def shows lists: its call where nothing is being shown yet. -/
namespace VX
open PySem PySem.Spec PyProof.Rows L2 VR
/-- the call keeps sp wherever nothing is being shown -/
def RunG (P : Program) (w : World) (K : PySem.W.Frag) (mg : Str → Option Value) (base : Heap) (CX : CXT) (k : Nat) (f : Addr) (fd : FuncData) (ps : List Str) (sp : Sp) : Prop :=
  ∀ (A : Around) (outer : List Env) (s : Shared) (H : Hp) (args : Args) (us : List Value) (vs : List V) (Q : VK) (E : XK), A.guards = some [] → Room k A → Env0 P w K mg base A outer s H → BindsTo s fd args (ps.zip us) → Vals vs us → sp vs H Q E →
    codeAny (model P w) A (.call (.ref f) args) (CR CX outer P w H s Q E) s
theorem runG_of {CX : CXT} {P : Program} {w : World} {K : PySem.W.Frag} {mg : Str → Option Value} {base : Heap} {k : Nat} {f : Addr} {name qual : Str} {params : Arguments} {body : List Stmt} {scope : Scope} {dV kV doc pm cdv ct oc : Value} {an od : Option Addr}
    {osl : Array (Option Value)} {N ps : List Str} {sp : Sp} (lk : K.lookup f = some ⟨oc, od, .func (PySem.W.fnOf name qual params body scope dV kV doc pm an cdv ct), osl⟩) (cdK : PySem.W.codeIn K cdv qual = true) (S : FnScope N ps scope)
    (len : ∀ vs H Q E, sp vs H Q E → vs.length = ps.length)
    (bd : ∀ (A : Around) (outer : List Env) (s : Shared) (H : Hp) (vs : List V) (Q : VK) (E : XK), A.guards = some [] → Room k (A.deeper (envOfC qual scope s.heap.objs.size f cdv)) → sp vs H Q E →
      ∃ t, PSs (cxOf CX P w K mg base N qual scope f cdv A outer s H E) body t ∧ t { nx := fun _ H' => Q .non H', rt := Q } (start N vs) H) :
    RunG P w K mg base CX (k + 1) f (PySem.W.fnOf name qual params body scope dV kV doc pm an cdv ct) ps sp := by
  intro A outer s H args us vs Q E hg room e0 hb r hsp
  have ln := len _ _ _ _ hsp
  have up : ∀ b o, base.get? b = some o → s.heap.get? b = some o := fun b o e => (e0.bs b o e).1
  have kinds : ∀ y ∈ ps.zip us, scope.names.lookup y.1 = some .local ∨ (scope.names.lookup y.1 = some .cell ∧ ((cellsFrom (s.heap.objs.size + 1) scope.names []).lookup y.1).isSome = true) := fun ⟨n, v⟩ hy =>
    (S.par n (List.of_mem_zip hy).1).imp id fun q => ⟨q, PySem.W.cellsFrom_some _ _ _ (.inl q)⟩
  have KX : K.In s.heap := e0.mod.kin.keeps up
  refine codeAny_call_function room.depth (KX _ _ lk) rfl S.co S.gen rfl (PySem.W.codeRec_of KX cdK) (hb _ _ _ _ (wpAny_newFunctionEnv_cells S.kind kinds fun env he s1 x => ?_))
  subst he
  refine ⟨(e0.mod.nolimit.keeps up).keeps x.toInCall.keep, codeAny_func ?_⟩
  obtain ⟨t, ht, hq⟩ := bd A outer s H vs Q E hg (room.deeper _) hsp
  refine wpAny_mono (ht.run [] s1 (start N vs) H _ (inv_start S room.hd e0 ln r x) hq) (fun fl s' hs => ?_) fun e s' hs => hs
  match fl, hs with
  | .ret u, ⟨v, σ', H', J, rv, q⟩ => exact ⟨v, H', J.os, J.bare, J.base, J.hok, rv, q⟩
  | .next, ⟨σ', H', J, q⟩ => exact ⟨V.non, H', J.os, J.bare, J.base, J.hok, rfl, q⟩
  | .brk, ⟨_, _, _, q⟩ => exact q.elim
  | .cont, ⟨_, _, _, q⟩ => exact q.elim
theorem okG {P : Program} {w : World} {K : PySem.W.Frag} {mg : Str → Option Value} {base : Heap} {x qual : Str} {st : Stmt} {f : Addr} {fd : FuncData} {N ps : List Str} {k : Nat} {sp : Sp} (F : Fun K x qual st f fd) (S : FnScope N ps (defScope st)) (len : ∀ vs H Q E, sp vs H Q E → vs.length = ps.length)
    (bd : ∀ (cdv : Value) (A : Around) (outer : List Env) (s : Shared) (H : Hp) (vs : List V) (Q : VK) (E : XK), A.guards = some [] → Room k (A.deeper (envOfC qual (defScope st) s.heap.objs.size f cdv)) → sp vs H Q E →
      ∃ t, PSs (cxOf CX0 P w K mg base N qual (defScope st) f cdv A outer s H E).nox (defBody st) t ∧ t { nx := fun _ H' => Q .non H', rt := Q } (start N vs) H) : RunG P w K mg base CX0 (k + 1) f fd ps sp := by
  obtain ⟨oc, od, kV, doc, pm, an, cdv, ct, osl, rfl, lk, hcd⟩ := F.ex
  refine runG_of lk hcd S len fun A outer s H vs Q E hg hr hsp => ?_
  obtain ⟨t, h, q⟩ := bd cdv A outer s H vs Q E hg hr hsp
  exact ⟨t, h.nox, q⟩
/-- the law's call -/
theorem callG {P : Program} {w : World} {K : PySem.W.Frag} {mg mb : Str → Option Value} {CX : CXT} {k : Nat} {fa a : Addr} {fd : FuncData} {x : Str} {sp : Sp} {s₁ : Shared} {vs : List Value} {ns : List Int}
    (KX : K.In s₁.heap) (hns : s₁.heap.Ns mainGlobals mg) (hb : s₁.heap.Ns builtinsNs mb) (hbb : ∀ x : Str, x ≠ "__name__" → mb x = bootBuiltins x) (lim : s₁.heap.NoLimit) (hg : s₁.gens = #[])
    (ha : s₁.heap.get? a = some { cls := .type "list", data := .seq vs.toArray }) (hi : IntsAre vs ns) (hl : ns.length ≤ sizeLine) (room : Room k callerA)
    (F : ∀ base : Heap, K.In base → base.Ns mainGlobals mg → RunG P w K mg base CX k fa fd [x] sp) (bind : ∀ (s : Shared) (u : Value), BindsTo s fd ⟨[u], []⟩ [(x, u)])
    (hsp : ∀ H : Hp, Only H → SqL K H a (ns.map V.int) → sp [.ref a] H (fun v _ => v = .bl true) fun _ _ _ => False)
    (hCX : ∀ H e s', CX [] H s₁ (fun _ _ _ => False) e s' → False) :
    codeAny (model P w) callerA (.call (.ref fa) ⟨[.ref a], []⟩) (fun r s' => r = .ok (.ret (.bool true)) ∧ OldK s₁.heap s'.heap ∧ s'.os = s₁.os ∧ AllBare s'.gens) s₁ := by
  have rv := vals_ints hi
  have lv := hi.length
  suffices main : ∀ H : Hp, Only H → SqL K H a (ns.map V.int) → HOk P w H s₁.heap → (∀ b, H b ≠ none → b = a ∧ K.lookup a = none) →
      codeAny (model P w) callerA (.call (.ref fa) ⟨[.ref a], []⟩) (fun r s' => r = .ok (.ret (.bool true)) ∧ OldK s₁.heap s'.heap ∧ s'.os = s₁.os ∧ AllBare s'.gens) s₁ by
    cases hk : K.lookup a with
    | some o =>
      have e := KX a o hk
      rw [ha] at e
      cases e
      exact main (fun _ => none) (fun _ => .inl rfl) (.inr ⟨_, vs.toArray, _, hk, rfl, rfl, rfl, by rw [List.size_toArray, lv]; exact hl, by simpa using rv⟩) (fun b u z => nomatch (show (none : Option HO) = some u from z)) fun b z => absurd rfl z
    | none =>
      refine main (fun b => if b = a then some (.frz { cls := .type "list", data := .seq vs.toArray } (.lst (ns.map V.int))) else none) (fun b => ?_) (.inl (.inr ⟨{ cls := .type "list", data := .seq vs.toArray }, if_pos rfl⟩)) (fun b u z => ?_) (fun b z => ?_)
      · by_cases hb : b = a
        · exact .inr ⟨_, _, if_pos hb⟩
        · exact .inl (if_neg hb)
      · by_cases hb : b = a
        · cases (if_pos hb).symm.trans z
          subst hb
          exact ⟨ha, by rw [List.length_map]; exact hl, vs, _, rv, ha⟩
        · cases (if_neg hb).symm.trans z
      · by_cases hb : b = a
        · exact ⟨hb, hk⟩
        · exact absurd (if_neg hb) z
  intro H only hS hok hA
  have free : ∀ {b : Addr} {o : Obj} {es : Array DictEntry} {ep : Nat}, s₁.heap.get? b = some o → o.data = .dict es ep → H b = none := fun {b o es ep} e d => by
    cases q : H b with
    | none => rfl
    | some u =>
      obtain ⟨rfl, _⟩ := hA b (by rw [q]; simp)
      rw [ha] at e
      cases e
      exact nomatch (show Data.seq vs.toArray _ = Data.dict es ep from d)
  have nsK : ∀ {b : Addr} {m : Str → Option Value}, s₁.heap.Ns b m → (hidT s₁.heap H).Ns b m := fun {b m} ⟨o, es, ep, e, d, r⟩ => ⟨o, es, ep, hidT_get e (free e d), d, r⟩
  have KB : K.In (hidT s₁.heap H) := fun b o e => hidT_get (KX b o e) (by
    cases q : H b with
    | none => rfl
    | some u =>
      obtain ⟨rfl, z⟩ := hA b (by rw [q]; simp)
      rw [z] at e
      cases e)
  obtain ⟨mc, m1, m2⟩ := lim
  have e0 : Env0 P w K mg (hidT s₁.heap H) callerA [] s₁ H :=
    ⟨rfl, ⟨KB, nsK hns, ⟨mb, nsK hb, hbb⟩, ⟨mc, nsK m1, m2⟩⟩, fun b o e => of_hidT e, Nat.le_of_eq (hidT_size _ _), trivial, fun b hb => absurd (show b ∈ ([] : List Addr) from hb) (by simp), hok, .of_eq hg⟩
  refine codeAny_mono (F _ KB (nsK hns) callerA [] s₁ H ⟨[.ref a], []⟩ [.ref a] [.ref a] _ _ rfl room e0 (bind s₁ (.ref a)) (.cons rfl .nil) (hsp H only hS)) fun r s' h => ?_
  match r, h with
  | .error e, h => exact (hCX H e s' h).elim
  | .ok .next, h => exact h.elim
  | .ok .brk, h => exact h.elim
  | .ok .cont, h => exact h.elim
  | .ok (.ret u), ⟨v, H', os, bare, un, hok', r', q⟩ =>
    obtain rfl : v = .bl true := q
    obtain rfl : u = Value.bool true := r'
    refine ⟨rfl, OldK.of_keep fun b o e => ?_, os, bare⟩
    rcases only b with z | ⟨ob, xs, z⟩
    · exact un.keep b o e z (fun z => nomatch (show b ∈ ([] : List Addr) from z)) (by simp)
    · obtain ⟨e1, _⟩ := hok b _ z
      obtain ⟨e2, _⟩ := hok' b _ (un.frzs b ob _ z)
      rw [e] at e1
      cases e1
      exact e2
theorem walk_G {l : PySem.W.OpenLaw} {n k : Nat} {q : Program} {loose : List Str} {XP : (Str → Option Value) → Heap → Prop} {YP : World → Heap → Prop} {d : DefRec} {K : Params → PySem.W.Frag} {CX : CXT} {sp : PySem.W.Frag → Sp} {x : Str}
    (hn : l.most = some n) (hn2 : n ≤ sizeLine) (hdf : d.params.defaults = []) (hr : Room k callerA)
    (hY : ∀ (w : World) (h : Heap), YP w h → (K w.params).In h)
    (F : ∀ (w : World) (mg : Str → Option Value) (fa : Addr) (h : Heap), (K w.params).In h → h.Ns mainGlobals mg → mg d.name = some (.ref fa) →
      ∃ fd : FuncData, (∀ (s : Shared) (u : Value), BindsTo s fd ⟨[u], []⟩ [(x, u)]) ∧
        ∀ base : Heap, (K w.params).In base → base.Ns mainGlobals mg → RunG l.prog w (K w.params) mg base CX k fa fd [x] (sp (K w.params)))
    (hsp : ∀ (K : PySem.W.Frag) (H : Hp) (a : Addr) (ns : List Int), ns.length ≤ n → Only H → SqL K H a (ns.map V.int) → sp K [.ref a] H (fun v _ => v = .bl true) fun _ _ _ => False)
    (hCX : ∀ (H : Hp) (s : Shared) (e : Value) (s' : Shared), CX [] H s (fun _ _ _ => False) e s' → False) :
    PySem.W.WalkO q loose XP YP l.row.toRowW d [] (fun f vs => PySem.call f vs) := by
  refine Att.attach_call hn hdf fun w s₀ s₁ mg mb fa o pm cd doc a vs ns G Y ho hd hcd hmg hobj hints hlen hg => ?_
  have KX := hY w _ Y
  obtain ⟨fd, bind, FF⟩ := F w mg fa _ KX G.T.g hmg
  exact callG KX G.T.g G.T.b G.T.builtins G.T.nolimit hg hobj hints (Nat.le_trans hlen hn2) hr FF bind (fun H only hS => hsp _ H a ns hlen only hS) fun H e s' => hCX H s₁ e s'
end VX

/-! t * k for a tuple t and k = 0 or 1 (HandS.TupMul has k from 2 on). -/
namespace VX
open PySem PySem.Spec PyProof.Rows L2 VR
theorem mul0 (l : Addr) (items : Array Value) (n : Nat) (dd : Option Addr) (sl : Array (Option Value)) (u : Tok) (c1 : (items.isEmpty || (0 : Int) == 1) = false) :
    Meets (Builtin.«tuple.__mul__» ⟨[.ref l, .int 0 u], []⟩) (fun _ R s => s.heap.get? l = some { cls := .type "tuple", dict := dd, data := .seq items n, slots := sl } ∧
      R (.ok (.ret (Value.ref s.heap.objs.size))) { s with heap := s.heap.push { cls := Value.type "tuple", data := Data.seq #[] }, toks := s.toks }) :=
  .of_wp fun prog w A R s h => by
    obtain ⟨hp, g, d, tk, os⟩ := s
    obtain ⟨hl, h⟩ := h
    have f1 := AutoSeq1.idx_int
    wp_walk using wpAny_loadPart' hl
    repeat (first
      | (refine wpAny_ite_false (decide_eq_false (by decide)) ?_; wp_walk using wpAny_loadPart' hl)
      | (refine wpAny_ite_false (decide_eq_false (by rw [c1]; exact Bool.false_ne_true)) ?_; wp_walk using wpAny_loadPart' hl)
      | (refine wpAny_ite_true (decide_eq_true (by decide)) ?_; wp_walk using wpAny_loadPart' hl))
    exact ⟨_, rfl, h⟩
theorem mul1 (l : Addr) (items : Array Value) (n : Nat) (dd : Option Addr) (sl : Array (Option Value)) (u : Tok) :
    Meets (Builtin.«tuple.__mul__» ⟨[.ref l, .int 1 u], []⟩) (fun _ R s => s.heap.get? l = some { cls := .type "tuple", dict := dd, data := .seq items n, slots := sl } ∧ R (.ok (.ret (Value.ref l))) s) :=
  .of_wp fun prog w A R s h => by
    obtain ⟨hp, g, d, tk, os⟩ := s
    obtain ⟨hl, h⟩ := h
    have f1 := AutoSeq1.idx_int
    have c1 : (items.isEmpty || (1 : Int) == 1) = true := by simp
    wp_walk using wpAny_loadPart' hl
    repeat (first
      | (refine wpAny_ite_false (decide_eq_false (by decide)) ?_; wp_walk using wpAny_loadPart' hl)
      | (refine wpAny_ite_true (decide_eq_true (by rw [c1])) ?_; wp_walk using wpAny_loadPart' hl))
    exact ⟨_, rfl, h⟩
/-- t * k, t not empty, 0 ≤ k -/
def rRepA (K : PySem.W.Frag) : R2 := fun x y H Q => ∃ (l : Addr) (k : Nat) (xs : List V), x = .ref l ∧ y = .int (k : Int) ∧ SqT K H l xs ∧ xs ≠ [] ∧ k ≤ 1000 ∧ xs.length ≤ 1000 ∧
  ((k = 1 ∧ Q (.ref l) H) ∨ (k ≠ 1 ∧ ∀ p, H p = none → Q (.ref p) (upd H p (.tup (List.replicate k xs).flatten))))
theorem op_repA {X : Cx} : OpR X (binaryOp .Mult) (rRepA X.K) := by
  intro pins s σ H x y v u Q I rx ry h
  obtain ⟨l, k, xs, rfl, rfl, hT, hne, hk, hz, q⟩ := h
  by_cases h2 : 2 ≤ k
  · rcases q with ⟨e, _⟩ | ⟨_, q⟩
    · omega
    · exact op_repT pins s σ H _ _ v u Q I rx ry ⟨l, (k : Int), xs, rfl, rfl, hT, hne, by omega, by omega, hz, fun p hp => q p hp⟩
  cases rx
  obtain ⟨t, rfl⟩ := ry
  obtain ⟨its, r, ⟨⟨cls, dd, data, sl⟩, ho, hc, n, hd⟩, hs⟩ := I.tuple hT
  simp only at hc hd
  subst hc hd
  have hn : its ≠ [] := fun e => hne (by
    rw [e] at r
    cases r
    rfl)
  have hi : its.toArray.isEmpty = false := by
    cases its with
    | nil => exact absurd rfl hn
    | cons a b => rfl
  rcases q with ⟨rfl, q⟩ | ⟨n1, q⟩
  · exact wpAny_binaryOp_repeat_ref (T := "tuple") (U := "int") (by decide) ⟨_, ho, rfl⟩ (fun s' => typeIs_int s' _ t) noFill_tuple_mul F.fills_int_mul F.slot_int_rmul repeat_tuple F.slot_int_index.lookup
      (call_meets F.slot_int_rmul (typeIs_int s _ t) F.entry_int_rmul (F.args_int_rmul_2 _ _) (int_rmul_tuple _ t l its.toArray n dd sl)
        ⟨ho, rfl, ⟨_, ho, rfl⟩, call_meets F.slot_tuple_mul ⟨_, ho, rfl⟩ F.entry_tuple_mul (F.args_tuple_mul_2 _ _) (mul1 l its.toArray n dd sl t) ⟨ho, ⟨.ref l, H, I, rfl, q⟩⟩⟩)
  · have k0 : k = 0 := by omega
    subst k0
    have c1 : (its.toArray.isEmpty || (0 : Int) == 1) = false := by rw [hi]; rfl
    refine wpAny_binaryOp_repeat_ref (T := "tuple") (U := "int") (by decide) ⟨_, ho, rfl⟩ (fun s' => typeIs_int s' _ t) noFill_tuple_mul F.fills_int_mul F.slot_int_rmul repeat_tuple F.slot_int_index.lookup
      (call_meets F.slot_int_rmul (typeIs_int s _ t) F.entry_int_rmul (F.args_int_rmul_2 _ _) (int_rmul_tuple _ t l its.toArray n dd sl)
        ⟨ho, rfl, ⟨_, ho, rfl⟩, call_meets F.slot_tuple_mul ⟨_, ho, rfl⟩ F.entry_tuple_mul (F.args_tuple_mul_2 _ _) (mul0 l its.toArray n dd sl t c1) ⟨ho, ?_⟩⟩)
    refine ⟨.ref s.heap.objs.size, _, I.laid (t' := s.toks) (o := .tup []) (fun b ob q => Heap.get?_push_of_some _ q) (Nat.le_refl _) ?_, rfl, q _ (I.hok.fresh (Nat.le_refl _))⟩
    exact ⟨Nat.zero_le _, [], .nil, IsTup.new _ _⟩
/-- t * k, one answer for all k -/
def rRepW (K : PySem.W.Frag) : R2 := fun x y H Q => ∃ (l : Addr) (k : Nat) (xs : List V), x = .ref l ∧ y = .int (k : Int) ∧ SqT K H l xs ∧ xs ≠ [] ∧ k ≤ 1000 ∧ xs.length ≤ 1000 ∧
  ∀ (tz : Addr) (Hz : Hp), Same H Hz → SqT K Hz tz (List.replicate k xs).flatten → Q (.ref tz) Hz
theorem op_repW {X : Cx} : OpR X (binaryOp .Mult) (rRepW X.K) := by
  intro pins s σ H x y v u Q I rx ry h
  obtain ⟨l, k, xs, e1, e2, hT, hne, hk, hz, q⟩ := h
  refine op_repA pins s σ H x y v u Q I rx ry ⟨l, k, xs, e1, e2, hT, hne, hk, hz, ?_⟩
  by_cases h : k = 1
  · refine .inl ⟨h, q l H (Same.refl _) ?_⟩
    rw [h]
    simpa using hT
  · exact .inr ⟨h, fun p hp => q p _ (Same.new hp) (.of upd_same)⟩
/-- t + u of tuples, one answer for all -/
def rCatW (K : PySem.W.Frag) : R2 := fun x y H Q => ∃ (a b : Addr) (xs ys : List V), x = .ref a ∧ y = .ref b ∧ SqT K H a xs ∧ SqT K H b ys ∧ xs.length + ys.length ≤ sizeLine ∧
  ∀ (tz : Addr) (Hz : Hp), Same H Hz → SqT K Hz tz (xs ++ ys) → Q (.ref tz) Hz
theorem op_catW {X : Cx} : OpR X (binaryOp .Add) (rCatW X.K) := by
  intro pins s σ H x y v u Q I rx ry h
  obtain ⟨a, b, xs, ys, e1, e2, ha, hb, hz, q⟩ := h
  refine op_catA pins s σ H x y v u Q I rx ry ⟨a, b, xs, ys, e1, e2, ha, hb, hz, fun e => q b H (Same.refl _) (by rw [e]; exact hb), fun _ e => q a H (Same.refl _) (by rw [e, List.append_nil]; exact ha), fun _ _ p hp => q p _ (Same.new hp) (.of upd_same)⟩
end VX

/-! repr of data that hold no dict. -/
namespace VX
open PySem PySem.Spec PyProof.Rows L2 VR
def rReprB : List V → Hp → VK → Prop := fun xs H Q => ∃ b : Bool, xs = [.bl b] ∧ Q (.str (if b then "True" else "False")) H
theorem call_reprB {X : Cx} : CallR X (.builtin "repr") rReprB := by
  intro pins s σ H xs us Q I r h
  obtain ⟨b, rfl, q⟩ := h
  obtain ⟨u, rfl, r1⟩ := vals1 r
  obtain rfl : u = Value.bool b := r1
  exact PySem.P.repr_of_bool ⟨.str _, H, I.tok _, ⟨_, rfl⟩, q⟩
/-- repr of any data without dicts -/
def rReprD (K : PySem.W.Frag) : List V → Hp → VK → Prop := fun xs H Q => ∃ (v : V) (d : PyData), xs = [v] ∧ Dp K H v d ∧ d.showable = true ∧ d.hasDict = false ∧ d.depth ≤ 8 ∧ d.shown.length ≤ sizeLine ∧ Q (.str d.shown) H
theorem call_reprD {X : Cx} (hg : X.A.guards = some []) (hu : X.A.units + 64 < cLine) : CallR X (.builtin "repr") (rReprD X.K) := by
  intro pins s σ H xs us Q I r h
  obtain ⟨v, d, rfl, hd, hs, hn, hp, hz, q⟩ := h
  obtain ⟨u, rfl, r1⟩ := vals1 r
  cases hd with
  | non =>
    obtain rfl : u = Value.none := r1
    exact PySem.P.repr_of_none ⟨.str _, H, I.tok _, ⟨_, rfl⟩, by simpa [PyData.shown] using q⟩
  | bl b =>
    obtain rfl : u = Value.bool b := r1
    exact PySem.P.repr_of_bool ⟨.str _, H, I.tok _, ⟨_, rfl⟩, by simpa [PyData.shown] using q⟩
  | int i =>
    obtain ⟨t, rfl⟩ := r1
    exact PySem.P.repr_of_int (by simpa [PyData.showable] using hs) ⟨.str _, H, I.tok _, ⟨_, rfl⟩, by simpa [PyData.shown] using q⟩
  | str x =>
    obtain ⟨t, rfl⟩ := r1
    exact PySem.P.repr_of_str ⟨.str _, H, I.tok _, ⟨_, rfl⟩, by simpa [PyData.shown] using q⟩ (by simpa [PyData.shown] using hz)
  | @lst a xs ds h1 h2 =>
    obtain rfl : u = Value.ref a := r1
    obtain ⟨as, ra⟩ := Dp.reads I _ _ _ (Dp.lst h1 h2) rfl
    exact repr_of_reads' ra hs (fun z => by rw [hn] at z; cases z) hg (by omega) (fun _ _ e => e) (fun h' u tk hk => ⟨.str _, H, I.kept hk, ⟨_, rfl⟩, q⟩) hz
  | @tup a xs ds h1 h2 =>
    obtain rfl : u = Value.ref a := r1
    obtain ⟨as, ra⟩ := Dp.reads I _ _ _ (Dp.tup h1 h2) rfl
    exact repr_of_reads' ra hs (fun z => by rw [hn] at z; cases z) hg (by omega) (fun _ _ e => e) (fun h' u tk hk => ⟨.str _, H, I.kept hk, ⟨_, rfl⟩, q⟩) hz
end VX

/-! Several except clauses with names; a def that shows lists, called; len by an own __len__; lcm. -/
namespace VX
open PySem PySem.Spec PyProof.Rows L2 VR
/-- the wishes of clauses that name the error, one behind the other -/
def wAsMany (K : PySem.W.Frag) (Wo : WX) (D : Ends) : List (Value × Nat × (Addr → Value → Option Addr → TS)) → WX
  | [] => Wo
  | (c, i, ts) :: r => wAs K c i ts (wAsMany K Wo D r) D
inductive HdAs (Y : Cx) : List ExceptHandler → List (Value × Nat × (Addr → Value → Option Addr → TS)) → Prop
  | nil : HdAs Y [] []
  | cons {x n : Str} {c : Value} {i : Nat} {ts : Addr → Value → Option Addr → TS} {b1 : Stmt} {bs : List Stmt} {p1 p2 : Pos} {hs : List ExceptHandler} {l : List (Value × Nat × (Addr → Value → Option Addr → TS))} (hn : Y.N[i]? = some n) (hk : Y.env.kindOf n = some .local) (hc : Names Y x c)
      (hq : ∀ (e : Addr) (o : Obj) (k : Value) (d : Option Addr) (w : List (Addr × Obj)), Zc k d o → (∃ vs, o.data = .fields vs) → PSs (Y.suite e ((e, o) :: w)) (b1 :: bs) (ts e k d)) (r : HdAs Y hs l) :
      HdAs Y (.ExceptHandler (some (.Name x p1)) (some n) (b1 :: bs) p2 :: hs) ((c, i, ts) :: l)
section
variable {Y : Cx} {body : List Stmt} {h1 : ExceptHandler} {hs : List ExceptHandler} {l : List (Value × Nat × (Addr → Value → Option Addr → TS))} {pos : Pos} {tb : WX → TS} {Wo : WX}
theorem ps_try_asMany (st : Y.stack = Y.env :: Y.outer) (fr : Y.env.frame = some Y.env.locals) (nd : Y.N.Nodup) (tk : Takes Y Wo)
    (hb : ∀ (W : WX) (w : List (Addr × Obj)) (xe : Value → Shared → Prop), Takes (Y.tr w xe) W → PassesOwn (model Y.prog Y.w) Y.A Y.env xe → PSs (Y.tr w xe) body (tb W)) (hh : HdAs Y (h1 :: hs) l) :
    PS Y (.Try body (h1 :: hs) [] [] pos) (fun D σ H => tb (wAsMany Y.K Wo D l) D σ H) := by
  refine ⟨fun pins s σ H D I0 rd => ?_⟩
  have okY := I0.ok
  have frm : Y.A.frames = some (Y.env :: Y.outer) := by rw [okY.frames, st]
  refine wpAny_Try_except (wpAny_mono ((hb (wAsMany Y.K Wo D l) (Y.pn ++ pins) (fun e t1 => wpAny (model Y.prog Y.w) Y.A (noteFrame e Y.env) (fun _ t2 => wpAny (model Y.prog Y.w) Y.A (setFlight e none) (fun _ t3 =>
    wpAny (model Y.prog Y.w) Y.A (handleBy e Y.env (h1 :: hs)) (SP Y pins D) Y.xe t3) Y.xe t2) Y.xe t1) (fun u t0 caught => ?_) PassesOwn.looking).run [] s σ H D (I0.toTry _) rd) (fun f t1 done => ?_) (fun _ _ z => z))
  · obtain ⟨e, B, sI, pins1, σ1, H1, cls, d, rfl, J1, nb, up1, sky, free, eqO, eqG, wish⟩ := caught
    have J2 : Inv Y pins σ1 H1 sI := J1.ofTry okY
    refine Sky.land Zc.steady frm fr (by rw [← st]; exact sky) fun g3 fl3 up3 => ?_
    have J3 : Inv Y pins σ1 H1 { t0 with heap := g3 } := J2.landed nb fl3.1 (up1.trans up3) eqO eqG
    obtain ⟨o3, w3, at3, zc3, dt3⟩ := fl3.there
    have off : e ∉ frs (Y.env :: Y.outer) := fun hm => by
      obtain ⟨_, o, eo, no⟩ := fl3.2.2.1.mem hm
      rw [at3] at eo
      cases eo
      exact no _ dt3
    have offL : e ≠ Y.env.locals := fun z => off (List.mem_filterMap.mpr ⟨Y.env, List.mem_cons_self, by rw [fr, z]⟩)
    have offF : e ∉ Y.fs := fun hm => by
      obtain ⟨v, hv, q⟩ := List.mem_filterMap.mp hm
      exact off (List.mem_filterMap.mpr ⟨v, List.mem_cons_of_mem _ hv, q⟩)
    have T3 := J3.suite at3 dt3 free offL offF
    have all : ∀ {hs' : List ExceptHandler} {l' : List (Value × Nat × (Addr → Value → Option Addr → TS))}, HdAs Y hs' l' → wAsMany Y.K Wo D l' cls d σ1 H1 → wpAny (model Y.prog Y.w) Y.A (handleBy (.ref e) Y.env hs') (SP Y pins D) Y.xe { t0 with heap := g3 } := by
      intro hs' l' hk
      induction hk with
      | nil =>
        intro wi
        obtain ⟨_, _, _, oe, vs, T, oT, tr, he, hz, hd, hf1, hr⟩ := id fl3
        refine wpAny_handleBy_nil ?_
        unfold PySem.passOn
        refine wpAny_bind (wpAny_field he hd hf1 ?_)
        rw [if_neg (show ¬ ((Value.ref T == Value.none) = true) by simp)]
        have out : wpAny (model Y.prog Y.w) Y.A (setFlight (.ref e) Y.env.frame) (fun _ t4 => wpAny (model Y.prog Y.w) Y.A (throw (.ref e) : Sem Flow) (SP Y pins D) Y.xe t4) Y.xe { t0 with heap := g3 } := by
          rw [fr]
          exact HandSPX.setFlight_upZ fl3 fun g4 hh4 up4 => wpAny_throw (tk _ _ ⟨e, B, sI, pins, σ1, H1, cls, d, rfl, J2, nb, (up1.trans up3).trans up4, .inr (.inr (by rw [st]; exact hh4)), free, eqO, eqG, wi⟩)
        first
          | exact wpAny_bind (wpAny_pure (wpAny_bind out))
          | exact wpAny_bind out
      | @cons x n c i ts b1 bs p1 p2 hs2 l2 hn hl hc hq r ih =>
        intro wi
        obtain ⟨b, eb, yes, no⟩ := wi
        refine wpAny_handleBy_cons (codeAny_handlers_test ?_) (by intro q; cases q)
        have tyE : PySem.W.Looks (model Y.prog Y.w) g3 (typeOf (.ref e)) cls := fun A Q E t k q => wpAny_typeOf_ref (k _ _ at3) (by rw [zc3.1]; exact q)
        have asks := PySem.W.exm_one (M := model Y.prog Y.w) (J3.kIn) tyE eb
        have named : ∀ {Q : Value → Shared → Prop} {E : Value → Shared → Prop}, Q c { t0 with heap := g3 } → wpAny (model Y.prog Y.w) (Y.A.mark (some (.ref e))) (eval (.Name x p1) Y.env) Q E { t0 with heap := g3 } := fun {Q E} q => by
          obtain ⟨hg, hb, hm | ⟨hm, hv, hx⟩⟩ := hc
          · exact ld_glob (X := Y.suite e ((e, o3) :: (Y.pn ++ pins))) T3 hg hm q hb
          · exact ld_blt (X := Y.suite e ((e, o3) :: (Y.pn ++ pins))) T3 hg hm hv q hx hb
        refine named (asks.here ?_)
        cases b with
        | false => exact ih (no rfl)
        | true =>
          refine codeAny_handlers_suite_as (HandSPX.lands_againZ fl3 fun g4 fl4 up4 => ?_)
          have J4 : Inv Y pins σ1 H1 { t0 with heap := g4 } := J2.landed nb fl4.1 ((up1.trans up3).trans up4) eqO eqG
          obtain ⟨o4, w4, at4, zc4, dt4⟩ := fl4.there
          have T4 := J4.suite at4 dt4 free offL offF
          refine store_ok (X := Y.suite e ((e, o4) :: (Y.pn ++ pins))) (v := .ref e) T4 nd hn (.inl hl) rfl (fun t5 T5 => ?_) (.inr hl)
          refine wpAny_mono ((hq e o4 cls d (Y.pn ++ pins) zc4 ⟨_, dt4⟩).run [] t5 _ H1 _ T5 (yes rfl e free)) (fun f t6 done => ?_) (fun _ _ z => z.elim)
          have close : ∀ {σ6 : L2.St} {H6 : Hp} {Q : Shared → Prop}, Inv (Y.suite e ((e, o4) :: (Y.pn ++ pins))) [] σ6 H6 t6 → (∀ t7, Inv Y pins (σ6.set i none) H6 t7 → Q t7) →
              wpAny (model Y.prog Y.w) Y.A (do bindName Y.env n .none; unbindBehindTheSuite Y.env n p2) (fun _ t7 => Q t7) Y.xe t6 := fun {σ6 H6 Q} T6 hq => gone_ok (T6.unsuite okY) nd hn hl hq
          match f, done with
          | .next, ⟨_, _, T6, q6⟩ => exact close T6 fun t7 J7 => ⟨_, _, J7, q6⟩
          | .brk, ⟨_, _, T6, q6⟩ => exact close T6 fun t7 J7 => ⟨_, _, J7, q6⟩
          | .cont, ⟨_, _, T6, q6⟩ => exact close T6 fun t7 J7 => ⟨_, _, J7, q6⟩
          | .ret u, ⟨_, _, _, T6, r6, q6⟩ => exact close T6 fun t7 J7 => ⟨_, _, _, J7, r6, q6⟩
    exact all hh wish
  · match f, done with
    | .next, ⟨_, _, J', q⟩ => exact wpAny_execs_nil ⟨_, _, J'.ofTry okY, q⟩
    | .brk, ⟨_, _, J', q⟩ => exact ⟨_, _, J'.ofTry okY, q⟩
    | .cont, ⟨_, _, J', q⟩ => exact ⟨_, _, J'.ofTry okY, q⟩
    | .ret u, ⟨_, _, _, J', r, q⟩ => exact ⟨_, _, _, J'.ofTry okY, r, q⟩
end
/-! ### a def that shows lists, called where nothing is being shown -/
section
variable {X : Cx} {CX : CXT} {k : Nat} {f : Addr} {fd : FuncData} {ps : List Str} {sp : Sp} {E : XK} {x : Str} {e : Expr} {es : List Expr} {t : TA} {p pos : Pos}
theorem pe_callSh (F : RunG X.prog X.w X.K X.mg X.base CX k f fd ps sp) (gd : X.A.guards = some []) (hr : Room k X.A) (ln : ∀ vs H Q E, sp vs H Q E → vs.length = ps.length) (hg : Gl X x) (hm : X.mg x = some (.ref f)) (hk : PySem.W.keepIn X.K (.ref f) = true) (hb : Binds X.K fd ps []) (hx : Passes CX X E)
    (ha : PA X (e :: es) t) (hdb : (x == ("__debug__" : Str)) = false := by decide) (he : starEach (e :: es) X.env = (false, eval e X.env) :: starEach es X.env := by rfl) (hpl : (backTo pos (starEach es X.env)).any (·.1) = false := by rfl) :
    PE X (.Call (.Name x p) (e :: es) [] pos) (tCall sp [] E t) := by
  refine ⟨fun pins s σ H Q I0 rd => wpAny_Call_Name_kw (ld_glob I0 hg hm ?_ hdb)⟩
  refine PySem.W.callWith_K (h₀ := X.base) I0.ok.mod.kin hk (thn (ha.run pos pins s σ H _ I0 rd) fun us t1 ⟨vs, H1, I1, rv, q⟩ => ⟨I1.kIn, ?_⟩) he hpl
  have q : sp vs H1 Q E := by
    have q' : sp (vs ++ []) H1 Q E := q
    rw [List.append_nil] at q'
    exact q'
  have hl : us.length = ps.length := by rw [← rv.length]; exact ln _ _ _ _ q
  have b := hb t1 us I1.kIn (by rw [List.append_nil]; exact hl)
  rw [List.append_nil] at b
  refine wpAny_call (codeAny_mono (F X.A X.stack t1 H1 ⟨us, []⟩ us vs Q E gd hr I1.env0 b rv q) fun r t2 hq => ?_)
  match r, hq with
  | .error e, hq => exact hx pins σ H1 t1 e t2 I1 hq
  | .ok (.ret u), hq => exact I1.after hq
  | .ok .next, hq => exact False.elim hq
  | .ok .brk, hq => exact False.elim hq
  | .ok .cont, hq => exact False.elim hq
end
def rLcm : List V → Hp → VK → Prop := fun vs H Q => ∃ a b : Int, vs = [.int a, .int b] ∧ a.natAbs < 2 ^ 64 ∧ b.natAbs < 2 ^ 64 ∧ Q (.int ((Nat.lcm a.natAbs b.natAbs : Nat) : Int)) H
theorem cr_lcm {X : Cx} : CallR X (.builtin "math.lcm") rLcm := by
  intro pins s σ H vs us Q I r h
  obtain ⟨a, b, rfl, ha, hb, q⟩ := h
  obtain ⟨t, u, rfl⟩ := Vals.int2 r
  exact PySem.W.mc_lcm ha hb fun _ => ⟨.int _, H, I.tok _, ⟨_, rfl⟩, q⟩
/-! ### len by an own __len__ -/
def rLenO (C : Addr) (sp : Sp) (E : XK) : List V → Hp → VK → Prop := fun xs H Q => ∃ a dx fs, xs = [.ref a] ∧ H a = some (.ins C dx fs) ∧ sp [.ref a] H (fun v H' => ∃ n : Nat, v = .int (n : Int) ∧ n < 2 ^ 62 ∧ Q v H') E
theorem call_lenO {X : Cx} {CX : CXT} {k : Nat} {C f : Addr} {fd : FuncData} {ps : List Str} {sp : Sp} {E : XK} (hl : PySem.W.findIn X.K (.ref C) "__len__" = some (some (.ref f))) (hf : PySem.W.isFn X.K (.ref f) = true) (F : FnOk X.prog X.w X.K X.mg X.base CX k f fd ps sp) (hr : Room (k + 1) X.A) (hb : Binds X.K fd ps []) (hx : Passes CX X E) :
    CallR X (.builtin "len") (rLenO C sp E) := by
  intro pins s σ H xs us Q I r h
  obtain ⟨a, dx, fs, rfl, ha, q⟩ := h
  obtain ⟨u, rfl, r1⟩ := vals1 r
  cases r1
  obtain ⟨mA, O, _⟩ := ins_get I.hok ha
  obtain ⟨od, J, _⟩ := O.look
  obtain ⟨m, hF⟩ := I.fr
  refine PySem.W.len_K hF I.ok.mod.kin J hl hf ?_
  have ln : ([Value.ref a] : List Value).length = ps.length := F.len _ _ _ _ q
  refine wpAny_call (codeAny_mono (F.run X.A.in1 X.stack s H ⟨[.ref a], []⟩ [.ref a] [.ref a] _ E hr.in1 I.env0.in1 (by simpa using hb s [.ref a] I.kIn (by simpa using ln)) (.cons rfl .nil) q) fun r s' hq => ?_)
  match r, hq with
  | .error e, hq => exact hx pins σ H s e s' I hq
  | .ok .next, hq => exact False.elim hq
  | .ok .brk, hq => exact False.elim hq
  | .ok .cont, hq => exact False.elim hq
  | .ok (.ret w), hq =>
    obtain ⟨z, H', I', rz, n, ez, hn, hz⟩ := I.after hq
    subst ez
    obtain ⟨t, rfl⟩ := rz
    exact ⟨⟨by omega, by omega⟩, .int n, H', I'.tok _, ⟨_, rfl⟩, hz⟩
end VX

/-! A class held by a local name, called (cls(..) in a classmethod). -/
namespace VX
open PySem PySem.Spec PyProof.Rows L2 VR
/-- the i-th slot holds the class at C, which is called -/
def tMakeL (i : Nat) (C : Addr) (sp : Sp) (dvs : List V) (E : XK) (t : TA) : TE := fun σ H Q => σ[i]? = some (some (.ref C)) ∧ tMake C sp dvs E t σ H Q
theorem pe_makeL {X : Cx} {CX : CXT} {k i : Nat} {f C : Addr} {fd : FuncData} {ps : List Str} {sp : Sp} {dvs : List V} {ds : List Value} {E : XK} {x : Str} {p pos : Pos} {e : Expr} {es : List Expr} {t : TA} (M : Mk X.K C f) (F : FnOk X.prog X.w X.K X.mg X.base CX k f fd ps sp) (hr : Room (k + 1) X.A) (hN : X.N[i]? = some x) (hv : Vis X.env.scope x)
    (hb : Binds X.K fd ps ds) (hd : Vals dvs ds) (hx : Passes CX X E) (ha : PA X (e :: es) t) (hdb : (x == ("__debug__" : Str)) = false := by decide) (hcd : (x == ("__classdict__" : Str)) = false := by decide)
    (he : starEach (e :: es) X.env = (false, eval e X.env) :: starEach es X.env := by rfl) (hpl : (backTo pos (starEach es X.env)).any (·.1) = false := by rfl) : PE X (.Call (.Name x p) (e :: es) [] pos) (tMakeL i C sp dvs E t) := by
  refine ⟨fun pins s σ H Q I h => ?_⟩
  obtain ⟨hs, ht⟩ := h
  refine wpAny_Call_Name_kw (thn ((pe_var (pos := p) hN hv hdb hcd).run pins s σ H (fun v H1 => v = .ref C ∧ H1 = H) I ⟨.ref C, hs, rfl, rfl⟩) fun u s1 ⟨v, H1, I1, r1, q1⟩ => ?_)
  obtain ⟨rfl, rfl⟩ := q1
  cases r1
  refine PySem.W.callWith_K (h₀ := X.base) I.ok.mod.kin M.kp (thn (ha.run pos pins s1 σ _ _ I1 ht) fun us s2 ⟨vs, H2, I2, r, q⟩ => ⟨I2.kIn, ?_⟩) he hpl
  exact run_make M F hr hb hd hx I2 r q
end VX

/-! Sizes as lists of ints: plain mathematics. -/
namespace SZ
/-- without the zeros at the end -/
def trim : List Int → List Int
  | [] => []
  | x :: r => match trim r with
    | [] => if x = 0 then [] else [x]
    | y :: ys => x :: y :: ys
theorem trim_app0 : ∀ ys : List Int, trim (ys ++ [0]) = trim ys
  | [] => by simp [trim]
  | y :: ys => by
    show trim (y :: (ys ++ [0])) = trim (y :: ys)
    simp only [trim]
    rw [trim_app0 ys]
theorem trim_app : ∀ (ys : List Int) {z : Int}, z ≠ 0 → trim (ys ++ [z]) = ys ++ [z]
  | [], z, h => by simp [trim, h]
  | y :: ys, z, h => by
    show trim (y :: (ys ++ [z])) = y :: (ys ++ [z])
    simp only [trim]
    rw [trim_app ys h]
    cases e : ys ++ [z] with
    | nil => simp at e
    | cons a b => rfl
theorem trim_len : ∀ xs : List Int, (trim xs).length ≤ xs.length
  | [] => Nat.le_refl _
  | x :: r => by
    have ih := trim_len r
    simp only [trim]
    cases e : trim r with
    | nil => dsimp only; split <;> simp
    | cons y ys => rw [e] at ih; simp only [List.length_cons] at ih ⊢; omega
theorem trim_mem : ∀ {xs : List Int} {c : Int}, c ∈ trim xs → c ∈ xs
  | [], _, h => h
  | x :: r, c, h => by
    have ih := @trim_mem r c
    simp only [trim] at h
    cases e : trim r with
    | nil =>
      rw [e] at h
      dsimp only at h
      split at h
      · cases h
      · exact List.mem_cons.mpr (.inl (by simpa using h))
    | cons y ys =>
      rw [e] at h ih
      rcases List.mem_cons.mp h with h | h
      · exact List.mem_cons.mpr (.inl h)
      · exact List.mem_cons.mpr (.inr (ih h))
theorem trim_trim : ∀ xs : List Int, trim (trim xs) = trim xs
  | [] => rfl
  | x :: r => by
    have ih := trim_trim r
    simp only [trim]
    cases e : trim r with
    | nil => dsimp only; split <;> simp [trim, *]
    | cons y ys =>
      rw [e] at ih
      show trim (x :: (y :: ys)) = x :: (y :: ys)
      rw [trim, ih]
/-- the value at n -/
def ev : List Int → Int → Int
  | [], _ => 0
  | c :: r, n => ev r n * n + c
theorem ev_trim : ∀ (xs : List Int) (n : Int), ev (trim xs) n = ev xs n
  | [], _ => rfl
  | x :: r, n => by
    have ih := ev_trim r n
    simp only [trim]
    cases e : trim r with
    | nil =>
      rw [e] at ih
      have h0 : ev r n = 0 := ih.symm
      dsimp only
      split
      · rename_i hx
        simp [ev, h0, hx]
      · simp [ev, h0]
    | cons y ys =>
      rw [e] at ih
      show ev (y :: ys) n * n + x = ev r n * n + x
      rw [ih]
/-- item by item -/
def sumL : List Int → List Int → List Int
  | [], ys => ys
  | x :: xs, [] => x :: xs
  | x :: xs, y :: ys => (x + y) :: sumL xs ys
theorem sumL_nil (xs : List Int) : sumL xs [] = xs := by cases xs <;> rfl
theorem ev_sumL : ∀ (xs ys : List Int) (n : Int), ev (sumL xs ys) n = ev xs n + ev ys n
  | [], ys, n => by simp [sumL, ev]
  | x :: xs, [], n => by simp [sumL, ev]
  | x :: xs, y :: ys, n => by
    simp only [sumL, ev, ev_sumL xs ys n, Int.add_mul]
    omega
theorem len_sumL : ∀ xs ys : List Int, (sumL xs ys).length = max xs.length ys.length
  | [], ys => by simp [sumL]
  | x :: xs, [] => by simp [sumL]
  | x :: xs, y :: ys => by simp only [sumL, List.length_cons, len_sumL xs ys]; omega
theorem get_sumL : ∀ (xs ys : List Int) (i : Nat), (sumL xs ys).getD i 0 = xs.getD i 0 + ys.getD i 0
  | [], ys, i => by simp [sumL]
  | x :: xs, [], i => by simp [sumL]
  | x :: xs, y :: ys, 0 => by simp [sumL]
  | x :: xs, y :: ys, i + 1 => by simpa [sumL] using get_sumL xs ys i
def negL (xs : List Int) : List Int := xs.map fun x => -x
theorem ev_negL : ∀ (xs : List Int) (n : Int), ev (negL xs) n = - ev xs n
  | [], n => by simp [negL, ev]
  | x :: xs, n => by
    have ih := ev_negL xs n
    show ev (negL xs) n * n + -x = -(ev xs n * n + x)
    rw [ih, Int.neg_mul]
    omega
/-- c times ys, added to zs from place k on -/
def addAt (zs : List Int) (k : Nat) (d : Int) : List Int := zs.set k (zs.getD k 0 + d)
theorem len_addAt (zs : List Int) (k : Nat) (d : Int) : (addAt zs k d).length = zs.length := by simp [addAt]
def rowAt (zs : List Int) (k : Nat) (c : Int) (ys : List Int) : List Int := ys.zipIdx.foldl (fun z p => addAt z (k + p.2) (c * p.1)) zs
/-- powers of n -/
theorem ev_addAt : ∀ (zs : List Int) (k : Nat) (d n : Int), k < zs.length → ev (addAt zs k d) n = ev zs n + d * n ^ k
  | [], k, d, n, h => by simp at h
  | z :: zs, 0, d, n, h => by simp [addAt, ev]; omega
  | z :: zs, k + 1, d, n, h => by
    have ih := ev_addAt zs k d n (by simpa using h)
    have e : addAt (z :: zs) (k + 1) d = z :: addAt zs k d := by simp [addAt]
    rw [e]
    show ev (addAt zs k d) n * n + z = ev zs n * n + z + d * n ^ (k + 1)
    rw [ih, Int.add_mul, Int.pow_succ, Int.mul_assoc]
    omega
/-- the product, as the two loops make it: the first i of xs whole, the first j of ys with the next one -/
def mulL : List Int → List Int → List Int
  | [], ys => List.replicate ys.length 0
  | x :: xs, ys => sumL (ys.map (x * ·)) (0 :: mulL xs ys)
theorem ev_map_mul : ∀ (x : Int) (ys : List Int) (n : Int), ev (ys.map (x * ·)) n = x * ev ys n
  | x, [], n => by simp [ev]
  | x, y :: ys, n => by
    show ev (ys.map (x * ·)) n * n + x * y = x * (ev ys n * n + y)
    rw [ev_map_mul x ys n, Int.mul_add, Int.mul_assoc]
theorem ev_rep0 : ∀ (k : Nat) (n : Int), ev (List.replicate k 0) n = 0
  | 0, _ => rfl
  | k + 1, n => by rw [List.replicate_succ]; simp [ev, ev_rep0 k n]
theorem ev_mulL : ∀ (xs ys : List Int) (n : Int), ev (mulL xs ys) n = ev xs n * ev ys n
  | [], ys, n => by simp [mulL, ev_rep0, ev]
  | x :: xs, ys, n => by
    rw [mulL, ev_sumL, ev_map_mul]
    show x * ev ys n + (ev (mulL xs ys) n * n + 0) = (ev xs n * n + x) * ev ys n
    rw [ev_mulL xs ys n, Int.add_mul, Int.add_zero, Int.add_comm, Int.mul_assoc, Int.mul_assoc, Int.mul_comm (ev ys n) n]
theorem len_mulL : ∀ xs ys : List Int, (mulL xs ys).length = xs.length + ys.length
  | [], ys => by simp [mulL]
  | x :: xs, ys => by rw [mulL, len_sumL, List.length_map, List.length_cons, len_mulL xs ys, List.length_cons]; omega
/-- all below 2 ^ k in size -/
def Bd (k : Nat) (xs : List Int) : Prop := ∀ c ∈ xs, c.natAbs < 2 ^ k
theorem Bd.mono {j k : Nat} {xs : List Int} (h : Bd j xs) (hk : j ≤ k) : Bd k xs := fun c hc => Nat.lt_of_lt_of_le (h c hc) (Nat.pow_le_pow_right (by decide) hk)
theorem Bd.trim {k : Nat} {xs : List Int} (h : Bd k xs) : Bd k (trim xs) := fun c hc => h c (trim_mem hc)
theorem Bd.nil {k : Nat} : Bd k [] := fun _ h => nomatch h
theorem Bd.cons {k : Nat} {x : Int} {xs : List Int} (h : x.natAbs < 2 ^ k) (t : Bd k xs) : Bd k (x :: xs) := fun c hc => by
  rcases List.mem_cons.mp hc with e | e
  · rw [e]; exact h
  · exact t c e
theorem natAbs_add_lt {a b : Int} {k : Nat} (ha : a.natAbs < 2 ^ k) (hb : b.natAbs < 2 ^ k) : (a + b).natAbs < 2 ^ (k + 1) := by
  have : (2 : Nat) ^ (k + 1) = 2 ^ k + 2 ^ k := by rw [Nat.pow_succ]; omega
  omega
theorem natAbs_mul_lt {a b : Int} {j k : Nat} (ha : a.natAbs < 2 ^ j) (hb : b.natAbs < 2 ^ k) : (a * b).natAbs < 2 ^ (j + k) := by
  rw [Int.natAbs_mul, Nat.pow_add]
  exact Nat.mul_lt_mul'' ha hb
theorem two_pos (k : Nat) : 0 < 2 ^ k := Nat.pow_pos (by decide)
theorem Bd.sumL : ∀ {k : Nat} {xs ys : List Int}, Bd k xs → Bd k ys → Bd (k + 1) (sumL xs ys)
  | k, [], ys, _, h => h.mono (Nat.le_succ _)
  | k, x :: xs, [], h, _ => h.mono (Nat.le_succ _)
  | k, x :: xs, y :: ys, h, g => by
    refine Bd.cons (natAbs_add_lt (h x (List.mem_cons_self ..)) (g y (List.mem_cons_self ..))) (Bd.sumL (fun c hc => h c (List.mem_cons_of_mem _ hc)) fun c hc => g c (List.mem_cons_of_mem _ hc))
theorem Bd.negL {k : Nat} {xs : List Int} (h : Bd k xs) : Bd k (negL xs) := fun c hc => by
  obtain ⟨x, hx, e⟩ := List.mem_map.mp hc
  rw [← e, Int.natAbs_neg]
  exact h x hx
theorem Bd.mulL : ∀ {j k : Nat} {xs ys : List Int}, Bd j xs → Bd k ys → Bd (j + k + xs.length) (mulL xs ys)
  | j, k, [], ys, _, h => fun c hc => by
    have : c = 0 := (List.mem_replicate.mp hc).2
    rw [this]; exact two_pos _
  | j, k, x :: xs, ys, h, g => by
    have ih := Bd.mulL (fun c hc => h c (List.mem_cons_of_mem _ hc) : Bd j xs) g
    have e : j + k + (x :: xs).length = (j + k + xs.length) + 1 := by rw [List.length_cons]; omega
    rw [e]
    refine Bd.sumL (fun c hc => ?_) (Bd.cons (two_pos _) ih)
    obtain ⟨y, hy, e2⟩ := List.mem_map.mp hc
    rw [← e2]
    exact Nat.lt_of_lt_of_le (natAbs_mul_lt (h x (List.mem_cons_self ..)) (g y hy)) (Nat.pow_le_pow_right (by decide) (Nat.le_add_right _ _))
/-- how great a value is -/
theorem ev_lt : ∀ {b m : Nat} {xs : List Int} {n : Int}, Bd b xs → n.natAbs < 2 ^ m → (ev xs n).natAbs < 2 ^ (b + xs.length * (m + 1))
  | b, m, [], n, _, _ => two_pos _
  | b, m, x :: xs, n, h, hn => by
    have ih := ev_lt (fun c hc => h c (List.mem_cons_of_mem _ hc) : Bd b xs) hn
    have e : b + (x :: xs).length * (m + 1) = (b + xs.length * (m + 1) + m) + 1 := by rw [List.length_cons, Nat.succ_mul]; omega
    rw [e]
    show (ev xs n * n + x).natAbs < _
    refine natAbs_add_lt (natAbs_mul_lt ih hn) (Nat.lt_of_lt_of_le (h x (List.mem_cons_self ..)) (Nat.pow_le_pow_right (by decide) (by omega)))
/-- ys in place of n: as the loop makes it, from the last one on -/
def cmp : List Int → List Int → List Int
  | [], _ => []
  | c :: r, ys => trim (sumL (trim (mulL (cmp r ys) ys)) [c])
theorem ev_cmp : ∀ (xs ys : List Int) (n : Int), ev (cmp xs ys) n = ev xs (ev ys n)
  | [], _, _ => rfl
  | c :: r, ys, n => by
    rw [cmp, ev_trim, ev_sumL, ev_trim, ev_mulL, ev_cmp r ys n]
    simp [ev]
end SZ

namespace SZ
theorem ext_getD {xs ys : List Int} (hl : xs.length = ys.length) (h : ∀ k, xs.getD k 0 = ys.getD k 0) : xs = ys := by
  apply List.ext_getElem hl
  intro k h1 h2
  have := h k
  rw [List.getD_eq_getElem?_getD, List.getD_eq_getElem?_getD, List.getElem?_eq_getElem h1, List.getElem?_eq_getElem h2] at this
  simpa using this
theorem getD_set (zs : List Int) (j k : Nat) (d : Int) : (zs.set j d).getD k 0 = if k = j ∧ j < zs.length then d else zs.getD k 0 := by
  rw [List.getD_eq_getElem?_getD, List.getD_eq_getElem?_getD, List.getElem?_set]
  by_cases e : j = k
  · subst e
    by_cases hl : j < zs.length
    · simp [hl]
    · simp [hl]
  · simp [e, Ne.symm e]
theorem getD_rep (n k : Nat) : (List.replicate n (0 : Int)).getD k 0 = 0 := by
  rw [List.getD_eq_getElem?_getD, List.getElem?_replicate]
  split <;> rfl
theorem getD_of_ge {xs : List Int} {k : Nat} (h : xs.length ≤ k) : xs.getD k 0 = 0 := by
  rw [List.getD_eq_getElem?_getD, List.getElem?_eq_none h]
  rfl
/-- the k-th coefficient of the product -/
def cf : List Int → List Int → Nat → Int
  | [], _, _ => 0
  | x :: xs, ys, k => x * ys.getD k 0 + (match k with | 0 => 0 | k + 1 => cf xs ys k)
theorem get_map_mul (x : Int) (ys : List Int) (k : Nat) : (ys.map (x * ·)).getD k 0 = x * ys.getD k 0 := by
  rw [List.getD_eq_getElem?_getD, List.getD_eq_getElem?_getD, List.getElem?_map]
  cases ys[k]? <;> simp
theorem get_mulL : ∀ (xs ys : List Int) (k : Nat), (mulL xs ys).getD k 0 = cf xs ys k
  | [], ys, k => by rw [mulL, getD_rep]; rfl
  | x :: xs, ys, 0 => by rw [mulL, get_sumL, get_map_mul]; simp [cf]
  | x :: xs, ys, k + 1 => by
    rw [mulL, get_sumL, get_map_mul]
    show x * ys.getD (k + 1) 0 + (mulL xs ys).getD k 0 = _
    rw [get_mulL xs ys k]
    rfl
theorem cf_app : ∀ (xs : List Int) (x : Int) (ys : List Int) (k : Nat), cf (xs ++ [x]) ys k = cf xs ys k + if xs.length ≤ k then x * ys.getD (k - xs.length) 0 else 0
  | [], x, ys, k => by
    show cf [x] ys k = 0 + if 0 ≤ k then x * ys.getD (k - 0) 0 else 0
    cases k <;> simp [cf]
  | z :: xs, x, ys, 0 => by simp [cf]
  | z :: xs, x, ys, k + 1 => by
    show z * ys.getD (k + 1) 0 + cf (xs ++ [x]) ys k = z * ys.getD (k + 1) 0 + cf xs ys k + if xs.length + 1 ≤ k + 1 then x * ys.getD (k + 1 - (xs.length + 1)) 0 else 0
    rw [cf_app xs x ys k]
    have e : k + 1 - (xs.length + 1) = k - xs.length := by omega
    rw [e, Int.add_assoc]
    congr 2
    by_cases h : xs.length ≤ k
    · rw [if_pos h, if_pos (by omega)]
    · rw [if_neg h, if_neg (by omega)]
theorem cf_take {xs ys : List Int} {i : Nat} {x : Int} (h : xs[i]? = some x) (k : Nat) : cf (xs.take (i + 1)) ys k = cf (xs.take i) ys k + if i ≤ k then x * ys.getD (k - i) 0 else 0 := by
  have hi : i < xs.length := (List.getElem?_eq_some_iff.mp h).1
  have e : xs.take (i + 1) = xs.take i ++ [x] := by rw [List.take_add_one, h]; rfl
  rw [e, cf_app, List.length_take, Nat.min_eq_left (Nat.le_of_lt hi)]
/-- the loops' lists, by their coefficients -/
structure Is (zs : List Int) (n : Nat) (F : Nat → Int) : Prop where
  len : zs.length = n
  get : ∀ k, zs.getD k 0 = F k
theorem Is.set {zs : List Int} {n : Nat} {F : Nat → Int} (h : Is zs n F) {j : Nat} (hj : j < n) {d : Int} {G : Nat → Int} (hg : ∀ k, G k = if k = j then d else F k) : Is (zs.set j d) n G :=
  ⟨by rw [List.length_set, h.len], fun k => by
    rw [getD_set, hg, h.get, h.len]
    by_cases e : k = j
    · rw [if_pos ⟨e, hj⟩, if_pos e]
    · rw [if_neg (fun q => e q.1), if_neg e]⟩
theorem Is.eq {zs ys : List Int} {n : Nat} {F : Nat → Int} (h : Is zs n F) (hl : ys.length = n) (hy : ∀ k, ys.getD k 0 = F k) : zs = ys := ext_getD (h.len.trans hl.symm) fun k => (h.get k).trans (hy k).symm
theorem getD_some {xs : List Int} {i : Nat} {x : Int} (h : xs[i]? = some x) : xs.getD i 0 = x := by rw [List.getD_eq_getElem?_getD, h]; rfl
end SZ

namespace K14
open PySem L2 SZ VR VX StX RT
def top (i : Nat) : Stmt := PySem.Challenge.pw_farmisses_k14_texts_of_caches.main.body.getD i (.Pass ⟨0, 0, 0, 0⟩)
abbrev S_wall : Stmt := top 1
theorem sc_wall : FnScope ["k"] ["k"] (defScope S_wall) := ⟨rfl, rfl, rfl, by decide +kernel, rfl, by decide +kernel, by decide +kernel⟩
abbrev S_InvalidText___init__ : Stmt := inClass (top 4) 0
theorem sc_InvalidText___init__ : FnScope ["self", "value"] ["self", "value"] (defScope S_InvalidText___init__) := ⟨rfl, rfl, rfl, by decide +kernel, rfl, by decide +kernel, by decide +kernel⟩
abbrev S_InvalidSyntax___init__ : Stmt := inClass (top 5) 0
theorem sc_InvalidSyntax___init__ : FnScope ["self", "position"] ["self", "position"] (defScope S_InvalidSyntax___init__) := ⟨rfl, rfl, rfl, by decide +kernel, rfl, by decide +kernel, by decide +kernel⟩
abbrev S_TooLarge___init__ : Stmt := inClass (top 6) 0
theorem sc_TooLarge___init__ : FnScope ["self", "word"] ["self", "word"] (defScope S_TooLarge___init__) := ⟨rfl, rfl, rfl, by decide +kernel, rfl, by decide +kernel, by decide +kernel⟩
abbrev S_InvalidCache___init__ : Stmt := inClass (top 7) 0
theorem sc_InvalidCache___init__ : FnScope ["self", "value"] ["self", "value"] (defScope S_InvalidCache___init__) := ⟨rfl, rfl, rfl, by decide +kernel, rfl, by decide +kernel, by decide +kernel⟩
abbrev S_is_integer : Stmt := top 9
theorem sc_is_integer : FnScope ["value"] ["value"] (defScope S_is_integer) := ⟨rfl, rfl, rfl, by decide +kernel, rfl, by decide +kernel, by decide +kernel⟩
abbrev S_is_number : Stmt := top 15
theorem sc_is_number : FnScope ["text", "character"] ["text"] (defScope S_is_number) := ⟨rfl, rfl, rfl, by decide +kernel, rfl, by decide +kernel, by decide +kernel⟩
abbrev S_end_of_run : Stmt := top 16
theorem sc_end_of_run : FnScope ["text", "begin", "end"] ["text", "begin"] (defScope S_end_of_run) := ⟨rfl, rfl, rfl, by decide +kernel, rfl, by decide +kernel, by decide +kernel⟩
abbrev S_tokens_of : Stmt := top 17
theorem sc_tokens_of : FnScope ["text", "found", "at", "end"] ["text"] (defScope S_tokens_of) := ⟨rfl, rfl, rfl, by decide +kernel, rfl, by decide +kernel, by decide +kernel⟩
abbrev S_Reader___init__ : Stmt := inClass (top 18) 0
theorem sc_Reader___init__ : FnScope ["self", "text"] ["self", "text"] (defScope S_Reader___init__) := ⟨rfl, rfl, rfl, by decide +kernel, rfl, by decide +kernel, by decide +kernel⟩
abbrev S_Reader_token : Stmt := inClass (top 18) 1
theorem sc_Reader_token : FnScope ["self", "token", "_"] ["self"] (defScope S_Reader_token) := ⟨rfl, rfl, rfl, by decide +kernel, rfl, by decide +kernel, by decide +kernel⟩
abbrev S_Reader_place : Stmt := inClass (top 18) 2
theorem sc_Reader_place : FnScope ["self", "_", "place"] ["self"] (defScope S_Reader_place) := ⟨rfl, rfl, rfl, by decide +kernel, rfl, by decide +kernel, by decide +kernel⟩
abbrev S_Reader_pass_any : Stmt := inClass (top 18) 3
theorem sc_Reader_pass_any : FnScope ["self", "token"] ["self"] (defScope S_Reader_pass_any) := ⟨rfl, rfl, rfl, by decide +kernel, rfl, by decide +kernel, by decide +kernel⟩
abbrev S_Reader_passes : Stmt := inClass (top 18) 4
theorem sc_Reader_passes : FnScope ["self", "token"] ["self", "token"] (defScope S_Reader_passes) := ⟨rfl, rfl, rfl, by decide +kernel, rfl, by decide +kernel, by decide +kernel⟩
abbrev S_Reader_pass_only : Stmt := inClass (top 18) 5
theorem sc_Reader_pass_only : FnScope ["self", "token"] ["self", "token"] (defScope S_Reader_pass_only) := ⟨rfl, rfl, rfl, by decide +kernel, rfl, by decide +kernel, by decide +kernel⟩
abbrev S_Reader_pass_one : Stmt := inClass (top 18) 6
theorem sc_Reader_pass_one : FnScope ["self", "tokens"] ["self", "tokens"] (defScope S_Reader_pass_one) := ⟨rfl, rfl, rfl, by decide +kernel, rfl, by decide +kernel, by decide +kernel⟩
abbrev S_Reader_pass_number : Stmt := inClass (top 18) 7
theorem sc_Reader_pass_number : FnScope ["self"] ["self"] (defScope S_Reader_pass_number) := ⟨rfl, rfl, rfl, by decide +kernel, rfl, by decide +kernel, by decide +kernel⟩
abbrev S_Reader_pass_end : Stmt := inClass (top 18) 8
theorem sc_Reader_pass_end : FnScope ["self"] ["self"] (defScope S_Reader_pass_end) := ⟨rfl, rfl, rfl, by decide +kernel, rfl, by decide +kernel, by decide +kernel⟩
abbrev S_is_count : Stmt := top 27
theorem sc_is_count : FnScope ["value", "most"] ["value", "most"] (defScope S_is_count) := ⟨rfl, rfl, rfl, by decide +kernel, rfl, by decide +kernel, by decide +kernel⟩
abbrev S_is_level : Stmt := top 28
theorem sc_is_level : FnScope ["value", "sets", "ways", "rule", "writes"] ["value"] (defScope S_is_level) := ⟨rfl, rfl, rfl, by decide +kernel, rfl, by decide +kernel, by decide +kernel⟩
abbrev S_check_levels : Stmt := top 29
theorem sc_check_levels : FnScope ["levels", "level"] ["levels"] (defScope S_check_levels) := ⟨rfl, rfl, rfl, by decide +kernel, rfl, by decide +kernel, by decide +kernel⟩
abbrev S_Cache___init__ : Stmt := inClass (top 30) 0
theorem sc_Cache___init__ : FnScope ["self", "line", "levels", "together", "sets", "_"] ["self", "line", "levels"] (defScope S_Cache___init__) := ⟨rfl, rfl, rfl, by decide +kernel, rfl, by decide +kernel, by decide +kernel⟩
abbrev S_Cache_read : Stmt := inClass (top 30) 1
theorem sc_Cache_read : FnScope ["cls", "text", "reader", "line", "levels", "sets", "ways", "rule"] ["cls", "text"] (defScope S_Cache_read) := ⟨rfl, rfl, rfl, by decide +kernel, rfl, by decide +kernel, by decide +kernel⟩
abbrev S_Cache_line : Stmt := inClass (top 30) 2
theorem sc_Cache_line : FnScope ["self"] ["self"] (defScope S_Cache_line) := ⟨rfl, rfl, rfl, by decide +kernel, rfl, by decide +kernel, by decide +kernel⟩
abbrev S_Cache_levels : Stmt := inClass (top 30) 3
theorem sc_Cache_levels : FnScope ["self"] ["self"] (defScope S_Cache_levels) := ⟨rfl, rfl, rfl, by decide +kernel, rfl, by decide +kernel, by decide +kernel⟩
abbrev S_Cache_sets_together : Stmt := inClass (top 30) 4
theorem sc_Cache_sets_together : FnScope ["self"] ["self"] (defScope S_Cache_sets_together) := ⟨rfl, rfl, rfl, by decide +kernel, rfl, by decide +kernel, by decide +kernel⟩
abbrev S_Cache_period : Stmt := inClass (top 30) 5
theorem sc_Cache_period : FnScope ["self"] ["self"] (defScope S_Cache_period) := ⟨rfl, rfl, rfl, by decide +kernel, rfl, by decide +kernel, by decide +kernel⟩
abbrev S_Cache_show : Stmt := inClass (top 30) 6
theorem sc_Cache_show : FnScope ["self", "words", "sets", "ways", "rule", "writes"] ["self"] (defScope S_Cache_show) := ⟨rfl, rfl, rfl, by decide +kernel, rfl, by decide +kernel, by decide +kernel⟩
abbrev S_Cache___len__ : Stmt := inClass (top 30) 7
theorem sc_Cache___len__ : FnScope ["self"] ["self"] (defScope S_Cache___len__) := ⟨rfl, rfl, rfl, by decide +kernel, rfl, by decide +kernel, by decide +kernel⟩
abbrev S_Cache___eq__ : Stmt := inClass (top 30) 8
theorem sc_Cache___eq__ : FnScope ["self", "other"] ["self", "other"] (defScope S_Cache___eq__) := ⟨rfl, rfl, rfl, by decide +kernel, rfl, by decide +kernel, by decide +kernel⟩
abbrev S_law_pool : Stmt := top 32
theorem sc_law_pool : FnScope ["_law_script", "_law_k", "_law_cell", "_law_heavy", "_law_blend", "_law_seed"] ["_law_script", "_law_k"] (defScope S_law_pool) := ⟨rfl, rfl, rfl, by decide +kernel, rfl, by decide +kernel, by decide +kernel⟩
abbrev S_law_take : Stmt := top 33
theorem sc_law_take : FnScope ["_law_pool_here", "_law_wide", "_law_result"] ["_law_pool_here", "_law_wide"] (defScope S_law_take) := ⟨rfl, rfl, rfl, by decide +kernel, rfl, by decide +kernel, by decide +kernel⟩
abbrev S_law_cache : Stmt := top 34
theorem sc_law_cache : FnScope ["_law_pool_here", "_law_levels", "_law_turn", "_law_sets", "_law_ways", "_law_rule"] ["_law_pool_here"] (defScope S_law_cache) := ⟨rfl, rfl, rfl, by decide +kernel, rfl, by decide +kernel, by decide +kernel⟩
abbrev S_law_words : Stmt := top 35
theorem sc_law_words : FnScope ["_law_line", "_law_levels", "_law_found", "_law_level", "_law_one"] ["_law_line", "_law_levels"] (defScope S_law_words) := ⟨rfl, rfl, rfl, by decide +kernel, rfl, by decide +kernel, by decide +kernel⟩
abbrev S_law_heard : Stmt := top 36
theorem sc_law_heard : FnScope ["_law_text", "e"] ["_law_text"] (defScope S_law_heard) := ⟨rfl, rfl, rfl, by decide +kernel, rfl, by decide +kernel, by decide +kernel⟩
abbrev S_law_is_right : Stmt := top 37
theorem sc_law_is_right : FnScope ["_law_at", "_law_word", "_law_is_short", "_law_sign"] ["_law_at", "_law_word"] (defScope S_law_is_right) := ⟨rfl, rfl, rfl, by decide +kernel, rfl, by decide +kernel, by decide +kernel⟩
abbrev S_law_wrong : Stmt := top 38
theorem sc_law_wrong : FnScope ["_law_words_here", "_law_at", "_law_word"] ["_law_words_here"] (defScope S_law_wrong) := ⟨rfl, rfl, rfl, by decide +kernel, rfl, by decide +kernel, by decide +kernel⟩
abbrev S_law : Stmt := top 39
theorem sc_law : FnScope ["_law_script", "_law_odd", "_law_k", "_law_pool_here", "_law_line", "_law_levels", "_law_words_here", "_law_made", "_law_gaps", "_law_text", "_law_turn", "_law_at", "_law_bent", "_law_wrong_here", "_law_spot", "_law_word"] ["_law_script"] (defScope S_law) := ⟨rfl, rfl, rfl, by decide +kernel, rfl, by decide +kernel, by decide +kernel⟩

/-! ### tokens: the signs -/
abbrev LET : Str := "abcdefghijklmnopqrstuvwxyz"
abbrev DIG : Str := "0123456789"
abbrev GAP : Str := " \n"
/-- a lowercase letter, a digit, either -/
def lc (c : Nat) : Bool := decide (c ∈ LET.cps.toList)
def dg (c : Nat) : Bool := decide (c ∈ DIG.cps.toList)
def gp (c : Nat) : Bool := decide (c ∈ GAP.cps.toList)
def an (c : Nat) : Bool := lc c || dg c
/-- the end of the run of letters and digits from b on -/
def runE (s : List Nat) (b : Nat) : Nat := b + ((s.drop b).takeWhile an).length
theorem runE_le {s : List Nat} {b : Nat} (h : b ≤ s.length) : runE s b ≤ s.length := by
  have h1 := (List.takeWhile_sublist an (l := s.drop b)).length_le
  rw [List.length_drop] at h1
  unfold runE
  omega
theorem runE_step {s : List Nat} {b : Nat} {c : Nat} (h : s[b]? = some c) (a : an c = true) : runE s b = runE s (b + 1) := by
  have hl : b < s.length := (List.getElem?_eq_some_iff.mp h).1
  have e : s.drop b = c :: s.drop (b + 1) := by
    rw [List.drop_eq_getElem_cons hl]
    congr 1
    have := List.getElem?_eq_getElem hl
    rw [h] at this
    exact (Option.some.inj this).symm
  unfold runE
  rw [e, List.takeWhile_cons, if_pos a, List.length_cons]
  omega
theorem runE_stop {s : List Nat} {b : Nat} {c : Nat} (h : s[b]? = some c) (a : an c = false) : runE s b = b := by
  have hl : b < s.length := (List.getElem?_eq_some_iff.mp h).1
  have e : s.drop b = c :: s.drop (b + 1) := by
    rw [List.drop_eq_getElem_cons hl]
    congr 1
    have := List.getElem?_eq_getElem hl
    rw [h] at this
    exact (Option.some.inj this).symm
  unfold runE
  rw [e, List.takeWhile_cons, if_neg (by rw [a]; exact Bool.false_ne_true)]
  rfl
theorem runE_end {s : List Nat} : runE s s.length = s.length := by
  unfold runE
  rw [List.drop_length]
  rfl
/-- the module's constants and Python's own names in it -/
structure TkB (mg : Str → Option Value) : Prop where
  let_ : ∃ t, mg "_LETTERS" = some (.str LET t)
  dig : ∃ t, mg "_DIGITS" = some (.str DIG t)
  gap : ∃ t, mg "_GAPS" = some (.str GAP t)
  len : mg "len" = none
  max : mg "max" = none
  all : mg "all" = none
def spEnd : Sp := fun vs H Q _ => ∃ (z : Str) (b : Nat), vs = [.str z, .int b] ∧ z.length ≤ 100000 ∧ b ≤ z.length ∧ Q (.int (runE z.cps.toList b : Nat)) H
theorem atN {α : Type} {xs : List α} {j : Nat} {x : α} (h : xs[j]? = some x) : atI xs (j : Int) = some x := by
  have hl : j < xs.length := (List.getElem?_eq_some_iff.mp h).1
  unfold atI
  rw [ixN_nat hl]
  exact h
theorem lenS {n : Nat} (h : n ≤ 100) : n ≤ sizeLine := smallL (by omega)
theorem zL {n : Nat} (h : n ≤ 100000) : n ≤ sizeLine := by rw [sizeLine_eq]; omega
section
variable {P : Program} {w : World} {K : PySem.W.Frag} {mg : Str → Option Value} {base : Heap}
theorem ok_end {f : Addr} {fd : FuncData} (F : Fun K "_end_of_run" "_end_of_run" S_end_of_run f fd) (B : TkB mg) : FnOk P w K mg base CX0 1 f fd ["text", "begin"] spEnd := by
  refine F.ok sc_end_of_run (fun vs H Q E h => ?_) (fun cdv A outer s H vs Q E hr h => ?_)
  · obtain ⟨z, b, rfl, _⟩ := h; rfl
  · obtain ⟨z, b, rfl, hz, hb, q⟩ := h
    obtain ⟨t1, m1⟩ := B.let_
    obtain ⟨t2, m2⟩ := B.dig
    refine ⟨_, pss_cons (ps_set (i := 2) sc_end_of_run.nd rfl (Or.inl rfl) (pv 1))
      (pss_cons (ps_while PassesOwn.never (PW.pt (pw_and (pt_cmpR op_lt (pv 2) (pe_callB call_len_str (by rfl) B.len PySem.boot_len (pa_cons (pv 0) pa_nil)) (nomark _))
          (pw_and1 (PW.pt (pw_or (pt_cmpR op_inS (pe_ix ix_str (pv 0) (pv 2) (fun _ _ => rfl)) (pe_glob (by rfl) m1 (v := .str LET) ⟨t1, rfl⟩) (by rfl))
            (pw_or1 (pt_cmpR op_inS (pe_ix ix_str (pv 0) (pv 2) (fun _ _ => rfl)) (pe_glob (by rfl) m2 (v := .str DIG) ⟨t2, rfl⟩) (by rfl))))))))
        (pss_one (ps_aug (i := 2) sc_end_of_run.nd rfl (.inl rfl) pe_int ip_add)))
      (pss_one (ps_ret (pv 2)))), ?_⟩
    refine ⟨_, rfl, ?_⟩
    have hsz : z.cps.toList.length = z.length := rfl
    refine ⟨fun m σ H' => ∃ e : Nat, m = z.length - e ∧ b ≤ e ∧ e ≤ z.length ∧ σ = [some (.str z), some (.int b), some (.int e)] ∧ H' = H ∧ runE z.cps.toList b = runE z.cps.toList e, ⟨_, b, rfl, Nat.le_refl _, hb, rfl, rfl, rfl⟩, ?_⟩
    rintro m σ H' ⟨e, rfl, hbe, hez, rfl, rfl, hrun⟩
    refine ⟨_, rfl, _, rfl, z, rfl, zL hz, _, _, rfl, rfl, _, rfl, ?_⟩
    have step : ∀ {c : Nat}, z.cps.toList[e]? = some c → an c = true → ∃ N : L2.St → Hp → Prop, (∀ σ' H'', N σ' H'' → ∃ m', m' < z.length - e ∧ ∃ e' : Nat, m' = z.length - e' ∧ b ≤ e' ∧ e' ≤ z.length ∧ σ' = [some (.str z), some (.int b), some (.int e')] ∧ H'' = H' ∧ runE z.cps.toList b = runE z.cps.toList e') ∧
        N [some (.str z), some (.int b), some (.int ((e : Int) + 1))] H' := fun {c} hc ha => by
      have hl : e < z.length := (List.getElem?_eq_some_iff.mp hc).1
      refine ⟨fun σ' H'' => σ' = [some (.str z), some (.int b), some (.int ((e + 1 : Nat) : Int))] ∧ H'' = H', ?_, ?_, rfl⟩
      · rintro σ' H'' ⟨rfl, rfl⟩
        exact ⟨_, by omega, e + 1, rfl, by omega, by omega, rfl, rfl, hrun.trans (runE_step hc ha)⟩
      · have e1 : ((e + 1 : Nat) : Int) = (e : Int) + 1 := by omega
        rw [e1]
    refine ite2 (fun h0 => ?_) (fun h0 => ?_)
    · have hl : e < z.length := by have := of_decide_eq_true h0; omega
      have hc : z.cps.toList[e]? = some (z.cps.toList[e]) := List.getElem?_eq_getElem hl
      generalize z.cps.toList[e] = c at hc
      refine ⟨_, rfl, _, rfl, z, _, c, rfl, rfl, zL hz, atN hc, c, LET, rfl, rfl, _, rfl, ?_⟩
      refine ite2 (fun h1 => ?_) (fun h1 => ?_)
      · obtain ⟨N, n1, n2⟩ := step hc (by unfold an lc; rw [h1]; rfl)
        exact ⟨N, n1, _, rfl, _, _, rfl, rfl, n2⟩
      · refine ⟨_, rfl, _, rfl, z, _, c, rfl, rfl, zL hz, atN hc, c, DIG, rfl, rfl, _, rfl, ?_⟩
        refine ite2 (fun h2 => ?_) (fun h2 => ?_)
        · obtain ⟨N, n1, n2⟩ := step hc (by unfold an dg; rw [h2, Bool.or_true])
          exact ⟨N, n1, _, rfl, _, _, rfl, rfl, n2⟩
        · have hs := runE_stop hc (by unfold an lc dg; rw [Bool.eq_false_iff.mpr h1, Bool.eq_false_iff.mpr h2]; rfl)
          rw [hs] at hrun
          rw [hrun] at q
          exact ⟨_, rfl, q⟩
    · have he : e = z.length := by
        have h1 : ¬ (e : Int) < (z.length : Int) := by simpa using h0
        omega
      subst he
      rw [hrun, ← hsz, runE_end] at q
      exact ⟨_, rfl, q⟩
/-- a lowercase letter, then letters and digits -/
def isW (s : List Nat) : Bool := match s with
  | [] => false
  | c :: r => lc c && r.all an
theorem takeWhile_all {α : Type} (p : α → Bool) : ∀ l : List α, ((l.takeWhile p).length = l.length) ↔ l.all p = true
  | [] => by simp
  | x :: l => by
    rw [List.takeWhile_cons, List.all_cons]
    cases h : p x with
    | false => simp
    | true => simp [takeWhile_all p l]
theorem isW_run {c : Nat} {r : List Nat} (h : lc c = true) : decide (runE (c :: r) 0 = (c :: r).length) = r.all an := by
  have ha : an c = true := by unfold an; rw [h]; rfl
  have e : runE (c :: r) 0 = 1 + (r.takeWhile an).length := by
    unfold runE
    rw [List.drop_zero, List.takeWhile_cons, if_pos ha, List.length_cons]
    omega
  rw [e, List.length_cons]
  have k := takeWhile_all an r
  cases h2 : r.all an with
  | true => rw [decide_eq_true_eq]; have := k.mpr h2; omega
  | false =>
    rw [decide_eq_false_iff_not]
    intro z
    have := k.mp (by omega)
    rw [h2] at this
    cases this
def spWord : Sp := fun vs H Q _ => ∃ z : Str, vs = [.str z] ∧ z.length ≤ 100000 ∧ Q (.bl (isW z.cps.toList)) H
theorem str_nil {z : Str} (h : z.cps.toList = []) : z = Str.empty := by
  obtain ⟨⟨l⟩⟩ := z
  simp only at h
  rw [h]
  rfl
end

/-! ### numbers, the list of tokens -/
/-- decimal digits without leading zeros -/
def isN (s : List Nat) : Bool := match s with
  | [] => false
  | c :: r => !(decide (c = 48) && !r.isEmpty) && (c :: r).all dg
def spNum : Sp := fun vs H Q _ => ∃ z : Str, vs = [.str z] ∧ z.length ≤ 50000 ∧ ∀ H', Same H H' → Q (.bl (isN z.cps.toList)) H'
theorem one_str (c : Nat) : (⟨#[c]⟩ : Str).cps.toList = [c] := rfl
section
variable {P : Program} {w : World} {K : PySem.W.Frag} {mg : Str → Option Value} {base : Heap}
theorem ok_is_number {f : Addr} {fd : FuncData} (F : Fun K "is_number" "is_number" S_is_number f fd) (B : TkB mg) : FnOk P w K mg base CX0 1 f fd ["text"] spNum := by
  refine F.ok sc_is_number (fun vs H Q E h => ?_) (fun cdv A outer s H vs Q E hr h => ?_)
  · obtain ⟨z, rfl, _⟩ := h; rfl
  · obtain ⟨z, rfl, hz, q⟩ := h
    obtain ⟨t2, m2⟩ := B.dig
    have hzL : z.length ≤ sizeLine := zL (by omega)
    refine ⟨_, pss_cons (ps_if (PW.pt (pw_or (pt_cmpR op_eq (pv 0) pe_str (nomark _)) (pw_or1 (PW.pt (pw_and (pt_cmpR op_eq (pe_ix ix_str (pv 0) pe_int (fun _ _ => rfl)) pe_str (nomark _)) (pw_and1 (pt_cmpR op_ne (pv 0) pe_str (nomark _))))))))
        (pss_one (ps_ret pe_bl)) pss_nil)
      (pss_one (ps_ret (pe_callB (cr_all (by rfl)) (by rfl) B.all (by decide +kernel) (pa_cons
        (pe_lc (own := [("character", 1)]) (g := gName 1) (by rfl) sc_is_number.nd (pi_str (pv 0)) (blkOk_by (own := [("character", 1)]) (N := ["text", "character"]) (sc := defScope S_is_number) (by decide +kernel)) (fun _ _ _ _ _ => pg_name (i := 1) sc_is_number.nd rfl (Or.inl rfl)) (fun _ _ _ _ _ => pts_nil)
          (fun _ _ _ _ _ => pe_cmpR op_inS (pv 1) (pe_glob (by rfl) m2 (v := .str DIG) ⟨t2, rfl⟩) (by rfl))) pa_nil)))), ?_⟩
    refine ⟨_, rfl, rfl, _, rfl, ?_⟩
    cases hs : z.cps.toList with
    | nil =>
      have e := str_nil hs
      subst e
      have q := q H (Same.refl _)
      rw [hs] at q
      refine iteT ?_
      exact q
    | cons c r =>
      have ne : z ≠ Str.ofString "" := fun e => by
        have e0 : (Str.ofString "").cps.toList = [] := by decide +kernel
        rw [e, e0] at hs
        cases hs
      rw [decide_eq_false (p := V.str z = V.str (Str.ofString "")) (fun e => ne (V.str.inj e))]
      refine iteF ?_
      refine ⟨_, rfl, z, 0, c, rfl, rfl, hzL, by rw [hs]; exact atN (j := 0) rfl, rfl, _, rfl, ?_⟩
      have h0 : (Str.ofString "0") = ⟨#[48]⟩ := by decide +kernel
      have d1 : decide (V.str ⟨#[c]⟩ = V.str (Str.ofString "0")) = decide (c = 48) := by
        rw [h0]
        exact decide_eq_decide.mpr ⟨fun k => by have k := V.str.inj k; injection k with k; simpa using k, fun k => by rw [k]⟩
      have d2 : (!decide (V.str z = V.str (Str.ofString "0"))) = !decide (c = 48 ∧ r = []) := by
        rw [h0]
        congr 1
        refine decide_eq_decide.mpr ⟨fun k => ?_, fun k => ?_⟩
        · have k := V.str.inj k
          rw [k] at hs
          have k2 : [48] = c :: r := hs
          injection k2 with k3 k4
          exact ⟨k3.symm, k4.symm⟩
        · obtain ⟨rfl, rfl⟩ := k
          congr 1
          obtain ⟨⟨l⟩⟩ := z
          simp only at hs
          rw [hs]
      have q' : ∀ H', Same H H' → (decide (c = 48) && !r.isEmpty) = false → Q (.bl ((c :: r).all dg)) H' := fun H' s e => by
        have q := q H' s
        rw [hs] at q
        have e1 : isN (c :: r) = (c :: r).all dg := by
          show (!(decide (c = 48) && !r.isEmpty) && (c :: r).all dg) = _
          rw [e]
          rfl
        rw [← e1]
        exact q
      have walk : (decide (c = 48) && !r.isEmpty) = false → tRet (tCB (rAll K) (tCons (tLc (iStr (tVar 0)) (gName 1) tYes (tOp rInS (tVar 1) (tC (.str DIG))) [1]) tNil)) { nx := fun _ H' => Q .non H', rt := Q } [some (.str z), none] H := fun e => by
        refine ⟨_, rfl, z, rfl, fun D hD => lc_it (walk_str (z := z)) (fun i H' => H' D = some (.lst ((z.cps.toList.take i).map fun c => V.bl (dg c))) ∧ Same H H') ⟨upd_same, Same.new hD⟩ (fun _ _ _ _ => trivial) ?_ ?_⟩
        · rintro i x H1 H2 hi ⟨hd, s1⟩ ⟨rfl, d, hd2, rfl⟩
          have hl : z.cps.toList[i]? = some d := by rw [Array.getElem?_toList]; exact hd2
          refine ⟨rfl, ?_⟩
          refine ⟨_, rfl, d, DIG, rfl, rfl, _, hd, ?_, ?_, s1.upd0 hD⟩
          · rw [List.length_map, List.length_take]
            exact Nat.lt_of_le_of_lt (show _ ≤ 50000 by have : z.cps.size = z.length := rfl; omega) (by decide)
          · rw [upd_same, List.take_add_one, hl]
            simp [dg]
        · rintro H1 ⟨hd, s1⟩
          have hfull : z.cps.toList.take z.cps.size = c :: r := by
            rw [hs]
            have : z.cps.size = (c :: r).length := by rw [← hs]; rfl
            rw [this, List.take_length]
          rw [hfull] at hd
          refine ⟨D, (c :: r).map dg, rfl, .of (by rw [hd, List.map_map]; rfl), ?_⟩
          have := q' H1 s1 e
          rw [List.all_map]
          exact this
      rw [d1]
      refine ite2 (fun h1 => ?_) (fun h1 => ?_)
      · refine ⟨_, rfl, rfl, _, rfl, ?_⟩
        rw [d2]
        have hc : c = 48 := of_decide_eq_true h1
        cases r with
        | nil =>
          rw [decide_eq_true (p := c = 48 ∧ ([] : List Nat) = []) ⟨hc, rfl⟩]
          refine iteF ?_
          exact walk (by simp)
        | cons c2 r2 =>
          rw [decide_eq_false (p := c = 48 ∧ c2 :: r2 = []) (fun k => nomatch k.2)]
          refine iteT ?_
          have q := q H (Same.refl _)
          rw [hs] at q
          have e1 : isN (c :: c2 :: r2) = false := by
            show (!(decide (c = 48) && !(c2 :: r2).isEmpty) && (c :: c2 :: r2).all dg) = _
            rw [h1]
            rfl
          rw [e1] at q
          exact q
      · refine iteF ?_
        exact walk (by rw [Bool.eq_false_iff.mpr h1, Bool.false_and])
end

/-- where the next token may begin -/
def nxt (s : List Nat) (a : Nat) : Nat := max (a + 1) (runE s a)
theorem nxt_gt (s : List Nat) (a : Nat) : a < nxt s a := Nat.lt_of_lt_of_le (Nat.lt_succ_self a) (Nat.le_max_left _ _)
theorem nxt_le {s : List Nat} {a : Nat} (h : a < s.length) : nxt s a ≤ s.length := Nat.max_le.mpr ⟨h, runE_le (Nat.le_of_lt h)⟩
/-- the tokens from a on, each with its position; the end is not among them -/
def toks (s : List Nat) (a : Nat) : List (List Nat × Nat) :=
  if h : a < s.length then (if gp s[a] = true then [] else [((s.drop a).take (nxt s a - a), a)]) ++ toks s (nxt s a) else []
termination_by s.length - a
decreasing_by have := nxt_gt s a; omega
theorem toks_gap {s : List Nat} {a c : Nat} (hc : s[a]? = some c) (g : gp c = true) : toks s a = toks s (nxt s a) := by
  have hl : a < s.length := (List.getElem?_eq_some_iff.mp hc).1
  have e : s[a] = c := by
    rw [List.getElem?_eq_getElem hl] at hc
    exact Option.some.inj hc
  rw [toks, dif_pos hl, e, if_pos g, List.nil_append]
theorem toks_tok {s : List Nat} {a c : Nat} (hc : s[a]? = some c) (g : gp c = false) : toks s a = ((s.drop a).take (nxt s a - a), a) :: toks s (nxt s a) := by
  have hl : a < s.length := (List.getElem?_eq_some_iff.mp hc).1
  have e : s[a] = c := by
    rw [List.getElem?_eq_getElem hl] at hc
    exact Option.some.inj hc
  rw [toks, dif_pos hl, e, if_neg (by rw [g]; exact Bool.false_ne_true), List.singleton_append]
theorem toks_end {s : List Nat} {a : Nat} (h : ¬ a < s.length) : toks s a = [] := by rw [toks, dif_neg h]
/-- v is a pair (token, position) -/
def TokAt (H : Hp) (v : V) (t : List Nat × Nat) : Prop := ∃ p : Addr, v = .ref p ∧ H p = some (.tup [.str ⟨t.1.toArray⟩, .int (t.2 : Int)])
/-- a list of tokens at l -/
def TkL (H : Hp) (l : Addr) (ts : List (List Nat × Nat)) : Prop := ∃ vs : List V, H l = some (.lst vs) ∧ Paired (TokAt H) vs ts
theorem TokAt.same {H H' : Hp} {v : V} {t : List Nat × Nat} (h : TokAt H v t) (s : Same H H') : TokAt H' v t := let ⟨p, e, q⟩ := h; ⟨p, e, s _ _ q⟩
/-- the list grows by a pair that was just laid at p -/
theorem TkL.app {H : Hp} {l p : Addr} {vs : List V} {ts : List (List Nat × Nat)} {t : List Nat × Nat} (hl : H l = some (.lst vs)) (hv : Paired (TokAt H) vs ts) (hp : H p = none) :
    TkL (upd (upd H p (.tup [.str ⟨t.1.toArray⟩, .int (t.2 : Int)])) l (.lst (vs ++ [.ref p]))) l (ts ++ [t]) := by
  have ne : p ≠ l := fun e => by rw [e, hl] at hp; cases hp
  refine ⟨_, upd_same, (L2.Paired.mapP hv fun v t' h => ?_).snoc ⟨p, rfl, by rw [upd_ne ne, upd_same]⟩⟩
  obtain ⟨q, e, hq⟩ := h
  refine ⟨q, e, ?_⟩
  rw [upd_ne (fun z => by rw [z, hl] at hq; cases hq), upd_ne (fun z => by rw [z, hp] at hq; cases hq)]
  exact hq
def spToks : Sp := fun vs H Q _ => ∃ z : Str, vs = [.str z] ∧ z.length ≤ 50000 ∧ ∀ (l : Addr) (H' : Hp), H l = none → Same H H' → TkL H' l (toks z.cps.toList 0 ++ [([], z.length)]) → Q (.ref l) H'
theorem cut_eq {z : Str} {a e : Nat} (ha : a ≤ z.length) (he : e ≤ z.length) : cutS z (some (a : Int)) (some (e : Int)) = ⟨((z.cps.toList.drop a).take (e - a)).toArray⟩ := by
  unfold cutS
  rw [HT.sIx_nat, HT.sIx_nat, Nat.min_eq_left ha, Nat.min_eq_left he]
theorem toks_len (s : List Nat) : ∀ (n a : Nat), s.length - a = n → (toks s a).length ≤ n := by
  intro n
  induction n using Nat.strongRecOn with
  | ind n ih =>
    intro a e
    by_cases hl : a < s.length
    · have hc : s[a]? = some s[a] := List.getElem?_eq_getElem hl
      have h1 := nxt_gt s a
      have h2 := ih (s.length - nxt s a) (by omega) (nxt s a) rfl
      cases g : gp s[a] with
      | true => rw [toks_gap hc g]; omega
      | false => rw [toks_tok hc g, List.length_cons]; omega
    · rw [toks_end hl]; exact Nat.zero_le _
section
variable {P : Program} {w : World} {K : PySem.W.Frag} {mg : Str → Option Value} {base : Heap}
theorem ok_tokens {f fE : Addr} {fd dE : FuncData} (F : Fun K "tokens_of" "tokens_of" S_tokens_of f fd) (FE : Fun K "_end_of_run" "_end_of_run" S_end_of_run fE dE) (bE : Binds K dE ["text", "begin"] []) (gE : mg "_end_of_run" = some (.ref fE)) (B : TkB mg) : FnOk P w K mg base CX0 2 f fd ["text"] spToks := by
  have GE : FnOk P w K mg base CX0 1 fE dE ["text", "begin"] spEnd := ok_end FE B
  refine F.ok sc_tokens_of (fun vs H Q E h => ?_) (fun cdv A outer s H vs Q E hr h => ?_)
  · obtain ⟨z, rfl, _⟩ := h; rfl
  · obtain ⟨z, rfl, hz, q⟩ := h
    obtain ⟨t1, m1⟩ := B.gap
    refine ⟨_, pss_cons (ps_set (i := 1) sc_tokens_of.nd rfl (Or.inl rfl) (pe_lst pa_nil))
      (pss_cons (ps_set (i := 2) sc_tokens_of.nd rfl (Or.inl rfl) pe_int)
      (pss_cons (ps_while PassesOwn.never (pt_cmpR op_lt (pv 2) (pe_callB call_len_str (by rfl) B.len PySem.boot_len (pa_cons (pv 0) pa_nil)) (nomark _))
        (pss_cons (ps_set (i := 3) sc_tokens_of.nd rfl (Or.inl rfl) (pe_callB (call_max2 rfl) (by rfl) B.max (by decide +kernel) (pa_cons (pe_op op_add (pv 2) pe_int) (pa_cons (pe_call GE hr (by rfl) gE FE.kp bE .nil pass0 (pa_cons (pv 0) (pa_cons (pv 2) pa_nil))) pa_nil))))
        (pss_cons (ps_if (pt_cmpR op_notInS (pe_ix ix_str (pv 0) (pv 2) (fun _ _ => rfl)) (pe_glob (by rfl) m1 (v := .str GAP) ⟨t1, rfl⟩) (by rfl))
          (pss_one (ps_expr (pe_bm PySem.F.plainAttrs_list PySem.F.slot_list_append PySem.F.type_list_append mt_append (pv 1) (pa_cons (pe_tup (pa_cons (pe_slice sl_str (pv 0) (po_some (pv 2)) (po_some (pv 3))) (pa_cons (pv 2) pa_nil))) pa_nil)))) pss_nil)
        (pss_one (ps_set (i := 2) sc_tokens_of.nd rfl (Or.inl rfl) (pv 3))))))
      (pss_cons (ps_expr (pe_bm PySem.F.plainAttrs_list PySem.F.slot_list_append PySem.F.type_list_append mt_append (pv 1) (pa_cons (pe_tup (pa_cons pe_str (pa_cons (pe_callB call_len_str (by rfl) B.len PySem.boot_len (pa_cons (pv 0) pa_nil)) pa_nil))) pa_nil)))
      (pss_one (ps_ret (pv 1)))))), ?_⟩
    refine ⟨Nat.zero_le _, fun l hl => ?_⟩
    have hsz : z.cps.toList.length = z.length := rfl
    refine ⟨fun m σ H' => ∃ (a : Nat) (vs : List V) (ts : List (List Nat × Nat)) (v3 : Option V), m = z.length - a ∧ a ≤ z.length ∧ σ = [some (.str z), some (.ref l), some (.int (a : Int)), v3] ∧ Same H H' ∧ H' l = some (.lst vs) ∧ Paired (TokAt H') vs ts ∧ ts ++ toks z.cps.toList a = toks z.cps.toList 0 ∧ ts.length ≤ a,
      ⟨_, 0, [], [], none, rfl, Nat.zero_le _, rfl, Same.new hl, upd_same, .nil, rfl, Nat.zero_le _⟩, ?_⟩
    rintro m σ H' ⟨a, vs, ts, v3, rfl, ha, rfl, s1, hv, hp, ht, hn⟩
    refine ⟨_, rfl, _, rfl, z, rfl, zL (by omega), _, _, rfl, rfl, _, rfl, ?_⟩
    refine ite2 (fun h0 => ?_) (fun h0 => ?_)
    · have hal : a < z.length := by have := of_decide_eq_true h0; omega
      have hc : z.cps.toList[a]? = some (z.cps.toList[a]) := List.getElem?_eq_getElem hal
      generalize z.cps.toList[a] = c at hc
      have g1 := nxt_gt z.cps.toList a
      have g2 : nxt z.cps.toList a ≤ z.length := nxt_le (s := z.cps.toList) hal
      have em : (if ((runE z.cps.toList a : Nat) : Int) > (a : Int) + 1 then ((runE z.cps.toList a : Nat) : Int) else (a : Int) + 1) = ((nxt z.cps.toList a : Nat) : Int) := by
        unfold nxt
        split <;> omega
      have next : ∀ (H2 : Hp) (vs2 : List V) (ts2 : List (List Nat × Nat)), Same H H2 → H2 l = some (.lst vs2) → Paired (TokAt H2) vs2 ts2 → ts2 ++ toks z.cps.toList (nxt z.cps.toList a) = toks z.cps.toList 0 → ts2.length ≤ a + 1 →
          ∃ m', m' < z.length - a ∧ ∃ (a' : Nat) (vs : List V) (ts : List (List Nat × Nat)) (v3 : Option V), m' = z.length - a' ∧ a' ≤ z.length ∧ [some (V.str z), some (.ref l), some (.int ((nxt z.cps.toList a : Nat) : Int)), some (.int ((nxt z.cps.toList a : Nat) : Int))] = [some (.str z), some (.ref l), some (.int (a' : Int)), v3] ∧ Same H H2 ∧ H2 l = some (.lst vs) ∧ Paired (TokAt H2) vs ts ∧ ts ++ toks z.cps.toList a' = toks z.cps.toList 0 ∧ ts.length ≤ a' :=
        fun H2 vs2 ts2 k1 k2 k3 k4 k5 => ⟨z.length - nxt z.cps.toList a, by omega, nxt z.cps.toList a, vs2, ts2, _, rfl, g2, rfl, k1, k2, k3, k4, by omega⟩
      refine ⟨fun σ' H2 => σ' = [some (V.str z), some (.ref l), some (.int ((nxt z.cps.toList a : Nat) : Int)), some (.int ((nxt z.cps.toList a : Nat) : Int))] ∧ ∃ (vs2 : List V) (ts2 : List (List Nat × Nat)), Same H H2 ∧ H2 l = some (.lst vs2) ∧ Paired (TokAt H2) vs2 ts2 ∧ ts2 ++ toks z.cps.toList (nxt z.cps.toList a) = toks z.cps.toList 0 ∧ ts2.length ≤ a + 1, ?_, ?_⟩
      · rintro σ' H2 ⟨rfl, vs2, ts2, k1, k2, k3, k4, k5⟩
        exact next H2 vs2 ts2 k1 k2 k3 k4 k5
      refine ⟨_, rfl, _, _, rfl, rfl, _, rfl, _, rfl, z, a, rfl, by omega, ha, _, _, rfl, ?_⟩
      rw [em]
      refine ⟨_, rfl, _, rfl, z, _, c, rfl, rfl, zL (by omega), atN hc, c, GAP, rfl, rfl, _, rfl, ?_⟩
      refine ite2 (fun h1 => ?_) (fun h1 => ?_)
      · have gf : gp c = false := by unfold gp; simpa using h1
        have vl : vs.length = ts.length := hp.length
        refine ⟨_, rfl, .inl ⟨rfl, _, .of hv⟩, _, rfl, _, rfl, _, rfl, _, rfl, _, rfl, z, rfl, zL (by omega), _, rfl, lenS (by simp), fun p hpn => ?_⟩
        have ne : p ≠ l := fun e => by rw [e, hv] at hpn; cases hpn
        refine ⟨l, vs, .ref p, rfl, rfl, by rw [upd_ne ne.symm]; exact hv, Nat.lt_of_le_of_lt (show vs.length ≤ 50000 by omega) (by decide), ?_⟩
        rw [cut_eq ha g2]
        obtain ⟨vs2, k2, k3⟩ := TkL.app (t := ((z.cps.toList.drop a).take (nxt z.cps.toList a - a), a)) hv hp hpn
        refine ⟨_, rfl, rfl, vs2, _, (s1.upN hpn).upd0 hl, k2, k3, ?_, ?_⟩
        · rw [List.append_assoc, List.singleton_append, ← toks_tok hc gf]
          exact ht
        · rw [List.length_append, List.length_singleton]; omega
      · have gt : gp c = true := by unfold gp; simpa using h1
        refine ⟨_, rfl, rfl, vs, ts, s1, hv, hp, ?_, by omega⟩
        rw [← toks_gap hc gt]
        exact ht
    · have hE : ¬ a < z.length := fun k => h0 (decide_eq_true (by omega))
      rw [toks_end (s := z.cps.toList) hE, List.append_nil] at ht
      subst ht
      have vl : vs.length = (toks z.cps.toList 0).length := hp.length
      refine ⟨_, rfl, .inl ⟨rfl, _, .of hv⟩, _, rfl, z, rfl, zL (by omega), lenS (by simp), fun p hpn => ?_⟩
      have ne : p ≠ l := fun e => by rw [e, hv] at hpn; cases hpn
      refine ⟨l, vs, .ref p, rfl, rfl, by rw [upd_ne ne.symm]; exact hv, Nat.lt_of_le_of_lt (show vs.length ≤ 50000 by omega) (by decide), ?_⟩
      refine ⟨_, rfl, q l _ hl ((s1.upN hpn).upd0 hl) ?_⟩
      exact TkL.app (t := ([], z.length)) hv hp hpn
end

end K14

namespace K14
open PySem L2 SZ VR VX StX RT
/-! ### the class Reader -/
/-- a reader stands at R: its tokens ts, k of them passed -/
def RdAt (C : Addr) (H : Hp) (R : Addr) (ts : List (List Nat × Nat)) (k : Nat) : Prop := ∃ dx l : Addr, H R = some (.ins C dx [("_tokens", .ref l), ("_at", .int (k : Int))]) ∧ H dx = some (.own R) ∧ TkL H l ts
/-- all else is kept -/
def ButR (R : Addr) (H H' : Hp) : Prop := ∀ b o, H b = some o → b ≠ R → H' b = some o
theorem TkL.but {R l : Addr} {H H' : Hp} {ts : List (List Nat × Nat)} {C dx : Addr} {fs : List (Str × V)} (h : TkL H l ts) (hR : H R = some (.ins C dx fs)) (s : ButR R H H') : TkL H' l ts := by
  obtain ⟨vs, h1, h2⟩ := h
  refine ⟨vs, s _ _ h1 (fun e => by rw [e, hR] at h1; cases h1), L2.Paired.mapP h2 fun v t ⟨p, e, hp⟩ => ⟨p, e, s _ _ hp (fun e => by rw [e, hR] at hp; cases hp)⟩⟩
theorem RdAt.step {C R : Addr} {H : Hp} {dx l : Addr} {ts : List (List Nat × Nat)} {k : Nat} {j : Nat} (h1 : H R = some (.ins C dx [("_tokens", .ref l), ("_at", .int (k : Int))])) (h2 : H dx = some (.own R)) (h3 : TkL H l ts) :
    RdAt C (upd H R (.ins C dx [("_tokens", .ref l), ("_at", .int (j : Int))])) R ts j ∧ ButR R H (upd H R (.ins C dx [("_tokens", .ref l), ("_at", .int (j : Int))])) := by
  have b : ButR R H (upd H R (.ins C dx [("_tokens", .ref l), ("_at", .int (j : Int))])) := fun b o e n => by rw [upd_ne n]; exact e
  exact ⟨⟨dx, l, upd_same, b _ _ h2 (fun e => by rw [e, h1] at h2; cases h2), h3.but h1 b⟩, b⟩
/-- what the class's own objects say -/
structure RdC (K : PySem.W.Frag) (mg : Str → Option Value) (C : Addr) : Prop where
  kit : InsKit K C
  nT : NoAttr K C "_tokens"
  nA : NoAttr K C "_at"
theorem Paired.at' {α β : Type} {F : α → β → Prop} : ∀ {xs : List α} {ys : List β} {i : Nat} {y : β}, Paired F xs ys → ys[i]? = some y → ∃ x, xs[i]? = some x ∧ F x y
  | _, _, _, _, .nil, h => by simp at h
  | _, _, 0, _, .cons (a := a) f _, h => by
    simp at h
    subst h
    exact ⟨a, rfl, f⟩
  | _, _, i + 1, _, .cons _ r, h => by
    obtain ⟨x, e, f⟩ := Paired.at' r (by simpa using h)
    exact ⟨x, by simpa using e, f⟩
/-- the next token, the reader as it was -/
def spTok (C : Addr) : Sp := fun vs H Q _ => ∃ (R : Addr) (ts : List (List Nat × Nat)) (k : Nat) (t : List Nat × Nat), vs = [.ref R] ∧ RdAt C H R ts k ∧ ts[k]? = some t ∧ Q (.str ⟨t.1.toArray⟩) H
def spPlace (C : Addr) : Sp := fun vs H Q _ => ∃ (R : Addr) (ts : List (List Nat × Nat)) (k : Nat) (t : List Nat × Nat), vs = [.ref R] ∧ RdAt C H R ts k ∧ ts[k]? = some t ∧ Q (.int (t.2 : Int)) H
def spPassAny (C : Addr) : Sp := fun vs H Q _ => ∃ (R : Addr) (ts : List (List Nat × Nat)) (k : Nat) (t : List Nat × Nat), vs = [.ref R] ∧ RdAt C H R ts k ∧ ts[k]? = some t ∧ ∀ H', RdAt C H' R ts (k + 1) → ButR R H H' → Q (.str ⟨t.1.toArray⟩) H'
def spPasses (C : Addr) : Sp := fun vs H Q _ => ∃ (R : Addr) (ts : List (List Nat × Nat)) (k : Nat) (t : List Nat × Nat) (x : Str), vs = [.ref R, .str x] ∧ RdAt C H R ts k ∧ ts[k]? = some t ∧
  ((⟨t.1.toArray⟩ ≠ x ∧ Q (.bl false) H) ∨ (⟨t.1.toArray⟩ = x ∧ ∀ H', RdAt C H' R ts (k + 1) → ButR R H H' → Q (.bl true) H'))
def spRdInit (C : Addr) : Sp := fun vs H Q _ => ∃ (R dx : Addr) (z : Str), vs = [.ref R, .str z] ∧ H R = some (.ins C dx []) ∧ H dx = some (.own R) ∧ z.length ≤ 50000 ∧ ∀ H' : Hp, ButR R H H' → RdAt C H' R (toks z.cps.toList 0 ++ [([], z.length)]) 0 → Q .non H'
section
variable {P : Program} {w : World} {K : PySem.W.Frag} {mg : Str → Option Value} {base : Heap} {C : Addr}
theorem ok_token {f : Addr} {fd : FuncData} (F : Fun K "token" "Reader.token" S_Reader_token f fd) (Z : RdC K mg C) : FnOk P w K mg base CX0 1 f fd ["self"] (spTok C) := by
  refine F.ok sc_Reader_token (fun vs H Q E h => ?_) (fun cdv A outer s H vs Q E hr h => ?_)
  · obtain ⟨R, ts, k, t, rfl, _⟩ := h; rfl
  · obtain ⟨R, ts, k, t, rfl, ⟨dx, l, hR, ho, vs, hl, hp⟩, hk, q⟩ := h
    obtain ⟨v, hv, p, rfl, hT⟩ := Paired.at' hp hk
    refine ⟨_, pss_cons (ps_asg (pe_ix ix_list (pe_fld (pv 0) rfl) (pe_fld (pv 0) rfl) (fun _ _ => rfl)) (pg_tup rfl (pgs_cons (pg_name (i := 1) sc_Reader_token.nd rfl (Or.inl rfl)) (pgs_cons (pg_name (i := 2) sc_Reader_token.nd rfl (Or.inl rfl)) pgs_nil))))
      (pss_one (ps_ret (pv 1))), ?_⟩
    refine ⟨_, rfl, R, C, dx, _, .ref l, rfl, hR, Z.kit.cl, Z.nT, rfl, _, rfl, R, C, dx, _, .int (k : Int), rfl, hR, Z.kit.cl, Z.nA, rfl, ?_⟩
    refine ⟨l, vs, (k : Int), .ref p, rfl, rfl, .of hl, atN hv, ?_⟩
    refine ⟨p, _, rfl, .of hT, rfl, _, _, rfl, _, _, rfl, rfl, ?_⟩
    exact ⟨_, rfl, q⟩
theorem ok_place {f : Addr} {fd : FuncData} (F : Fun K "place" "Reader.place" S_Reader_place f fd) (Z : RdC K mg C) : FnOk P w K mg base CX0 1 f fd ["self"] (spPlace C) := by
  refine F.ok sc_Reader_place (fun vs H Q E h => ?_) (fun cdv A outer s H vs Q E hr h => ?_)
  · obtain ⟨R, ts, k, t, rfl, _⟩ := h; rfl
  · obtain ⟨R, ts, k, t, rfl, ⟨dx, l, hR, ho, vs, hl, hp⟩, hk, q⟩ := h
    obtain ⟨v, hv, p, rfl, hT⟩ := Paired.at' hp hk
    refine ⟨_, pss_cons (ps_asg (pe_ix ix_list (pe_fld (pv 0) rfl) (pe_fld (pv 0) rfl) (fun _ _ => rfl)) (pg_tup rfl (pgs_cons (pg_name (i := 1) sc_Reader_place.nd rfl (Or.inl rfl)) (pgs_cons (pg_name (i := 2) sc_Reader_place.nd rfl (Or.inl rfl)) pgs_nil))))
      (pss_one (ps_ret (pv 2))), ?_⟩
    refine ⟨_, rfl, R, C, dx, _, .ref l, rfl, hR, Z.kit.cl, Z.nT, rfl, _, rfl, R, C, dx, _, .int (k : Int), rfl, hR, Z.kit.cl, Z.nA, rfl, ?_⟩
    refine ⟨l, vs, (k : Int), .ref p, rfl, rfl, .of hl, atN hv, ?_⟩
    refine ⟨p, _, rfl, .of hT, rfl, _, _, rfl, _, _, rfl, rfl, ?_⟩
    exact ⟨_, rfl, q⟩
theorem succ_int (k : Nat) : V.int ((k : Int) + 1) = V.int ((k + 1 : Nat) : Int) := by congr 1
theorem ok_pass_any {f fT : Addr} {fd dT : FuncData} (F : Fun K "pass_any" "Reader.pass_any" S_Reader_pass_any f fd) (FT : Fun K "token" "Reader.token" S_Reader_token fT dT) (bT : Binds K dT ["self"] []) (MT : Meth K C "token" fT) (Z : RdC K mg C) : FnOk P w K mg base CX0 2 f fd ["self"] (spPassAny C) := by
  have GT : FnOk P w K mg base CX0 1 fT dT ["self"] (spTok C) := ok_token FT Z
  refine F.ok sc_Reader_pass_any (fun vs H Q E h => ?_) (fun cdv A outer s H vs Q E hr h => ?_)
  · obtain ⟨R, ts, k, t, rfl, _⟩ := h; rfl
  · obtain ⟨R, ts, k, t, rfl, hRd, hk, q⟩ := h
    obtain ⟨dx, l, hR, ho, hL⟩ := id hRd
    refine ⟨_, pss_cons (ps_set (i := 1) sc_Reader_pass_any.nd rfl (Or.inl rfl) (pe_meth0 (pv 0) Z.kit.cl MT GT hr bT .nil pass0))
      (pss_cons (ps_fldaug (pv 0) pe_int in_add) (pss_one (ps_ret (pv 1)))), ?_⟩
    refine ⟨_, rfl, R, dx, _, rfl, hR, rfl, R, ts, k, t, rfl, hRd, hk, ?_⟩
    refine ⟨_, rfl, R, C, dx, _, .int (k : Int), rfl, hR, Z.kit.cl, Z.nA, rfl, (k : Int), 1, rfl, rfl, dx, _, hR, (by show 2 < 1000; decide), ?_⟩
    rw [succ_int]
    obtain ⟨s1, s2⟩ := RdAt.step (j := k + 1) hR ho hL
    exact ⟨_, rfl, q _ s1 s2⟩
theorem ok_passes {f fT : Addr} {fd dT : FuncData} (F : Fun K "passes" "Reader.passes" S_Reader_passes f fd) (FT : Fun K "token" "Reader.token" S_Reader_token fT dT) (bT : Binds K dT ["self"] []) (MT : Meth K C "token" fT) (Z : RdC K mg C) : FnOk P w K mg base CX0 2 f fd ["self", "token"] (spPasses C) := by
  have GT : FnOk P w K mg base CX0 1 fT dT ["self"] (spTok C) := ok_token FT Z
  refine F.ok sc_Reader_passes (fun vs H Q E h => ?_) (fun cdv A outer s H vs Q E hr h => ?_)
  · obtain ⟨R, ts, k, t, x, rfl, _⟩ := h; rfl
  · obtain ⟨R, ts, k, t, x, rfl, hRd, hk, q⟩ := h
    obtain ⟨dx, l, hR, ho, hL⟩ := id hRd
    refine ⟨_, pss_cons (ps_if (pt_cmpR op_ne (pe_meth0 (pv 0) Z.kit.cl MT GT hr bT .nil pass0) (pv 1) (nomark _)) (pss_one (ps_ret pe_bl)) pss_nil)
      (pss_cons (ps_fldaug (pv 0) pe_int in_add) (pss_one (ps_ret pe_bl))), ?_⟩
    refine ⟨_, rfl, R, dx, _, rfl, hR, rfl, R, ts, k, t, rfl, hRd, hk, _, rfl, rfl, _, rfl, ?_⟩
    rcases q with ⟨ne, q⟩ | ⟨e, q⟩
    · rw [decide_eq_false (p := V.str ⟨t.1.toArray⟩ = V.str x) (fun z => ne (V.str.inj z))]
      exact iteT q
    · rw [decide_eq_true (p := V.str ⟨t.1.toArray⟩ = V.str x) (by rw [e])]
      refine iteF ?_
      refine ⟨_, rfl, R, C, dx, _, .int (k : Int), rfl, hR, Z.kit.cl, Z.nA, rfl, (k : Int), 1, rfl, rfl, dx, _, hR, (by show 2 < 1000; decide), ?_⟩
      rw [succ_int]
      obtain ⟨s1, s2⟩ := RdAt.step (j := k + 1) hR ho hL
      exact q _ s1 s2
theorem ok_rd_init {f fT fE : Addr} {fd dT dE : FuncData} (F : Fun K "__init__" "Reader.__init__" S_Reader___init__ f fd) (FT : Fun K "tokens_of" "tokens_of" S_tokens_of fT dT) (bT : Binds K dT ["text"] []) (gT : mg "tokens_of" = some (.ref fT))
    (FE : Fun K "_end_of_run" "_end_of_run" S_end_of_run fE dE) (bE : Binds K dE ["text", "begin"] []) (gE : mg "_end_of_run" = some (.ref fE)) (B : TkB mg) (Z : RdC K mg C) : FnOk P w K mg base CX0 3 f fd ["self", "text"] (spRdInit C) := by
  have GT : FnOk P w K mg base CX0 2 fT dT ["text"] spToks := ok_tokens FT FE bE gE B
  refine F.ok sc_Reader___init__ (fun vs H Q E h => ?_) (fun cdv A outer s H vs Q E hr h => ?_)
  · obtain ⟨R, dx, z, rfl, _⟩ := h; rfl
  · obtain ⟨R, dx, z, rfl, hR, ho, hz, q⟩ := h
    refine ⟨_, pss_cons (ps_fld (pv 0) (pe_call GT hr (by rfl) gT FT.kp bT .nil pass0 (pa_cons (pv 1) pa_nil)) rfl) (pss_one (ps_fld (pv 0) pe_int rfl)), ?_⟩
    refine ⟨_, rfl, z, rfl, hz, fun l H1 hl s1 hL => ?_⟩
    have hR1 := s1 _ _ hR
    refine ⟨_, rfl, R, C, dx, [], rfl, hR1, Z.kit.cl, Z.nT, (by show 0 < 1000; decide), ?_⟩
    refine ⟨_, rfl, R, C, dx, _, rfl, upd_same, Z.kit.cl, Z.nA, (by show 1 < 1000; decide), ?_⟩
    have b1 : ButR R H1 (upd (upd H1 R (.ins C dx (putF "_tokens" (.ref l) []))) R (.ins C dx (putF "_at" (.int 0) (putF "_tokens" (.ref l) [])))) := fun b o e n => by rw [upd_ne n, upd_ne n]; exact e
    have ho1 := s1 _ _ ho
    refine q _ (fun b o e n => b1 _ _ (s1 _ _ e) n) ⟨dx, l, upd_same, b1 _ _ ho1 (fun e => by rw [e, hR1] at ho1; cases ho1), hL.but hR1 b1⟩
end

end K14

namespace K14
open PySem L2 SZ VR VX StX RT
/-! ### raise InvalidSyntax(position) -/
/-- the class InvalidSyntax and its __init__ -/
structure SxC (P : Program) (w : World) (K : PySem.W.Frag) (mg : Str → Option Value) (base : Heap) (x : Str) (C : Addr) (f : Str) : Prop where
  O : OexC K C
  m : mg x = some (.ref C)
  i : ∃ (fI : Addr) (fd : FuncData), PySem.W.findIn K (.ref C) "__init__" = some (some (.ref fI)) ∧ PySem.W.typeIn K (.ref fI) = some (.type "function") ∧ FnOk P w K mg base CX0 1 fI fd [("self" : Str), f] (spOx K C f) ∧ Binds K fd [("self" : Str), f] []
/-- te, for any stronger wish -/
def tMono (te : TE) : TE := fun σ H Q => ∃ Q0 : VK, te σ H Q0 ∧ ∀ v H1, Q0 v H1 → Q v H1
theorem pe_tMono {X : Cx} {e : Expr} {te : TE} (he : PE X e te) : PE X e (tMono te) := ⟨fun pins s σ H Q I ⟨Q0, h, k⟩ => wpAny_mono (he.run pins s σ H Q0 I h) (fun u s' ⟨x, H1, I1, r, q⟩ => ⟨x, H1, I1, r, k _ _ q⟩) fun _ _ z => z⟩
/-- C(e) is made and raised: its dict is d, all else is kept -/
def tRaiseX (C : Addr) (f : Str) (te : TE) (W : WX) : TS := fun _ σ H => te σ H fun v H1 => ∀ (d : Addr) (H' : Hp), H1 d = none → Same H1 H' → H' d = some (.xd [(f, v)]) → W (.ref C) (some d) σ H'
theorem ps_raiseX {X : Cx} {W : WX} {x : Str} {C : Addr} {f : Str} {e : Expr} {te : TE} {p cpos pos : Pos} (G : SxC X.prog X.w X.K X.mg X.base x C f) (hc : X.calm = true) (tk : Takes X W) (hr : Room 2 X.A) (he : PE X e te) (hg : Gl X x := by rfl) (hdb : (x == ("__debug__" : Str)) = false := by decide)
    (hs : starEach [e] X.env = (false, eval e X.env) :: starEach [] X.env := by rfl) : PS X (.Raise (some (.Call (.Name x p) [e] [] cpos)) none pos) (tRaiseX C f te W) := by
  obtain ⟨fI, fd, iC, tI, F, b⟩ := G.i
  have h := ps_raise (pos := pos) hc tk (pmk_oex (ta := tCons (tMono te) tNil) (es := []) (p := p) (pos := cpos) (dvs := []) (ds := []) G.O iC tI F hr b .nil pass0 hg G.m (pa_cons (pe_tMono he) pa_nil hs) hdb hs (by rfl))
  refine ⟨fun pins s σ H D I q => h.run pins s σ H D I ⟨_, q, fun v H1 k => ⟨by simp, fun a ha => ⟨a, v, rfl, upd_same, fun dx h1 h2 => ?_⟩⟩⟩⟩
  have hd : H1 dx = none := by rw [upd_ne h2] at h1; exact h1
  refine ⟨rfl, dx, [(f, v)], upd_same, by rw [upd_ne h2, upd_same], hd, k dx _ hd (fun b o e => ?_) upd_same⟩
  have b1 : b ≠ a := ne_of_none e ha
  have b2 : b ≠ dx := ne_of_none e hd
  rw [upd_ne b2, del_ne b1, upd_ne b1, upd_ne b2, upd_ne b1]
  exact e
/-- what leaves: InvalidSyntax at position p; all but the reader at R is kept -/
def Out (CS R : Addr) (H : Hp) (p : Nat) (E : XK) : Prop := ∀ (d : Addr) (H' : Hp), ButR R H H' → H' d = some (.xd [("position", .int (p : Int))]) → E (.ref CS) (some d) H'
def spOnly (C CS : Addr) : Sp := fun vs H Q E => ∃ (R : Addr) (ts : List (List Nat × Nat)) (k : Nat) (t : List Nat × Nat) (x : Str), vs = [.ref R, .str x] ∧ RdAt C H R ts k ∧ ts[k]? = some t ∧
  ((⟨t.1.toArray⟩ = x ∧ ∀ H', RdAt C H' R ts (k + 1) → ButR R H H' → Q .non H') ∨ (⟨t.1.toArray⟩ ≠ x ∧ Out CS R H t.2 E))
def spPassEnd (C CS : Addr) : Sp := fun vs H Q E => ∃ (R : Addr) (ts : List (List Nat × Nat)) (k : Nat) (t : List Nat × Nat), vs = [.ref R] ∧ RdAt C H R ts k ∧ ts[k]? = some t ∧
  ((t.1 = [] ∧ Q .non H) ∨ (t.1 ≠ [] ∧ Out CS R H t.2 E))
section
variable {P : Program} {w : World} {K : PySem.W.Frag} {mg : Str → Option Value} {base : Heap} {C CS : Addr}
theorem ok_pass_only {f fP fT fL : Addr} {fd dP dT dL : FuncData} (F : Fun K "pass_only" "Reader.pass_only" S_Reader_pass_only f fd) (FP : Fun K "passes" "Reader.passes" S_Reader_passes fP dP) (bP : Binds K dP ["self", "token"] []) (MP : Meth K C "passes" fP)
    (FT : Fun K "token" "Reader.token" S_Reader_token fT dT) (bT : Binds K dT ["self"] []) (MT : Meth K C "token" fT) (FL : Fun K "place" "Reader.place" S_Reader_place fL dL) (bL : Binds K dL ["self"] []) (ML : Meth K C "place" fL) (Z : RdC K mg C) (G : SxC P w K mg base "InvalidSyntax" CS "position") :
    FnOk P w K mg base (L2.CX P w) 3 f fd ["self", "token"] (spOnly C CS) := by
  have GP : FnOk P w K mg base CX0 2 fP dP ["self", "token"] (spPasses C) := ok_passes FP FT bT MT Z
  have GL : FnOk P w K mg base CX0 1 fL dL ["self"] (spPlace C) := ok_place FL Z
  refine F.okX sc_Reader_pass_only (fun vs H Q E h => ?_) (fun cdv A outer s H vs Q E hr h => ?_)
  · obtain ⟨R, ts, k, t, x, rfl, _⟩ := h; rfl
  · obtain ⟨R, ts, k, t, x, rfl, hRd, hk, q⟩ := h
    obtain ⟨dx, l, hR, ho, hL⟩ := id hRd
    have hr1 : Room 1 _ := hr.mono (by decide)
    refine ⟨_, pss_one (ps_if (pt_not (pt_val (pe_meth (pv 0) Z.kit.cl MP GP hr bP .nil pass0 (pa_cons (pv 1) pa_nil))))
      (pss_one (ps_raiseX G rfl (takes_of rfl rfl rfl rfl) hr (pe_meth0 (pv 0) Z.kit.cl ML GL hr1 bL .nil pass0))) pss_nil), ?_⟩
    rcases q with ⟨e, q⟩ | ⟨ne, q⟩
    · refine ⟨_, rfl, R, dx, _, rfl, hR, rfl, _, rfl, R, ts, k, t, x, rfl, hRd, hk, .inr ⟨e, fun H' h1 h2 => ⟨true, rfl, ?_⟩⟩⟩
      refine iteF ?_
      exact q H' h1 h2
    · refine ⟨_, rfl, R, dx, _, rfl, hR, rfl, _, rfl, R, ts, k, t, x, rfl, hRd, hk, .inl ⟨ne, false, rfl, ?_⟩⟩
      refine iteT ?_
      refine ⟨_, rfl, R, dx, _, rfl, hR, rfl, R, ts, k, t, rfl, hRd, hk, fun d H' hd s1 h1 => ?_⟩
      exact q d H' (fun b o e _ => s1 _ _ e) h1
theorem ok_pass_end {f fT fL : Addr} {fd dT dL : FuncData} (F : Fun K "pass_end" "Reader.pass_end" S_Reader_pass_end f fd)
    (FT : Fun K "token" "Reader.token" S_Reader_token fT dT) (bT : Binds K dT ["self"] []) (MT : Meth K C "token" fT) (FL : Fun K "place" "Reader.place" S_Reader_place fL dL) (bL : Binds K dL ["self"] []) (ML : Meth K C "place" fL) (Z : RdC K mg C) (G : SxC P w K mg base "InvalidSyntax" CS "position") :
    FnOk P w K mg base (L2.CX P w) 3 f fd ["self"] (spPassEnd C CS) := by
  have GT : FnOk P w K mg base CX0 1 fT dT ["self"] (spTok C) := ok_token FT Z
  have GL : FnOk P w K mg base CX0 1 fL dL ["self"] (spPlace C) := ok_place FL Z
  refine F.okX sc_Reader_pass_end (fun vs H Q E h => ?_) (fun cdv A outer s H vs Q E hr h => ?_)
  · obtain ⟨R, ts, k, t, rfl, _⟩ := h; rfl
  · obtain ⟨R, ts, k, t, rfl, hRd, hk, q⟩ := h
    obtain ⟨dx, l, hR, ho, hL⟩ := id hRd
    have hr1 : Room 1 _ := hr.mono (by decide)
    refine ⟨_, pss_one (ps_if (pt_cmpR op_ne (pe_meth0 (pv 0) Z.kit.cl MT GT hr1 bT .nil pass0) pe_str (nomark _))
      (pss_one (ps_raiseX G rfl (takes_of rfl rfl rfl rfl) hr (pe_meth0 (pv 0) Z.kit.cl ML GL hr1 bL .nil pass0))) pss_nil), ?_⟩
    refine ⟨_, rfl, R, dx, _, rfl, hR, rfl, R, ts, k, t, rfl, hRd, hk, rfl, _, rfl, ?_⟩
    have e0 : (Str.ofString "") = ⟨#[]⟩ := by decide +kernel
    have em : decide (V.str ⟨t.1.toArray⟩ = V.str (Str.ofString "")) = decide (t.1 = []) := by
      rw [e0]
      refine decide_eq_decide.mpr ⟨fun z => ?_, fun z => by rw [z]⟩
      have z := V.str.inj z
      injection z with z
      simpa using z
    rw [em]
    rcases q with ⟨e, q⟩ | ⟨ne, q⟩
    · rw [decide_eq_true e]
      exact iteF q
    · rw [decide_eq_false ne]
      refine iteT ?_
      refine ⟨_, rfl, R, dx, _, rfl, hR, rfl, R, ts, k, t, rfl, hRd, hk, fun d H' hd s1 h1 => ?_⟩
      exact q d H' (fun b o e _ => s1 _ _ e) h1
end

end K14

namespace K14
open PySem L2 SZ VR VX StX RT
/-! ### names -/
abbrev KW : List Str := ["array", "for", "read", "write", "flush", "n"]
/-- a word that is no keyword -/
def isNm (z : Str) : Bool := isW z.cps.toList && !KW.contains z
structure TxB (K : PySem.W.Frag) (mg : Str → Option Value) : Prop where
  kw : ∃ a, mg "_KEYWORDS" = some (.ref a) ∧ ∀ H, SqT K H a (KW.map V.str)
  is : mg "isinstance" = none
  str : mg "str" = none
def spName (K : PySem.W.Frag) : Sp := fun vs H Q _ => ∃ v, vs = [v] ∧ ((∃ z : Str, v = .str z ∧ z.length ≤ 100000 ∧ Q (.bl (isNm z)) H) ∨ ∃ t, TyX K H v t ∧ PySem.W.kitOne K t (.type "str") = some false ∧ Q (.bl false) H)
theorem inV_str (z : Str) : ∀ l : List Str, inV (.str z) (l.map V.str) = l.contains z
  | [] => rfl
  | x :: l => by
    have ih := inV_str z l
    unfold inV at ih ⊢
    rw [List.map_cons, List.any_cons, ih, List.contains_cons]
    congr 1
    simp only [eqV]
    first | rfl | exact Bool.beq_comm .. | (rw [Bool.eq_iff_iff]; simp [eq_comm])
theorem flat_strs (l : List Str) : (l.map V.str).all flatV = true := by
  rw [List.all_map]
  exact List.all_eq_true.mpr fun _ _ => rfl
section
variable {P : Program} {w : World} {K : PySem.W.Frag} {mg : Str → Option Value} {base : Heap} {C CS : Addr}
/-- _name(reader): the name, the reader behind it, or InvalidSyntax at it -/
def spRdName (C CS : Addr) : Sp := fun vs H Q E => ∃ (R : Addr) (ts : List (List Nat × Nat)) (k : Nat) (t : List Nat × Nat), vs = [.ref R] ∧ RdAt C H R ts k ∧ ts[k]? = some t ∧ t.1.length ≤ 100000 ∧
  ((isNm ⟨t.1.toArray⟩ = true ∧ ∀ H', RdAt C H' R ts (k + 1) → ButR R H H' → Q (.str ⟨t.1.toArray⟩) H') ∨ (isNm ⟨t.1.toArray⟩ = false ∧ Out CS R H t.2 E))
end

/-! ### what the parser tells of a list of tokens -/
inductive Res (α : Type) where
  | ok (v : α) (k : Nat)
  | syn (p : Nat)
  | big (w : Str)
def tk (ts : List (List Nat × Nat)) (k : Nat) : List Nat := ((ts[k]?).getD ([], 0)).1
def ps (ts : List (List Nat × Nat)) (k : Nat) : Nat := ((ts[k]?).getD ([], 0)).2
theorem tk_of {ts : List (List Nat × Nat)} {k : Nat} {t : List Nat × Nat} (h : ts[k]? = some t) : tk ts k = t.1 ∧ ps ts k = t.2 := by
  unfold tk ps
  rw [h]
  exact ⟨rfl, rfl⟩
theorem at_tk {ts : List (List Nat × Nat)} {k : Nat} (h : k < ts.length) : ts[k]? = some (tk ts k, ps ts k) := by
  unfold tk ps
  rw [List.getElem?_eq_getElem h]
  rfl
/-- the end stands behind every token, and none is long -/
structure Snt (ts : List (List Nat × Nat)) : Prop where
  go : ∀ k, k < ts.length → tk ts k ≠ [] → k + 1 < ts.length
  sm : ∀ k, (tk ts k).length ≤ 50000
  ln : ts.length ≤ 100000
def isNmL (s : List Nat) : Bool := isNm ⟨s.toArray⟩
def numVal (s : List Nat) : Int := ((NumText.digitsVal s : Nat) : Int)
/-- TooLarge(w) leaves; all but the reader at R is kept -/
def OutW (CT R : Addr) (H : Hp) (x : Str) (E : XK) : Prop := ∀ (d : Addr) (H' : Hp), ButR R H H' → H' d = some (.xd [("word", .str x)]) → E (.ref CT) (some d) H'
theorem ButR.trans {R : Addr} {H H1 H2 : Hp} (a : ButR R H H1) (b : ButR R H1 H2) : ButR R H H2 := fun c o e n => b c o (a c o e n) n
theorem ButR.of {R : Addr} {H H' : Hp} (s : Same H H') : ButR R H H' := fun b o e _ => s b o e
theorem RdAt.same {C R : Addr} {H H' : Hp} {ts : List (List Nat × Nat)} {k : Nat} (h : RdAt C H R ts k) (s : Same H H') : RdAt C H' R ts k := by
  obtain ⟨dx, l, h1, h2, vs, h3, h4⟩ := h
  exact ⟨dx, l, s _ _ h1, s _ _ h2, vs, s _ _ h3, L2.Paired.mapP h4 fun v t q => q.same s⟩
theorem dg_iff (c : Nat) : dg c = (decide (48 ≤ c) && decide (c ≤ 57)) := by
  have e : DIG.cps.toList = [48, 49, 50, 51, 52, 53, 54, 55, 56, 57] := by decide +kernel
  unfold dg
  rw [e, Bool.eq_iff_iff]
  simp
  omega
theorem isN_val {s : List Nat} (h : isN s = true) (hl : s.length ≤ 4300) : PySem.intText? ⟨s.toArray⟩ = some (numVal s) := by
  cases s with
  | nil => cases h
  | cons c r =>
    have h2 : (c :: r).all dg = true := by
      have z : (!(decide (c = 48) && !r.isEmpty) && (c :: r).all dg) = true := h
      exact (Bool.and_eq_true_iff.mp z).2
    refine SX.int_S ?_ (by simp) hl
    rw [← h2]
    congr 1
    funext x
    exact (dg_iff x).symm
def spNumber (C CS CT : Addr) : Sp := fun vs H Q E => ∃ (R : Addr) (ts : List (List Nat × Nat)) (k : Nat), vs = [.ref R] ∧ RdAt C H R ts k ∧ k < ts.length ∧ Snt ts ∧
  ((isN (tk ts k) = false ∧ Out CS R H (ps ts k) E) ∨ (isN (tk ts k) = true ∧ 150 < (tk ts k).length ∧ OutW CT R H "numbers" E) ∨
   (isN (tk ts k) = true ∧ (tk ts k).length ≤ 150 ∧ ∀ H', RdAt C H' R ts (k + 1) → ButR R H H' → Q (.int (numVal (tk ts k))) H'))
theorem Out.but {CS R : Addr} {H H1 : Hp} {p : Nat} {E : XK} (h : Out CS R H p E) (b : ButR R H H1) : Out CS R H1 p E := fun d H' b' e => h d H' (b.trans b') e
theorem OutW.but {CS R : Addr} {H H1 : Hp} {p : Str} {E : XK} (h : OutW CS R H p E) (b : ButR R H H1) : OutW CS R H1 p E := fun d H' b' e => h d H' (b.trans b') e
section
variable {P : Program} {w : World} {K : PySem.W.Frag} {mg : Str → Option Value} {base : Heap} {C CS CT : Addr}
theorem ok_number {f fA fT fL fI : Addr} {fd dA dT dL dI : FuncData} (F : Fun K "pass_number" "Reader.pass_number" S_Reader_pass_number f fd) (FA : Fun K "pass_any" "Reader.pass_any" S_Reader_pass_any fA dA) (bA : Binds K dA ["self"] []) (MA : Meth K C "pass_any" fA)
    (FT : Fun K "token" "Reader.token" S_Reader_token fT dT) (bT : Binds K dT ["self"] []) (MT : Meth K C "token" fT) (FL : Fun K "place" "Reader.place" S_Reader_place fL dL) (bL : Binds K dL ["self"] []) (ML : Meth K C "place" fL)
    (FI : Fun K "is_number" "is_number" S_is_number fI dI) (bI : Binds K dI ["text"] []) (gI : mg "is_number" = some (.ref fI)) (B : TkB mg)
    (hlen : mg "len" = none) (hint : mg "int" = none) (hmd : ∃ t, mg "_MOST_DIGITS" = some (.int 150 t))
    (Z : RdC K mg C) (GS : SxC P w K mg base "InvalidSyntax" CS "position") (G : SxC P w K mg base "TooLarge" CT "word") : FnOk P w K mg base (L2.CX P w) 3 f fd ["self"] (spNumber C CS CT) := by
  have GA : FnOk P w K mg base CX0 2 fA dA ["self"] (spPassAny C) := ok_pass_any FA FT bT MT Z
  have GT : FnOk P w K mg base CX0 1 fT dT ["self"] (spTok C) := ok_token FT Z
  have GL : FnOk P w K mg base CX0 1 fL dL ["self"] (spPlace C) := ok_place FL Z
  have GI : FnOk P w K mg base CX0 1 fI dI ["text"] spNum := ok_is_number FI B
  obtain ⟨t0, m0⟩ := hmd
  refine F.okX sc_Reader_pass_number (fun vs H Q E h => ?_) (fun cdv A outer s H vs Q E hr h => ?_)
  · obtain ⟨R, ts, k, rfl, _⟩ := h; rfl
  · obtain ⟨R, ts, k, rfl, hRd, hkl, hS, q⟩ := h
    obtain ⟨dx, l, hR, ho, hL⟩ := id hRd
    have hk := at_tk hkl
    have hr1 : Room 1 _ := hr.mono (by decide)
    refine ⟨_, pss_cons (ps_if (pt_not (pt_val (pe_call GI hr1 (by rfl) gI FI.kp bI .nil pass0 (pa_cons (pe_meth0 (pv 0) Z.kit.cl MT GT hr1 bT .nil pass0) pa_nil))))
        (pss_one (ps_raiseX GS rfl (takes_of rfl rfl rfl rfl) hr (pe_meth0 (pv 0) Z.kit.cl ML GL hr1 bL .nil pass0))) pss_nil)
      (pss_cons (ps_if (pt_cmpR op_gt (pe_callB call_len_str (by rfl) hlen PySem.boot_len (pa_cons (pe_meth0 (pv 0) Z.kit.cl MT GT hr1 bT .nil pass0) pa_nil)) (pe_glob (by rfl) m0 (v := .int 150) ⟨t0, rfl⟩) (nomark _))
        (pss_one (ps_raiseX G rfl (takes_of rfl rfl rfl rfl) hr pe_str)) pss_nil)
      (pss_one (ps_ret (pe_callTy call_int_str (by rfl) hint (by decide +kernel) (pa_cons (pe_meth0 (pv 0) Z.kit.cl MA GA hr bA .nil pass0) pa_nil))))), ?_⟩
    have hlz : (⟨(tk ts k).toArray⟩ : Str).length = (tk ts k).length := by show (tk ts k).toArray.size = _; simp
    have hsm := hS.sm k
    refine ⟨_, rfl, R, dx, _, rfl, hR, rfl, R, ts, k, _, rfl, hRd, hk, _, rfl, by rw [hlz]; exact hsm, fun H1 s1 => ⟨_, rfl, ?_⟩⟩
    have hRd1 := hRd.same s1
    have hR1 := s1 _ _ hR
    rcases q with ⟨hN, q⟩ | q
    · rw [hN]
      refine iteT ?_
      refine ⟨_, rfl, R, dx, _, rfl, hR1, rfl, R, ts, k, _, rfl, hRd1, hk, fun d H' hd s2 h1 => ?_⟩
      exact q d H' ((ButR.of s1).trans (ButR.of s2)) h1
    have hN : isN (tk ts k) = true := by rcases q with ⟨h, _⟩ | ⟨h, _⟩ <;> exact h
    rw [hN]
    refine iteF ?_
    refine ⟨_, rfl, R, dx, _, rfl, hR1, rfl, R, ts, k, _, rfl, hRd1, hk, _, rfl, zL (by rw [hlz]; omega), _, _, rfl, rfl, _, rfl, ?_⟩
    rw [hlz]
    rcases q with ⟨_, hb, q⟩ | ⟨_, hb, q⟩
    · rw [decide_eq_true (p := (150 : Int) < ((tk ts k).length : Int)) (by omega)]
      refine iteT fun d H' hd s2 h1 => ?_
      exact q d H' ((ButR.of s1).trans (ButR.of s2)) h1
    · rw [decide_eq_false (p := (150 : Int) < ((tk ts k).length : Int)) (by omega)]
      refine iteF ?_
      refine ⟨_, rfl, R, dx, _, rfl, hR1, rfl, R, ts, k, _, rfl, hRd1, hk, fun H' h1 h2 => ⟨⟨(tk ts k).toArray⟩, numVal (tk ts k), rfl, isN_val hN (by omega), by rw [hlz]; omega, q H' h1 ((ButR.of s1).trans h2)⟩⟩
end

end K14

namespace K14
open PySem L2 SZ VR VX StX RT
/-! ### values as data -/
def tyD : PyData → String
  | .none => "NoneType"
  | .bool _ => "bool"
  | .int _ => "int"
  | .str _ => "str"
  | .list _ => "list"
  | .tuple _ => "tuple"
  | .dict _ => "dict"
theorem TyX.lstT {K : PySem.W.Frag} {H : Hp} {a : Addr} {xs : List V} (h : SqL K H a xs) : TyX K H (.ref a) (.type "list") := by
  rcases h with (h | ⟨o, h⟩) | h
  · exact .base (.lst h)
  · exact .base (.frz h)
  · obtain ⟨o, its, n, h1, h2, _⟩ := h
    exact .kList h1 h2
theorem dp_ty {K : PySem.W.Frag} {H : Hp} {v : V} {d : PyData} (h : Dp K H v d) : TyX K H v (.type (tyD d)) := by
  cases h with
  | non => exact .base .non
  | bl b => exact .base (.bl b)
  | int i => exact .base (.int i)
  | str x => exact .base (.str x)
  | lst h1 h2 => exact TyX.lstT h1
  | tup h1 h2 => exact TyX.tupT h1
mutual
theorem Dp.keep {K : PySem.W.Frag} {H H' : Hp} (s : Same H H') : ∀ {v : V} {d : PyData}, Dp K H v d → Dp K H' v d
  | _, _, .non => .non
  | _, _, .bl b => .bl b
  | _, _, .int i => .int i
  | _, _, .str x => .str x
  | _, _, .lst h1 h2 => .lst (s.seq h1) (DpAll.keep s h2)
  | _, _, .tup h1 h2 => .tup (s.tup h1) (DpAll.keep s h2)
theorem DpAll.keep {K : PySem.W.Frag} {H H' : Hp} (s : Same H H') : ∀ {vs : List V} {ds : List PyData}, DpAll K H vs ds → DpAll K H' vs ds
  | _, _, .nil => .nil
  | _, _, .cons h1 h2 => .cons (Dp.keep s h1) (DpAll.keep s h2)
end
theorem DpAll.len {K : PySem.W.Frag} {H : Hp} : ∀ {vs : List V} {ds : List PyData}, DpAll K H vs ds → vs.length = ds.length
  | _, _, .nil => rfl
  | _, _, .cons _ h2 => by rw [List.length_cons, List.length_cons, DpAll.len h2]
theorem DpAll.at {K : PySem.W.Frag} {H : Hp} : ∀ {vs : List V} {ds : List PyData} {i : Nat} {v : V}, DpAll K H vs ds → vs[i]? = some v → ∃ d, ds[i]? = some d ∧ Dp K H v d
  | _, _, _, _, .nil, h => by simp at h
  | _, _, 0, _, .cons h1 _, h => by
    simp at h
    subst h
    exact ⟨_, rfl, h1⟩
  | _, _, i + 1, _, .cons _ h2, h => by
    obtain ⟨d, e, g⟩ := DpAll.at h2 (by simpa using h)
    exact ⟨d, by simpa using e, g⟩
/-! ### counts and levels -/
abbrev RUL : List Str := ["used", "brought", "second", "tree"]
abbrev WRT : List Str := ["back", "through"]
def isI : PyData → Bool
  | .int _ => true
  | _ => false
def cntD (d : PyData) (m : Int) : Bool := match d with
  | .int i => decide (1 ≤ i) && decide (i ≤ m)
  | _ => false
def lvlD : PyData → Bool
  | .tuple [a, b, .str r, .str w] => cntD a 8 && cntD b 4 && (RUL.contains r && (WRT.contains w && !(match b with | .int i => decide (i = 3) && decide (r = "tree") | _ => false)))
  | _ => false
structure ChB (mg : Str → Option Value) : Prop where
  is : mg "isinstance" = none
  int : mg "int" = none
  bool : mg "bool" = none
  tup : mg "tuple" = none
  str : mg "str" = none
  len : mg "len" = none
def spInt' (K : PySem.W.Frag) : Sp := fun vs H Q _ => ∃ (v : V) (d : PyData), vs = [v] ∧ Dp K H v d ∧ Q (.bl (isI d)) H
def spCnt (K : PySem.W.Frag) : Sp := fun vs H Q _ => ∃ (v : V) (d : PyData) (m : Int), vs = [v, .int m] ∧ Dp K H v d ∧ Q (.bl (cntD d m)) H
def spLvl (K : PySem.W.Frag) : Sp := fun vs H Q _ => ∃ (v : V) (d : PyData), vs = [v] ∧ Dp K H v d ∧ Q (.bl (lvlD d)) H
theorem strIn (z : Str) : ∀ l : List Str, inV (.str z) (l.map V.str) = l.contains z
  | [] => rfl
  | x :: l => by
    have ih := strIn z l
    unfold inV at ih ⊢
    rw [List.map_cons, List.any_cons, ih, List.contains_cons]
    congr 1
    simp only [eqV]
    first | rfl | exact Bool.beq_comm .. | (rw [Bool.eq_iff_iff]; simp [eq_comm])
theorem strFlat (l : List Str) : (l.map V.str).all flatV = true := by
  rw [List.all_map]
  exact List.all_eq_true.mpr fun _ _ => rfl
section
variable {P : Program} {w : World} {K : PySem.W.Frag} {mg : Str → Option Value} {base : Heap}
theorem ok_isint {f : Addr} {fd : FuncData} (F : Fun K "is_integer" "is_integer" S_is_integer f fd) (B : ChB mg) : FnOk P w K mg base CX0 1 f fd ["value"] (spInt' K) := by
  refine F.ok sc_is_integer (fun vs H Q E h => ?_) (fun cdv A outer s H vs Q E hr h => ?_)
  · obtain ⟨v, d, rfl, _⟩ := h; rfl
  · obtain ⟨v, d, rfl, hd, q⟩ := h
    refine ⟨_, pss_one (ps_ret (pe_and (pe_callB call_isi (by rfl) B.is (by decide +kernel) (pa_cons (pv 0) (pa_cons (pe_bltn (by rfl) B.int (u := .type "int") (v := .ty "int") (by decide +kernel) rfl) pa_nil)))
      (pe_one (pe_not (pe_callB call_isi (by rfl) B.is (by decide +kernel) (pa_cons (pv 0) (pa_cons (pe_bltn (by rfl) B.bool (u := .type "bool") (v := .ty "bool") (by decide +kernel) rfl) pa_nil))))))), ?_⟩
    have ty := dp_ty hd
    cases d with
    | none => exact ⟨_, rfl, v, .ty "int", .type "NoneType", .type "int", false, rfl, .ty _, ty, kit_ty (by decide +kernel), false, rfl, iteF q⟩
    | str x => exact ⟨_, rfl, v, .ty "int", .type "str", .type "int", false, rfl, .ty _, ty, kit_ty (by decide +kernel), false, rfl, iteF q⟩
    | list x => exact ⟨_, rfl, v, .ty "int", .type "list", .type "int", false, rfl, .ty _, ty, kit_ty (by decide +kernel), false, rfl, iteF q⟩
    | tuple x => exact ⟨_, rfl, v, .ty "int", .type "tuple", .type "int", false, rfl, .ty _, ty, kit_ty (by decide +kernel), false, rfl, iteF q⟩
    | dict x => exact ⟨_, rfl, v, .ty "int", .type "dict", .type "int", false, rfl, .ty _, ty, kit_ty (by decide +kernel), false, rfl, iteF q⟩
    | bool b => exact ⟨_, rfl, v, .ty "int", .type "bool", .type "int", true, rfl, .ty _, ty, kit_ty (by decide +kernel), true, rfl, iteT ⟨_, rfl, v, .ty "bool", .type "bool", .type "bool", true, rfl, .ty _, ty, kit_ty (by decide +kernel), true, rfl, q⟩⟩
    | int i => exact ⟨_, rfl, v, .ty "int", .type "int", .type "int", true, rfl, .ty _, ty, kit_ty (by decide +kernel), true, rfl, iteT ⟨_, rfl, v, .ty "bool", .type "int", .type "bool", false, rfl, .ty _, ty, kit_ty (by decide +kernel), false, rfl, q⟩⟩
theorem ok_count {f fI : Addr} {fd dI : FuncData} (F : Fun K "_is_count" "_is_count" S_is_count f fd) (FI : Fun K "is_integer" "is_integer" S_is_integer fI dI) (bI : Binds K dI ["value"] []) (gI : mg "is_integer" = some (.ref fI)) (B : ChB mg) : FnOk P w K mg base CX0 2 f fd ["value", "most"] (spCnt K) := by
  have GI : FnOk P w K mg base CX0 1 fI dI ["value"] (spInt' K) := ok_isint FI B
  refine F.ok sc_is_count (fun vs H Q E h => ?_) (fun cdv A outer s H vs Q E hr h => ?_)
  · obtain ⟨v, d, m, rfl, _⟩ := h; rfl
  · obtain ⟨v, d, m, rfl, hd, q⟩ := h
    refine ⟨_, pss_one (ps_ret (pe_and (pe_call GI hr (by rfl) gI FI.kp bI .nil pass0 (pa_cons (pv 0) pa_nil)) (pe_one (pe_chain op_le op_le pe_int (pv 0) (pv 1))))), ?_⟩
    refine ⟨_, rfl, v, d, rfl, hd, _, rfl, ?_⟩
    cases hd with
    | int i =>
      refine iteT ⟨_, rfl, 1, i, rfl, rfl, _, rfl, ?_⟩
      have e : cntD (.int i) m = (decide (1 ≤ i) && decide (i ≤ m)) := rfl
      rw [e] at q
      refine ite2 (fun h => ?_) (fun h => ?_)
      · rw [h, Bool.true_and] at q
        exact ⟨_, rfl, i, m, rfl, rfl, q⟩
      · rw [Bool.eq_false_iff.mpr h, Bool.false_and] at q
        exact q
    | non => exact iteF q
    | bl b => exact iteF q
    | str x => exact iteF q
    | lst h1 h2 => exact iteF q
    | tup h1 h2 => exact iteF q
end

structure ChK (K : PySem.W.Frag) (mg : Str → Option Value) : Prop where
  rul : ∃ a, mg "_RULES" = some (.ref a) ∧ ∀ H, SqT K H a (RUL.map V.str)
  wrt : ∃ a, mg "_WRITES" = some (.ref a) ∧ ∀ H, SqT K H a (WRT.map V.str)
  cells : ∃ t, mg "_MOST_CELLS" = some (.int 8 t)
  lvls : ∃ t, mg "_MOST_LEVELS" = some (.int 3 t)
  sets : ∃ t, mg "_MOST_SETS" = some (.int 8 t)
  ways : ∃ t, mg "_MOST_WAYS" = some (.int 4 t)
  per : ∃ t, mg "_LONGEST_PERIOD" = some (.int 64 t)
theorem lvl_len {ds : List PyData} (h : ds.length ≠ 4) : lvlD (.tuple ds) = false := by
  unfold lvlD
  split
  · rename_i e
    injection e with e
    rw [e] at h
    exact absurd rfl h
  · rfl
def isS : PyData → Bool
  | .str _ => true
  | _ => false
theorem lvl_str {a b c d : PyData} (h : isS c = false ∨ isS d = false) : lvlD (.tuple [a, b, c, d]) = false := by
  cases c <;> cases d <;> first | rfl | (rcases h with h | h <;> cases h)
theorem kitS {K : PySem.W.Frag} : ∀ {d : PyData}, PySem.W.kitOne K (.type (tyD d)) (.type "str") = some (isS d)
  | .none => kit_ty (a := "NoneType") (r := false) (by decide +kernel)
  | .bool _ => kit_ty (a := "bool") (r := false) (by decide +kernel)
  | .int _ => kit_ty (a := "int") (r := false) (by decide +kernel)
  | .str _ => kit_ty (a := "str") (r := true) (by decide +kernel)
  | .list _ => kit_ty (a := "list") (r := false) (by decide +kernel)
  | .tuple _ => kit_ty (a := "tuple") (r := false) (by decide +kernel)
  | .dict _ => kit_ty (a := "dict") (r := false) (by decide +kernel)
def isT : PyData → Bool
  | .tuple _ => true
  | _ => false
theorem kitT {K : PySem.W.Frag} : ∀ {d : PyData}, PySem.W.kitOne K (.type (tyD d)) (.type "tuple") = some (isT d)
  | .none => kit_ty (a := "NoneType") (r := false) (by decide +kernel)
  | .bool _ => kit_ty (a := "bool") (r := false) (by decide +kernel)
  | .int _ => kit_ty (a := "int") (r := false) (by decide +kernel)
  | .str _ => kit_ty (a := "str") (r := false) (by decide +kernel)
  | .list _ => kit_ty (a := "list") (r := false) (by decide +kernel)
  | .tuple _ => kit_ty (a := "tuple") (r := true) (by decide +kernel)
  | .dict _ => kit_ty (a := "dict") (r := false) (by decide +kernel)
theorem four {α : Type} {l : List α} (h : l.length = 4) : ∃ a b c d, l = [a, b, c, d] := by
  match l, h with
  | [a, b, c, d], _ => exact ⟨a, b, c, d, rfl⟩
theorem dp_four {K : PySem.W.Frag} {H : Hp} {xs : List V} {a b c d : PyData} (h : DpAll K H xs [a, b, c, d]) : ∃ x y z u, xs = [x, y, z, u] ∧ Dp K H x a ∧ Dp K H y b ∧ Dp K H z c ∧ Dp K H u d := by
  cases h with
  | cons p0 r =>
    cases r with
    | cons p1 r =>
      cases r with
      | cons p2 r =>
        cases r with
        | cons p3 r =>
          cases r
          exact ⟨_, _, _, _, rfl, p0, p1, p2, p3⟩
theorem dp_isS {K : PySem.W.Frag} {H : Hp} {x : V} {d : PyData} (h : Dp K H x d) (e : isS d = true) : ∃ z, x = .str z ∧ d = .str z := by
  cases h with
  | str z => exact ⟨z, rfl, rfl⟩
  | _ => cases e
theorem dp_cnt {K : PySem.W.Frag} {H : Hp} {x : V} {d : PyData} {m : Int} (h : Dp K H x d) (e : cntD d m = true) : ∃ i, x = .int i ∧ d = .int i := by
  cases h with
  | int i => exact ⟨i, rfl, rfl⟩
  | _ => cases e
section
variable {P : Program} {w : World} {K : PySem.W.Frag} {mg : Str → Option Value} {base : Heap}
theorem ok_level {f fI fN : Addr} {fd dI dN : FuncData} (F : Fun K "_is_level" "_is_level" S_is_level f fd) (FN : Fun K "_is_count" "_is_count" S_is_count fN dN) (bN : Binds K dN ["value", "most"] []) (gN : mg "_is_count" = some (.ref fN)) (FI : Fun K "is_integer" "is_integer" S_is_integer fI dI) (bI : Binds K dI ["value"] []) (gI : mg "is_integer" = some (.ref fI)) (B : ChB mg) (D : ChK K mg) : FnOk P w K mg base CX0 3 f fd ["value"] (spLvl K) := by
  have GN : FnOk P w K mg base CX0 2 fN dN ["value", "most"] (spCnt K) := ok_count FN FI bI gI B
  obtain ⟨aR, mR, hR⟩ := D.rul
  obtain ⟨aW, mW, hW⟩ := D.wrt
  obtain ⟨tS, mS⟩ := D.sets
  obtain ⟨tY, mY⟩ := D.ways
  refine F.ok sc_is_level (fun vs H Q E h => ?_) (fun cdv A outer s H vs Q E hr h => ?_)
  · obtain ⟨v, d, rfl, _⟩ := h; rfl
  · obtain ⟨v, d, rfl, hd, q⟩ := h
    refine ⟨_, pss_cons (ps_if (PW.pt (pw_or (pt_not (pt_val (pe_callB call_isi (by rfl) B.is (by decide +kernel) (pa_cons (pv 0) (pa_cons (pe_bltn (by rfl) B.tup (u := .type "tuple") (v := .ty "tuple") (by decide +kernel) rfl) pa_nil)))))
        (pw_or1 (pt_cmpR op_ne (pe_callB call_len_seq (by rfl) B.len PySem.boot_len (pa_cons (pv 0) pa_nil)) pe_int (nomark _))))) (pss_one (ps_ret pe_bl)) pss_nil)
      (pss_cons (ps_asg (pv 0) (pg_tup rfl (pgs_cons (pg_name (i := 1) sc_is_level.nd rfl (Or.inl rfl)) (pgs_cons (pg_name (i := 2) sc_is_level.nd rfl (Or.inl rfl)) (pgs_cons (pg_name (i := 3) sc_is_level.nd rfl (Or.inl rfl)) (pgs_cons (pg_name (i := 4) sc_is_level.nd rfl (Or.inl rfl)) pgs_nil))))))
      (pss_cons (ps_if (PW.pt (pw_or (pt_not (pt_val (pe_call GN hr (by rfl) gN FN.kp bN .nil pass0 (pa_cons (pv 1) (pa_cons (pe_glob (by rfl) mS (v := .int 8) ⟨tS, rfl⟩) pa_nil)))))
        (pw_or1 (pt_not (pt_val (pe_call GN hr (by rfl) gN FN.kp bN .nil pass0 (pa_cons (pv 2) (pa_cons (pe_glob (by rfl) mY (v := .int 4) ⟨tY, rfl⟩) pa_nil)))))))) (pss_one (ps_ret pe_bl)) pss_nil)
      (pss_cons (ps_if (PW.pt (pw_or (pt_not (pt_val (pe_callB call_isi (by rfl) B.is (by decide +kernel) (pa_cons (pv 3) (pa_cons (pe_bltn (by rfl) B.str (u := .type "str") (v := .ty "str") (by decide +kernel) rfl) pa_nil)))))
        (pw_or1 (pt_not (pt_val (pe_callB call_isi (by rfl) B.is (by decide +kernel) (pa_cons (pv 4) (pa_cons (pe_bltn (by rfl) B.str (u := .type "str") (v := .ty "str") (by decide +kernel) rfl) pa_nil)))))))) (pss_one (ps_ret pe_bl)) pss_nil)
      (pss_one (ps_ret (pe_and (pe_cmpR op_in_seq (pv 3) (pe_glob (by rfl) mR (v := .ref aR) rfl) (by rfl)) (pe_and (pe_cmpR op_in_seq (pv 4) (pe_glob (by rfl) mW (v := .ref aW) rfl) (by rfl))
        (pe_one (pe_not (pe_and (pe_cmpR op_eq (pv 2) pe_int (nomark _)) (pe_one (pe_cmpR op_eq (pv 3) pe_str (nomark _))))))))))))), ?_⟩
    refine ⟨_, rfl, v, .ty "tuple", _, .type "tuple", isT d, rfl, .ty _, dp_ty hd, kitT, isT d, rfl, ?_⟩
    cases d with
    | none => exact iteT (iteT q)
    | bool x => exact iteT (iteT q)
    | int x => exact iteT (iteT q)
    | str x => exact iteT (iteT q)
    | list x => exact iteT (iteT q)
    | dict x => exact iteT (iteT q)
    | tuple ds =>
      cases hd with
      | @tup a xs _ h1 h2 =>
        refine iteF ?_
        have hl := DpAll.len h2
        refine ⟨_, rfl, a, xs, rfl, .inr h1, rfl, _, rfl, ?_⟩
        by_cases h4 : ds.length = 4
        · rw [decide_eq_true (p := V.int (xs.length : Int) = V.int 4) (by rw [hl, h4]; rfl)]
          refine iteF ?_
          obtain ⟨d0, d1, d2, d3, rfl⟩ : ∃ d0 d1 d2 d3, ds = [d0, d1, d2, d3] := four h4
          obtain ⟨x0, x1, x2, x3, rfl, p0, p1, p2, p3⟩ := dp_four h2
          · refine ⟨_, rfl, a, _, rfl, h1, rfl, _, _, rfl, _, _, rfl, _, _, rfl, _, _, rfl, rfl, ?_⟩
            refine ⟨_, rfl, x0, d0, 8, rfl, p0, _, rfl, ?_⟩
            cases c0 : cntD d0 8 with
            | false =>
              have e : lvlD (.tuple [d0, d1, d2, d3]) = false := by
                cases d2 <;> cases d3 <;> first | rfl | (show (cntD d0 8 && _ && _) = false; rw [c0]; rfl)
              rw [e] at q
              exact iteT (iteT q)
            | true =>
              refine iteF ⟨_, rfl, x1, d1, 4, rfl, p1, _, rfl, ?_⟩
              cases c1 : cntD d1 4 with
              | false =>
                have e : lvlD (.tuple [d0, d1, d2, d3]) = false := by
                  cases d2 <;> cases d3 <;> first | rfl | (show (cntD d0 8 && cntD d1 4 && _) = false; rw [c1, Bool.and_false]; rfl)
                rw [e] at q
                exact iteT q
              | true =>
                refine iteF ⟨_, rfl, x2, .ty "str", _, .type "str", _, rfl, .ty _, dp_ty p2, kitS, _, rfl, ?_⟩
                cases s2 : isS d2 with
                | false =>
                  rw [lvl_str (.inl s2)] at q
                  exact iteT (iteT q)
                | true =>
                  refine iteF ⟨_, rfl, x3, .ty "str", _, .type "str", _, rfl, .ty _, dp_ty p3, kitS, _, rfl, ?_⟩
                  cases s3 : isS d3 with
                  | false =>
                    rw [lvl_str (.inr s3)] at q
                    exact iteT q
                  | true =>
                    refine iteF ?_
                    obtain ⟨r, rfl, rfl⟩ := dp_isS p2 s2
                    obtain ⟨y, rfl, rfl⟩ := dp_isS p3 s3
                    obtain ⟨i, rfl, rfl⟩ := dp_cnt p1 c1
                    · · have e : lvlD (.tuple [d0, .int i, .str r, .str y]) = (RUL.contains r && (WRT.contains y && !(decide (i = 3) && decide (r = "tree")))) := by
                          show (cntD d0 8 && cntD (.int i) 4 && _) = _
                          rw [c0, c1]
                          rfl
                        rw [e] at q
                        refine ⟨_, rfl, aR, RUL.map V.str, rfl, .inr (hR H), rfl, strFlat _, _, rfl, ?_⟩
                        rw [strIn]
                        cases r1 : RUL.contains r with
                        | false => rw [r1] at q; exact iteF q
                        | true =>
                          rw [r1, Bool.true_and] at q
                          refine iteT ⟨_, rfl, aW, WRT.map V.str, rfl, .inr (hW H), rfl, strFlat _, _, rfl, ?_⟩
                          rw [strIn]
                          cases r2 : WRT.contains y with
                          | false => rw [r2] at q; exact iteF q
                          | true =>
                            rw [r2, Bool.true_and] at q
                            refine iteT ⟨_, rfl, rfl, _, rfl, ?_⟩
                            have ei : decide (V.int i = V.int 3) = decide (i = 3) := decide_eq_decide.mpr ⟨fun z => by injection z, fun z => by rw [z]⟩
                            have er : decide (V.str r = V.str (Str.ofString "tree")) = decide (r = "tree") := decide_eq_decide.mpr ⟨fun z => by injection z, fun z => by rw [z]⟩
                            rw [ei]
                            refine ite2 (fun h => ?_) (fun h => ?_)
                            · rw [h, Bool.true_and] at q
                              refine ⟨_, rfl, rfl, _, rfl, ?_⟩
                              rw [er]
                              exact q
                            · rw [Bool.eq_false_iff.mpr h, Bool.false_and] at q
                              exact ⟨_, rfl, q⟩
        · rw [decide_eq_false (p := V.int (xs.length : Int) = V.int 4) (fun z => h4 (by injection z with z; omega))]
          rw [lvl_len h4] at q
          exact iteT q
end

end K14

namespace K14
open PySem L2 SZ VR VX StX RT
/-! ### levels that are none; a cache -/
def badL : PyData → Option PyData
  | .tuple ds => if 1 ≤ ds.length ∧ ds.length ≤ 3 then ds.find? (fun d => !lvlD d) else some (.tuple ds)
  | d => some d
def OutV (CV : Addr) (H : Hp) (v : V) (E : XK) : Prop := ∀ (d : Addr) (H' : Hp), Same H H' → H' d = some (.xd [("value", v)]) → E (.ref CV) (some d) H'
def OutT (CT : Addr) (H : Hp) (x : Str) (E : XK) : Prop := ∀ (d : Addr) (H' : Hp), Same H H' → H' d = some (.xd [("word", .str x)]) → E (.ref CT) (some d) H'
theorem OutV.same {CV : Addr} {H H1 : Hp} {v : V} {E : XK} (h : OutV CV H v E) (s : Same H H1) : OutV CV H1 v E := fun d H' s' e => h d H' (s.trans s') e
theorem OutT.same {CV : Addr} {H H1 : Hp} {v : Str} {E : XK} (h : OutT CV H v E) (s : Same H H1) : OutT CV H1 v E := fun d H' s' e => h d H' (s.trans s') e
def spChk (K : PySem.W.Frag) (CI : Addr) : Sp := fun vs H Q E => ∃ (v : V) (d : PyData), vs = [v] ∧ Dp K H v d ∧ (badL d = none → Q .non H) ∧ ∀ b, badL d = some b → ∀ x : V, Dp K H x b → OutV CI H x E
theorem find_first {ds : List PyData} {i : Nat} {d : PyData} (h : ∀ x ∈ ds.take i, lvlD x = true) (hi : ds[i]? = some d) (hd : lvlD d = false) : ds.find? (fun d => !lvlD d) = some d := by
  have e : ds = ds.take i ++ d :: ds.drop (i + 1) := by
    have hl : i < ds.length := (List.getElem?_eq_some_iff.mp hi).1
    have hx : ds[i] = d := by
      rw [List.getElem?_eq_getElem hl] at hi
      exact Option.some.inj hi
    rw [← hx, ← List.drop_eq_getElem_cons hl, List.take_append_drop]
  rw [e, List.find?_append]
  have h1 : (ds.take i).find? (fun d => !lvlD d) = none := List.find?_eq_none.mpr fun x hx => by rw [h x hx]; decide
  rw [h1, List.find?_cons, hd]
  rfl
theorem find_none {ds : List PyData} (h : ∀ x ∈ ds, lvlD x = true) : ds.find? (fun d => !lvlD d) = none := List.find?_eq_none.mpr fun x hx => by rw [h x hx]; decide
def setsN : PyData → Nat
  | .tuple (.int s :: _) => s.natAbs
  | _ => 1
def togN (ds : List PyData) : Nat := ds.foldl (fun t d => Nat.lcm t (setsN d)) 1
theorem lvl_sets {d : PyData} (h : lvlD d = true) : ∃ (i j : Int) (r y : Str), d = .tuple [.int i, .int j, .str r, .str y] ∧ 1 ≤ i ∧ i ≤ 8 := by
  unfold lvlD at h
  split at h
  · rename_i a b r y
    rw [Bool.and_eq_true, Bool.and_eq_true] at h
    obtain ⟨⟨h1, h2⟩, _⟩ := h
    cases a with
    | int i =>
      cases b with
      | int j =>
        have h1 : (decide (1 ≤ i) && decide (i ≤ 8)) = true := h1
        rw [Bool.and_eq_true, decide_eq_true_iff, decide_eq_true_iff] at h1
        exact ⟨i, j, r, y, rfl, h1.1, h1.2⟩
      | _ => cases h2
    | _ => cases h1
  · cases h
theorem badL_none {d : PyData} (h : badL d = none) : ∃ ds, d = .tuple ds ∧ 1 ≤ ds.length ∧ ds.length ≤ 3 ∧ ∀ x ∈ ds, lvlD x = true := by
  cases d with
  | tuple ds =>
    have h : (if 1 ≤ ds.length ∧ ds.length ≤ 3 then ds.find? (fun d => !lvlD d) else some (.tuple ds)) = none := h
    split at h
    · rename_i hl
      refine ⟨ds, rfl, hl.1, hl.2, fun x hx => ?_⟩
      have := List.find?_eq_none.mp h x hx
      simpa using this
    · cases h
  | _ => cases h
theorem take_snoc {α : Type} {l : List α} {i : Nat} {x : α} (h : l[i]? = some x) : l.take (i + 1) = l.take i ++ [x] := by rw [List.take_add_one, h]; rfl
section
variable {P : Program} {w : World} {K : PySem.W.Frag} {mg : Str → Option Value} {base : Heap} {C CI CT : Addr}
theorem ok_check {f fL : Addr} {fd dL : FuncData} (F : Fun K "_check_levels" "_check_levels" S_check_levels f fd) (GL : FnOk P w K mg base CX0 3 fL dL ["value"] (spLvl K)) (kL : PySem.W.keepIn K (.ref fL) = true) (bL : Binds K dL ["value"] []) (gL : mg "_is_level" = some (.ref fL)) (B : ChB mg) (D : ChK K mg) (G : SxC P w K mg base "InvalidCache" CI "value") :
    FnOk P w K mg base (L2.CX P w) 4 f fd ["levels"] (spChk K CI) := by
  obtain ⟨t3, m3⟩ := D.lvls
  refine F.okX sc_check_levels (fun vs H Q E h => ?_) (fun cdv A outer s H vs Q E hr h => ?_)
  · obtain ⟨v, d, rfl, _⟩ := h; rfl
  · obtain ⟨v, d, rfl, hd, q1, q2⟩ := h
    have hr2 : Room 2 _ := hr.mono (by decide)
    refine ⟨_, pss_cons (ps_if (PW.pt (pw_or (pt_not (pt_val (pe_callB call_isi (by rfl) B.is (by decide +kernel) (pa_cons (pv 0) (pa_cons (pe_bltn (by rfl) B.tup (u := .type "tuple") (v := .ty "tuple") (by decide +kernel) rfl) pa_nil)))))
        (pw_or1 (pt_not (pt_chain op_le op_le pe_int (pe_callB call_len_seq (by rfl) B.len PySem.boot_len (pa_cons (pv 0) pa_nil)) (pe_glob (by rfl) m3 (v := .int 3) ⟨t3, rfl⟩))))))
        (pss_one (ps_raiseX G rfl (takes_of rfl rfl rfl rfl) hr2 (pv 0))) pss_nil)
      (pss_one (ps_for (passes_of rfl) rfl (pi_tup (pv 0)) (pg_name (i := 1) sc_check_levels.nd rfl (Or.inl rfl))
        (pss_one (ps_if (pt_not (pt_val (pe_call GL hr (by rfl) gL kL bL .nil pass0 (pa_cons (pv 1) pa_nil)))) (pss_one (ps_raiseX G rfl (takes_of rfl rfl rfl rfl) hr2 (pv 1))) pss_nil)))), ?_⟩
    have bad0 : badL d = some d → tRaiseX CI "value" (tVar 0) (fun cls d _ H => E cls d H) { nx := fun _ H' => Q .non H', rt := Q } [some v, none] H := fun e => ⟨_, rfl, fun dd H' hd' s1 h1 => q2 d e v hd dd H' s1 h1⟩
    refine ⟨_, rfl, v, .ty "tuple", _, .type "tuple", isT d, rfl, .ty _, dp_ty hd, kitT, isT d, rfl, ?_⟩
    cases d with
    | none => exact iteT (iteT (bad0 rfl))
    | bool x => exact iteT (iteT (bad0 rfl))
    | int x => exact iteT (iteT (bad0 rfl))
    | str x => exact iteT (iteT (bad0 rfl))
    | list x => exact iteT (iteT (bad0 rfl))
    | dict x => exact iteT (iteT (bad0 rfl))
    | tuple ds =>
      cases hd with
      | @tup a xs _ h1 h2 =>
        refine iteF ?_
        have hl := DpAll.len h2
        refine ⟨_, rfl, a, xs, rfl, .inr h1, 1, _, rfl, rfl, _, rfl, ?_⟩
        have eB : ¬ (1 ≤ ds.length ∧ ds.length ≤ 3) → badL (.tuple ds) = some (.tuple ds) := fun n => if_neg n
        have go : 1 ≤ ds.length ∧ ds.length ≤ 3 → tFor (iTup K (tVar 0)) (gName 1) (tIfS (tNot (tB (tCall (spLvl K) [] E0 (tCons (tVar 1) tNil)))) (tRaiseX CI "value" (tVar 1) (fun cls d _ H => E cls d H)) tNext) { nx := fun _ H' => Q .non H', rt := Q } [some (.ref a), none] H := fun n => by
          refine ⟨_, rfl, a, rfl, ⟨_, h1⟩, for_tup (xs := xs) (fun i σ H' => ∃ v1, σ = [some (.ref a), v1] ∧ H' = H ∧ ∀ x ∈ ds.take i, lvlD x = true) ⟨none, rfl, rfl, fun x hx => by rw [List.take_zero] at hx; cases hx⟩ (fun i σ H' _ ⟨_, _, e, _⟩ => by rw [e]; exact h1) ?_ ?_⟩
          · rintro i x σ H' hx ⟨v1, rfl, rfl, hok⟩
            obtain ⟨di, hdi, hdx⟩ := DpAll.at h2 hx
            refine ⟨_, rfl, x, di, rfl, hdx, _, rfl, ?_⟩
            cases hL : lvlD di with
            | true =>
              refine iteF ⟨_, rfl, rfl, fun y hy => ?_⟩
              rw [take_snoc hdi] at hy
              rcases List.mem_append.mp hy with hy | hy
              · exact hok y hy
              · rw [List.mem_singleton.mp hy]; exact hL
            | false =>
              refine iteT ⟨_, rfl, fun dd H2 hd' s1 h1 => ?_⟩
              refine q2 di ?_ x hdx dd H2 s1 h1
              show (if 1 ≤ ds.length ∧ ds.length ≤ 3 then ds.find? (fun d => !lvlD d) else some (.tuple ds)) = _
              rw [if_pos n]
              exact find_first hok hdi hL
          · rintro σ H' ⟨v1, rfl, rfl, hok⟩
            rw [hl, List.take_length] at hok
            refine q1 ?_
            show (if 1 ≤ ds.length ∧ ds.length ≤ 3 then ds.find? (fun d => !lvlD d) else some (.tuple ds)) = _
            rw [if_pos n]
            exact find_none hok
        refine ite2 (fun h => ?_) (fun h => ?_)
        · refine ⟨_, _, rfl, rfl, _, rfl, ?_⟩
          have g1 : 1 ≤ ds.length := by have := of_decide_eq_true h; omega
          by_cases g3 : ds.length ≤ 3
          · rw [decide_eq_true (p := (xs.length : Int) ≤ 3) (by omega)]
            exact iteF (go ⟨g1, g3⟩)
          · rw [decide_eq_false (p := (xs.length : Int) ≤ 3) (by omega)]
            exact iteT (bad0 (eB fun z => g3 z.2))
        · refine ⟨_, rfl, iteT (bad0 (eB fun z => h (decide_eq_true (by omega))))⟩
end

end K14

namespace K14
open PySem L2 SZ VR VX StX RT
/-! ### Cache -/
theorem togN_snoc {ds : List PyData} {i : Nat} {d : PyData} (h : ds[i]? = some d) : togN (ds.take (i + 1)) = Nat.lcm (togN (ds.take i)) (setsN d) := by
  unfold togN
  rw [take_snoc h, List.foldl_append]
  rfl
theorem togN_le {ds : List PyData} (h : ∀ x ∈ ds, lvlD x = true) : ∀ i, i ≤ ds.length → togN (ds.take i) ≤ 8 ^ i := by
  intro i
  induction i with
  | zero => intro _; simp [togN]
  | succ i ih =>
    intro hi
    have hx : ds[i]? = some ds[i] := List.getElem?_eq_getElem hi
    rw [togN_snoc hx]
    obtain ⟨a, b, r, y, e, h1, h2⟩ := lvl_sets (h _ (List.getElem_mem hi))
    have hs : setsN ds[i] ≤ 8 := by
      rw [e]
      show a.natAbs ≤ 8
      omega
    have := ih (by omega)
    have h3 := PySem.W.mc_lcm_le (togN (ds.take i)) (setsN ds[i])
    have h4 : togN (ds.take i) * setsN ds[i] ≤ 8 ^ i * 8 := Nat.mul_le_mul this hs
    rw [Nat.pow_succ]
    omega
/-- a cache stands at a: its line and its levels -/
def ChAt (K : PySem.W.Frag) (C : Addr) (H : Hp) (a : Addr) (ln : Int) (ds : List PyData) : Prop := ∃ (dx : Addr) (lv : V), H a = some (.ins C dx [("_line", .int ln), ("_levels", lv), ("_together", .int (togN ds : Int))]) ∧ Dp K H lv (.tuple ds)
theorem ChAt.same {K : PySem.W.Frag} {C : Addr} {H H' : Hp} {a : Addr} {ln : Int} {ds : List PyData} (h : ChAt K C H a ln ds) (s : Same H H') : ChAt K C H' a ln ds := let ⟨dx, lv, h1, h2⟩ := h; ⟨dx, lv, s _ _ h1, Dp.keep s h2⟩
def spCInit (K : PySem.W.Frag) (C CI CT : Addr) : Sp := fun vs H Q E => ∃ (p dx : Addr) (l lv : V) (dl dv : PyData), vs = [.ref p, l, lv] ∧ H p = some (.ins C dx []) ∧ Dp K H l dl ∧ Dp K H lv dv ∧
  (cntD dl 8 = false → OutV CI H l E) ∧ (cntD dl 8 = true → ∀ b, badL dv = some b → ∀ x : V, Dp K H x b → OutV CI H x E) ∧
  (∀ ln ds, dl = .int ln → dv = .tuple ds → cntD (.int ln) 8 = true → badL (.tuple ds) = none → (64 < (togN ds : Int) * ln → OutT CT H "period" E) ∧
    ((togN ds : Int) * ln ≤ 64 → ∀ H', ButR p H H' → H' p = some (.ins C dx [("_line", l), ("_levels", lv), ("_together", .int (togN ds : Int))]) → Q .non H'))
/-- what the class says -/
structure ChC (K : PySem.W.Frag) (mg : Str → Option Value) (C : Addr) : Prop where
  kit : InsKit K C
  nL : NoAttr K C "_line"
  nV : NoAttr K C "_levels"
  nT : NoAttr K C "_together"
  isC : PySem.W.isClsIn K C = true
  tyC : PySem.W.typeIn K (.ref C) = some (.type "type")
  mgC : mg "Cache" = some (.ref C)
section
variable {P : Program} {w : World} {K : PySem.W.Frag} {mg : Str → Option Value} {base : Heap} {C CI CT : Addr}
theorem ok_cinit {f fN fK : Addr} {fd dN dK : FuncData} (F : Fun K "__init__" "Cache.__init__" S_Cache___init__ f fd) (GN : FnOk P w K mg base CX0 2 fN dN ["value", "most"] (spCnt K)) (kN : PySem.W.keepIn K (.ref fN) = true) (bN : Binds K dN ["value", "most"] []) (gN : mg "_is_count" = some (.ref fN))
    (GK : FnOk P w K mg base (L2.CX P w) 4 fK dK ["levels"] (spChk K CI)) (kK : PySem.W.keepIn K (.ref fK) = true) (bK : Binds K dK ["levels"] []) (gK : mg "_check_levels" = some (.ref fK)) (mL : mg "lcm" = some (.builtin "math.lcm")) (D : ChK K mg) (Z : ChC K mg C)
    (G : SxC P w K mg base "InvalidCache" CI "value") (GT : SxC P w K mg base "TooLarge" CT "word") : FnOk P w K mg base (L2.CX P w) 5 f fd ["self", "line", "levels"] (spCInit K C CI CT) := by
  obtain ⟨t8, m8⟩ := D.cells
  obtain ⟨tP, mP⟩ := D.per
  refine F.okX sc_Cache___init__ (fun vs H Q E h => ?_) (fun cdv A outer s H vs Q E hr h => ?_)
  · obtain ⟨p, dx, l, lv, dl, dv, rfl, _⟩ := h; rfl
  · obtain ⟨p, dx, l, lv, dl, dv, rfl, hp, hl, hv, q1, q2, q3⟩ := h
    have hr2 : Room 2 _ := hr.mono (by decide)
    refine ⟨_, pss_cons (ps_if (pt_not (pt_val (pe_call GN hr2 (by rfl) gN kN bN .nil pass0 (pa_cons (pv 1) (pa_cons (pe_glob (by rfl) m8 (v := .int 8) ⟨t8, rfl⟩) pa_nil))))) (pss_one (ps_raiseX G rfl (takes_of rfl rfl rfl rfl) hr2 (pv 1))) pss_nil)
      (pss_cons (ps_expr (pe_call GK hr (by rfl) gK kK bK .nil (passes_call (takes_of rfl rfl rfl rfl) (fun _ _ _ _ h => h)) (pa_cons (pv 2) pa_nil)))
      (pss_cons (ps_set (i := 3) sc_Cache___init__.nd rfl (Or.inl rfl) pe_int)
      (pss_cons (ps_for (passes_of rfl) rfl (pi_tup (pv 2)) (pg_tup rfl (pgs_cons (pg_name (i := 4) sc_Cache___init__.nd rfl (Or.inl rfl)) (pgs_cons (pg_name (i := 5) sc_Cache___init__.nd rfl (Or.inl rfl)) (pgs_cons (pg_name (i := 5) sc_Cache___init__.nd rfl (Or.inl rfl)) (pgs_cons (pg_name (i := 5) sc_Cache___init__.nd rfl (Or.inl rfl)) pgs_nil)))))
        (pss_one (ps_set (i := 3) sc_Cache___init__.nd rfl (Or.inl rfl) (pe_callBfun cr_lcm (by rfl) mL (pa_cons (pv 3) (pa_cons (pv 4) pa_nil))))))
      (pss_cons (ps_if (pt_cmpR op_gt (pe_op op_mul (pv 3) (pv 1)) (pe_glob (by rfl) mP (v := .int 64) ⟨tP, rfl⟩) (nomark _)) (pss_one (ps_raiseX GT rfl (takes_of rfl rfl rfl rfl) hr2 pe_str)) pss_nil)
      (pss_cons (ps_fld (pv 0) (pv 1) rfl) (pss_cons (ps_fld (pv 0) (pv 2) rfl) (pss_one (ps_fld (pv 0) (pv 3) rfl)))))))), ?_⟩
    refine ⟨_, rfl, l, dl, 8, rfl, hl, _, rfl, ?_⟩
    cases c1 : cntD dl 8 with
    | false => exact iteT ⟨_, rfl, fun d H' hd s1 h1 => q1 c1 d H' s1 h1⟩
    | true =>
      refine iteF ⟨_, rfl, lv, dv, rfl, hv, fun b1 => ?_, fun b eb x hx => q2 c1 b eb x hx⟩
      obtain ⟨ln, rfl, rfl⟩ := dp_cnt hl c1
      obtain ⟨ds, rfl, n1, n3, hok⟩ := badL_none b1
      obtain ⟨q4, q5⟩ := q3 ln ds rfl rfl c1 b1
      cases hv with
      | @tup a xs _ h1 h2 =>
        have hlen := DpAll.len h2
        have c2 : 1 ≤ ln ∧ ln ≤ 8 := by
          have c1 : (decide (1 ≤ ln) && decide (ln ≤ 8)) = true := c1
          rw [Bool.and_eq_true, decide_eq_true_iff, decide_eq_true_iff] at c1
          exact c1
        have tl := togN_le hok
        have p8 : ∀ i, i ≤ 3 → (8 : Nat) ^ i ≤ 512 := fun i hi => Nat.le_trans (Nat.pow_le_pow_right (by decide) hi) (by decide)
        refine ⟨_, rfl, a, rfl, ⟨_, h1⟩, for_tup (xs := xs) (fun i σ H' => ∃ v4 v5, σ = [some (.ref p), some (.int ln), some (.ref a), some (.int (togN (ds.take i) : Int)), v4, v5] ∧ H' = H) ⟨none, none, rfl, rfl⟩ (fun i σ H' _ ⟨_, _, _, e⟩ => by rw [e]; exact h1) ?_ ?_⟩
        · rintro i x σ H' hx ⟨v4, v5, rfl, rfl⟩
          obtain ⟨di, hdi, hdx⟩ := DpAll.at h2 hx
          obtain ⟨u, j, r, y, rfl, u1, u8⟩ := lvl_sets (hok di (List.mem_of_getElem? hdi))
          have hi : i < ds.length := (List.getElem?_eq_some_iff.mp hdi).1
          cases hdx with
          | @tup t ys _ g1 g2 =>
            obtain ⟨x0, x1, x2, x3, rfl, p0, p1, p2, p3⟩ := dp_four g2
            cases p0
            have b1' := tl i (by omega)
            have b2' := p8 i (by omega)
            refine ⟨t, _, rfl, g1, rfl, _, _, rfl, _, _, rfl, _, _, rfl, _, _, rfl, rfl, ?_⟩
            refine ⟨_, rfl, _, rfl, _, u, rfl, by rw [Int.natAbs_natCast]; omega, by omega, ?_⟩
            refine ⟨some (.int u), some x3, ?_, rfl⟩
            rw [Int.natAbs_natCast, togN_snoc hdi]
            rfl
        · rintro σ H' ⟨v4, v5, rfl, rfl⟩
          rw [hlen, List.take_length]
          have b1' := tl ds.length (Nat.le_refl _)
          have b2' := p8 ds.length n3
          rw [List.take_length] at b1'
          refine ⟨_, rfl, _, rfl, _, _, rfl, rfl, .inl ⟨by omega, by omega⟩, _, _, rfl, rfl, _, rfl, ?_⟩
          by_cases h64 : 64 < (togN ds : Int) * ln
          · rw [decide_eq_true (p := (64 : Int) < (togN ds : Int) * ln) h64]
            exact iteT fun d H2 hd s1 e1 => q4 h64 d H2 s1 e1
          · rw [decide_eq_false (p := (64 : Int) < (togN ds : Int) * ln) h64]
            refine iteF ?_
            refine ⟨_, rfl, _, rfl, p, C, dx, [], rfl, hp, Z.kit.cl, Z.nL, (by show 0 < 1000; decide), ?_⟩
            refine ⟨_, rfl, _, rfl, p, C, dx, _, rfl, upd_same, Z.kit.cl, Z.nV, (by show 1 < 1000; decide), ?_⟩
            refine ⟨_, rfl, _, rfl, p, C, dx, _, rfl, upd_same, Z.kit.cl, Z.nT, (by show 2 < 1000; decide), ?_⟩
            refine q5 (by omega) _ (fun b o e n => by rw [upd_ne n, upd_ne n, upd_ne n]; exact e) ?_
            rw [upd_same]
            rfl
end

/-! ### what a cache tells -/
def spLine (K : PySem.W.Frag) (C : Addr) : Sp := fun vs H Q _ => ∃ (a : Addr) (ln : Int) (ds : List PyData), vs = [.ref a] ∧ ChAt K C H a ln ds ∧ Q (.int ln) H
def spLevels (K : PySem.W.Frag) (C : Addr) : Sp := fun vs H Q _ => ∃ (a : Addr) (ln : Int) (ds : List PyData), vs = [.ref a] ∧ ChAt K C H a ln ds ∧ ∀ lv, Dp K H lv (.tuple ds) → Q lv H
def spTog (K : PySem.W.Frag) (C : Addr) : Sp := fun vs H Q _ => ∃ (a : Addr) (ln : Int) (ds : List PyData), vs = [.ref a] ∧ ChAt K C H a ln ds ∧ Q (.int (togN ds : Int)) H
def spPer (K : PySem.W.Frag) (C : Addr) : Sp := fun vs H Q _ => ∃ (a : Addr) (ln : Int) (ds : List PyData), vs = [.ref a] ∧ ChAt K C H a ln ds ∧ 1 ≤ ln ∧ ln ≤ 8 ∧ Q (.int ((togN ds : Int) * ln)) H
def spCLen (K : PySem.W.Frag) (C : Addr) : Sp := fun vs H Q _ => ∃ (a : Addr) (ln : Int) (ds : List PyData), vs = [.ref a] ∧ ChAt K C H a ln ds ∧ Q (.int (ds.length : Int)) H
def spCEq (K : PySem.W.Frag) (C : Addr) : Sp := fun vs H Q _ => ∃ (a : Addr) (y : V) (ln : Int) (ds : List PyData), vs = [.ref a, y] ∧ ChAt K C H a ln ds ∧ SeqAt.shaped (.tuple ds) = true ∧
  ((∃ (b : Addr) (ln' : Int) (ds' : List PyData), y = .ref b ∧ ChAt K C H b ln' ds' ∧ SeqAt.shaped (.tuple ds') = true ∧ Q (.bl (decide (ln = ln') && PyData.eqv (.tuple ds) (.tuple ds'))) H) ∨
   ∃ t, TyX K H y t ∧ (t == .ref C) = false ∧ PySem.W.subIn K t (.ref C) = some false ∧ Q (.bl false) H)
section
variable {P : Program} {w : World} {K : PySem.W.Frag} {mg : Str → Option Value} {base : Heap} {C : Addr}
theorem ok_line {f : Addr} {fd : FuncData} (F : Fun K "line" "Cache.line" S_Cache_line f fd) (Z : ChC K mg C) : FnOk P w K mg base CX0 1 f fd ["self"] (spLine K C) := by
  refine F.ok sc_Cache_line (fun vs H Q E h => ?_) (fun cdv A outer s H vs Q E hr h => ?_)
  · obtain ⟨a, ln, ds, rfl, _⟩ := h; rfl
  · obtain ⟨a, ln, ds, rfl, ⟨dx, lv, ha, hd⟩, q⟩ := h
    exact ⟨_, pss_one (ps_ret (pe_fld (pv 0) rfl)), _, rfl, a, C, dx, _, _, rfl, ha, Z.kit.cl, Z.nL, rfl, q⟩
theorem ok_levels {f : Addr} {fd : FuncData} (F : Fun K "levels" "Cache.levels" S_Cache_levels f fd) (Z : ChC K mg C) : FnOk P w K mg base CX0 1 f fd ["self"] (spLevels K C) := by
  refine F.ok sc_Cache_levels (fun vs H Q E h => ?_) (fun cdv A outer s H vs Q E hr h => ?_)
  · obtain ⟨a, ln, ds, rfl, _⟩ := h; rfl
  · obtain ⟨a, ln, ds, rfl, ⟨dx, lv, ha, hd⟩, q⟩ := h
    exact ⟨_, pss_one (ps_ret (pe_fld (pv 0) rfl)), _, rfl, a, C, dx, _, _, rfl, ha, Z.kit.cl, Z.nV, rfl, q lv hd⟩
theorem ok_period {f : Addr} {fd : FuncData} (F : Fun K "period" "Cache.period" S_Cache_period f fd) (Z : ChC K mg C) : FnOk P w K mg base CX0 1 f fd ["self"] (spPer K C) := by
  refine F.ok sc_Cache_period (fun vs H Q E h => ?_) (fun cdv A outer s H vs Q E hr h => ?_)
  · obtain ⟨a, ln, ds, rfl, _⟩ := h; rfl
  · obtain ⟨a, ln, ds, rfl, ⟨dx, lv, ha, hd⟩, l1, l8, q⟩ := h
    exact ⟨_, pss_one (ps_ret (pe_op op_mul (pe_fld (pv 0) rfl) (pe_fld (pv 0) rfl))), _, rfl, a, C, dx, _, _, rfl, ha, Z.kit.cl, Z.nT, rfl, _, rfl, a, C, dx, _, _, rfl, ha, Z.kit.cl, Z.nL, rfl, _, _, rfl, rfl, .inr ⟨by omega, by omega⟩, q⟩
theorem ok_clen {f : Addr} {fd : FuncData} (F : Fun K "__len__" "Cache.__len__" S_Cache___len__ f fd) (Z : ChC K mg C) (B : ChB mg) : FnOk P w K mg base CX0 1 f fd ["self"] (spCLen K C) := by
  refine F.ok sc_Cache___len__ (fun vs H Q E h => ?_) (fun cdv A outer s H vs Q E hr h => ?_)
  · obtain ⟨a, ln, ds, rfl, _⟩ := h; rfl
  · obtain ⟨a, ln, ds, rfl, ⟨dx, lv, ha, hd⟩, q⟩ := h
    cases hd with
    | @tup t xs _ h1 h2 =>
      refine ⟨_, pss_one (ps_ret (pe_callB call_len_seq (by rfl) B.len PySem.boot_len (pa_cons (pe_fld (pv 0) rfl) pa_nil))), _, rfl, a, C, dx, _, _, rfl, ha, Z.kit.cl, Z.nV, rfl, t, xs, rfl, .inr h1, ?_⟩
      rw [DpAll.len h2]
      exact q
theorem ok_ceq {f : Addr} {fd : FuncData} (F : Fun K "__eq__" "Cache.__eq__" S_Cache___eq__ f fd) (Z : ChC K mg C) (B : ChB mg) : FnOk P w K mg base CX0 1 f fd ["self", "other"] (spCEq K C) := by
  refine F.ok sc_Cache___eq__ (fun vs H Q E h => ?_) (fun cdv A outer s H vs Q E hr h => ?_)
  · obtain ⟨a, y, ln, ds, rfl, _⟩ := h; rfl
  · obtain ⟨a, y, ln, ds, rfl, ⟨dx, lv, ha, hd⟩, hs, q⟩ := h
    refine ⟨_, pss_one (ps_ret (pe_and (pe_callB call_isi (by rfl) B.is (by decide +kernel) (pa_cons (pv 1) (pa_cons (pe_glob (by rfl) Z.mgC (v := .ref C) rfl) pa_nil)))
      (pe_and (pe_cmpR op_eq (pe_fld (pv 0) rfl) (pe_fld (pv 1) rfl) (nomark _)) (pe_one (pe_cmpR (op_eqD hr.units) (pe_fld (pv 0) rfl) (pe_fld (pv 1) rfl) (nomark _)))))), ?_⟩
    rcases q with ⟨b, ln', ds', rfl, ⟨dy, lw, hb, he⟩, hs', q⟩ | ⟨t, ty, n, su, q⟩
    · refine ⟨_, rfl, .ref b, .ref C, .ref C, .ref C, true, rfl, .own C, Z.kit.ty hb, kit_self (by simp), true, rfl, iteT ?_⟩
      refine ⟨_, rfl, a, C, dx, _, _, rfl, ha, Z.kit.cl, Z.nL, rfl, _, rfl, b, C, dy, _, _, rfl, hb, Z.kit.cl, Z.nL, rfl, rfl, _, rfl, ?_⟩
      have ei : decide (V.int ln = V.int ln') = decide (ln = ln') := decide_eq_decide.mpr ⟨fun z => by injection z, fun z => by rw [z]⟩
      rw [ei]
      refine ite2 (fun h => ?_) (fun h => ?_)
      · rw [h, Bool.true_and] at q
        exact ⟨_, rfl, a, C, dx, _, _, rfl, ha, Z.kit.cl, Z.nV, rfl, _, rfl, b, C, dy, _, _, rfl, hb, Z.kit.cl, Z.nV, rfl, .tuple ds, .tuple ds', hd, he, hs, hs', q⟩
      · rw [Bool.eq_false_iff.mpr h, Bool.false_and] at q
        exact q
    · exact ⟨_, rfl, y, .ref C, t, .ref C, false, rfl, .own C, ty, kit_cls_ref Z.isC Z.tyC n su, false, rfl, iteF q⟩
end

end K14

namespace K14
open PySem L2 SZ VR VX StX RT
/-! ### the draws -/
structure Bn2 (mg : Str → Option Value) : Prop where
  len : mg "len" = none
  int : mg "int" = none
  abs : mg "abs" = none
/-- a pool stands at a -/
def PoolAt (H : Hp) (a : Addr) : Prop := ∃ p q : Int, H a = some (.lst [.int p, .int q]) ∧ 0 ≤ p
theorem b01 (b : Bool) : -(2 ^ 64) < (if b = true then (1 : Int) else 0) ∧ (if b = true then (1 : Int) else 0) < 2 ^ 64 := by cases b <;> decide
theorem nn01 (c : Int) (b : Bool) : 0 ≤ (if c < 0 then -c else c) * (if b = true then (1 : Int) else 0) := by
  refine Int.mul_nonneg ?_ ?_
  · split <;> omega
  · cases b <;> decide
def spPool (K : PySem.W.Frag) : Sp := fun vs H Q _ => ∃ (a : Addr) (ns : List Int) (k : Nat), vs = [.ref a, .int k] ∧ SqL K H a (iz ns) ∧ k ≤ 63 ∧ ns.length ≤ 63 ∧ ∀ p H', H p = none → Same H H' → PoolAt H' p → Q (.ref p) H'
def spTake : Sp := fun vs H Q _ => ∃ (a : Addr) (wd : Int), vs = [.ref a, .int wd] ∧ PoolAt H a ∧ 0 < wd ∧ wd < 1073741824 ∧ ∀ (r : Int) (H' : Hp), 0 ≤ r → r < wd → PoolAt H' a → (∀ b o, H b = some o → b ≠ a → H' b = some o) → (∀ b, H b = none → H' b = none) → Q (.int r) H'
section
variable {P : Program} {w : World} {K : PySem.W.Frag} {mg : Str → Option Value} {base : Heap}
theorem ok_pool {f : Addr} {fd : FuncData} (F : Fun K "_law_pool" "_law_pool" S_law_pool f fd) (B : Bn2 mg) : FnOk P w K mg base CX0 1 f fd ["_law_script", "_law_k"] (spPool K) := by
  refine F.ok sc_law_pool (fun vs H Q E h => ?_) (fun cdv A outer s H vs Q E hr h => ?_)
  · obtain ⟨a, ns, k, rfl, _⟩ := h; rfl
  · obtain ⟨a, ns, k, rfl, ha, hk, hl, q⟩ := h
    refine ⟨_, pss_cons (ps_set (i := 2) sc_law_pool.nd rfl (Or.inl rfl) pe_int)
      (pss_cons (ps_if (pt_cmpR op_lt (pv 1) (pe_callB call_len_seq (by rfl) B.len PySem.boot_len (pa_cons (pv 0) pa_nil)) (nomark _)) (pss_one (ps_set (i := 2) sc_law_pool.nd rfl (Or.inl rfl) (pe_ix ix_list (pv 0) (pv 1) (fun _ _ => rfl)))) pss_nil)
      (pss_cons (ps_set (i := 3) sc_law_pool.nd rfl (Or.inl rfl) (pe_callB call_abs (by rfl) B.abs (by decide +kernel) (pa_cons (pv 2) pa_nil)))
      (pss_cons (ps_set (i := 4) sc_law_pool.nd rfl (Or.inl rfl) (pe_op op_mod (pe_op op_mul (pe_callTy call_int1 (by rfl) B.int (by decide +kernel) (pa_cons (pe_op op_add (pe_op op_mod (pe_callTy call_int1 (by rfl) B.int (by decide +kernel) (pa_cons (pv 2) pa_nil)) pe_int) (pe_op op_mul pe_int (pe_op op_add (pv 1) pe_int))) pa_nil)) (pe_op op_add (pv 1) pe_int)) pe_int))
      (pss_cons (ps_set (i := 5) sc_law_pool.nd rfl (Or.inl rfl) (pe_op op_mod (pe_op op_mul (pe_op op_mod (pe_callTy call_int1 (by rfl) B.int (by decide +kernel) (pa_cons (pe_op op_mul (pv 4) (pv 4)) pa_nil)) pe_int) pe_int) pe_int))
      (pss_one (ps_ret (pe_lst (pa_cons (pe_op op_mul (pv 3) (pe_callTy call_int1 (by rfl) B.int (by decide +kernel) (pa_cons (pe_cmpR op_ge (pv 3) (pe_op op_pow pe_int pe_int) (nomark _)) pa_nil))) (pa_cons (pv 5) pa_nil))))))))), ?_⟩
    refine ⟨_, rfl, _, rfl, a, iz ns, rfl, .inl ha, _, _, rfl, rfl, _, rfl, ?_⟩
    rw [iz_len]
    have m0 : (0 : Int) < 2147483629 := by decide
    have m1 : (0 : Int) < 2147483647 := by decide
    refine ite2 (fun h => ?_) (fun h => ?_)
    · have hlt : k < ns.length := by have := of_decide_eq_true h; omega
      have hx : ns[k]? = some ns[k] := List.getElem?_eq_getElem hlt
      refine ⟨_, rfl, _, rfl, a, iz ns, _, _, rfl, rfl, ha, at_of (j := k) rfl (iz_get hx), ?_⟩
      generalize ns[k] = c
      refine ⟨_, rfl, c, rfl, ?_⟩
      refine ⟨_, rfl, .inl ⟨_, rfl, _, _, rfl, rfl, m0, _, rfl, _, _, rfl, rfl, _, _, rfl, rfl, .inl ⟨by decide, by decide⟩, _, _, rfl, rfl, .inl ⟨_, rfl, _, rfl, _, _, rfl, rfl, _, _, rfl, rfl, .inr ⟨by omega, by omega⟩, _, _, rfl, rfl, m0, ?_⟩⟩⟩
      have b0 := Int.emod_nonneg ((c % 2147483629 + 104729 * ((k : Int) + 1)) * ((k : Int) + 7)) (Int.ne_of_gt m0)
      have b1 := Int.emod_lt_of_pos ((c % 2147483629 + 104729 * ((k : Int) + 1)) * ((k : Int) + 7)) m0
      generalize (c % 2147483629 + 104729 * ((k : Int) + 1)) * ((k : Int) + 7) % 2147483629 = bl at b0 b1
      refine ⟨_, rfl, _, rfl, _, _, rfl, rfl, .inl ⟨by omega, by omega⟩, .inl ⟨_, rfl, _, _, rfl, rfl, m0, _, _, rfl, rfl, .inr ⟨by decide, by decide⟩, _, _, rfl, rfl, m1, ?_⟩⟩
      refine ⟨_, rfl, _, rfl, _, _, rfl, rfl, ⟨by decide, by decide, by decide⟩, _, _, rfl, rfl, .inr ⟨_, rfl, _, _, rfl, rfl, (.inr (b01 _)), _, rfl, by show 2 ≤ sizeLine; decide, fun p hp => q p _ hp (Same.new hp) ⟨_, _, upd_same, nn01 c _⟩⟩⟩
    · refine ⟨_, rfl, (0 : Int), rfl, ?_⟩
      refine ⟨_, rfl, .inl ⟨_, rfl, _, _, rfl, rfl, m0, _, rfl, _, _, rfl, rfl, _, _, rfl, rfl, .inl ⟨by decide, by decide⟩, _, _, rfl, rfl, .inl ⟨_, rfl, _, rfl, _, _, rfl, rfl, _, _, rfl, rfl, .inr ⟨by omega, by omega⟩, _, _, rfl, rfl, m0, ?_⟩⟩⟩
      have b0 := Int.emod_nonneg (((0 : Int) % 2147483629 + 104729 * ((k : Int) + 1)) * ((k : Int) + 7)) (Int.ne_of_gt m0)
      have b1 := Int.emod_lt_of_pos (((0 : Int) % 2147483629 + 104729 * ((k : Int) + 1)) * ((k : Int) + 7)) m0
      generalize ((0 : Int) % 2147483629 + 104729 * ((k : Int) + 1)) * ((k : Int) + 7) % 2147483629 = bl at b0 b1
      refine ⟨_, rfl, _, rfl, _, _, rfl, rfl, .inl ⟨by omega, by omega⟩, .inl ⟨_, rfl, _, _, rfl, rfl, m0, _, _, rfl, rfl, .inr ⟨by decide, by decide⟩, _, _, rfl, rfl, m1, ?_⟩⟩
      refine ⟨_, rfl, _, rfl, _, _, rfl, rfl, ⟨by decide, by decide, by decide⟩, _, _, rfl, rfl, .inr ⟨_, rfl, _, _, rfl, rfl, (.inr (b01 _)), _, rfl, by show 2 ≤ sizeLine; decide, fun p hp => q p _ hp (Same.new hp) ⟨_, _, upd_same, nn01 0 _⟩⟩⟩
end

section
variable {P : Program} {w : World} {K : PySem.W.Frag} {mg : Str → Option Value} {base : Heap}
theorem ok_take {f : Addr} {fd : FuncData} (F : Fun K "_law_take" "_law_take" S_law_take f fd) (B : Bn2 mg) : FnOk P w K mg base CX0 1 f fd ["_law_pool_here", "_law_wide"] spTake := by
  refine F.ok sc_law_take (fun vs H Q E h => ?_) (fun cdv A outer s H vs Q E hr h => ?_)
  · obtain ⟨a, wd, rfl, _⟩ := h; rfl
  · obtain ⟨a, wd, rfl, ⟨p, q, ha, hp⟩, hw, hw2, k⟩ := h
    refine ⟨_, pss_cons (ps_if (pt_cmpR op_gt (pe_ix ix_list (pv 0) pe_int (fun _ _ => rfl)) pe_int (nomark _))
        (pss_cons (ps_set (i := 2) sc_law_take.nd rfl (Or.inl rfl) (pe_op op_mod (pe_callTy call_int1 (by rfl) B.int (by decide +kernel) (pa_cons (pe_ix ix_list (pv 0) pe_int (fun _ _ => rfl)) pa_nil)) (pv 1)))
        (pss_cons (ps_asg (pe_op op_fdiv (pe_ix ix_list (pv 0) pe_int (fun _ _ => rfl)) (pv 1)) (pg_sub (pv 0) pe_int set_list))
        (pss_one (ps_ret (pv 2))))) pss_nil)
      (pss_cons (ps_asg (pe_op op_mod (pe_callTy call_int1 (by rfl) B.int (by decide +kernel) (pa_cons (pe_op op_add (pe_op op_mul (pe_ix ix_list (pv 0) pe_int (fun _ _ => rfl)) pe_int) pe_int) pa_nil)) pe_int) (pg_sub (pv 0) pe_int set_list))
      (pss_one (ps_ret (pe_op op_mod (pe_op op_fdiv (pe_op op_mod (pe_callTy call_int1 (by rfl) B.int (by decide +kernel) (pa_cons (pe_op op_mul (pe_ix ix_list (pv 0) pe_int (fun _ _ => rfl)) (pe_ix ix_list (pv 0) pe_int (fun _ _ => rfl))) pa_nil)) pe_int) pe_int) (pv 1))))), ?_⟩
    have m0 : (0 : Int) < 2147483629 := by decide
    have m1 : (0 : Int) < 2147483647 := by decide
    have L : SqL K H a [.int p, .int q] := .of ha
    refine ⟨_, rfl, a, _, _, .int p, rfl, rfl, L, at_of (j := 0) rfl rfl, _, _, rfl, rfl, _, rfl, ?_⟩
    refine ite2 (fun h => ?_) (fun h => ?_)
    · refine ⟨_, rfl, a, _, _, .int p, rfl, rfl, L, at_of (j := 0) rfl rfl, .inl ⟨_, rfl, _, rfl, _, _, rfl, rfl, hw, ?_⟩⟩
      refine ⟨_, rfl, a, _, _, .int p, rfl, rfl, L, at_of (j := 0) rfl rfl, _, rfl, _, _, rfl, rfl, ⟨hw, hw2⟩, _, rfl, a, _, _, 0, rfl, rfl, ha, rfl, ?_⟩
      refine ⟨_, rfl, k _ _ (Int.emod_nonneg _ (Int.ne_of_gt hw)) (Int.emod_lt_of_pos _ hw) ⟨p / wd, q, upd_same, Int.ediv_nonneg hp (Int.le_of_lt hw)⟩ (fun b o hb hne => by rw [upd_ne hne]; exact hb) (fun b hb => ?_)⟩
      rw [upd_ne (fun e => by rw [e, ha] at hb; cases hb)]; exact hb
    · refine ⟨_, rfl, a, _, _, .int q, rfl, rfl, L, at_of (j := 1) rfl rfl, _, _, rfl, rfl, .inr ⟨by decide, by decide⟩, _, _, rfl, rfl, .inl ⟨_, rfl, _, _, rfl, rfl, m1, ?_⟩⟩
      refine ⟨_, rfl, a, _, _, 1, rfl, rfl, ha, rfl, ?_⟩
      dsimp only [List.set]
      have b0 := Int.emod_nonneg (q * 48271 + 12345) (Int.ne_of_gt m1)
      have b1 := Int.emod_lt_of_pos (q * 48271 + 12345) m1
      generalize (q * 48271 + 12345) % 2147483647 = z at b0 b1
      have L2 : SqL K (upd H a (.lst [.int p, .int z])) a [.int p, .int z] := .of upd_same
      refine ⟨_, rfl, a, _, _, .int z, rfl, rfl, L2, at_of (j := 1) rfl rfl, _, rfl, a, _, _, .int z, rfl, rfl, L2, at_of (j := 1) rfl rfl, _, _, rfl, rfl, .inl ⟨by omega, by omega⟩, .inl ⟨_, rfl, _, _, rfl, rfl, m0, _, _, rfl, rfl, ⟨by decide, by decide⟩, _, rfl, _, _, rfl, rfl, hw, ?_⟩⟩
      refine k _ _ (Int.emod_nonneg _ (Int.ne_of_gt hw)) (Int.emod_lt_of_pos _ hw) ⟨p, z, upd_same, hp⟩ (fun b o hb hne => by rw [upd_ne hne]; exact hb) (fun b hb => ?_)
      rw [upd_ne (fun e => by rw [e, ha] at hb; cases hb)]; exact hb
end

/-! ### displays of data -/
def Lit (K : PySem.W.Frag) (te : TE) (d : PyData) : Prop := ∀ (σ : L2.St) (H : Hp) (Q : VK), (∀ (v : V) (H' : Hp), Same H H' → Dp K H' v d → Q v H') → te σ H Q
def LitA (K : PySem.W.Frag) (ta : TA) (ds : List PyData) : Prop := ∀ (σ : L2.St) (H : Hp) (Q : List V → Hp → Prop), (∀ (vs : List V) (H' : Hp), Same H H' → DpAll K H' vs ds → Q vs H') → ta σ H Q
section
variable {K : PySem.W.Frag} {te : TE} {ta : TA} {d : PyData} {ds : List PyData}
theorem lit_non : Lit K (tC .non) .none := fun _ H _ k => k _ H (Same.refl _) .non
theorem lit_bl (b : Bool) : Lit K (tC (.bl b)) (.bool b) := fun _ H _ k => k _ H (Same.refl _) (.bl b)
theorem lit_int (i : Int) : Lit K (tC (.int i)) (.int i) := fun _ H _ k => k _ H (Same.refl _) (.int i)
theorem lit_str (x : Str) : Lit K (tC (.str x)) (.str x) := fun _ H _ k => k _ H (Same.refl _) (.str x)
theorem lit_neg (i : Int) : Lit K (tUn (rU fun i => .int (-i)) (tC (.int i))) (.int (-i)) := fun _ H _ k => ⟨i, rfl, k _ H (Same.refl _) (.int (-i))⟩
theorem litA_nil : LitA K tNil [] := fun _ H _ k => k [] H (Same.refl _) .nil
theorem litA_cons (h : Lit K te d) (r : LitA K ta ds) : LitA K (tCons te ta) (d :: ds) := fun σ H Q k => h σ H _ fun v H1 s1 d1 => r σ H1 _ fun vs H2 s2 d2 => k (v :: vs) H2 (s1.trans s2) (.cons (Dp.keep s2 d1) d2)
theorem small_line {n : Nat} (h : n ≤ 100) : n ≤ sizeLine := by rw [sizeLine_eq]; omega
theorem lit_tup (h : LitA K ta ds) (n : ds.length ≤ 100) : Lit K (tTup ta) (.tuple ds) := fun σ H Q k => h σ H _ fun vs H1 s1 d1 => ⟨small_line (by rw [DpAll.len d1]; exact n), fun p hp => k _ _ (s1.trans (Same.new hp)) (.tup (.of upd_same) (DpAll.keep (Same.new hp) d1))⟩
theorem lit_lst (h : LitA K ta ds) (n : ds.length ≤ 100) : Lit K (tLst ta) (.list ds) := fun σ H Q k => h σ H _ fun vs H1 s1 d1 => ⟨small_line (by rw [DpAll.len d1]; exact n), fun p hp => k _ _ (s1.trans (Same.new hp)) (.lst (.of upd_same) (DpAll.keep (Same.new hp) d1))⟩
/-- a list that may be changed -/
theorem lit_new (h : LitA K ta ds) (n : ds.length ≤ 100) (σ : L2.St) (H : Hp) (Q : VK) (k : ∀ (p : Addr) (vs : List V) (H' : Hp), H p = none → Same H H' → H' p = some (.lst vs) → DpAll K H' vs ds → Q (.ref p) H') : tLst ta σ H Q :=
  h σ H _ fun vs H1 s1 d1 => ⟨small_line (by rw [DpAll.len d1]; exact n), fun p hp => k p vs _ (by
    cases e : H p with
    | none => rfl
    | some o => exact absurd (hp.symm.trans (s1 _ _ e)) (by simp)) (s1.trans (Same.new hp)) upd_same (DpAll.keep (Same.new hp) d1)⟩
end
theorem DpAll.app {K : PySem.W.Frag} {H : Hp} : ∀ {xs ys : List V} {ds es : List PyData}, DpAll K H xs ds → DpAll K H ys es → DpAll K H (xs ++ ys) (ds ++ es)
  | _, _, _, _, .nil, h => h
  | _, _, _, _, .cons h1 h2, h => .cons h1 (DpAll.app h2 h)

mutual
def noL : PyData → Bool
  | .list _ => false
  | .tuple ds => noLs ds
  | _ => true
def noLs : List PyData → Bool
  | [] => true
  | d :: ds => noL d && noLs ds
end
def KpT (H H' : Hp) : Prop := ∀ b o, H b = some o → ((∃ xs, o = .tup xs) ∨ ∃ u v, o = .frz u v) → H' b = some o
theorem updL.kp {l : Addr} {vs : List V} {o : HO} {H : Hp} (hl : H l = some (.lst vs)) : KpT H (upd H l o) := fun c o' e z => by
  rw [upd_ne (fun n => by
    rw [n, hl] at e
    rcases z with ⟨xs, rfl⟩ | ⟨u, v, rfl⟩ <;> cases e)]
  exact e
theorem SqT.kp {K : PySem.W.Frag} {H H' : Hp} {t : Addr} {xs : List V} (s : KpT H H') (h : SqT K H t xs) : SqT K H' t xs := by
  rcases h with (h | ⟨o, h⟩) | h
  · exact .inl (.inl (s _ _ h (.inl ⟨_, rfl⟩)))
  · exact .inl (.inr ⟨o, s _ _ h (.inr ⟨_, _, rfl⟩)⟩)
  · exact .inr h
mutual
theorem Dp.kpT {K : PySem.W.Frag} {H H' : Hp} (s : KpT H H') : ∀ {v : V} {d : PyData}, noL d = true → Dp K H v d → Dp K H' v d
  | _, _, _, .non => .non
  | _, _, _, .bl b => .bl b
  | _, _, _, .int i => .int i
  | _, _, _, .str x => .str x
  | _, _, n, .lst h1 h2 => by simp [noL] at n
  | _, _, n, .tup h1 h2 => .tup (SqT.kp s h1) (DpAll.kpT s (by simpa [noL] using n) h2)
theorem DpAll.kpT {K : PySem.W.Frag} {H H' : Hp} (s : KpT H H') : ∀ {vs : List V} {ds : List PyData}, noLs ds = true → DpAll K H vs ds → DpAll K H' vs ds
  | _, _, _, .nil => .nil
  | _, _, n, .cons h1 h2 => by
    simp only [noLs, Bool.and_eq_true] at n
    exact .cons (Dp.kpT s n.1 h1) (DpAll.kpT s n.2 h2)
end

mutual
def noL2 : PyData → Bool
  | .list ds => !decide (ds.length = 2) && noL2s ds
  | .tuple ds => noL2s ds
  | _ => true
def noL2s : List PyData → Bool
  | [] => true
  | d :: ds => noL2 d && noL2s ds
end
mutual
theorem Dp.but {K : PySem.W.Frag} {H H' : Hp} {a : Addr} {p q : Int} (ha : H a = some (.lst [.int p, .int q])) (s : ButR a H H') : ∀ {v : V} {d : PyData}, noL2 d = true → Dp K H v d → Dp K H' v d
  | _, _, _, .non => .non
  | _, _, _, .bl b => .bl b
  | _, _, _, .int i => .int i
  | _, _, _, .str x => .str x
  | _, _, n, .lst (a := l) (xs := xs) h1 h2 => by
    simp only [noL2, Bool.and_eq_true, Bool.not_eq_true', decide_eq_false_iff_not] at n
    have hn : xs.length ≠ 2 := by rw [DpAll.len h2]; exact n.1
    refine .lst ?_ (DpAll.but ha s n.2 h2)
    rcases h1 with (h | ⟨o, h⟩) | h
    · exact .inl (.inl (s _ _ h (fun z => by
        rw [z, ha] at h
        have h := Option.some.inj h
        injection h with h
        rw [← h] at hn
        exact hn rfl)))
    · exact .inl (.inr ⟨o, s _ _ h (fun z => by rw [z, ha] at h; cases h)⟩)
    · exact .inr h
  | _, _, n, .tup (a := l) (xs := xs) h1 h2 => by
    simp only [noL2] at n
    refine .tup ?_ (DpAll.but ha s n h2)
    rcases h1 with (h | ⟨o, h⟩) | h
    · exact .inl (.inl (s _ _ h (fun z => by rw [z, ha] at h; cases h)))
    · exact .inl (.inr ⟨o, s _ _ h (fun z => by rw [z, ha] at h; cases h)⟩)
    · exact .inr h
theorem DpAll.but {K : PySem.W.Frag} {H H' : Hp} {a : Addr} {p q : Int} (ha : H a = some (.lst [.int p, .int q])) (s : ButR a H H') : ∀ {vs : List V} {ds : List PyData}, noL2s ds = true → DpAll K H vs ds → DpAll K H' vs ds
  | _, _, _, .nil => .nil
  | _, _, n, .cons h1 h2 => by
    simp only [noL2s, Bool.and_eq_true] at n
    exact .cons (Dp.but ha s n.1 h1) (DpAll.but ha s n.2 h2)
end

abbrev odd0 : List PyData := [.none, .tuple [], .list [.int 2, .int 2, .str "used", .str "back"], .tuple [.int 2, .int 2, .str "used"], .tuple [.int 2, .int 2, .str "used", .str "back", .int 1], .tuple [.int 0, .int 2, .str "used", .str "back"]]
abbrev odd1 : List PyData := [.tuple [.int 9, .int 2, .str "used", .str "back"], .tuple [.bool true, .int 2, .str "used", .str "back"], .tuple [.int 2, .int 0, .str "used", .str "back"]]
abbrev odd2 : List PyData := [.tuple [.int 2, .int 5, .str "used", .str "back"], .tuple [.int 2, .none, .str "used", .str "back"], .tuple [.int 2, .int 3, .str "tree", .str "back"], .tuple [.int 2, .int 2, .str "lru", .str "back"]]
abbrev odd3 : List PyData := [.tuple [.int 2, .int 2, .none, .str "back"], .tuple [.int 2, .int 2, .str "used", .str "Back"], .tuple [.int 2, .int 2, .str "used", .none], .tuple [.int 2, .int 2, .list [.str "used"], .str "back"]]
abbrev odd4 : List PyData := [.tuple [.int 2, .int 2, .str "used", .tuple [.str "back"]], .tuple [.int (-1), .int 2, .str "used", .str "back"], .int 5, .str "level", .tuple [.int 2, .int 2, .str "used", .str "used"]]
abbrev oddA : PyData := .tuple [.str "2", .int 1, .str "used", .str "back"]
abbrev ODD : List PyData := odd0 ++ odd1 ++ [oddA] ++ odd2 ++ odd3 ++ odd4
theorem odd_nl2 : ∀ d ∈ ODD, noL2 d = true := by
  intro d hd
  have h : ODD.all noL2 = true := by decide +kernel
  exact List.all_eq_true.mp h d hd
theorem odd_len : ODD.length = 23 := rfl
def spOdd (K : PySem.W.Frag) : Sp := fun vs H Q _ => ∃ a, vs = [.ref a] ∧ PoolAt H a ∧ ∀ (v : V) (d : PyData) (H' : Hp), d ∈ ODD → Dp K H' v d → PoolAt H' a → ButR a H H' → Q v H'
theorem PoolAt.same' {H H' : Hp} {a : Addr} (h : PoolAt H a) (s : Same H H') : PoolAt H' a := let ⟨p, q, e, h0⟩ := h; ⟨p, q, s _ _ e, h0⟩
section
variable {P : Program} {w : World} {K : PySem.W.Frag} {mg : Str → Option Value} {base : Heap}
end

end K14

namespace K14
open PySem L2 SZ VR VX StX RT
/-! ### drawn caches -/
structure LwB (mg : Str → Option Value) : Prop where
  len : mg "len" = none
  int : mg "int" = none
  abs : mg "abs" = none
  rng : mg "range" = none
  rep : mg "repr" = none
  max : mg "max" = none
  min : mg "min" = none
  tup : mg "tuple" = none
  lst : mg "list" = none
theorem LwB.two {mg : Str → Option Value} (B : LwB mg) : Bn2 mg := ⟨B.len, B.int, B.abs⟩
def MkL (d : PyData) : Prop := ∃ (s y : Int) (r w : Str), d = .tuple [.int s, .int y, .str r, .str w] ∧ 1 ≤ s ∧ s ≤ 4 ∧ 1 ≤ y ∧ y ≤ 4 ∧ r ∈ RUL ∧ w ∈ WRT ∧ ¬ (y = 3 ∧ r = "tree")
theorem MkL.lvl {d : PyData} (h : MkL d) : lvlD d = true := by
  obtain ⟨s, y, r, w, rfl, s1, s4, y1, y4, hr, hw, n⟩ := h
  show ((decide (1 ≤ s) && decide (s ≤ 8)) && (decide (1 ≤ y) && decide (y ≤ 4)) && (RUL.contains r && (WRT.contains w && !(decide (y = 3) && decide (r = "tree"))))) = true
  rw [decide_eq_true s1, decide_eq_true (show s ≤ 8 by omega), decide_eq_true y1, decide_eq_true y4, List.contains_iff_mem.mpr hr, List.contains_iff_mem.mpr hw]
  have : (decide (y = 3) && decide (r = "tree")) = false := by
    rw [Bool.eq_false_iff]
    intro z
    rw [Bool.and_eq_true, decide_eq_true_iff, decide_eq_true_iff] at z
    exact n z
  rw [this]
  rfl
theorem MkL.nl {d : PyData} (h : MkL d) : noL d = true := by
  obtain ⟨s, y, r, w, rfl, _⟩ := h
  rfl
theorem noLs_of : ∀ {ds : List PyData}, (∀ d ∈ ds, noL d = true) → noLs ds = true
  | [], _ => rfl
  | d :: ds, h => by
    rw [noLs, h d List.mem_cons_self, noLs_of fun x hx => h x (List.mem_cons_of_mem _ hx)]
    rfl
theorem KpT.trans {H H1 H2 : Hp} (s : KpT H H1) (t : KpT H1 H2) : KpT H H2 := fun b o e z => t b o (s b o e z) z
theorem Same.kp {H H' : Hp} (s : Same H H') : KpT H H' := fun c o e _ => s c o e
theorem ButR.kpL {a : Addr} {H H' : Hp} (h : PoolAt H a) (b : ButR a H H') : KpT H H' := fun c o e z => b c o e (fun n => by
  obtain ⟨p, q, hp, _⟩ := h
  rw [n, hp] at e
  rcases z with ⟨xs, rfl⟩ | ⟨u, v, rfl⟩ <;> cases e)
theorem PoolAt.ne {H : Hp} {a b : Addr} (h : PoolAt H a) (e : H b = none) : b ≠ a := fun n => by
  obtain ⟨p, q, hp, _⟩ := h
  rw [n, hp] at e
  cases e
def spLCache (K : PySem.W.Frag) : Sp := fun vs H Q _ => ∃ a, vs = [.ref a] ∧ PoolAt H a ∧ ∀ (r t : Addr) (ln : Int) (ds : List PyData) (H' : Hp), (ln = 1 ∨ ln = 2 ∨ ln = 4) → 1 ≤ ds.length → ds.length ≤ 3 → (∀ d ∈ ds, MkL d) → H' r = some (.tup [.int ln, .ref t]) → Dp K H' (.ref t) (.tuple ds) → PoolAt H' a → ButR a H H' → Q (.ref r) H'
/-- what a menu gives -/
theorem menuAt {xs : List V} {r : Int} {n : Nat} (h0 : 0 ≤ r) (h1 : r < n) (hn : xs.length = n) : ∃ v, atI xs r = some v ∧ v ∈ xs := by
  have hl : r.toNat < xs.length := by omega
  have h := atN (List.getElem?_eq_getElem hl)
  rw [Int.toNat_of_nonneg h0] at h
  exact ⟨_, h, List.getElem_mem hl⟩
section
variable {P : Program} {w : World} {K : PySem.W.Frag} {mg : Str → Option Value} {base : Heap}
theorem ok_lcache {f fk : Addr} {fd fdk : FuncData} (F : Fun K "_law_cache" "_law_cache" S_law_cache f fd) (FK : Fun K "_law_take" "_law_take" S_law_take fk fdk) (bK : Binds K fdk ["_law_pool_here", "_law_wide"] []) (gK : mg "_law_take" = some (.ref fk)) (B : LwB mg) : FnOk P w K mg base CX0 2 f fd ["_law_pool_here"] (spLCache K) := by
  have GK : FnOk P w K mg base CX0 1 fk fdk ["_law_pool_here", "_law_wide"] spTake := ok_take FK B.two
  refine F.ok sc_law_cache (fun vs H Q E h => ?_) (fun cdv A outer s H vs Q E hr h => ?_)
  · obtain ⟨a, rfl, _⟩ := h; rfl
  · obtain ⟨a, rfl, ha, k⟩ := h
    refine ⟨_, pss_cons (ps_set (i := 1) sc_law_cache.nd rfl (Or.inl rfl) (pe_lst pa_nil))
      (pss_cons (ps_for PassesOwn.never rfl (pi_range1 (by rfl) B.rng (pa_cons (pe_op op_add pe_int (pe_call GK hr (by rfl) gK FK.kp bK .nil pass0 (pa_cons (pv 0) (pa_cons pe_int pa_nil)))) pa_nil)) (pg_name (i := 2) sc_law_cache.nd rfl (Or.inl rfl))
        (pss_cons (ps_par (i := 3) (j := 4) (by rfl) sc_law_cache.nd rfl rfl (by decide) rfl rfl (pa_cons (pe_ix ix_list (pe_lst (pa_cons pe_int (pa_cons pe_int (pa_cons pe_int (pa_cons pe_int (pa_cons pe_int pa_nil)))))) (pe_call GK hr (by rfl) gK FK.kp bK .nil pass0 (pa_cons (pv 0) (pa_cons pe_int pa_nil))) (fun _ _ => rfl))
            (pa_cons (pe_ix ix_list (pe_lst (pa_cons pe_int (pa_cons pe_int (pa_cons pe_int (pa_cons pe_int (pa_cons pe_int pa_nil)))))) (pe_call GK hr (by rfl) gK FK.kp bK .nil pass0 (pa_cons (pv 0) (pa_cons pe_int pa_nil))) (fun _ _ => rfl)) pa_nil)) (by rfl))
        (pss_cons (ps_set (i := 5) sc_law_cache.nd rfl (Or.inl rfl) (pe_ix ix_list (pe_lst (pa_cons pe_str (pa_cons pe_str (pa_cons pe_str (pa_cons pe_str pa_nil))))) (pe_call GK hr (by rfl) gK FK.kp bK .nil pass0 (pa_cons (pv 0) (pa_cons pe_int pa_nil))) (fun _ _ => rfl)))
        (pss_cons (ps_set (i := 4) sc_law_cache.nd rfl (Or.inl rfl) (pe_ifExp (PW.pt (pw_and (pt_cmpR op_eq (pv 5) pe_str (nomark _)) (pw_and1 (pt_cmpR op_eq (pv 4) pe_int (nomark _))))) pe_int (pv 4)))
        (pss_one (ps_expr (pe_bm PySem.F.plainAttrs_list PySem.F.slot_list_append PySem.F.type_list_append mt_append (pv 1) (pa_cons (pe_tup (pa_cons (pv 3) (pa_cons (pv 4) (pa_cons (pv 5) (pa_cons (pe_ix ix_list (pe_lst (pa_cons pe_str (pa_cons pe_str (pa_cons pe_str pa_nil)))) (pe_call GK hr (by rfl) gK FK.kp bK .nil pass0 (pa_cons (pv 0) (pa_cons pe_int pa_nil))) (fun _ _ => rfl)) pa_nil))))) pa_nil))))))))
      (pss_one (ps_ret (pe_tup (pa_cons (pe_ix ix_list (pe_lst (pa_cons pe_int (pa_cons pe_int (pa_cons pe_int (pa_cons pe_int pa_nil))))) (pe_call GK hr (by rfl) gK FK.kp bK .nil pass0 (pa_cons (pv 0) (pa_cons pe_int pa_nil))) (fun _ _ => rfl)) (pa_cons (pe_callTy call_tuple_of (by rfl) B.tup (by decide +kernel) (pa_cons (pv 1) pa_nil)) pa_nil)))))), ?_⟩
    refine ⟨Nat.zero_le _, fun L hL => ?_⟩
    have naL : L ≠ a := ha.ne hL
    refine ⟨_, rfl, a, 3, rfl, ha.same' (Same.new hL), by decide, by decide, fun r0 H1 r00 r01 hP1 b1 f1 => ?_⟩
    have hL1 := b1 _ _ upd_same naL
    refine ⟨_, _, rfl, rfl, 1 + r0, rfl, by omega, by omega, ?_⟩
    refine for_range (lo := 0) (n := (1 + r0).toNat) (fun i σ H' => ∃ (v2 v3 v4 v5 : Option V) (vs : List V) (ds : List PyData), σ = [some (.ref a), some (.ref L), v2, v3, v4, v5] ∧ H' L = some (.lst vs) ∧ DpAll K H' vs ds ∧ ds.length = i ∧ (∀ d ∈ ds, MkL d) ∧ PoolAt H' a ∧ ButR a H H')
      ⟨none, none, none, none, [], [], rfl, hL1, .nil, rfl, (fun d hd => nomatch hd), hP1, ButR.trans (ButR.of (Same.new hL)) b1⟩ ?_ ?_
    · rintro i σ H2 hi ⟨v2, v3, v4, v5, vs, ds, rfl, hL2, dA, dl, dm, hP2, b2⟩
      refine ⟨small_line (by simp), fun M1 nM1 => ⟨_, rfl, a, 5, rfl, hP2.same' (Same.new nM1), by decide, by decide, fun r1 H3 r10 r11 hP3 b3 f3 => ?_⟩⟩
      obtain ⟨x1, e1, m1⟩ := menuAt (xs := [.int 1, .int 2, .int 2, .int 3, .int 4]) (n := 5) r10 r11 rfl
      refine ⟨M1, _, r1, x1, rfl, rfl, .of (b3 _ _ upd_same (hP2.ne nM1)), e1, ?_⟩
      refine ⟨small_line (by simp), fun M2 nM2 => ⟨_, rfl, a, 5, rfl, hP3.same' (Same.new nM2), by decide, by decide, fun r2 H4 r20 r21 hP4 b4 f4 => ?_⟩⟩
      obtain ⟨x2, e2, m2⟩ := menuAt (xs := [.int 1, .int 2, .int 2, .int 3, .int 4]) (n := 5) r20 r21 rfl
      refine ⟨M2, _, r2, x2, rfl, rfl, .of (b4 _ _ upd_same (hP3.ne nM2)), e2, ?_⟩
      refine ⟨_, _, rfl, ?_⟩
      refine ⟨small_line (by simp), fun M3 nM3 => ⟨_, rfl, a, 4, rfl, hP4.same' (Same.new nM3), by decide, by decide, fun r3 H5 r30 r31 hP5 b5 f5 => ?_⟩⟩
      obtain ⟨x3, e3, m3⟩ := menuAt (xs := RUL.map V.str) (n := 4) r30 r31 rfl
      refine ⟨M3, _, r3, x3, rfl, rfl, .of (b5 _ _ upd_same (hP4.ne nM3)), e3, ?_⟩
      have g1 : ∃ s : Int, x1 = .int s ∧ 1 ≤ s ∧ s ≤ 4 := by
        simp only [List.mem_cons, List.not_mem_nil, or_false] at m1
        rcases m1 with rfl | rfl | rfl | rfl | rfl <;> exact ⟨_, rfl, by decide, by decide⟩
      have g2 : ∃ s : Int, x2 = .int s ∧ 1 ≤ s ∧ s ≤ 4 := by
        simp only [List.mem_cons, List.not_mem_nil, or_false] at m2
        rcases m2 with rfl | rfl | rfl | rfl | rfl <;> exact ⟨_, rfl, by decide, by decide⟩
      obtain ⟨sN, rfl, s1, s4⟩ := g1
      obtain ⟨yN, rfl, y1, y4⟩ := g2
      obtain ⟨ru, hru, rfl⟩ := List.mem_map.mp m3
      have er : decide (V.str ru = V.str (Str.ofString "tree")) = decide (ru = "tree") := decide_eq_decide.mpr ⟨fun z => by injection z, fun z => by rw [z]⟩
      have ei : decide (V.int yN = V.int 3) = decide (yN = 3) := decide_eq_decide.mpr ⟨fun z => by injection z, fun z => by rw [z]⟩
      have S3 : ButR a H2 H3 := ButR.trans (ButR.of (Same.new nM1)) b3
      have S4 : ButR a H3 H4 := ButR.trans (ButR.of (Same.new nM2)) b4
      have S5 : ButR a H4 H5 := ButR.trans (ButR.of (Same.new nM3)) b5
      have S25 : ButR a H2 H5 := ButR.trans S3 (ButR.trans S4 S5)
      refine' (fun fin => ?_ : (∀ y' : Int, 1 ≤ y' → y' ≤ 4 → ¬ (y' = 3 ∧ ru = "tree") → (_ : L2.St → Hp → Prop) [some (.ref a), some (.ref L), some (.int (0 + (i : Int))), some (.int sN), some (.int y'), some (.str ru)] H5) → _) ?_
      rotate_left
      · refine ⟨_, rfl, rfl, _, rfl, ?_⟩
        rw [er]
        by_cases ht : ru = "tree"
        · rw [decide_eq_true ht]
          refine iteT ⟨_, rfl, rfl, _, rfl, ?_⟩
          rw [ei]
          by_cases h3 : yN = 3
          · rw [decide_eq_true h3]
            refine iteT ?_
            exact fin 2 (by decide) (by decide) (fun z => by have := z.1; omega)
          · rw [decide_eq_false h3]
            refine iteF ⟨_, rfl, ?_⟩
            exact fin yN y1 y4 (fun z => h3 z.1)
        · rw [decide_eq_false ht]
          refine iteF (iteF ⟨_, rfl, ?_⟩)
          exact fin yN y1 y4 (fun z => ht z.2)
      · intro y' h1 h4 hn
        have hL5 := S25 _ _ hL2 naL
        refine ⟨_, rfl, .inl ⟨rfl, _, .of hL5⟩, _, rfl, _, rfl, _, rfl, ?_⟩
        refine ⟨small_line (by simp), fun M4 nM4 => ⟨_, rfl, a, 3, rfl, hP5.same' (Same.new nM4), by decide, by decide, fun r4 H6 r40 r41 hP6 b6 f6 => ?_⟩⟩
        obtain ⟨x4, e4, m4⟩ := menuAt (xs := (["back", "back", "through"] : List Str).map V.str) (n := 3) r40 r41 rfl
        refine ⟨M4, _, r4, x4, rfl, rfl, .of (b6 _ _ upd_same (hP5.ne nM4)), e4, ?_⟩
        obtain ⟨wr, hwr, rfl⟩ := List.mem_map.mp m4
        have hwr : wr ∈ WRT := by
          simp only [List.mem_cons, List.not_mem_nil, or_false] at hwr ⊢
          rcases hwr with h | h | h
          · exact .inl h
          · exact .inl h
          · exact .inr h
        have S6 : ButR a H5 H6 := ButR.trans (ButR.of (Same.new nM4)) b6
        have S26 : ButR a H2 H6 := ButR.trans S25 S6
        have hL6 := S26 _ _ hL2 naL
        refine ⟨small_line (by simp), fun t nt => ?_⟩
        have nL : t ≠ L := (ne_of_none hL6 nt).symm
        have vl := DpAll.len dA
        have sT := Same.new (o := .tup [.int sN, .int y', .str ru, .str wr]) nt
        have hL7 := sT _ _ hL6
        refine ⟨L, vs, .ref t, rfl, rfl, hL7, Nat.lt_of_le_of_lt (show vs.length ≤ 100 by omega) (by rw [sizeLine_eq]; omega), ?_⟩
        have kU := updL.kp (o := .lst (vs ++ [.ref t])) hL7
        have K27 : KpT H2 _ := (ButR.kpL hP2 S26).trans ((Same.kp sT).trans kU)
        have hP7 := hP6.same' sT
        refine ⟨_, _, _, _, vs ++ [.ref t], ds ++ [.tuple [.int sN, .int y', .str ru, .str wr]], rfl, upd_same, ?_, by rw [List.length_append, dl]; rfl, fun d hd => ?_, ?_, ?_⟩
        · exact DpAll.app (DpAll.kpT K27 (noLs_of fun d hd => (dm d hd).nl) dA) (.cons (.tup (.of (by rw [upd_ne nL, upd_same])) (.cons (.int _) (.cons (.int _) (.cons (.str _) (.cons (.str _) .nil))))) .nil)
        · rcases List.mem_append.mp hd with hd | hd
          · exact dm d hd
          · rw [List.mem_singleton.mp hd]
            exact ⟨sN, y', ru, wr, rfl, s1, s4, h1, h4, hru, hwr, hn⟩
        · obtain ⟨p7, q7, h7, h70⟩ := hP7
          exact ⟨p7, q7, by rw [upd_ne naL.symm]; exact h7, h70⟩
        · intro b o e n
          rw [upd_ne (ne_of_none e hL)]
          exact sT _ _ (S26 _ _ (b2 _ _ e n) n)
    · rintro σ H2 ⟨v2, v3, v4, v5, vs, ds, rfl, hL2, dA, dl, dm, hP2, b2⟩
      refine ⟨small_line (by simp), fun M1 nM1 => ⟨_, rfl, a, 4, rfl, hP2.same' (Same.new nM1), by decide, by decide, fun r1 H3 r10 r11 hP3 b3 f3 => ?_⟩⟩
      obtain ⟨x1, e1, m1⟩ := menuAt (xs := [.int 1, .int 2, .int 2, .int 4]) (n := 4) r10 r11 rfl
      refine ⟨M1, _, r1, x1, rfl, rfl, .of (b3 _ _ upd_same (hP2.ne nM1)), e1, ?_⟩
      have g1 : ∃ s : Int, x1 = .int s ∧ (s = 1 ∨ s = 2 ∨ s = 4) := by
        simp only [List.mem_cons, List.not_mem_nil, or_false] at m1
        rcases m1 with rfl | rfl | rfl | rfl
        · exact ⟨_, rfl, .inl rfl⟩
        · exact ⟨_, rfl, .inr (.inl rfl)⟩
        · exact ⟨_, rfl, .inr (.inl rfl)⟩
        · exact ⟨_, rfl, .inr (.inr rfl)⟩
      obtain ⟨ln, rfl, hln⟩ := g1
      have S3 : ButR a H2 H3 := ButR.trans (ButR.of (Same.new nM1)) b3
      have hL3 := S3 _ _ hL2 naL
      refine ⟨_, rfl, L, vs, rfl, .inl ⟨.of hL3, fun t nt => ⟨small_line (by simp), fun p np => ?_⟩⟩⟩
      have sT := (Same.new (o := .tup vs) nt)
      have sP := (Same.new (o := .tup [.int ln, .ref t]) np)
      have K3 : KpT H2 _ := (ButR.kpL hP2 S3).trans (Same.kp (sT.trans sP))
      refine k p t ln ds _ hln (by omega) (by omega) dm upd_same (.tup (sP.tup (.of upd_same)) (DpAll.kpT K3 (noLs_of fun d hd => (dm d hd).nl) dA)) (hP3.same' (sT.trans sP)) ?_
      exact ButR.trans b2 (ButR.trans S3 (ButR.of (sT.trans sP)))
end

end K14

namespace K14
open PySem L2 SZ VR VX StX RT
/-! ### pass_one -/
theorem inV_strs (z : Str) : ∀ l : List Str, inV (.str z) (l.map V.str) = l.contains z := inV_str z
def spOne (K : PySem.W.Frag) (C CS : Addr) : Sp := fun vs H Q E => ∃ (R ta : Addr) (l : List Str) (ts : List (List Nat × Nat)) (k : Nat) (t : List Nat × Nat), vs = [.ref R, .ref ta] ∧ (∀ H, SqT K H ta (l.map V.str)) ∧ RdAt C H R ts k ∧ ts[k]? = some t ∧
  ((l.contains ⟨t.1.toArray⟩ = true ∧ ∀ H', RdAt C H' R ts (k + 1) → ButR R H H' → Q (.str ⟨t.1.toArray⟩) H') ∨ (l.contains ⟨t.1.toArray⟩ = false ∧ Out CS R H t.2 E))
section
variable {P : Program} {w : World} {K : PySem.W.Frag} {mg : Str → Option Value} {base : Heap} {C CS : Addr}
theorem ok_pass_one {f fA fT fL : Addr} {fd dA dT dL : FuncData} (F : Fun K "pass_one" "Reader.pass_one" S_Reader_pass_one f fd) (FA : Fun K "pass_any" "Reader.pass_any" S_Reader_pass_any fA dA) (bA : Binds K dA ["self"] []) (MA : Meth K C "pass_any" fA)
    (FT : Fun K "token" "Reader.token" S_Reader_token fT dT) (bT : Binds K dT ["self"] []) (MT : Meth K C "token" fT) (FL : Fun K "place" "Reader.place" S_Reader_place fL dL) (bL : Binds K dL ["self"] []) (ML : Meth K C "place" fL) (Z : RdC K mg C) (GS : SxC P w K mg base "InvalidSyntax" CS "position") :
    FnOk P w K mg base (L2.CX P w) 3 f fd ["self", "tokens"] (spOne K C CS) := by
  have GA : FnOk P w K mg base CX0 2 fA dA ["self"] (spPassAny C) := ok_pass_any FA FT bT MT Z
  have GT : FnOk P w K mg base CX0 1 fT dT ["self"] (spTok C) := ok_token FT Z
  have GL : FnOk P w K mg base CX0 1 fL dL ["self"] (spPlace C) := ok_place FL Z
  refine F.okX sc_Reader_pass_one (fun vs H Q E h => ?_) (fun cdv A outer s H vs Q E hr h => ?_)
  · obtain ⟨R, ta, l, ts, k, t, rfl, _⟩ := h; rfl
  · obtain ⟨R, ta, l, ts, k, t, rfl, hT, hRd, hk, q⟩ := h
    obtain ⟨dx, lt, hR, ho, hL⟩ := id hRd
    have hr1 : Room 1 _ := hr.mono (by decide)
    refine ⟨_, pss_cons (ps_if (pt_cmpR op_notIn_seq (pe_meth0 (pv 0) Z.kit.cl MT GT hr1 bT .nil pass0) (pv 1) (by rfl)) (pss_one (ps_raiseX GS rfl (takes_of rfl rfl rfl rfl) hr (pe_meth0 (pv 0) Z.kit.cl ML GL hr1 bL .nil pass0))) pss_nil)
      (pss_one (ps_ret (pe_meth0 (pv 0) Z.kit.cl MA GA hr bA .nil pass0))), ?_⟩
    refine ⟨_, rfl, R, dx, _, rfl, hR, rfl, R, ts, k, t, rfl, hRd, hk, _, rfl, ta, l.map V.str, rfl, .inr (hT H), rfl, flat_strs _, ?_⟩
    rw [inV_strs]
    rcases q with ⟨e, q⟩ | ⟨e, q⟩
    · rw [e]
      refine ⟨_, rfl, iteF ?_⟩
      exact ⟨_, rfl, R, dx, _, rfl, hR, rfl, R, ts, k, t, rfl, hRd, hk, q⟩
    · rw [e]
      refine ⟨_, rfl, iteT ?_⟩
      refine ⟨_, rfl, R, dx, _, rfl, hR, rfl, R, ts, k, t, rfl, hRd, hk, fun d H' hd s1 h1 => ?_⟩
      exact q d H' (fun b o e _ => s1 _ _ e) h1
end

end K14

namespace K14
open PySem L2 SZ VR VX StX RT
/-! ### the text of a cache -/
def lvStrs : PyData → List Str
  | .tuple [.int s, .int y, .str r, .str w] => ["level", Str.ofString (toString s), Str.ofString (toString y), r, w]
  | _ => []
def cacheW (ln : Int) (ds : List PyData) : List Str := ([Str.ofString "line", Str.ofString (toString ln)] : List Str) ++ ds.flatMap lvStrs
theorem lvl_all {d : PyData} (h : lvlD d = true) : ∃ (i j : Int) (r y : Str), d = .tuple [.int i, .int j, .str r, .str y] ∧ 1 ≤ i ∧ i ≤ 8 ∧ 1 ≤ j ∧ j ≤ 4 ∧ r ∈ RUL ∧ y ∈ WRT := by
  obtain ⟨i, j, r, y, rfl, h1, h2⟩ := lvl_sets h
  have h' : ((decide (1 ≤ i) && decide (i ≤ 8)) && (decide (1 ≤ j) && decide (j ≤ 4)) && (RUL.contains r && (WRT.contains y && !(decide (j = 3) && decide (r = "tree"))))) = true := h
  simp only [Bool.and_eq_true, decide_eq_true_iff] at h'
  exact ⟨i, j, r, y, rfl, h1, h2, h'.1.2.1, h'.1.2.2, List.contains_iff_mem.mp h'.2.1, List.contains_iff_mem.mp h'.2.2.1⟩
theorem num_one {i : Int} (h1 : 1 ≤ i) (h8 : i ≤ 8) : (Str.ofString (toString i)).length ≤ 10 ∧ i.natAbs.log2 < 1920 := by
  have h : i = 1 ∨ i = 2 ∨ i = 3 ∨ i = 4 ∨ i = 5 ∨ i = 6 ∨ i = 7 ∨ i = 8 := by omega
  rcases h with rfl | rfl | rfl | rfl | rfl | rfl | rfl | rfl <;> exact ⟨by decide +kernel, by decide +kernel⟩
theorem wd_short : ∀ z ∈ RUL ++ WRT, z.length ≤ 10 := by decide +kernel
theorem lv_short {d : PyData} (h : lvlD d = true) : (lvStrs d).length = 5 ∧ ∀ z ∈ lvStrs d, z.length ≤ 10 := by
  obtain ⟨i, j, r, y, rfl, i1, i8, j1, j4, hr, hy⟩ := lvl_all h
  refine ⟨rfl, fun z hz => ?_⟩
  have hz' : z = "level" ∨ z = Str.ofString (toString i) ∨ z = Str.ofString (toString j) ∨ z = r ∨ z = y := by simpa [lvStrs] using hz
  rcases hz' with rfl | rfl | rfl | rfl | rfl
  · decide +kernel
  · exact (num_one i1 i8).1
  · exact (num_one j1 (by omega)).1
  · exact wd_short _ (List.mem_append_left _ hr)
  · exact wd_short _ (List.mem_append_right _ hy)
theorem flat_len {ds : List PyData} (h : ∀ d ∈ ds, lvlD d = true) : (ds.flatMap lvStrs).length = 5 * ds.length := by
  induction ds with
  | nil => rfl
  | cons d r ih =>
    rw [List.flatMap_cons, List.length_append, (lv_short (h d List.mem_cons_self)).1, ih fun x hx => h x (List.mem_cons_of_mem _ hx), List.length_cons]
    omega
theorem cw_short {ln : Int} {ds : List PyData} (l1 : 1 ≤ ln) (l8 : ln ≤ 8) (h : ∀ d ∈ ds, lvlD d = true) : (cacheW ln ds).length = 2 + 5 * ds.length ∧ ∀ z ∈ cacheW ln ds, z.length ≤ 10 := by
  refine ⟨?_, fun z hz => ?_⟩
  · unfold cacheW
    rw [List.length_append, flat_len h]
    rfl
  · unfold cacheW at hz
    rcases List.mem_append.mp hz with hz | hz
    · simp only [List.mem_cons, List.not_mem_nil, or_false] at hz
      rcases hz with rfl | rfl
      · decide +kernel
      · exact (num_one l1 l8).1
    · obtain ⟨d, hd, hz⟩ := List.mem_flatMap.mp hz
      exact (lv_short (h d hd)).2 z hz
theorem sum_short : ∀ {ws : List Str}, (∀ z ∈ ws, z.length ≤ 10) → (ws.map (·.length)).sum ≤ 10 * ws.length
  | [], _ => by simp
  | z :: r, h => by
    have h1 := h z List.mem_cons_self
    have h2 := sum_short fun x hx => h x (List.mem_cons_of_mem z hx)
    rw [List.map_cons, List.sum_cons, List.length_cons]
    omega
def spShow (K : PySem.W.Frag) (C : Addr) : Sp := fun vs H Q _ => ∃ (a : Addr) (ln : Int) (ds : List PyData), vs = [.ref a] ∧ ChAt K C H a ln ds ∧ 1 ≤ ln ∧ ln ≤ 8 ∧ ds.length ≤ 3 ∧ (∀ d ∈ ds, lvlD d = true) ∧ ∀ H', Same H H' → Q (.str (Txt.join (Str.ofString " ") (cacheW ln ds))) H'
section
variable {P : Program} {w : World} {K : PySem.W.Frag} {mg : Str → Option Value} {base : Heap} {C : Addr}
theorem ok_show {f : Addr} {fd : FuncData} (F : Fun K "show" "Cache.show" S_Cache_show f fd) (Z : ChC K mg C) (B : ChB mg) : FnOk P w K mg base CX0 1 f fd ["self"] (spShow K C) := by
  refine F.ok sc_Cache_show (fun vs H Q E h => ?_) (fun cdv A outer s H vs Q E hr h => ?_)
  · obtain ⟨a, ln, ds, rfl, _⟩ := h; rfl
  · obtain ⟨a, ln, ds, rfl, ⟨dx, lv, ha, hd⟩, l1, l8, d3, hlv, q⟩ := h
    refine ⟨_, pss_cons (ps_set (i := 1) sc_Cache_show.nd rfl (Or.inl rfl) (pe_lst (pa_cons pe_str (pa_cons (pe_callTy call_str_int (by rfl) B.str (by decide +kernel) (pa_cons (pe_fld (pv 0) rfl) pa_nil)) pa_nil))))
      (pss_cons (ps_for PassesOwn.never rfl (pi_tup (pe_fld (pv 0) rfl)) (pg_tup rfl (pgs_cons (pg_name (i := 2) sc_Cache_show.nd rfl (Or.inl rfl)) (pgs_cons (pg_name (i := 3) sc_Cache_show.nd rfl (Or.inl rfl)) (pgs_cons (pg_name (i := 4) sc_Cache_show.nd rfl (Or.inl rfl)) (pgs_cons (pg_name (i := 5) sc_Cache_show.nd rfl (Or.inl rfl)) pgs_nil)))))
        (pss_one (ps_expr (pe_bm PySem.F.plainAttrs_list PySem.F.slot_list_extend PySem.F.type_list_extend mt_extend (pv 1) (pa_cons (pe_lst (pa_cons pe_str (pa_cons (pe_callTy call_str_int (by rfl) B.str (by decide +kernel) (pa_cons (pv 2) pa_nil)) (pa_cons (pe_callTy call_str_int (by rfl) B.str (by decide +kernel) (pa_cons (pv 3) pa_nil)) (pa_cons (pv 4) (pa_cons (pv 5) pa_nil)))))) pa_nil)))))
      (pss_one (ps_ret (pe_join pe_str (pv 1))))), ?_⟩
    cases hd with
    | @tup t xs _ h1 h2 =>
      have hlen := DpAll.len h2
      refine ⟨_, rfl, a, C, dx, _, _, rfl, ha, Z.kit.cl, Z.nL, rfl, ln, rfl, (num_one l1 l8).2, small_line (by simp), fun M nM => ?_⟩
      have s1 := Same.new (o := .lst [.str (Str.ofString "line"), .str (Str.ofString (toString ln))]) nM
      refine ⟨_, rfl, a, C, dx, _, _, rfl, s1 _ _ ha, Z.kit.cl, Z.nV, rfl, t, rfl, ⟨_, s1.tup h1⟩, for_tup (xs := xs) (fun i σ H' => ∃ v2 v3 v4 v5, σ = [some (.ref a), some (.ref M), v2, v3, v4, v5] ∧ H' M = some (.lst ((cacheW ln (ds.take i)).map V.str)) ∧ Same H H') ⟨none, none, none, none, rfl, upd_same, s1⟩ (fun i σ H' _ ⟨_, _, _, _, _, _, s⟩ => s.tup h1) ?_ ?_⟩
      · rintro i x σ H2 hx ⟨v2, v3, v4, v5, rfl, hM, s2⟩
        obtain ⟨d, hdi, hdx⟩ := DpAll.at h2 hx
        have hl := hlv d (List.mem_of_getElem? hdi)
        obtain ⟨sN, yN, r, y, rfl, i1, i8, j1, j4, hru, hwr⟩ := lvl_all hl
        have hi : i < ds.length := (List.getElem?_eq_some_iff.mp hdi).1
        have htk : ∀ d ∈ ds.take i, lvlD d = true := fun d hd => hlv d (List.mem_of_mem_take hd)
        cases Dp.keep s2 hdx with
        | @tup t' ys _ g1 g2 =>
          obtain ⟨x0, x1, x2, x3, rfl, p0, p1, p2, p3⟩ := dp_four g2
          cases p0; cases p1; cases p2; cases p3
          refine ⟨t', _, rfl, g1, rfl, _, _, rfl, _, _, rfl, _, _, rfl, _, _, rfl, rfl, ?_⟩
          refine ⟨_, rfl, .inl ⟨rfl, _, .of hM⟩, _, rfl, sN, rfl, (num_one i1 i8).2, _, rfl, yN, rfl, (num_one j1 (by omega)).2, _, rfl, _, rfl, small_line (by simp), fun q1 nq1 => ?_⟩
          have nMq : M ≠ q1 := ne_of_none hM nq1
          refine ⟨M, q1, _, _, rfl, rfl, (by rw [upd_ne nMq]; exact hM), upd_same, ?_, some (.int sN), some (.int yN), some (.str r), some (.str y), rfl, ?_, ?_⟩
          · rw [List.length_map, (cw_short l1 l8 htk).1, List.length_take]
            exact small_line (by show _ + 5 ≤ 100; omega)
          · rw [upd_same, take_snoc hdi]
            unfold cacheW
            rw [List.flatMap_append, ← List.append_assoc, List.map_append (l₁ := _ ++ _)]
            rfl
          · exact ((s2.trans (Same.new nq1))).upd0 nM
      · rintro σ H2 ⟨v2, v3, v4, v5, rfl, hM, s2⟩
        rw [hlen, List.take_length] at hM
        have hc := cw_short l1 l8 hlv
        refine ⟨⟨_, rfl⟩, _, rfl, _, M, cacheW ln ds, rfl, rfl, .inl (.of hM), ?_, q H2 s2⟩
        have := sum_short hc.2
        rw [hc.1] at this ⊢
        have e : (Str.ofString " ").length = 1 := by decide +kernel
        rw [e]
        omega
end

end K14

namespace K14
open PySem L2 SZ VR VX StX RT
theorem snt_toks {z : Str} (hz : z.length ≤ 50000) : Snt (toks z.cps.toList 0 ++ [([], z.length)]) := by
  have hl := toks_len z.cps.toList (z.cps.toList.length - 0) 0 rfl
  have hz' : z.cps.toList.length ≤ 50000 := hz
  have sub : ∀ (n a : Nat), z.cps.toList.length - a = n → ∀ t ∈ toks z.cps.toList a, t.1.length ≤ z.cps.toList.length := by
    intro n
    induction n using Nat.strongRecOn with
    | ind n ih =>
      intro a e t ht
      by_cases hl : a < z.cps.toList.length
      · have hc : z.cps.toList[a]? = some z.cps.toList[a] := List.getElem?_eq_getElem hl
        have h1 := nxt_gt z.cps.toList a
        cases g : gp z.cps.toList[a] with
        | true =>
          rw [toks_gap hc g] at ht
          exact ih _ (by omega) _ rfl t ht
        | false =>
          rw [toks_tok hc g] at ht
          rcases List.mem_cons.mp ht with ht | ht
          · rw [ht]
            show (List.take _ _).length ≤ _
            rw [List.length_take, List.length_drop]
            omega
          · exact ih _ (by omega) _ rfl t ht
      · rw [toks_end hl] at ht
        cases ht
  refine ⟨fun k hk hne => ?_, fun k => ?_, ?_⟩
  · rw [List.length_append, List.length_singleton] at hk ⊢
    by_cases e : k = (toks z.cps.toList 0).length
    · refine absurd ?_ hne
      unfold tk
      rw [List.getElem?_append_right (by omega), e, Nat.sub_self]
      rfl
    · omega
  · unfold tk
    cases h : (toks z.cps.toList 0 ++ [([], z.length)])[k]? with
    | none => exact Nat.zero_le _
    | some t =>
      have hm := List.mem_of_getElem? h
      show t.1.length ≤ 50000
      rcases List.mem_append.mp hm with hm | hm
      · have := sub _ 0 rfl t hm
        omega
      · rw [List.mem_singleton.mp hm]
        exact Nat.zero_le _
  · rw [List.length_append, List.length_singleton]
    omega
/-- the tokens of a text, the end among them -/
def tokz (z : Str) : List (List Nat × Nat) := toks z.cps.toList 0 ++ [([], z.length)]

theorem RdAt.updL {C R l : Addr} {H : Hp} {ts : List (List Nat × Nat)} {k : Nat} {vs : List V} {o : HO} (h : RdAt C H R ts k) (hk : k < ts.length) (e : H l = some (.lst vs)) (far : ∀ x ∈ vs, ∀ t : List Nat × Nat, ¬ TokAt H x t) : RdAt C (upd H l o) R ts k := by
  obtain ⟨dx, tl, h1, h2, ws, h3, h4⟩ := h
  have ne : tl ≠ l := fun n => by
    rw [n, e] at h3
    have h3 := Option.some.inj h3
    injection h3 with h3
    subst h3
    obtain ⟨x, hx, f⟩ := Paired.at' h4 (at_tk hk)
    exact far x (List.mem_of_getElem? hx) _ f
  have k1 : ∀ {b : Addr} {u : HO}, H b = some u → (∀ ys, u ≠ .lst ys) → b ≠ l := fun {b u} hb n z => by
    rw [z, e] at hb
    exact n _ (Option.some.inj hb).symm
  exact ⟨dx, tl, by rw [upd_ne (k1 h1 fun _ => by simp)]; exact h1, by rw [upd_ne (k1 h2 fun _ => by simp)]; exact h2, ws, by rw [upd_ne ne]; exact h3,
    L2.Paired.mapP h4 fun v t ⟨p, e1, e2⟩ => ⟨p, e1, by rw [upd_ne (k1 e2 fun _ => by simp)]; exact e2⟩⟩
theorem Paired.mem_left {α β : Type} {F : α → β → Prop} {xs : List α} {ys : List β} (h : Paired F xs ys) : ∀ x ∈ xs, ∃ y, F x y := by
  induction h with
  | nil => intro x hx; cases hx
  | cons f _ ih =>
    intro x hx
    rcases List.mem_cons.mp hx with rfl | hx
    · exact ⟨_, f⟩
    · exact ih x hx

/-! ### a cache is read -/
abbrev tLINE : List Nat := [108, 105, 110, 101]
abbrev tLEVEL : List Nat := [108, 101, 118, 101, 108]
def numM {α : Type} (ts : List (List Nat × Nat)) (k : Nat) (f : Int → Res α) : Res α := if isN (tk ts k) = true then (if 150 < (tk ts k).length then .big "numbers" else f (numVal (tk ts k))) else .syn (ps ts k)
def oneM {α : Type} (l : List Str) (ts : List (List Nat × Nat)) (k : Nat) (f : Str → Res α) : Res α := if l.contains ⟨(tk ts k).toArray⟩ = true then f ⟨(tk ts k).toArray⟩ else .syn (ps ts k)
def lvM {α : Type} (ts : List (List Nat × Nat)) (k : Nat) (f : PyData → Res α) : Res α := numM ts k fun s => numM ts (k + 1) fun y => oneM RUL ts (k + 2) fun r => oneM WRT ts (k + 3) fun w => f (.tuple [.int s, .int y, .str r, .str w])
def lvsM (ts : List (List Nat × Nat)) : Nat → Nat → List PyData → Res (List PyData)
  | 0, _, _ => .syn 0
  | f + 1, k, ds => if tk ts k = tLEVEL then lvM ts (k + 1) fun d => lvsM ts f (k + 5) (ds ++ [d]) else if tk ts k = [] then .ok ds k else .syn (ps ts k)
def cacheM (ts : List (List Nat × Nat)) : Res (Int × List PyData) := if tk ts 0 = tLINE then numM ts 1 fun ln => (match lvsM ts ts.length 2 [] with
  | .ok ds k => .ok (ln, ds) k
  | .syn p => .syn p
  | .big w => .big w) else .syn (ps ts 0)
/-- what leaves, all that stood is kept -/
def Leaves (CE : Addr) (f : Str) (H : Hp) (v : V) (E : XK) : Prop := ∀ (d : Addr) (H' : Hp), Same H H' → H' d = some (.xd [(f, v)]) → E (.ref CE) (some d) H'
def spRead (K : PySem.W.Frag) (CC CV CS CT CI : Addr) : Sp := fun vs H Q E => ∃ v, vs = [.ref CC, v] ∧ ((∃ t, TyX K H v t ∧ PySem.W.kitOne K t (.type "str") = some false ∧ Leaves CV "value" H v E) ∨
  ∃ z : Str, v = .str z ∧ z.length ≤ 50000 ∧ match cacheM (tokz z) with
    | .syn p => Leaves CS "position" H (.int (p : Int)) E
    | .big w => Leaves CT "word" H (.str w) E
    | .ok (ln, ds) _ => (cntD (.int ln) 8 = false → Leaves CI "value" H (.int ln) E) ∧
      (cntD (.int ln) 8 = true → (∀ b, badL (.tuple ds) = some b → ∀ (x : V) (d : Addr) (H' : Hp), Same H H' → Dp K H' x b → H' d = some (.xd [("value", x)]) → E (.ref CI) (some d) H') ∧
        (badL (.tuple ds) = none → (64 < (togN ds : Int) * ln → Leaves CT "word" H (.str "period") E) ∧ ((togN ds : Int) * ln ≤ 64 → ∀ x H', Same H H' → ChAt K CC H' x ln ds → Q (.ref x) H'))))
/-- the reader and the classes that read calls -/
structure CrD (P : Program) (w : World) (K : PySem.W.Frag) (mg : Str → Option Value) (base : Heap) (R CC CV CS CT CI : Addr) : Prop where
  Zr : RdC K mg R
  Z : ChC K mg CC
  is : mg "isinstance" = none
  str : mg "str" = none
  tup : mg "tuple" = none
  mR : mg "Reader" = some (.ref R)
  GV : SxC P w K mg base "InvalidText" CV "value"
  rul : ∃ a, mg "_RULES" = some (.ref a) ∧ ∀ H, SqT K H a (RUL.map V.str)
  wrt : ∃ a, mg "_WRITES" = some (.ref a) ∧ ∀ H, SqT K H a (WRT.map V.str)
  rd : ∃ f fd, Mk K R f ∧ Binds K fd ["self", "text"] [] ∧ FnOk P w K mg base CX0 3 f fd ["self", "text"] (spRdInit R)
  passes : ∃ f fd, Meth K R "passes" f ∧ Binds K fd ["self", "token"] [] ∧ FnOk P w K mg base CX0 2 f fd ["self", "token"] (spPasses R)
  only : ∃ f fd, Meth K R "pass_only" f ∧ Binds K fd ["self", "token"] [] ∧ FnOk P w K mg base (L2.CX P w) 3 f fd ["self", "token"] (spOnly R CS)
  num : ∃ f fd, Meth K R "pass_number" f ∧ Binds K fd ["self"] [] ∧ FnOk P w K mg base (L2.CX P w) 3 f fd ["self"] (spNumber R CS CT)
  one : ∃ f fd, Meth K R "pass_one" f ∧ Binds K fd ["self", "tokens"] [] ∧ FnOk P w K mg base (L2.CX P w) 3 f fd ["self", "tokens"] (spOne K R CS)
  fin : ∃ f fd, Meth K R "pass_end" f ∧ Binds K fd ["self"] [] ∧ FnOk P w K mg base (L2.CX P w) 3 f fd ["self"] (spPassEnd R CS)
  make : ∃ f fd, Mk K CC f ∧ Binds K fd ["self", "line", "levels"] [] ∧ FnOk P w K mg base (L2.CX P w) 5 f fd ["self", "line", "levels"] (spCInit K CC CI CT)
theorem leave_but {R1 : Addr} {H H1 : Hp} {CE : Addr} {f : Str} {v : V} {E : XK} (l : Leaves CE f H v E) (hR0 : H R1 = none) (s : Same H H1) : ∀ (d : Addr) (H' : Hp), ButR R1 H1 H' → H' d = some (.xd [(f, v)]) → E (.ref CE) (some d) H' := fun d H' b h => l d H' (fun c o e => b c o (s c o e) (ne_of_none e hR0)) h
theorem kp_of {C R1 dx : Addr} {fs : List (Str × V)} {H H' : Hp} (hR : H R1 = some (.ins C dx fs)) (b : ButR R1 H H') : KpT H H' := fun c o e z => b c o e (fun n => by
  rw [n, hR] at e
  rcases z with ⟨xs, rfl⟩ | ⟨u, v, rfl⟩ <;> cases e)
theorem str_ne {a b : List Nat} (h : a ≠ b) : (⟨a.toArray⟩ : Str) ≠ ⟨b.toArray⟩ := fun e => h (by
  have := congrArg (fun s : Str => s.cps.toList) e
  simpa using this)
theorem sLINE : Str.ofString "line" = ⟨tLINE.toArray⟩ := by decide +kernel
theorem sLEVEL : Str.ofString "level" = ⟨tLEVEL.toArray⟩ := by decide +kernel
theorem isN_ne {s : List Nat} (h : isN s = true) : s ≠ [] := fun e => by
  rw [e] at h
  exact absurd h (by decide +kernel)
def LvAt (H : Hp) (v : V) (d : PyData) : Prop := ∃ (t : Addr) (s y : Int) (r w : Str), v = .ref t ∧ H t = some (.tup [.int s, .int y, .str r, .str w]) ∧ d = .tuple [.int s, .int y, .str r, .str w]
theorem LvAt.kp {H H' : Hp} {v : V} {d : PyData} (k : KpT H H') (h : LvAt H v d) : LvAt H' v d := let ⟨t, s, y, r, w, e, h1, e2⟩ := h; ⟨t, s, y, r, w, e, k _ _ h1 (.inl ⟨_, rfl⟩), e2⟩
theorem LvAt.far {H : Hp} {v : V} {d : PyData} (h : LvAt H v d) (t : List Nat × Nat) : ¬ TokAt H v t := fun z => by
  obtain ⟨a, s, y, r, w, rfl, h1, _⟩ := h
  obtain ⟨p, e, h2⟩ := z
  cases e
  rw [h1] at h2
  cases h2
theorem LvAt.all {K : PySem.W.Frag} {H : Hp} : ∀ {us : List V} {ds : List PyData}, Paired (LvAt H) us ds → DpAll K H us ds
  | _, _, .nil => .nil
  | _, _, .cons h r => by
    obtain ⟨a, s, y, r', w, rfl, h1, rfl⟩ := h
    exact .cons (.tup (.of h1) (.cons (.int _) (.cons (.int _) (.cons (.str _) (.cons (.str _) .nil))))) (LvAt.all r)
theorem one_ne {l : List Str} {s : List Nat} (h : l.contains ⟨s.toArray⟩ = true) (n : l.contains ⟨#[]⟩ = false) : s ≠ [] := fun e => by
  rw [e] at h
  rw [show (⟨([] : List Nat).toArray⟩ : Str) = ⟨#[]⟩ from rfl, n] at h
  cases h
theorem read_len {K : PySem.W.Frag} {CC CV CS CT CI : Addr} (vs : List V) (H : Hp) (Q : VK) (E : XK) (h : spRead K CC CV CS CT CI vs H Q E) : vs.length = 2 := by
  obtain ⟨v, rfl, _⟩ := h
  rfl
section
variable {P : Program} {w : World} {K : PySem.W.Frag} {mg : Str → Option Value} {base : Heap} {R CC CV CS CT CI : Addr}
theorem ok_read {f : Addr} {fd : FuncData} (F : Fun K "read" "Cache.read" S_Cache_read f fd) (D : CrD P w K mg base R CC CV CS CT CI) : FnOk P w K mg base (L2.CX P w) 7 f fd ["cls", "text"] (spRead K CC CV CS CT CI) := by
  obtain ⟨fR, dR, MR, bR, GR⟩ := D.rd
  obtain ⟨fP, dP, MP, bP, GP⟩ := D.passes
  obtain ⟨fO, dO, MO, bO, GO⟩ := D.only
  obtain ⟨fN, dN, MN, bN, GN⟩ := D.num
  obtain ⟨f1, d1, M1, b1, G1⟩ := D.one
  obtain ⟨fE, dE, ME, bE, GE⟩ := D.fin
  obtain ⟨fM, dM, MM, bM, GM⟩ := D.make
  obtain ⟨aR, mRu, tRu⟩ := D.rul
  obtain ⟨aW, mWr, tWr⟩ := D.wrt
  have Zr := D.Zr
  have Z := D.Z
  refine F.okX sc_Cache_read (read_len) (fun cdv A outer s H vs Q E hr h => ?_)
  obtain ⟨v, rfl, q⟩ := h
  have hr2 : Room 2 _ := hr.mono (by decide)
  have hr3 : Room 3 _ := hr.mono (by decide)
  have hr4 : Room 4 _ := hr.mono (by decide)
  refine ⟨_, pss_cons (ps_if (pt_not (pt_val (pe_callB call_isi (by rfl) D.is (by decide +kernel) (pa_cons (pv 1) (pa_cons (pe_bltn (by rfl) D.str (u := .type "str") (v := .ty "str") (by decide +kernel) rfl) pa_nil)))))
      (pss_one (ps_raiseX D.GV rfl (takes_of rfl rfl rfl rfl) hr2 (pv 1))) pss_nil)
    (pss_cons (ps_set (i := 2) sc_Cache_read.nd rfl (Or.inl rfl) (pe_make MR GR hr4 (by rfl) D.mR bR .nil pass0 (pa_cons (pv 1) pa_nil)))
    (pss_cons (ps_expr (pe_meth (pv 2) Zr.kit.cl MO GO hr3 bO .nil (passes_call (takes_of rfl rfl rfl rfl) (fun _ _ _ _ h => h)) (pa_cons pe_str pa_nil)))
    (pss_cons (ps_set (i := 3) sc_Cache_read.nd rfl (Or.inl rfl) (pe_meth0 (pv 2) Zr.kit.cl MN GN hr3 bN .nil (passes_call (takes_of rfl rfl rfl rfl) (fun _ _ _ _ h => h))))
    (pss_cons (ps_set (i := 4) sc_Cache_read.nd rfl (Or.inl rfl) (pe_lst pa_nil))
    (pss_cons (ps_while (passes_of rfl) (pt_val (pe_meth (pv 2) Zr.kit.cl MP GP hr2 bP .nil pass0 (pa_cons pe_str pa_nil)))
      (pss_cons (ps_set (i := 5) sc_Cache_read.nd rfl (Or.inl rfl) (pe_meth0 (pv 2) Zr.kit.cl MN GN hr3 bN .nil (passes_call (takes_of rfl rfl rfl rfl) (fun _ _ _ _ h => h))))
      (pss_cons (ps_set (i := 6) sc_Cache_read.nd rfl (Or.inl rfl) (pe_meth0 (pv 2) Zr.kit.cl MN GN hr3 bN .nil (passes_call (takes_of rfl rfl rfl rfl) (fun _ _ _ _ h => h))))
      (pss_cons (ps_set (i := 7) sc_Cache_read.nd rfl (Or.inl rfl) (pe_meth (pv 2) Zr.kit.cl M1 G1 hr3 b1 .nil (passes_call (takes_of rfl rfl rfl rfl) (fun _ _ _ _ h => h)) (pa_cons (pe_glob (by rfl) mRu (v := .ref aR) rfl) pa_nil)))
      (pss_one (ps_expr (pe_bm PySem.F.plainAttrs_list PySem.F.slot_list_append PySem.F.type_list_append mt_append (pv 4) (pa_cons (pe_tup (pa_cons (pv 5) (pa_cons (pv 6) (pa_cons (pv 7) (pa_cons (pe_meth (pv 2) Zr.kit.cl M1 G1 hr3 b1 .nil (passes_call (takes_of rfl rfl rfl rfl) (fun _ _ _ _ h => h)) (pa_cons (pe_glob (by rfl) mWr (v := .ref aW) rfl) pa_nil)) pa_nil))))) pa_nil))))))))
    (pss_cons (ps_expr (pe_meth0 (pv 2) Zr.kit.cl ME GE hr3 bE .nil (passes_call (takes_of rfl rfl rfl rfl) (fun _ _ _ _ h => h))))
    (pss_one (ps_ret (pe_makeL (i := 0) MM GM hr rfl (Or.inl rfl) bM .nil (passes_call (takes_of rfl rfl rfl rfl) (fun _ _ _ _ h => h)) (pa_cons (pv 3) (pa_cons (pe_callTy call_tuple_of (by rfl) D.tup (by decide +kernel) (pa_cons (pv 4) pa_nil)) pa_nil))))))))))), ?_⟩
  rcases q with ⟨t, ty, kt, q⟩ | ⟨z, rfl, hz, q⟩
  · refine ⟨_, rfl, v, .ty "str", t, .type "str", false, rfl, .ty _, ty, kt, false, rfl, iteT ?_⟩
    exact ⟨_, rfl, fun d H' hd s1 h1 => q d H' s1 h1⟩
  refine ⟨_, rfl, .str z, .ty "str", .type "str", .type "str", true, rfl, .ty _, .base (.str z), if_pos (beq_self_eq_true _), true, rfl, iteF ?_⟩
  refine ⟨_, rfl, fun R1 dx0 hR0 hdx hne => ?_⟩
  refine ⟨R1, dx0, z, rfl, upd_same, ?_, hz, fun H1 b1 h1 => ⟨rfl, ?_⟩⟩
  · rw [upd_ne hne, upd_same]
  have s1 : Same H H1 := fun b' o e => b1 b' o (by rw [upd_ne (ne_of_none e hR0), upd_ne (ne_of_none e hdx)]; exact e) (ne_of_none e hR0)
  have hS : Snt (tokz z) := snt_toks hz
  have hk0 : 0 < (tokz z).length := by unfold tokz; rw [List.length_append, List.length_singleton]; omega
  have h1' : RdAt R H1 R1 (tokz z) 0 := h1
  clear h1 b1
  generalize tokz z = ts at h1' hS hk0 q
  obtain ⟨dx, l1, hR1, _⟩ := id h1'
  by_cases hL : tk ts 0 = tLINE
  rotate_left
  · have e : cacheM ts = .syn (ps ts 0) := by unfold cacheM; rw [if_neg hL]
    rw [e] at q
    exact ⟨_, rfl, R1, dx, _, rfl, hR1, rfl, R1, ts, 0, _, _, rfl, h1', at_tk hk0, .inr ⟨by rw [sLINE]; exact str_ne hL, leave_but q hR0 s1⟩⟩
  have hk1 : 1 < ts.length := hS.go 0 hk0 (by rw [hL]; simp)
  have e : cacheM ts = numM ts 1 fun ln => (match lvsM ts ts.length 2 [] with
    | .ok ds k => .ok (ln, ds) k
    | .syn p => .syn p
    | .big w => .big w) := by unfold cacheM; rw [if_pos hL]
  rw [e] at q
  clear e
  refine ⟨_, rfl, R1, dx, _, rfl, hR1, rfl, R1, ts, 0, _, _, rfl, h1', at_tk hk0, .inl ⟨by rw [sLINE, hL], fun H2 h2 b2 => ?_⟩⟩
  obtain ⟨dx2, l2, hR2, _⟩ := id h2
  have s2 : Same H H2 := fun c o e => b2 c o (s1 c o e) (ne_of_none e hR0)
  refine ⟨_, rfl, R1, dx2, _, rfl, hR2, rfl, R1, ts, 1, rfl, h2, hk1, hS, ?_⟩
  unfold numM at q
  by_cases hN : isN (tk ts 1) = true
  rotate_left
  · rw [if_neg hN] at q
    exact .inl ⟨by simpa using hN, leave_but q hR0 s2⟩
  rw [if_pos hN] at q
  by_cases hB : 150 < (tk ts 1).length
  · rw [if_pos hB] at q
    exact .inr (.inl ⟨hN, hB, leave_but q hR0 s2⟩)
  rw [if_neg hB] at q
  refine .inr (.inr ⟨hN, by omega, fun H3 h3 b3 => ?_⟩)
  have hk2 : 2 < ts.length := hS.go 1 hk1 (isN_ne hN)
  have s3 : Same H H3 := fun c o e => b3 c o (s2 c o e) (ne_of_none e hR0)
  generalize numVal (tk ts 1) = ln at q
  refine ⟨Nat.zero_le _, fun M nM => ?_⟩
  refine ⟨fun m σ' H' => ∃ (k1 : Nat) (ds : List PyData) (us : List V) (v5 v6 v7 : Option V), σ' = [some (.ref CC), some (.str z), some (.ref R1), some (.int ln), some (.ref M), v5, v6, v7] ∧ RdAt R H' R1 ts k1 ∧ k1 < ts.length ∧ ButR R1 H3 H' ∧ H' M = some (.lst us) ∧ us.length ≤ k1 ∧ Paired (LvAt H') us ds ∧ ts.length ≤ k1 + m ∧ lvsM ts m k1 ds = lvsM ts ts.length 2 [],
    ⟨ts.length, 2, [], [], none, none, none, rfl, h3.same (Same.new nM), hk2, ButR.of (Same.new nM), upd_same, by simp, .nil, by omega, rfl⟩, ?_⟩
  rintro m σ H4 ⟨k1, ds, us, v5, v6, v7, rfl, h4, hk, b4, hM4, hu4, hA4, hf, eM⟩
  have s4 : Same H H4 := fun c o e => b4 c o (s3 c o e) (ne_of_none e hR0)
  obtain ⟨dx4, l4, hR4, _⟩ := id h4
  obtain ⟨f1, rfl⟩ : ∃ f', m = f' + 1 := ⟨m - 1, by omega⟩
  have nMR : M ≠ R1 := fun n => by rw [n, hR4] at hM4; cases hM4
  by_cases hL2 : tk ts k1 = tLEVEL
  · have eA : lvsM ts (f1 + 1) k1 ds = lvM ts (k1 + 1) fun d => lvsM ts f1 (k1 + 5) (ds ++ [d]) := by
      show (if tk ts k1 = tLEVEL then _ else _) = _
      rw [if_pos hL2]
    rw [eA] at eM
    clear eA
    unfold lvM numM oneM at eM
    have hka : k1 + 1 < ts.length := hS.go k1 hk (by rw [hL2]; simp)
    refine ⟨_, rfl, R1, dx4, _, rfl, hR4, rfl, R1, ts, k1, _, _, rfl, h4, at_tk hk, .inr ⟨by rw [sLEVEL, hL2], fun H5 h5 b5 => ⟨true, rfl, ?_⟩⟩⟩
    refine iteT ⟨fun σ' H' => ∃ (k1 : Nat) (ds : List PyData) (us : List V) (v5 v6 v7 : Option V), σ' = [some (.ref CC), some (.str z), some (.ref R1), some (.int ln), some (.ref M), v5, v6, v7] ∧ RdAt R H' R1 ts k1 ∧ k1 < ts.length ∧ ButR R1 H3 H' ∧ H' M = some (.lst us) ∧ us.length ≤ k1 ∧ Paired (LvAt H') us ds ∧ ts.length ≤ k1 + f1 ∧ lvsM ts f1 k1 ds = lvsM ts ts.length 2 [], fun σ' H' h => ⟨f1, Nat.lt_succ_self f1, h⟩, ?_⟩
    obtain ⟨dx5, l5, hR5, _⟩ := id h5
    have s5 : Same H H5 := fun c o e => b5 c o (s4 c o e) (ne_of_none e hR0)
    refine ⟨_, rfl, R1, dx5, _, rfl, hR5, rfl, R1, ts, k1 + 1, rfl, h5, hka, hS, ?_⟩
    by_cases hN5 : isN (tk ts (k1 + 1)) = true
    rotate_left
    · rw [if_neg hN5] at eM
      rw [← eM] at q
      exact .inl ⟨by simpa using hN5, leave_but q hR0 s5⟩
    rw [if_pos hN5] at eM
    by_cases hB5 : 150 < (tk ts (k1 + 1)).length
    · rw [if_pos hB5] at eM
      rw [← eM] at q
      exact .inr (.inl ⟨hN5, hB5, leave_but q hR0 s5⟩)
    rw [if_neg hB5] at eM
    try dsimp only at eM
    have hkb : k1 + 1 + 1 < ts.length := hS.go (k1 + 1) hka (isN_ne hN5)
    refine .inr (.inr ⟨hN5, by omega, fun H6 h6 b6 => ?_⟩)
    obtain ⟨dx6, l6, hR6, _⟩ := id h6
    have s6 : Same H H6 := fun c o e => b6 c o (s5 c o e) (ne_of_none e hR0)
    refine ⟨_, rfl, R1, dx6, _, rfl, hR6, rfl, R1, ts, k1 + 1 + 1, rfl, h6, hkb, hS, ?_⟩
    by_cases hN6 : isN (tk ts (k1 + 1 + 1)) = true
    rotate_left
    · rw [if_neg hN6] at eM
      rw [← eM] at q
      exact .inl ⟨by simpa using hN6, leave_but q hR0 s6⟩
    rw [if_pos hN6] at eM
    by_cases hB6 : 150 < (tk ts (k1 + 1 + 1)).length
    · rw [if_pos hB6] at eM
      rw [← eM] at q
      exact .inr (.inl ⟨hN6, hB6, leave_but q hR0 s6⟩)
    rw [if_neg hB6] at eM
    try dsimp only at eM
    have hkc : k1 + 1 + 2 < ts.length := hS.go (k1 + 1 + 1) hkb (isN_ne hN6)
    refine .inr (.inr ⟨hN6, by omega, fun H7 h7 b7 => ?_⟩)
    obtain ⟨dx7, l7, hR7, _⟩ := id h7
    have s7 : Same H H7 := fun c o e => b7 c o (s6 c o e) (ne_of_none e hR0)
    refine ⟨_, rfl, R1, dx7, _, rfl, hR7, rfl, R1, aR, RUL, ts, k1 + 1 + 2, _, rfl, tRu, h7, at_tk hkc, ?_⟩
    by_cases hC7 : List.contains RUL (⟨(tk ts (k1 + 1 + 2)).toArray⟩ : Str) = true
    rotate_left
    · rw [if_neg hC7] at eM
      rw [← eM] at q
      exact .inr ⟨Bool.eq_false_iff.mpr hC7, leave_but q hR0 s7⟩
    rw [if_pos hC7] at eM
    try dsimp only at eM
    have hkd : k1 + 1 + 3 < ts.length := hS.go (k1 + 1 + 2) hkc (one_ne hC7 (by decide +kernel))
    refine .inl ⟨hC7, fun H8 h8 b8 => ?_⟩
    have hM5 := b5 _ _ hM4 nMR
    have hM6 := b6 _ _ hM5 nMR
    have hM7 := b7 _ _ hM6 nMR
    have hM8 := b8 _ _ hM7 nMR
    obtain ⟨dx8, l8, hR8, _⟩ := id h8
    have s8 : Same H H8 := fun c o e => b8 c o (s7 c o e) (ne_of_none e hR0)
    refine ⟨_, rfl, .inl ⟨rfl, _, .of hM8⟩, _, rfl, _, rfl, _, rfl, _, rfl, R1, dx8, _, rfl, hR8, rfl, R1, aW, WRT, ts, k1 + 1 + 3, _, rfl, tWr, h8, at_tk hkd, ?_⟩
    by_cases hC8 : List.contains WRT (⟨(tk ts (k1 + 1 + 3)).toArray⟩ : Str) = true
    rotate_left
    · rw [if_neg hC8] at eM
      rw [← eM] at q
      exact .inr ⟨Bool.eq_false_iff.mpr hC8, leave_but q hR0 s8⟩
    rw [if_pos hC8] at eM
    try dsimp only at eM
    have hke : k1 + 5 < ts.length := hS.go (k1 + 1 + 3) hkd (one_ne hC8 (by decide +kernel))
    refine .inl ⟨hC8, fun H9 h9 b9 => ?_⟩
    have hM9 := b9 _ _ hM8 nMR
    refine ⟨small_line (by simp), fun T nT => ?_⟩
    have sT := Same.new (o := .tup [.int (numVal (tk ts (k1 + 1))), .int (numVal (tk ts (k1 + 1 + 1))), .str ⟨(tk ts (k1 + 1 + 2)).toArray⟩, .str ⟨(tk ts (k1 + 1 + 3)).toArray⟩]) nT
    have hM10 := sT _ _ hM9
    have kAll := ((kp_of hR4 b5).trans ((kp_of hR5 b6).trans ((kp_of hR6 b7).trans ((kp_of hR7 b8).trans (kp_of hR8 b9))))).trans (Same.kp sT)
    have A10 := L2.Paired.mapP hA4 fun _ _ h => LvAt.kp kAll h
    refine ⟨M, us, .ref T, rfl, rfl, hM10, Nat.lt_of_le_of_lt (show us.length ≤ 100000 by have := hS.ln; omega) (by rw [sizeLine_eq]; omega), ?_⟩
    have nTM : T ≠ M := (ne_of_none hM9 nT).symm
    have kU := updL.kp (o := .lst (us ++ [.ref T])) hM10
    refine ⟨k1 + 5, ds ++ [_], us ++ [.ref T], _, _, _, rfl, (h9.same sT).updL hke hM10 (fun x hx t => ?_), hke, ?_, upd_same, by rw [List.length_append, List.length_singleton]; omega, (L2.Paired.mapP A10 fun _ _ h => LvAt.kp kU h).snoc ⟨T, _, _, _, _, rfl, by rw [upd_ne nTM, upd_same], rfl⟩, by omega, eM⟩
    · obtain ⟨y, hy⟩ := Paired.mem_left A10 x hx
      exact hy.far t
    · intro b o e n
      rw [upd_ne (ne_of_none e nM)]
      exact sT _ _ (b9 _ _ (b8 _ _ (b7 _ _ (b6 _ _ (b5 _ _ (b4 _ _ e n) n) n) n) n) n)
  · have eA : lvsM ts (f1 + 1) k1 ds = if tk ts k1 = [] then .ok ds k1 else .syn (ps ts k1) := by
      show (if tk ts k1 = tLEVEL then _ else _) = _
      rw [if_neg hL2]
    rw [eA] at eM
    refine ⟨_, rfl, R1, dx4, _, rfl, hR4, rfl, R1, ts, k1, _, _, rfl, h4, at_tk hk, .inl ⟨by rw [sLEVEL]; exact str_ne hL2, false, rfl, iteF ?_⟩⟩
    refine ⟨_, rfl, R1, dx4, _, rfl, hR4, rfl, R1, ts, k1, _, rfl, h4, at_tk hk, ?_⟩
    by_cases hE : tk ts k1 = []
    rotate_left
    · rw [if_neg hE] at eM
      rw [← eM] at q
      exact .inr ⟨hE, leave_but q hR0 s4⟩
    rw [if_pos hE] at eM
    rw [← eM] at q
    refine .inl ⟨hE, ?_⟩
    obtain ⟨qa, qb⟩ := q
    refine ⟨rfl, _, rfl, _, rfl, M, us, rfl, .inl ⟨.of hM4, fun tt ntt x dxc nx nd ne => ?_⟩⟩
    have hD : Dp K (upd H4 tt (.tup us)) (.ref tt) (.tuple ds) := .tup (.of upd_same) (DpAll.keep (Same.new ntt) (LvAt.all hA4))
    have sN := s4.trans (Same.new (o := .tup us) ntt)
    generalize upd H4 tt (.tup us) = HN at nx nd hD sN ⊢
    have SM : Same HN (upd (upd HN dxc (.own x)) x (.ins CC dxc [])) := (Same.new nd).upN (by rw [upd_ne ne.symm]; exact nx)
    refine ⟨x, dxc, .int ln, .ref tt, .int ln, .tuple ds, rfl, upd_same, .int ln, Dp.keep SM hD, fun c d H' s e => qa c d H' ((sN.trans SM).trans s) e, fun c b eb y hy d H' s e => (qb c).1 b eb y d H' ((sN.trans SM).trans s) (Dp.keep s hy) e, fun l2 ds2 e1 e2 c bn => ?_⟩
    cases e1
    cases e2
    refine ⟨fun h64 d H' s e => ((qb c).2 bn).1 h64 d H' ((sN.trans SM).trans s) e, fun h64 H' b' hx' => ⟨rfl, ?_⟩⟩
    have SH' : Same HN H' := fun b o e => b' b o (SM b o e) (ne_of_none e nx)
    exact ((qb c).2 bn).2 h64 x H' (sN.trans SH') ⟨dxc, _, hx', Dp.keep SH' hD⟩
end

end K14

namespace K14
open PySem L2 SZ VR VX StX RT
/-! ### what is heard of a text -/
theorem passes_len {X : Cx} {W : WX} {n : Nat} (hn : X.N.length = n) (tk : Takes X W) : Passes (L2.CX X.prog X.w) X (fun cls d H => ∀ σ : L2.St, σ.length = n → W cls d σ H) := fun _ σ _ _ e s' I c => tk e s' (XE.of_call I (fun cls d H' h => h σ (I.len.trans hn)) c)
theorem oxc_xf {K : PySem.W.Frag} {C : Addr} (T : OxC K C) : XfC K C := ⟨T.ga, T.gg, T.ex, T.hd⟩
def ShowOk (d : PyData) : Prop := d.showable = true ∧ d.hasDict = false ∧ d.depth ≤ 8 ∧ d.shown.length ≤ sizeLine
def heardC (z : Str) : List PyData := match cacheM (tokz z) with
  | .syn p => [.str "syntax", .int (p : Int)]
  | .big w => [.str "large", .str w]
  | .ok (ln, ds) _ => if cntD (.int ln) 8 = true then (match badL (.tuple ds) with
    | some b => [.str "cache", .str b.shown]
    | none => if 64 < (togN ds : Int) * ln then [.str "large", .str "period"] else [.str "fine", .str (Txt.join (Str.ofString " ") (cacheW ln ds))]) else [.str "cache", .str (PyData.int ln).shown]
def spHeard (K : PySem.W.Frag) : Sp := fun vs H Q _ => ∃ v, vs = [v] ∧ ((∃ (d : PyData) (t : Value), Dp K H v d ∧ TyX K H v t ∧ PySem.W.kitOne K t (.type "str") = some false ∧ ShowOk d ∧ ∀ v' H', Same H H' → Dp K H' v' (.list [.str "text", .str d.shown]) → Q v' H') ∨
  ∃ z : Str, v = .str z ∧ z.length ≤ 50000 ∧ (∀ ln ds k, cacheM (tokz z) = .ok (ln, ds) k → (cntD (.int ln) 8 = false → ShowOk (.int ln)) ∧ ∀ b, badL (.tuple ds) = some b → ShowOk b) ∧ ∀ v' H', Same H H' → Dp K H' v' (.list (heardC z)) → Q v' H')
abbrev tsR (K : PySem.W.Frag) (CI : Addr) (w : Str) : Addr → Value → Option Addr → TS := fun a cls d => tRet (tLst (tCons (tC (.str w)) (tCons (tCB (rReprD K) (tCons (tXf a cls d CI "value" (tVar 1)) tNil)) tNil)))
abbrev tsF (CT : Addr) (w f : Str) : Addr → Value → Option Addr → TS := fun a cls d => tRet (tLst (tCons (tC (.str w)) (tCons (tXf a cls d CT f (tVar 1)) tNil)))
theorem heard_len {K : PySem.W.Frag} (vs : List V) (H : Hp) (Q : VK) (E : XK) (h : spHeard K vs H Q E) : vs.length = 1 := by
  obtain ⟨v, rfl, _⟩ := h
  rfl
section
variable {P : Program} {w : World} {K : PySem.W.Frag} {mg : Str → Option Value} {base : Heap} {C CV CS CT CI : Addr}
theorem run_heard {f fR fS pR : Addr} {mc : Value} {fd dS : FuncData} (F : Fun K "_law_heard" "_law_heard" S_law_heard f fd) (cr : ClX.CRead K C mc) (cm : ClX.CMet K C mc "read" pR fR) (GR : FnR P w K mg base (L2.CX P w) 7 fR (spRead K C CV CS CT CI))
    (MS : Meth K C "show" fS) (GS : FnOk P w K mg base CX0 1 fS dS ["self"] (spShow K C)) (bS : Binds K dS ["self"] []) (Z : ChC K mg C) (hrep : mg "repr" = none)
    (mV : mg "InvalidText" = some (.ref CV)) (mS : mg "InvalidSyntax" = some (.ref CS)) (mT : mg "TooLarge" = some (.ref CT)) (mI : mg "InvalidCache" = some (.ref CI)) (TV : OxC K CV) (TS : OxC K CS) (TT : OxC K CT) (TI : OxC K CI)
    (nV : PySem.W.findIn K (.ref CV) "value" = some none) (nS : PySem.W.findIn K (.ref CS) "position" = some none) (nT : PySem.W.findIn K (.ref CT) "word" = some none) (nI : PySem.W.findIn K (.ref CI) "value" = some none)
    (ex : ∀ i j : Nat, i < 4 → j < 4 → PySem.W.exmOne K (.ref (([CV, CS, CT, CI] : List Addr).getD i CV)) (.ref (([CV, CS, CT, CI] : List Addr).getD j CV)) = some (decide (i = j))) : RunG P w K mg base CX0 8 f fd ["_law_text"] (spHeard K) := by
  refine okG F sc_law_heard heard_len (fun cdv A outer s H vs Q E hg hr h => ?_)
  obtain ⟨v, rfl, q⟩ := h
  have hr2 : Room 1 _ := hr.mono (by decide)
  refine ⟨_, PSs.nox (pss_one (ps_try_asMany (Wo := fun _ _ _ _ => False) (l := [(.ref CV, 1, tsR K CV (Str.ofString "text")), (.ref CS, 1, tsF CS (Str.ofString "syntax") "position"), (.ref CT, 1, tsF CT (Str.ofString "large") "word"), (.ref CI, 1, tsR K CI (Str.ofString "cache"))]) rfl rfl sc_law_heard.nd takes0
    (fun W pn xe tk _ => pss_one (ps_ret (pe_lst (pa_cons pe_str (pa_cons (pe_meth0 (ClX.pe_cmeth (pl := _) (pe_glob (by rfl) Z.mgC (v := .ref C) rfl) cr cm GR hr (passes_len (n := 2) rfl tk) (pa_cons (pv 0) pa_nil)) Z.kit.cl MS GS hr2 bS .nil pass0) pa_nil)))))
    (.cons (n := "e") rfl rfl ⟨rfl, by decide, .inl mV⟩ (fun a oe cls d pn hz hf => pss_one (ps_ret (pe_lst (pa_cons pe_str (pa_cons (pe_callB (call_reprD (by exact hg) (by exact hr.units)) (by rfl) hrep (by decide +kernel) (pa_cons (pe_xf (oxc_xf TV) nV hz hf (pv 1)) pa_nil)) pa_nil)))))
      (.cons (n := "e") rfl rfl ⟨rfl, by decide, .inl mS⟩ (fun a oe cls d pn hz hf => pss_one (ps_ret (pe_lst (pa_cons pe_str (pa_cons (pe_xf (oxc_xf TS) nS hz hf (pv 1)) pa_nil)))))
      (.cons (n := "e") rfl rfl ⟨rfl, by decide, .inl mT⟩ (fun a oe cls d pn hz hf => pss_one (ps_ret (pe_lst (pa_cons pe_str (pa_cons (pe_xf (oxc_xf TT) nT hz hf (pv 1)) pa_nil)))))
      (.cons (n := "e") rfl rfl ⟨rfl, by decide, .inl mI⟩ (fun a oe cls d pn hz hf => pss_one (ps_ret (pe_lst (pa_cons pe_str (pa_cons (pe_callB (call_reprD (by exact hg) (by exact hr.units)) (by rfl) hrep (by decide +kernel) (pa_cons (pe_xf (oxc_xf TI) nI hz hf (pv 1)) pa_nil)) pa_nil))))) .nil)))))), ?_⟩
  have e00 := ex 0 0 (by decide) (by decide)
  have e10 := ex 1 0 (by decide) (by decide)
  have e11 := ex 1 1 (by decide) (by decide)
  have e20 := ex 2 0 (by decide) (by decide)
  have e21 := ex 2 1 (by decide) (by decide)
  have e22 := ex 2 2 (by decide) (by decide)
  have e30 := ex 3 0 (by decide) (by decide)
  have e31 := ex 3 1 (by decide) (by decide)
  have e32 := ex 3 2 (by decide) (by decide)
  have e33 := ex 3 3 (by decide) (by decide)
  clear ex
  refine ⟨rfl, v, rfl, v, rfl, ?_⟩
  rcases q with ⟨d, t, hd, ty, kt, sh, k⟩ | ⟨z, rfl, hz, sh, k⟩
  · refine .inl ⟨t, ty, kt, fun dd H' s e σ hσ => ⟨true, e00, fun _ a ha => ?_, fun z => nomatch z⟩⟩
    refine ⟨.ref a, by rw [List.getElem?_set_self (by omega)], rfl, rfl, dd, _, v, rfl, e, rfl, v, d, rfl, Dp.keep s hd, sh.1, sh.2.1, sh.2.2.1, sh.2.2.2, small_line (by simp), fun p hp => ?_⟩
    exact k (.ref p) _ (s.trans (Same.new hp)) (.lst (.of upd_same) (.cons (.str _) (.cons (.str _) .nil)))
  refine .inr ⟨z, rfl, hz, ?_⟩
  have outS : ∀ p : Nat, heardC z = [.str "syntax", .int (p : Int)] → ∀ (dd : Addr) (H' : Hp), Same H H' → H' dd = some (.xd [("position", .int (p : Int))]) → ∀ σ : L2.St, σ.length = 2 →
      wAsMany K (fun _ _ _ _ => False) { nx := fun _ H' => Q .non H', rt := Q } [(.ref CV, 1, tsR K CV (Str.ofString "text")), (.ref CS, 1, tsF CS (Str.ofString "syntax") "position"), (.ref CT, 1, tsF CT (Str.ofString "large") "word"), (.ref CI, 1, tsR K CI (Str.ofString "cache"))] (.ref CS) (some dd) σ H' := fun p he dd H' s e σ hσ => by
    refine ⟨false, e10, (fun z => nomatch z), fun _ => ⟨true, e11, fun _ a ha => ?_, fun z => nomatch z⟩⟩
    refine ⟨.ref a, by rw [List.getElem?_set_self (by omega)], rfl, rfl, dd, _, _, rfl, e, rfl, small_line (by simp), fun p hp => ?_⟩
    refine k (.ref p) _ (s.trans (Same.new hp)) ?_
    rw [he]
    exact .lst (.of upd_same) (.cons (.str _) (.cons (.int _) .nil))
  have outT : ∀ w : Str, heardC z = [.str "large", .str w] → ∀ (dd : Addr) (H' : Hp), Same H H' → H' dd = some (.xd [("word", .str w)]) → ∀ σ : L2.St, σ.length = 2 →
      wAsMany K (fun _ _ _ _ => False) { nx := fun _ H' => Q .non H', rt := Q } [(.ref CV, 1, tsR K CV (Str.ofString "text")), (.ref CS, 1, tsF CS (Str.ofString "syntax") "position"), (.ref CT, 1, tsF CT (Str.ofString "large") "word"), (.ref CI, 1, tsR K CI (Str.ofString "cache"))] (.ref CT) (some dd) σ H' := fun p he dd H' s e σ hσ => by
    refine ⟨false, e20, (fun z => nomatch z), fun _ => ⟨false, e21, (fun z => nomatch z), fun _ => ⟨true, e22, fun _ a ha => ?_, fun z => nomatch z⟩⟩⟩
    refine ⟨.ref a, by rw [List.getElem?_set_self (by omega)], rfl, rfl, dd, _, _, rfl, e, rfl, small_line (by simp), fun p hp => ?_⟩
    refine k (.ref p) _ (s.trans (Same.new hp)) ?_
    rw [he]
    exact .lst (.of upd_same) (.cons (.str _) (.cons (.str _) .nil))
  have outI : ∀ (x : V) (b : PyData), ShowOk b → heardC z = [.str "cache", .str b.shown] → ∀ (dd : Addr) (H' : Hp), Same H H' → H' dd = some (.xd [("value", x)]) → Dp K H' x b → ∀ σ : L2.St, σ.length = 2 →
      wAsMany K (fun _ _ _ _ => False) { nx := fun _ H' => Q .non H', rt := Q } [(.ref CV, 1, tsR K CV (Str.ofString "text")), (.ref CS, 1, tsF CS (Str.ofString "syntax") "position"), (.ref CT, 1, tsF CT (Str.ofString "large") "word"), (.ref CI, 1, tsR K CI (Str.ofString "cache"))] (.ref CI) (some dd) σ H' := fun x b hs he dd H' s e hx σ hσ => by
    refine ⟨false, e30, (fun z => nomatch z), fun _ => ⟨false, e31, (fun z => nomatch z), fun _ => ⟨false, e32, (fun z => nomatch z), fun _ => ⟨true, e33, fun _ a ha => ?_, fun z => nomatch z⟩⟩⟩⟩
    refine ⟨.ref a, by rw [List.getElem?_set_self (by omega)], rfl, rfl, dd, _, x, rfl, e, rfl, x, b, rfl, hx, hs.1, hs.2.1, hs.2.2.1, hs.2.2.2, small_line (by simp), fun p hp => ?_⟩
    refine k (.ref p) _ (s.trans (Same.new hp)) ?_
    rw [he]
    exact .lst (.of upd_same) (.cons (.str _) (.cons (.str _) .nil))
  cases hc : cacheM (tokz z) with
  | syn p => exact fun dd H' s e => outS p (by unfold heardC; rw [hc]) dd H' s e
  | big w => exact fun dd H' s e => outT w (by unfold heardC; rw [hc]) dd H' s e
  | ok r kk =>
    obtain ⟨ln, ds⟩ := r
    obtain ⟨sh1, sh2⟩ := sh ln ds kk hc
    refine ⟨fun c dd H' s e => outI (.int ln) (.int ln) (sh1 c) (by unfold heardC; rw [hc]; exact if_neg (by rw [c]; decide)) dd H' s e (.int ln), fun c => ⟨fun b eb x dd H' s hx e => outI x b (sh2 b eb) (by unfold heardC; rw [hc]; show (if _ then _ else _) = _; rw [if_pos c, eb]) dd H' s e hx, fun bn => ⟨fun h64 dd H' s e => outT "period" ?_ dd H' s e, fun h64 x H' s hx => ?_⟩⟩⟩
    · unfold heardC
      rw [hc]
      show (if _ then _ else _) = _
      rw [if_pos c, bn]
      exact if_pos h64
    · obtain ⟨ds', e', d1, d3, hlv⟩ := badL_none bn
      cases e'
      have hl : 1 ≤ ln ∧ ln ≤ 8 := by
        have : (decide (1 ≤ ln) && decide (ln ≤ 8)) = true := c
        simpa using this
      obtain ⟨dxc, lv, hx1, hx2⟩ := id hx
      refine ⟨x, dxc, _, rfl, hx1, rfl, x, ln, ds, rfl, hx, hl.1, hl.2, d3, hlv, fun H2 s2 => ⟨small_line (by simp), fun p hp => ?_⟩⟩
      refine k (.ref p) _ ((s.trans s2).trans (Same.new hp)) ?_
      have eh : heardC z = [.str "fine", .str (Txt.join (Str.ofString " ") (cacheW ln ds))] := by
        unfold heardC
        rw [hc]
        show (if _ then _ else _) = _
        rw [if_pos c, bn]
        exact if_neg (by omega)
      rw [eh]
      exact .lst (.of upd_same) (.cons (.str _) (.cons (.str _) .nil))
end

end K14

namespace DE
open PySem PySem.Spec PyProof.Rows L2 SZ VR VX StX RT
def tyD : PyData → String
  | .none => "NoneType"
  | .bool _ => "bool"
  | .int _ => "int"
  | .str _ => "str"
  | .list _ => "list"
  | .tuple _ => "tuple"
  | .dict _ => "dict"
theorem TyX.lstT {K : PySem.W.Frag} {H : Hp} {a : Addr} {xs : List V} (h : SqL K H a xs) : TyX K H (.ref a) (.type "list") := by
  rcases h with (h | ⟨o, h⟩) | h
  · exact .base (.lst h)
  · exact .base (.frz h)
  · obtain ⟨o, its, n, h1, h2, _⟩ := h
    exact .kList h1 h2
theorem dp_ty {K : PySem.W.Frag} {H : Hp} {v : V} {d : PyData} (h : Dp K H v d) : TyX K H v (.type (tyD d)) := by
  cases h with
  | non => exact .base .non
  | bl b => exact .base (.bl b)
  | int i => exact .base (.int i)
  | str x => exact .base (.str x)
  | lst h1 h2 => exact TyX.lstT h1
  | tup h1 h2 => exact TyX.tupT h1
mutual
theorem Dp.keep {K : PySem.W.Frag} {H H' : Hp} (s : Same H H') : ∀ {v : V} {d : PyData}, Dp K H v d → Dp K H' v d
  | _, _, .non => .non
  | _, _, .bl b => .bl b
  | _, _, .int i => .int i
  | _, _, .str x => .str x
  | _, _, .lst h1 h2 => .lst (s.seq h1) (DpAll.keep s h2)
  | _, _, .tup h1 h2 => .tup (s.tup h1) (DpAll.keep s h2)
theorem DpAll.keep {K : PySem.W.Frag} {H H' : Hp} (s : Same H H') : ∀ {vs : List V} {ds : List PyData}, DpAll K H vs ds → DpAll K H' vs ds
  | _, _, .nil => .nil
  | _, _, .cons h1 h2 => .cons (Dp.keep s h1) (DpAll.keep s h2)
end
theorem DpAll.len {K : PySem.W.Frag} {H : Hp} : ∀ {vs : List V} {ds : List PyData}, DpAll K H vs ds → vs.length = ds.length
  | _, _, .nil => rfl
  | _, _, .cons _ h2 => by rw [List.length_cons, List.length_cons, DpAll.len h2]
theorem DpAll.at {K : PySem.W.Frag} {H : Hp} : ∀ {vs : List V} {ds : List PyData} {i : Nat} {v : V}, DpAll K H vs ds → vs[i]? = some v → ∃ d, ds[i]? = some d ∧ Dp K H v d
  | _, _, _, _, .nil, h => by simp at h
  | _, _, 0, _, .cons h1 _, h => by
    simp at h
    subst h
    exact ⟨_, rfl, h1⟩
  | _, _, i + 1, _, .cons _ h2, h => by
    obtain ⟨d, e, g⟩ := DpAll.at h2 (by simpa using h)
    exact ⟨d, by simpa using e, g⟩
def isI : PyData → Bool
  | .int _ => true
  | _ => false
theorem strIn (z : Str) : ∀ l : List Str, inV (.str z) (l.map V.str) = l.contains z
  | [] => rfl
  | x :: l => by
    have ih := strIn z l
    unfold inV at ih ⊢
    rw [List.map_cons, List.any_cons, ih, List.contains_cons]
    congr 1
    simp only [eqV]
    first | rfl | exact Bool.beq_comm .. | (rw [Bool.eq_iff_iff]; simp [eq_comm])
theorem strFlat (l : List Str) : (l.map V.str).all flatV = true := by
  rw [List.all_map]
  exact List.all_eq_true.mpr fun _ _ => rfl
def isS : PyData → Bool
  | .str _ => true
  | _ => false
theorem kitS {K : PySem.W.Frag} : ∀ {d : PyData}, PySem.W.kitOne K (.type (tyD d)) (.type "str") = some (isS d)
  | .none => kit_ty (a := "NoneType") (r := false) (by decide +kernel)
  | .bool _ => kit_ty (a := "bool") (r := false) (by decide +kernel)
  | .int _ => kit_ty (a := "int") (r := false) (by decide +kernel)
  | .str _ => kit_ty (a := "str") (r := true) (by decide +kernel)
  | .list _ => kit_ty (a := "list") (r := false) (by decide +kernel)
  | .tuple _ => kit_ty (a := "tuple") (r := false) (by decide +kernel)
  | .dict _ => kit_ty (a := "dict") (r := false) (by decide +kernel)
def isT : PyData → Bool
  | .tuple _ => true
  | _ => false
theorem kitT {K : PySem.W.Frag} : ∀ {d : PyData}, PySem.W.kitOne K (.type (tyD d)) (.type "tuple") = some (isT d)
  | .none => kit_ty (a := "NoneType") (r := false) (by decide +kernel)
  | .bool _ => kit_ty (a := "bool") (r := false) (by decide +kernel)
  | .int _ => kit_ty (a := "int") (r := false) (by decide +kernel)
  | .str _ => kit_ty (a := "str") (r := false) (by decide +kernel)
  | .list _ => kit_ty (a := "list") (r := false) (by decide +kernel)
  | .tuple _ => kit_ty (a := "tuple") (r := true) (by decide +kernel)
  | .dict _ => kit_ty (a := "dict") (r := false) (by decide +kernel)
theorem small_line {n : Nat} (h : n ≤ 100) : n ≤ sizeLine := by rw [sizeLine_eq]; omega
theorem DpAll.app {K : PySem.W.Frag} {H : Hp} : ∀ {xs ys : List V} {ds es : List PyData}, DpAll K H xs ds → DpAll K H ys es → DpAll K H (xs ++ ys) (ds ++ es)
  | _, _, _, _, .nil, h => h
  | _, _, _, _, .cons h1 h2, h => .cons h1 (DpAll.app h2 h)

theorem atN {α : Type} {xs : List α} {j : Nat} {x : α} (h : xs[j]? = some x) : atI xs (j : Int) = some x := by
  have hl : j < xs.length := (List.getElem?_eq_some_iff.mp h).1
  unfold atI
  rw [ixN_nat hl]
  exact h

/-! ### what is held: data that stays, lists held alone -/
inductive Sl where
  | un
  | d (x : PyData)
  | own (xs : List PyData)
  | bor (xs : List PyData)
  | fact (φ : V → Hp → Prop) (st : ∀ v G G', Same G G' → φ v G → φ v G')
structure Bs where
  G : Hp
  H : Hp
  B : List Addr
abbrev Cl := Option V × Sl
def SlOk (K : PySem.W.Frag) (b : Bs) (G H : Hp) : Cl → Prop
  | (_, .un) => True
  | (x, .d y) => ∃ v, x = some v ∧ Dp K G v y
  | (x, .own ys) => ∃ p vs, x = some (.ref p) ∧ b.H p = none ∧ G p = none ∧ H p = some (.lst vs) ∧ DpAll K G vs ys
  | (x, .bor ys) => ∃ p vs, x = some (.ref p) ∧ p ∈ b.B ∧ G p = none ∧ H p = some (.lst vs) ∧ DpAll K G vs ys
  | (x, .fact φ _) => ∃ v, x = some v ∧ φ v G
/-- the lists that are held alone -/
def ads : List Cl → List Addr
  | [] => []
  | (some (.ref p), .own _) :: L => p :: ads L
  | (some (.ref p), .bor _) :: L => p :: ads L
  | _ :: L => ads L
/-- what leans on nothing but itself -/
def flatO : HO → Bool
  | .ins _ _ _ => false
  | .own _ => false
  | .dT _ => false
  | .frz _ u => flatO u
  | _ => true
def FlO (G : Hp) : Prop := ∀ a o, G a = some o → (∃ C dx fs, o = .ins C dx fs ∧ G dx = some (.own a)) ∨ (∃ x, o = .own x ∧ (G x).isSome = true) ∨ flatO o = true
theorem FlO.upd {G : Hp} {p : Addr} {o : HO} (h : FlO G) (hp : G p = none) (ho : flatO o = true) : FlO (upd G p o) := fun a u e => by
  by_cases ha : a = p
  · subst ha; rw [upd_same] at e; cases e; exact .inr (.inr ho)
  · rw [upd_ne ha] at e
    rcases h a u e with ⟨C, dx, fs, e1, e2⟩ | ⟨x, e1, e2⟩ | h
    · exact .inl ⟨C, dx, fs, e1, by rw [upd_ne (ne_of_none e2 hp)]; exact e2⟩
    · refine .inr (.inl ⟨x, e1, ?_⟩)
      by_cases hx : x = p
      · subst hx; rw [upd_same]; rfl
      · rw [upd_ne hx]; exact e2
    · exact .inr (.inr h)
structure HoldG (K : PySem.W.Frag) (b : Bs) (G H : Hp) (L : List Cl) : Prop where
  old : Same b.G G
  up : Same G H
  new : ∀ a o, G a = some o → b.G a = some o ∨ b.H a = none
  rest : ∀ a o, b.H a = some o → a ∉ b.B → H a = some o
  bs : ∀ a ∈ b.B, (H a).isSome = true
  ok : ∀ c ∈ L, SlOk K b G H c
  nd : (ads L).Nodup
  fl : FlO G
def Hold (K : PySem.W.Frag) (b : Bs) (H : Hp) (L : List Cl) : Prop := ∃ G, HoldG K b G H L
theorem ads_append : ∀ L L' : List Cl, ads (L ++ L') = ads L ++ ads L'
  | [], _ => rfl
  | c :: L, L' => by
    have ih := ads_append L L'
    rcases c with ⟨_ | v, s⟩
    · cases s <;> simpa [ads] using ih
    · cases v <;> cases s <;> simp [ads, ih]
theorem ads_cons (c : Cl) (L : List Cl) : ads (c :: L) = ads [c] ++ ads L := ads_append [c] L
theorem ads_mem {q : Addr} {s : Sl} (h : (∃ ys, s = .own ys) ∨ ∃ ys, s = .bor ys) {L : List Cl} (hc : (some (V.ref q), s) ∈ L) : q ∈ ads L := by
  obtain ⟨l1, l2, e⟩ := List.append_of_mem hc
  rw [e, ads_append]
  rcases h with ⟨ys, rfl⟩ | ⟨ys, rfl⟩ <;> exact List.mem_append_right _ List.mem_cons_self
theorem ads_perm {L L' : List Cl} (h : L.Perm L') : (ads L).Perm (ads L') := by
  induction h with
  | nil => exact .refl _
  | cons c _ ih => 
    rename_i l1 l2 _
    rw [ads_cons c l1, ads_cons c l2]; exact ih.append_left _
  | swap c d L => 
    rw [ads_cons d (c :: L), ads_cons c L, ads_cons c (d :: L), ads_cons d L, ← List.append_assoc, ← List.append_assoc]
    exact List.Perm.append_right _ List.perm_append_comm
  | trans _ _ i1 i2 => exact i1.trans i2
section
variable {K : PySem.W.Frag} {b : Bs} {G H : Hp} {L L' : List Cl} {c : Cl}
theorem HoldG.perm (h : HoldG K b G H L) (p : L'.Perm L) : HoldG K b G H L' := ⟨h.old, h.up, h.new, h.rest, h.bs, fun c hc => h.ok c (p.mem_iff.mp hc), (ads_perm p).nodup_iff.mpr h.nd, h.fl⟩
theorem Hold.perm (h : Hold K b H L) (p : L'.Perm L) : Hold K b H L' := let ⟨G, h⟩ := h; ⟨G, h.perm p⟩
theorem HoldG.drop (h : HoldG K b G H (c :: L)) : HoldG K b G H L := ⟨h.old, h.up, h.new, h.rest, h.bs, fun c hc => h.ok c (List.mem_cons_of_mem _ hc), by have := h.nd; rw [ads_cons] at this; exact (List.nodup_append.mp this).2.1, h.fl⟩
theorem Hold.drop (h : Hold K b H (c :: L)) : Hold K b H L := let ⟨G, h⟩ := h; ⟨G, h.drop⟩
theorem Hold.dropL : ∀ {M : List Cl}, Hold K b H (M ++ L) → Hold K b H L
  | [], h => h
  | _ :: _, h => Hold.dropL h.drop
/-- a cell is known no more -/
theorem HoldG.un (h : HoldG K b G H L) {x : Option V} : HoldG K b G H ((x, .un) :: L) := ⟨h.old, h.up, h.new, h.rest, h.bs, fun c hc => by
  rcases List.mem_cons.mp hc with rfl | hc
  · trivial
  · exact h.ok c hc, by cases x with | none => simpa [ads] using h.nd | some v => cases v <;> simpa [ads] using h.nd, h.fl⟩
/-- one more cell of data -/
theorem HoldG.add (h : HoldG K b G H L) {v : V} {y : PyData} (hv : Dp K G v y) : HoldG K b G H ((some v, .d y) :: L) := ⟨h.old, h.up, h.new, h.rest, h.bs, fun c hc => by
  rcases List.mem_cons.mp hc with rfl | hc
  · exact ⟨v, rfl, hv⟩
  · exact h.ok c hc, by cases v <;> simpa [ads] using h.nd, h.fl⟩
theorem HoldG.addF (h : HoldG K b G H L) {v : V} {φ : V → Hp → Prop} {st} (hv : φ v G) : HoldG K b G H ((some v, .fact φ st) :: L) := ⟨h.old, h.up, h.new, h.rest, h.bs, fun c hc => by
  rcases List.mem_cons.mp hc with rfl | hc
  · exact ⟨v, rfl, hv⟩
  · exact h.ok c hc, by cases v <;> simpa [ads] using h.nd, h.fl⟩
theorem Hold.un (h : Hold K b H L) {x : Option V} : Hold K b H ((x, .un) :: L) := let ⟨G, h⟩ := h; ⟨G, h.un⟩
theorem Hold.int (h : Hold K b H L) (i : Int) : Hold K b H ((some (.int i), .d (.int i)) :: L) := let ⟨G, h⟩ := h; ⟨G, h.add (.int i)⟩
theorem Hold.bl (h : Hold K b H L) (i : Bool) : Hold K b H ((some (.bl i), .d (.bool i)) :: L) := let ⟨G, h⟩ := h; ⟨G, h.add (.bl i)⟩
theorem Hold.str (h : Hold K b H L) (i : Str) : Hold K b H ((some (.str i), .d (.str i)) :: L) := let ⟨G, h⟩ := h; ⟨G, h.add (.str i)⟩
theorem Hold.non (h : Hold K b H L) : Hold K b H ((some .non, .d .none) :: L) := let ⟨G, h⟩ := h; ⟨G, h.add .non⟩
/-- the head says what the value is -/
theorem HoldG.data {x : Option V} {y : PyData} (h : HoldG K b G H ((x, .d y) :: L)) : ∃ v, x = some v ∧ Dp K G v y := h.ok _ List.mem_cons_self
theorem HoldG.inH {v : V} {y : PyData} (h : HoldG K b G H L) (d : Dp K G v y) : Dp K H v y := Dp.keep h.up d
/-- the frozen part and the heap grow -/
theorem HoldG.grow (h : HoldG K b G H L) {p : Addr} {o : HO} (hp : H p = none) (ho : flatO o = true) : HoldG K b (upd G p o) (upd H p o) L := by
  have gp : G p = none := h.up.free hp
  have bp : b.H p = none := by
    cases e : b.H p with
    | none => rfl
    | some u =>
      by_cases hb : p ∈ b.B
      · have := h.bs p hb; rw [hp] at this; cases this
      · have := h.rest p u e hb; rw [hp] at this; cases this
  have sG : Same G (upd G p o) := Same.new gp
  refine ⟨h.old.trans sG, fun a u e => ?_, fun a u e => ?_, fun a u e n => ?_, fun a ha => ?_, fun c hc => ?_, h.nd, h.fl.upd gp ho⟩
  · by_cases ha : a = p
    · subst ha; rw [upd_same] at e ⊢; exact e
    · rw [upd_ne ha] at e ⊢; exact h.up a u e
  · by_cases ha : a = p
    · subst ha; exact .inr bp
    · rw [upd_ne ha] at e; exact h.new a u e
  · have := h.rest a u e n
    rw [upd_ne (ne_of_none this hp)]; exact this
  · by_cases e : a = p
    · subst e; rw [upd_same]; rfl
    · rw [upd_ne e]; exact h.bs a ha
  · have ok := h.ok c hc
    rcases c with ⟨x, s⟩
    cases s with
    | un => trivial
    | d y => obtain ⟨v, e, k⟩ := ok; exact ⟨v, e, Dp.keep sG k⟩
    | fact φ st => obtain ⟨v, e, k⟩ := ok; exact ⟨v, e, st _ _ _ sG k⟩
    | own ys =>
      obtain ⟨q, vs, e, h1, h2, h3, h4⟩ := ok
      have n : q ≠ p := ne_of_none h3 hp
      exact ⟨q, vs, e, h1, by rw [upd_ne n]; exact h2, by rw [upd_ne n]; exact h3, DpAll.keep sG h4⟩
    | bor ys =>
      obtain ⟨q, vs, e, h1, h2, h3, h4⟩ := ok
      have n : q ≠ p := ne_of_none h3 hp
      exact ⟨q, vs, e, h1, by rw [upd_ne n]; exact h2, by rw [upd_ne n]; exact h3, DpAll.keep sG h4⟩
/-- the heap alone grows -/
theorem HoldG.growH (h : HoldG K b G H L) {p : Addr} {o : HO} (hp : H p = none) : HoldG K b G (upd H p o) L := by
  refine ⟨h.old, h.up.trans (Same.new hp), h.new, fun a u e n => ?_, fun a ha => ?_, fun c hc => ?_, h.nd, h.fl⟩
  · have := h.rest a u e n
    rw [upd_ne (ne_of_none this hp)]; exact this
  · by_cases e : a = p
    · subst e; rw [upd_same]; rfl
    · rw [upd_ne e]; exact h.bs a ha
  · have ok := h.ok c hc
    rcases c with ⟨x, s⟩
    cases s with
    | un => trivial
    | d y => exact ok
    | fact φ st => exact ok
    | own ys =>
      obtain ⟨q, vs, e, h1, h2, h3, h4⟩ := ok
      exact ⟨q, vs, e, h1, h2, by rw [upd_ne (ne_of_none h3 hp)]; exact h3, h4⟩
    | bor ys =>
      obtain ⟨q, vs, e, h1, h2, h3, h4⟩ := ok
      exact ⟨q, vs, e, h1, h2, by rw [upd_ne (ne_of_none h3 hp)]; exact h3, h4⟩
theorem HoldG.fresh (h : HoldG K b G H L) {p : Addr} (hp : H p = none) : b.H p = none := by
  cases e : b.H p with
  | none => rfl
  | some u =>
    by_cases hb : p ∈ b.B
    · have := h.bs p hb; rw [hp] at this; cases this
    · have := h.rest p u e hb; rw [hp] at this; cases this
theorem ads_in {p : Addr} : ∀ {L : List Cl}, p ∈ ads L → ∃ s, (some (.ref p), s) ∈ L ∧ ((∃ ys, s = .own ys) ∨ ∃ ys, s = .bor ys)
  | [], h => by cases h
  | c :: L, h => by
    rw [ads_cons] at h
    rcases List.mem_append.mp h with h | h
    · rcases c with ⟨_ | v, s⟩
      · cases s <;> simp [ads] at h
      · cases v <;> cases s <;> simp [ads] at h
        · subst h; exact ⟨_, List.mem_cons_self, .inl ⟨_, rfl⟩⟩
        · subst h; exact ⟨_, List.mem_cons_self, .inr ⟨_, rfl⟩⟩
    · obtain ⟨s, h1, h2⟩ := ads_in h
      exact ⟨s, List.mem_cons_of_mem _ h1, h2⟩
theorem HoldG.adsH (h : HoldG K b G H L) {p : Addr} (hp : p ∈ ads L) : G p = none ∧ ∃ vs, H p = some (.lst vs) := by
  obtain ⟨s, hm, hs⟩ := ads_in hp
  have ok := h.ok _ hm
  rcases hs with ⟨ys, rfl⟩ | ⟨ys, rfl⟩
  · obtain ⟨q, vs, e, _, h2, h3, _⟩ := ok; cases e; exact ⟨h2, vs, h3⟩
  · obtain ⟨q, vs, e, _, h2, h3, _⟩ := ok; cases e; exact ⟨h2, vs, h3⟩
/-- a new list, held alone -/
theorem HoldG.newL (h : HoldG K b G H L) {p : Addr} {vs : List V} {ys : List PyData} (hp : H p = none) (hv : DpAll K G vs ys) : HoldG K b G (upd H p (.lst vs)) ((some (.ref p), .own ys) :: L) := by
  have g := h.growH (o := .lst vs) hp
  refine ⟨g.old, g.up, g.new, g.rest, g.bs, fun c hc => ?_, ?_, g.fl⟩
  · rcases List.mem_cons.mp hc with rfl | hc
    · exact ⟨p, vs, rfl, h.fresh hp, h.up.free hp, upd_same, hv⟩
    · exact g.ok c hc
  · show (p :: ads L).Nodup
    refine List.nodup_cons.mpr ⟨fun hm => ?_, h.nd⟩
    obtain ⟨_, vs', e⟩ := h.adsH hm
    rw [hp] at e; cases e
/-- a new tuple -/
theorem HoldG.newT (h : HoldG K b G H L) {p : Addr} {vs : List V} {ys : List PyData} (hp : H p = none) (hv : DpAll K G vs ys) : HoldG K b (upd G p (.tup vs)) (upd H p (.tup vs)) ((some (.ref p), .d (.tuple ys)) :: L) :=
  (h.grow (o := .tup vs) hp rfl).add (.tup (.of upd_same) (DpAll.keep (Same.new (h.up.free hp)) hv))
/-- a list that was held alone is changed no more -/
theorem HoldG.freeze {x : Option V} {ys : List PyData} (h : HoldG K b G H ((x, .own ys) :: L)) : Hold K b H ((x, .d (.list ys)) :: L) := by
  obtain ⟨p, vs, rfl, h1, h2, h3, h4⟩ := h.ok _ List.mem_cons_self
  have nd := h.nd
  have nd' : p ∉ ads L := (List.nodup_cons.mp (show (p :: ads L).Nodup from nd)).1
  have sG : Same G (upd G p (.lst vs)) := Same.new h2
  refine ⟨upd G p (.lst vs), h.old.trans sG, fun a u e => ?_, fun a u e => ?_, h.rest, h.bs, fun c hc => ?_, ?_, h.fl.upd h2 rfl⟩
  · by_cases ha : a = p
    · subst ha; rw [upd_same] at e; rw [h3]; exact e
    · rw [upd_ne ha] at e; exact h.up a u e
  · by_cases ha : a = p
    · subst ha; exact .inr h1
    · rw [upd_ne ha] at e; exact h.new a u e
  · rcases List.mem_cons.mp hc with rfl | hm
    · exact ⟨_, rfl, .lst (.of upd_same) (DpAll.keep sG h4)⟩
    · have ok := h.ok c (List.mem_cons_of_mem _ hm)
      rcases c with ⟨x, s⟩
      cases s with
      | un => trivial
      | d y => obtain ⟨v, e, k⟩ := ok; exact ⟨v, e, Dp.keep sG k⟩
      | fact φ st => obtain ⟨v, e, k⟩ := ok; exact ⟨v, e, st _ _ _ sG k⟩
      | own ys' =>
        obtain ⟨q, vs', e, k1, k2, k3, k4⟩ := ok
        have n : q ≠ p := fun n => by
          subst n; subst e
          exact nd' (ads_mem (.inl ⟨_, rfl⟩) hm)
        exact ⟨q, vs', e, k1, by rw [upd_ne n]; exact k2, k3, DpAll.keep sG k4⟩
      | bor ys' =>
        obtain ⟨q, vs', e, k1, k2, k3, k4⟩ := ok
        have n : q ≠ p := fun n => by
          subst n; subst e
          exact nd' (ads_mem (.inr ⟨_, rfl⟩) hm)
        exact ⟨q, vs', e, k1, by rw [upd_ne n]; exact k2, k3, DpAll.keep sG k4⟩
  · exact (List.nodup_cons.mp (show (p :: ads L).Nodup from nd)).2
theorem Hold.freeze {x : Option V} {ys : List PyData} (h : Hold K b H ((x, .own ys) :: L)) : Hold K b H ((x, .d (.list ys)) :: L) := let ⟨_, h⟩ := h; h.freeze
/-- a list held alone is written anew -/
theorem HoldG.put {p : Addr} {s s' : Sl} {ys ys' : List PyData} {vs : List V} (h : HoldG K b G H ((some (.ref p), s) :: L)) (hs : (s = .own ys ∧ s' = .own ys') ∨ (s = .bor ys ∧ s' = .bor ys')) (hv : DpAll K G vs ys') : HoldG K b G (upd H p (.lst vs)) ((some (.ref p), s') :: L) := by
  have hG : G p = none := by
    have ok := h.ok _ List.mem_cons_self
    rcases hs with ⟨rfl, _⟩ | ⟨rfl, _⟩
    · obtain ⟨q, _, e, _, h2, _⟩ := ok; cases e; exact h2
    · obtain ⟨q, _, e, _, h2, _⟩ := ok; cases e; exact h2
  have nd : (p :: ads L).Nodup := by rcases hs with ⟨rfl, _⟩ | ⟨rfl, _⟩ <;> exact h.nd
  have nd' := (List.nodup_cons.mp nd).1
  refine ⟨h.old, fun a u e => ?_, h.new, fun a u e n => ?_, fun a ha => ?_, fun c hc => ?_, ?_, h.fl⟩
  · have := h.up a u e
    rw [upd_ne (ne_of_none e hG)]; exact this
  · by_cases ha : a = p
    · subst ha
      have ok := h.ok _ List.mem_cons_self
      rcases hs with ⟨rfl, _⟩ | ⟨rfl, _⟩
      · obtain ⟨q, _, e2, h1, _⟩ := ok; cases e2; rw [h1] at e; cases e
      · obtain ⟨q, _, e2, h1, _⟩ := ok; cases e2; exact absurd h1 n
    · rw [upd_ne ha]; exact h.rest a u e n
  · by_cases e : a = p
    · subst e; rw [upd_same]; rfl
    · rw [upd_ne e]; exact h.bs a ha
  · rcases List.mem_cons.mp hc with rfl | hm
    · have ok := h.ok _ List.mem_cons_self
      rcases hs with ⟨rfl, rfl⟩ | ⟨rfl, rfl⟩
      · obtain ⟨q, _, e2, h1, _⟩ := ok; cases e2; exact ⟨p, vs, rfl, h1, hG, upd_same, hv⟩
      · obtain ⟨q, _, e2, h1, _⟩ := ok; cases e2; exact ⟨p, vs, rfl, h1, hG, upd_same, hv⟩
    · have ok := h.ok c (List.mem_cons_of_mem _ hm)
      rcases c with ⟨x, t⟩
      cases t with
      | un => trivial
      | d y => exact ok
      | fact φ st => exact ok
      | own ys2 =>
        obtain ⟨q, vs', e, k1, k2, k3, k4⟩ := ok
        have n : q ≠ p := fun n => by
          subst n; subst e
          exact nd' (ads_mem (.inl ⟨_, rfl⟩) hm)
        exact ⟨q, vs', e, k1, k2, by rw [upd_ne n]; exact k3, k4⟩
      | bor ys2 =>
        obtain ⟨q, vs', e, k1, k2, k3, k4⟩ := ok
        have n : q ≠ p := fun n => by
          subst n; subst e
          exact nd' (ads_mem (.inr ⟨_, rfl⟩) hm)
        exact ⟨q, vs', e, k1, k2, by rw [upd_ne n]; exact k3, k4⟩
  · rcases hs with ⟨rfl, rfl⟩ | ⟨rfl, rfl⟩ <;> exact nd
end

end DE

namespace DE
open PySem PySem.Spec PyProof.Rows L2 SZ VR VX StX RT
/-! ### what holds in a frame: expressions -/
def WE (X : Cx) (e : Expr) (σ : L2.St) (H : Hp) (Q : VK) : Prop := ∃ t, PE X e t ∧ t σ H Q
def WT (X : Cx) (e : Expr) (σ : L2.St) (H : Hp) (Q : Bool → Hp → Prop) : Prop := ∃ t, PT X e t ∧ t σ H Q
def WW (X : Cx) (e : Expr) (σ : L2.St) (H : Hp) (Q : Bool → Hp → Prop) : Prop := ∃ t, PW X e t ∧ t σ H Q
def WA (X : Cx) (es : List Expr) (σ : L2.St) (H : Hp) (Q : List V → Hp → Prop) : Prop := ∃ t, PA X es t ∧ t σ H Q
def WG (X : Cx) (tg : Expr) (v : V) (σ : L2.St) (H : Hp) (Q : L2.St → Hp → Prop) : Prop := ∃ t, PG X tg t ∧ t v σ H Q
def WGs (X : Cx) (tg : List Expr) (v : List V) (σ : L2.St) (H : Hp) (Q : L2.St → Hp → Prop) : Prop := ∃ t, PGs X tg t ∧ t v σ H Q
def WS (X : Cx) (s : Stmt) (D : Ends) (σ : L2.St) (H : Hp) : Prop := ∃ t, PS X s t ∧ t D σ H
def WSs (X : Cx) (s : List Stmt) (D : Ends) (σ : L2.St) (H : Hp) : Prop := ∃ t, PSs X s t ∧ t D σ H
section
variable {X : Cx}
theorem we_pe (e : Expr) : PE X e (WE X e) := ⟨fun pins s σ H Q I ⟨_, h, q⟩ => h.run pins s σ H Q I q⟩
theorem wt_pt (e : Expr) : PT X e (WT X e) := ⟨fun pins s σ H Q I ⟨_, h, q⟩ => h.run pins s σ H Q I q⟩
theorem ww_pw (e : Expr) : PW X e (WW X e) := ⟨fun w pins s σ H Q I ⟨_, h, q⟩ => h.run w pins s σ H Q I q⟩
theorem wa_pa (e : List Expr) : PA X e (WA X e) := ⟨fun pos pins s σ H Q I ⟨_, h, q⟩ => h.run pos pins s σ H Q I q⟩
theorem wg_pg (e : Expr) : PG X e (WG X e) := ⟨fun pins s σ H v u Q I r ⟨_, h, q⟩ => h.run pins s σ H v u Q I r q⟩
theorem wgs_pgs (e : List Expr) : PGs X e (WGs X e) := ⟨fun pins s σ H v u Q I r ⟨_, h, q⟩ => h.run pins s σ H v u Q I r q⟩
theorem ws_ps (s : Stmt) : PS X s (WS X s) := ⟨fun pins t σ H D I ⟨_, h, q⟩ => h.run pins t σ H D I q⟩
theorem wss_pss (s : List Stmt) : PSs X s (WSs X s) := ⟨fun pins t σ H D I ⟨_, h, q⟩ => h.run pins t σ H D I q⟩
end
/-- an expression in a frame that holds ρ gives what p wants -/
def EV (X : Cx) (b : Bs) (ρ : List Sl) (e : Expr) (p : Sl → List Sl → Prop) : Prop := ∀ σ H L Q, σ.length = ρ.length → Hold X.K b H (σ.zip ρ ++ L) →
  (∀ r ρ' v H', p r ρ' → σ.length = ρ'.length → Hold X.K b H' ((some v, r) :: (σ.zip ρ' ++ L)) → Q v H') → WE X e σ H Q
def ET (X : Cx) (b : Bs) (ρ : List Sl) (e : Expr) (p : Bool → List Sl → Prop) : Prop := ∀ σ H L Q, σ.length = ρ.length → Hold X.K b H (σ.zip ρ ++ L) →
  (∀ c ρ' H', p c ρ' → σ.length = ρ'.length → Hold X.K b H' (σ.zip ρ' ++ L) → Q c H') → WT X e σ H Q
def EW (X : Cx) (b : Bs) (ρ : List Sl) (e : Expr) (p : Bool → List Sl → Prop) : Prop := ∀ σ H L Q, σ.length = ρ.length → Hold X.K b H (σ.zip ρ ++ L) →
  (∀ c ρ' H', p c ρ' → σ.length = ρ'.length → Hold X.K b H' (σ.zip ρ' ++ L) → Q c H') → WW X e σ H Q
def EA (X : Cx) (b : Bs) (ρ : List Sl) (es : List Expr) (p : List Sl → List Sl → Prop) : Prop := ∀ σ H L Q, σ.length = ρ.length → Hold X.K b H (σ.zip ρ ++ L) →
  (∀ rs ρ' vs H', p rs ρ' → σ.length = ρ'.length → vs.length = rs.length → Hold X.K b H' ((vs.map some).zip rs ++ (σ.zip ρ' ++ L)) → Q vs H') → WA X es σ H Q
/-- an operation on two values -/
def OV (X : Cx) (b : Bs) (f : Value → Value → Sem Value) (r1 r2 : Sl) (p : Sl → Prop) : Prop := ∃ rr : R2, OpR X f rr ∧ ∀ v1 v2 H L Q, Hold X.K b H ((some v1, r1) :: (some v2, r2) :: L) →
  (∀ r v H', p r → Hold X.K b H' ((some v, r) :: L) → Q v H') → rr v1 v2 H Q
def IV (X : Cx) (b : Bs) (r1 r2 : Sl) (p : Sl → Prop) : Prop := ∃ rr : R2, IxR X rr ∧ ∀ v1 v2 H L Q, Hold X.K b H ((some v1, r1) :: (some v2, r2) :: L) →
  (∀ r v H', p r → Hold X.K b H' ((some v, r) :: L) → Q v H') → rr v1 v2 H Q
/-- an operation on one value -/
def UV (X : Cx) (b : Bs) (f : Value → Sem Value) (r1 : Sl) (p : Sl → Prop) : Prop := ∃ rr : V → Hp → VK → Prop, UnR X f rr ∧ ∀ v1 H L Q, Hold X.K b H ((some v1, r1) :: L) →
  (∀ r v H', p r → Hold X.K b H' ((some v, r) :: L) → Q v H') → rr v1 H Q
/-- a built-in's call -/
def CV (X : Cx) (b : Bs) (f : Value) (rs : List Sl) (p : Sl → Prop) : Prop := ∃ rr : List V → Hp → VK → Prop, CallR X f rr ∧ ∀ vs H L Q, vs.length = rs.length → Hold X.K b H ((vs.map some).zip rs ++ L) →
  (∀ r v H', p r → Hold X.K b H' ((some v, r) :: L) → Q v H') → rr vs H Q
section
variable {X : Cx} {b : Bs} {ρ : List Sl} {p : Sl → List Sl → Prop} {e e1 e2 : Expr}
theorem perm_in {A M : List Cl} {c : Cl} : (c :: (A ++ M)).Perm (A ++ c :: M) := List.perm_middle.symm
theorem EV.imp {p' : Sl → List Sl → Prop} (h : EV X b ρ e p) (k : ∀ r ρ', p r ρ' → p' r ρ') : EV X b ρ e p' := fun σ H L Q l hh q => h σ H L Q l hh fun r ρ' v H' z => q r ρ' v H' (k r ρ' z)
theorem ET.imp {p p' : Bool → List Sl → Prop} (h : ET X b ρ e p) (k : ∀ r ρ', p r ρ' → p' r ρ') : ET X b ρ e p' := fun σ H L Q l hh q => h σ H L Q l hh fun r ρ' H' z => q r ρ' H' (k r ρ' z)
theorem zip_mem {σ : L2.St} {ρ : List Sl} {i : Nat} {s : Sl} (l : σ.length = ρ.length) (h : ρ[i]? = some s) : ∃ x, σ[i]? = some x ∧ (x, s) ∈ σ.zip ρ := by
  have hi : i < ρ.length := (List.getElem?_eq_some_iff.mp h).1
  have hs : σ[i]? = some σ[i] := List.getElem?_eq_getElem (by omega)
  refine ⟨_, hs, List.mem_of_getElem? (i := i) ?_⟩
  rw [List.getElem?_zip_eq_some]
  exact ⟨hs, h⟩
theorem ev_int {i : Int} {j pos} (h : p (.d (.int i)) ρ) : EV X b ρ (.Constant (.int i) j pos) p := fun σ H L Q l hh q => ⟨_, pe_int, q _ _ _ H h l (hh.int i)⟩
theorem ev_bl {i : Bool} {j pos} (h : p (.d (.bool i)) ρ) : EV X b ρ (.Constant (.bool i) j pos) p := fun σ H L Q l hh q => ⟨_, pe_bl, q _ _ _ H h l (hh.bl i)⟩
theorem ev_str {i : Str} {j pos} (h : p (.d (.str i)) ρ) : EV X b ρ (.Constant (.str i) j pos) p := fun σ H L Q l hh q => ⟨_, pe_str, q _ _ _ H h l (hh.str i)⟩
theorem ev_non {j pos} (h : p (.d .none) ρ) : EV X b ρ (.Constant .none j pos) p := fun σ H L Q l hh q => ⟨_, pe_non, q _ _ _ H h l hh.non⟩
/-- a local name that holds data -/
theorem ev_var (i : Nat) {y : PyData} {x : Str} {pos : Pos} (hN : X.N[i]? = some x) (hv : Vis X.env.scope x) (hr : ρ[i]? = some (.d y)) (h : p (.d y) ρ) (hd : (x == ("__debug__" : Str)) = false := by decide) (hcd : (x == ("__classdict__" : Str)) = false := by decide) : EV X b ρ (.Name x pos) p := fun σ H L Q l hh q => by
  obtain ⟨x', hx, hm⟩ := zip_mem l hr
  obtain ⟨G, hg⟩ := hh
  obtain ⟨v, e, hv'⟩ := hg.ok _ (List.mem_append_left _ hm)
  subst e
  exact ⟨_, pe_var hN hv hd hcd, v, hx, q _ _ _ H h l ⟨G, hg.add hv'⟩⟩
/-- .. or something that stays -/
theorem ev_varF (i : Nat) {φ : V → Hp → Prop} {st} {x : Str} {pos : Pos} (hN : X.N[i]? = some x) (hv : Vis X.env.scope x) (hr : ρ[i]? = some (.fact φ st)) (h : p (.fact φ st) ρ) (hd : (x == ("__debug__" : Str)) = false := by decide) (hcd : (x == ("__classdict__" : Str)) = false := by decide) : EV X b ρ (.Name x pos) p := fun σ H L Q l hh q => by
  obtain ⟨x', hx, hm⟩ := zip_mem l hr
  obtain ⟨G, hg⟩ := hh
  obtain ⟨v, e, hv'⟩ := hg.ok _ (List.mem_append_left _ hm)
  subst e
  exact ⟨_, pe_var hN hv hd hcd, v, hx, q _ _ _ H h l ⟨G, hg.addF hv'⟩⟩
theorem set_perm {σ : L2.St} : ∀ {ρ : List Sl} {i : Nat} {s s' : Sl} {x : Option V}, ρ[i]? = some s → σ[i]? = some x → ∃ M, (σ.zip ρ).Perm ((x, s) :: M) ∧ (σ.zip (ρ.set i s')).Perm ((x, s') :: M) := by
  intro ρ
  induction ρ generalizing σ with
  | nil => intro i s s' x h; simp at h
  | cons r ρ ih =>
    intro i s s' x h hx
    cases σ with
    | nil => simp at hx
    | cons y σ =>
      cases i with
      | zero =>
        simp at h hx
        subst h hx
        exact ⟨σ.zip ρ, .refl _, .refl _⟩
      | succ i =>
        simp at h hx
        obtain ⟨M, h1, h2⟩ := ih (s' := s') h hx
        refine ⟨(y, r) :: M, ?_, ?_⟩
        · exact (h1.cons _).trans (.swap ..)
        · exact (h2.cons _).trans (.swap ..)
/-- a list held alone is read for good: the name keeps it -/
theorem ev_frz (i : Nat) {ys : List PyData} (hr : ρ[i]? = some (.own ys)) (h : EV X b (ρ.set i (.d (.list ys))) e p) : EV X b ρ e p := fun σ H L Q l hh q => by
  obtain ⟨x, hx, _⟩ := zip_mem l hr
  obtain ⟨M, p1, p2⟩ := set_perm (s' := .d (.list ys)) hr hx
  exact h σ H L Q (by rw [List.length_set]; exact l) (((hh.perm ((p1.append_right L).symm)).freeze).perm (p2.append_right L)) q
/-- any rule for an operation -/
def sOp (X : Cx) (f : Value → Value → Sem Value) : R2 := fun x y H Q => ∃ rr : R2, OpR X f rr ∧ rr x y H Q
theorem sop_ok (f : Value → Value → Sem Value) : OpR X f (sOp X f) := fun pins s σ H x y v u Q I rx ry ⟨_, h, q⟩ => h pins s σ H x y v u Q I rx ry q
def sIx (X : Cx) : R2 := fun x y H Q => ∃ rr : R2, IxR X rr ∧ rr x y H Q
theorem six_ok : IxR X (sIx X) := fun a b pins s σ H x y v u Q I rx ry ⟨_, h, q⟩ hs => h a b pins s σ H x y v u Q I rx ry q hs
def sUn (X : Cx) (f : Value → Sem Value) : V → Hp → VK → Prop := fun x H Q => ∃ rr : V → Hp → VK → Prop, UnR X f rr ∧ rr x H Q
theorem sun_ok (f : Value → Sem Value) : UnR X f (sUn X f) := fun pins s σ H x v Q I rx ⟨_, h, q⟩ => h pins s σ H x v Q I rx q
def sCl (X : Cx) (f : Value) : List V → Hp → VK → Prop := fun x H Q => ∃ rr : List V → Hp → VK → Prop, CallR X f rr ∧ rr x H Q
theorem scl_ok (f : Value) : CallR X f (sCl X f) := fun pins s σ H x v Q I rx ⟨_, h, q⟩ => h pins s σ H x v Q I rx q
theorem OV.go {f : Value → Value → Sem Value} {σ : L2.St} {ρ2 : List Sl} {L : List Cl} {r1 r2 : Sl} {v1 v2 : V} {H2 : Hp} {Q : VK} {p : Sl → Prop} (h2 : OV X b f r1 r2 p) (hh2 : Hold X.K b H2 ((some v2, r2) :: (σ.zip ρ2 ++ (some v1, r1) :: L))) (k : ∀ r v H', p r → Hold X.K b H' ((some v, r) :: (σ.zip ρ2 ++ L)) → Q v H') : sOp X f v1 v2 H2 Q := by
  obtain ⟨rr, ho, hk⟩ := h2
  exact ⟨rr, ho, hk v1 v2 H2 (σ.zip ρ2 ++ L) Q (hh2.perm ((List.Perm.swap ..).trans (perm_in.cons _))) fun r v H' hp hh' => k r v H' hp hh'⟩
theorem IV.go {σ : L2.St} {ρ2 : List Sl} {L : List Cl} {r1 r2 : Sl} {v1 v2 : V} {H2 : Hp} {Q : VK} {p : Sl → Prop} (h2 : IV X b r1 r2 p) (hh2 : Hold X.K b H2 ((some v2, r2) :: (σ.zip ρ2 ++ (some v1, r1) :: L))) (k : ∀ r v H', p r → Hold X.K b H' ((some v, r) :: (σ.zip ρ2 ++ L)) → Q v H') : sIx X v1 v2 H2 Q := by
  obtain ⟨rr, ho, hk⟩ := h2
  exact ⟨rr, ho, hk v1 v2 H2 (σ.zip ρ2 ++ L) Q (hh2.perm ((List.Perm.swap ..).trans (perm_in.cons _))) fun r v H' hp hh' => k r v H' hp hh'⟩
theorem ev_bin {op : Operator} {pos} (h : EV X b ρ e1 fun r1 ρ1 => EV X b ρ1 e2 fun r2 ρ2 => OV X b (binaryOp op) r1 r2 fun r => p r ρ2) : EV X b ρ (.BinOp e1 op e2 pos) p := fun σ H L Q l hh q =>
  ⟨_, pe_op (sop_ok _) (we_pe e1) (we_pe e2), h σ H L _ l hh fun r1 ρ1 v1 H1 h1 l1 hh1 => h1 σ H1 ((some v1, r1) :: L) _ l1 (hh1.perm perm_in.symm) fun r2 ρ2 v2 H2 h2 l2 hh2 => h2.go hh2 fun r v H' hp hh' => q r ρ2 v H' hp l2 hh'⟩
theorem ev_cmp {op : CmpOp} {pos} (hm : behindInMarks op e2 = false) (h : EV X b ρ e1 fun r1 ρ1 => EV X b ρ1 e2 fun r2 ρ2 => OV X b (compareOp op) r1 r2 fun r => p r ρ2) : EV X b ρ (.Compare e1 [op] [e2] pos) p := fun σ H L Q l hh q =>
  ⟨_, pe_cmpR (sop_ok _) (we_pe e1) (we_pe e2) hm, h σ H L _ l hh fun r1 ρ1 v1 H1 h1 l1 hh1 => h1 σ H1 ((some v1, r1) :: L) _ l1 (hh1.perm perm_in.symm) fun r2 ρ2 v2 H2 h2 l2 hh2 => h2.go hh2 fun r v H' hp hh' => q r ρ2 v H' hp l2 hh'⟩
theorem Hold.isB {K : PySem.W.Frag} {H : Hp} {v : V} {c : Bool} {L : List Cl} (h : Hold K b H ((some v, .d (.bool c)) :: L)) : v = .bl c := by
  obtain ⟨G, h⟩ := h
  obtain ⟨v', e, hd⟩ := h.data
  cases e
  cases hd
  rfl
theorem Hold.isI {K : PySem.W.Frag} {H : Hp} {v : V} {c : Int} {L : List Cl} (h : Hold K b H ((some v, .d (.int c)) :: L)) : v = .int c := by
  obtain ⟨G, h⟩ := h
  obtain ⟨v', e, hd⟩ := h.data
  cases e
  cases hd
  rfl
theorem Hold.isS {K : PySem.W.Frag} {H : Hp} {v : V} {c : Str} {L : List Cl} (h : Hold K b H ((some v, .d (.str c)) :: L)) : v = .str c := by
  obtain ⟨G, h⟩ := h
  obtain ⟨v', e, hd⟩ := h.data
  cases e
  cases hd
  rfl
theorem Hold.isN {K : PySem.W.Frag} {H : Hp} {v : V} {L : List Cl} (h : Hold K b H ((some v, .d .none) :: L)) : v = .non := by
  obtain ⟨G, h⟩ := h
  obtain ⟨v', e, hd⟩ := h.data
  cases e
  cases hd
  rfl
/-- the head's datum, in the heap -/
theorem Hold.dp {K : PySem.W.Frag} {H : Hp} {v : V} {y : PyData} {L : List Cl} (h : Hold K b H ((some v, .d y) :: L)) : Dp K H v y := by
  obtain ⟨G, h⟩ := h
  obtain ⟨v', e, hd⟩ := h.data
  cases e
  exact h.inH hd
theorem Hold.dp2 {K : PySem.W.Frag} {H : Hp} {v : V} {y : PyData} {c : Cl} {L : List Cl} (h : Hold K b H (c :: (some v, .d y) :: L)) : Dp K H v y := h.drop.dp
/-- two expressions in a row, whatever joins them -/
theorem ev_chain {o1 o2 : CmpOp} {e3 : Expr} {pos} (hm : lastMarks [o1, o2] [e2, e3] = false) (h : EV X b ρ e1 fun r1 ρ1 => EV X b ρ1 e2 fun r2 ρ2 => ∃ y2, r2 = .d y2 ∧ OV X b (compareOp o1) r1 r2 fun r => ∃ c, r = .d (.bool c) ∧ (c = false → p (.d (.bool false)) ρ2) ∧ (c = true → EV X b ρ2 e3 fun r3 ρ3 => OV X b (compareOp o2) r2 r3 fun r => p r ρ3)) :
    EV X b ρ (.Compare e1 [o1, o2] [e2, e3] pos) p := fun σ H L Q l hh q =>
  ⟨_, pe_chain (sop_ok _) (sop_ok _) (we_pe e1) (we_pe e2) (we_pe e3) hm, h σ H L _ l hh fun r1 ρ1 v1 H1 h1 l1 hh1 => h1 σ H1 ((some v1, r1) :: L) _ l1 (hh1.perm perm_in.symm) fun r2 ρ2 v2 H2 ⟨y2, e2, h2⟩ l2 hh2 => by
    subst e2
    have hh3 : Hold X.K b H2 ((some v2, .d y2) :: (σ.zip ρ2 ++ (some v1, r1) :: (some v2, .d y2) :: L)) := by
      obtain ⟨G, hg⟩ := hh2
      obtain ⟨v', ev, hd⟩ := hg.data
      cases ev
      exact ⟨G, (hg.add hd).perm (List.Perm.cons _ (perm_in.trans (List.Perm.append_left _ (List.Perm.swap ..))).symm)⟩
    refine h2.go (L := (some v2, .d y2) :: L) hh3 fun r v H' ⟨c, er, c0, c1⟩ hh' => ?_
    subst er
    have hv := hh'.isB
    subst hv
    refine ⟨c, rfl, ?_⟩
    cases c with
    | false => exact q _ ρ2 _ H' (c0 rfl) l2 ((hh'.drop.perm perm_in.symm.symm).drop.bl false)
    | true =>
      refine c1 rfl σ H' ((some v2, .d y2) :: L) _ l2 hh'.drop fun r3 ρ3 v3 H3 h3 l3 hh4 => h3.go hh4 fun r v H' hp hh' => q r ρ3 v H' hp l3 hh'⟩
end

end DE

namespace DE
open PySem PySem.Spec PyProof.Rows L2 SZ VR VX StX RT
section
variable {X : Cx} {b : Bs} {ρ : List Sl} {p : Sl → List Sl → Prop} {q : Bool → List Sl → Prop} {e e1 e2 : Expr} {es rest : List Expr} {pos : Pos}
/-! ### truth -/
theorem et_val (he : ∀ whole, isTrue e X.env whole = (do let v ← whole; standAt e.pos; holding [v] (truthy v)) := by intro _; rfl) (h : EV X b ρ e fun r ρ' => ∃ c, r = .d (.bool c) ∧ q c ρ') : ET X b ρ e q := fun σ H L Q l hh k =>
  ⟨_, pt_val (we_pe e) he, h σ H L _ l hh fun r ρ' v H' ⟨c, er, hq⟩ l' hh' => by
    subst er
    have := hh'.isB
    subst this
    exact ⟨c, rfl, k c ρ' H' hq l' hh'.drop⟩⟩
theorem et_cmp {op : CmpOp} (hm : behindInMarks op e2 = false) (h : EV X b ρ e1 fun r1 ρ1 => EV X b ρ1 e2 fun r2 ρ2 => OV X b (compareOp op) r1 r2 fun r => ∃ c, r = .d (.bool c) ∧ q c ρ2) : ET X b ρ (.Compare e1 [op] [e2] pos) q := fun σ H L Q l hh k =>
  ⟨_, pt_cmpR (sop_ok _) (we_pe e1) (we_pe e2) hm, h σ H L _ l hh fun r1 ρ1 v1 H1 h1 l1 hh1 => h1 σ H1 ((some v1, r1) :: L) _ l1 (hh1.perm perm_in.symm) fun r2 ρ2 v2 H2 h2 l2 hh2 => h2.go hh2 fun r v H' ⟨c, er, hq⟩ hh' => by
    subst er
    have := hh'.isB
    subst this
    exact ⟨c, rfl, k c ρ2 H' hq l2 hh'.drop⟩⟩
theorem et_chain {o1 o2 : CmpOp} {e3 : Expr} (hm : lastMarks [o1, o2] [e2, e3] = false) (h : EV X b ρ e1 fun r1 ρ1 => EV X b ρ1 e2 fun r2 ρ2 => ∃ y2, r2 = .d y2 ∧ OV X b (compareOp o1) r1 r2 fun r => ∃ c, r = .d (.bool c) ∧ (c = false → q false ρ2) ∧ (c = true → EV X b ρ2 e3 fun r3 ρ3 => OV X b (compareOp o2) r2 r3 fun r => ∃ c', r = .d (.bool c') ∧ q c' ρ3)) :
    ET X b ρ (.Compare e1 [o1, o2] [e2, e3] pos) q := fun σ H L Q l hh k =>
  ⟨_, pt_chain (sop_ok _) (sop_ok _) (we_pe e1) (we_pe e2) (we_pe e3) hm, h σ H L _ l hh fun r1 ρ1 v1 H1 h1 l1 hh1 => h1 σ H1 ((some v1, r1) :: L) _ l1 (hh1.perm perm_in.symm) fun r2 ρ2 v2 H2 ⟨y2, e2, h2⟩ l2 hh2 => by
    subst e2
    have hh3 : Hold X.K b H2 ((some v2, .d y2) :: (σ.zip ρ2 ++ (some v1, r1) :: (some v2, .d y2) :: L)) := by
      obtain ⟨G, hg⟩ := hh2
      obtain ⟨v', ev, hd⟩ := hg.data
      cases ev
      exact ⟨G, (hg.add hd).perm (List.Perm.cons _ (perm_in.trans (List.Perm.append_left _ (List.Perm.swap ..))).symm)⟩
    refine h2.go (L := (some v2, .d y2) :: L) hh3 fun r v H' ⟨c, er, c0, c1⟩ hh' => ?_
    subst er
    have hv := hh'.isB
    subst hv
    refine ⟨c, rfl, ?_⟩
    cases c with
    | false => exact ⟨false, rfl, k _ ρ2 H' (c0 rfl) l2 (hh'.drop.perm perm_in.symm.symm).drop⟩
    | true =>
      refine c1 rfl σ H' ((some v2, .d y2) :: L) _ l2 hh'.drop fun r3 ρ3 v3 H3 h3 l3 hh4 => h3.go hh4 fun r v H' ⟨c', er, hq⟩ hh' => ?_
      subst er
      have := hh'.isB
      subst this
      exact ⟨c', rfl, k c' ρ3 H' hq l3 hh'.drop⟩⟩
theorem et_not (h : ET X b ρ e fun c ρ' => q (!c) ρ') : ET X b ρ (.UnaryOp .Not e pos) q := fun σ H L Q l hh k => ⟨_, pt_not (wt_pt e), h σ H L _ l hh fun c ρ' H' hq l' hh' => k _ ρ' H' hq l' hh'⟩
theorem et_w (h : EW X b ρ e q) : ET X b ρ e q := fun σ H L Q l hh k => by
  obtain ⟨t, ht, hq⟩ := h σ H L Q l hh k
  exact ⟨t, ht.pt, hq⟩
theorem ew_and1 (h : ET X b ρ e q) : EW X b ρ (.BoolOp .And [e] pos) q := fun σ H L Q l hh k => ⟨_, pw_and1 (wt_pt e), h σ H L _ l hh k⟩
theorem ew_or1 (h : ET X b ρ e q) : EW X b ρ (.BoolOp .Or [e] pos) q := fun σ H L Q l hh k => ⟨_, pw_or1 (wt_pt e), h σ H L _ l hh k⟩
theorem ew_and (h : ET X b ρ e1 fun c ρ' => (c = false → q false ρ') ∧ (c = true → EW X b ρ' (.BoolOp .And (e2 :: rest) pos) q)) : EW X b ρ (.BoolOp .And (e1 :: e2 :: rest) pos) q := fun σ H L Q l hh k =>
  ⟨_, pw_and (wt_pt e1) (ww_pw _), h σ H L _ l hh fun c ρ' H' ⟨h0, h1⟩ l' hh' => by
    cases c with
    | false => exact k _ ρ' H' (h0 rfl) l' hh'
    | true => exact h1 rfl σ H' L _ l' hh' k⟩
theorem ew_or (h : ET X b ρ e1 fun c ρ' => (c = true → q true ρ') ∧ (c = false → EW X b ρ' (.BoolOp .Or (e2 :: rest) pos) q)) : EW X b ρ (.BoolOp .Or (e1 :: e2 :: rest) pos) q := fun σ H L Q l hh k =>
  ⟨_, pw_or (wt_pt e1) (ww_pw _), h σ H L _ l hh fun c ρ' H' ⟨h0, h1⟩ l' hh' => by
    cases c with
    | true => exact k _ ρ' H' (h0 rfl) l' hh'
    | false => exact h1 rfl σ H' L _ l' hh' k⟩
theorem ev_one {op : BoolOp} (h : EV X b ρ e p) : EV X b ρ (.BoolOp op [e] pos) p := fun σ H L Q l hh k => ⟨_, pe_one (we_pe e), h σ H L _ l hh k⟩
theorem ev_and (h : EV X b ρ e1 fun r ρ' => ∃ c, r = .d (.bool c) ∧ (c = false → p (.d (.bool false)) ρ') ∧ (c = true → EV X b ρ' (.BoolOp .And (e2 :: rest) pos) p)) : EV X b ρ (.BoolOp .And (e1 :: e2 :: rest) pos) p := fun σ H L Q l hh k =>
  ⟨_, pe_and (we_pe e1) (we_pe _), h σ H L _ l hh fun r ρ' v H' ⟨c, er, h0, h1⟩ l' hh' => by
    subst er
    have := hh'.isB
    subst this
    refine ⟨c, rfl, ?_⟩
    cases c with
    | false => exact k _ ρ' _ H' (h0 rfl) l' hh'
    | true => exact h1 rfl σ H' L _ l' hh'.drop k⟩
theorem ev_or (h : EV X b ρ e1 fun r ρ' => ∃ c, r = .d (.bool c) ∧ (c = true → p (.d (.bool true)) ρ') ∧ (c = false → EV X b ρ' (.BoolOp .Or (e2 :: rest) pos) p)) : EV X b ρ (.BoolOp .Or (e1 :: e2 :: rest) pos) p := fun σ H L Q l hh k =>
  ⟨_, pe_or (we_pe e1) (we_pe _), h σ H L _ l hh fun r ρ' v H' ⟨c, er, h0, h1⟩ l' hh' => by
    subst er
    have := hh'.isB
    subst this
    refine ⟨c, rfl, ?_⟩
    cases c with
    | true => exact k _ ρ' _ H' (h0 rfl) l' hh'
    | false => exact h1 rfl σ H' L _ l' hh'.drop k⟩
theorem ev_not (h : EV X b ρ e fun r ρ' => ∃ c, r = .d (.bool c) ∧ p (.d (.bool (!c))) ρ') : EV X b ρ (.UnaryOp .Not e pos) p := fun σ H L Q l hh k =>
  ⟨_, pe_not (we_pe e), h σ H L _ l hh fun r ρ' v H' ⟨c, er, h0⟩ l' hh' => by
    subst er
    have := hh'.isB
    subst this
    exact ⟨c, rfl, k _ ρ' _ H' h0 l' (hh'.drop.bl _)⟩⟩
theorem ev_if {c : Expr} (h : ET X b ρ c fun t ρ' => (t = true → EV X b ρ' e1 p) ∧ (t = false → EV X b ρ' e2 p)) : EV X b ρ (.IfExp c e1 e2 pos) p := fun σ H L Q l hh k =>
  ⟨_, pe_ifExp (wt_pt c) (we_pe e1) (we_pe e2), h σ H L _ l hh fun t ρ' H' ⟨h1, h2⟩ l' hh' => by
    cases t with
    | true => exact h1 rfl σ H' L _ l' hh' k
    | false => exact h2 rfl σ H' L _ l' hh' k⟩
theorem ev_un {op : UnaryOp} (h : EV X b ρ e fun r ρ' => UV X b (unaryOp op) r fun r' => p r' ρ') : EV X b ρ (.UnaryOp op e pos) p := fun σ H L Q l hh k =>
  ⟨_, pe_un (sun_ok _) (we_pe e), h σ H L _ l hh fun r ρ' v H' ⟨rr, ho, hk⟩ l' hh' => ⟨rr, ho, hk v H' _ _ hh' fun r' v' H2 hp hh2 => k r' ρ' v' H2 hp l' hh2⟩⟩
/-! ### displays, calls -/
theorem ea_nil {p : List Sl → List Sl → Prop} (h : p [] ρ) : EA X b ρ [] p := fun σ H L Q l hh k => ⟨_, pa_nil, k [] ρ [] H h l rfl hh⟩
theorem ea_cons {p : List Sl → List Sl → Prop} (hs : starEach (e :: es) X.env = (false, eval e X.env) :: starEach es X.env := by rfl) (h : EV X b ρ e fun r ρ' => EA X b ρ' es fun rs ρ2 => p (r :: rs) ρ2) : EA X b ρ (e :: es) p := fun σ H L Q l hh k =>
  ⟨_, pa_cons (we_pe e) (wa_pa es) hs, h σ H L _ l hh fun r ρ' v H' h2 l' hh' => h2 σ H' ((some v, r) :: L) _ l' (hh'.perm perm_in.symm) fun rs ρ2 vs H2 hp l2 lv hh2 =>
    k (r :: rs) ρ2 (v :: vs) H2 hp l2 (by simp [lv]) (by
      rw [List.map_cons, List.zip_cons_cons, List.cons_append]
      refine hh2.perm ?_
      rw [← List.append_assoc, ← List.append_assoc]
      exact perm_in)⟩
/-- cells of data are data of the frozen part -/
theorem HoldG.all {K : PySem.W.Frag} {G H : Hp} {L : List Cl} : ∀ {vs : List V} {ys : List PyData}, vs.length = ys.length → HoldG K b G H ((vs.map some).zip (ys.map .d) ++ L) → DpAll K G vs ys
  | [], [], _, _ => .nil
  | v :: vs, y :: ys, l, h => by
    obtain ⟨v', e, hd⟩ := HoldG.data (show HoldG K b G H ((some v, .d y) :: ((vs.map some).zip (ys.map .d) ++ L)) from h)
    cases e
    exact .cons hd (HoldG.all (by simpa using l) (HoldG.drop (show HoldG K b G H ((some v, .d y) :: ((vs.map some).zip (ys.map .d) ++ L)) from h)))
theorem HoldG.dropM {K : PySem.W.Frag} {G H : Hp} {L : List Cl} : ∀ {M : List Cl}, HoldG K b G H (M ++ L) → HoldG K b G H L
  | [], h => h
  | _ :: _, h => HoldG.dropM (HoldG.drop h)
theorem ev_tup {k : Nat} (h : EA X b ρ es fun rs ρ' => ∃ ys : List PyData, rs = ys.map .d ∧ ys.length ≤ sizeLine ∧ p (.d (.tuple ys)) ρ') : EV X b ρ (.Tuple es k pos) p := fun σ H L Q l hh k =>
  ⟨_, pe_tup (wa_pa es), h σ H L _ l hh fun rs ρ' vs H' ⟨ys, e, n, hp⟩ l' lv hh' => by
    subst e
    rw [List.length_map] at lv
    refine ⟨by rw [lv]; exact n, fun a ha => ?_⟩
    obtain ⟨G, hg⟩ := hh'
    exact k _ ρ' _ _ hp l' ⟨_, hg.dropM.newT ha (HoldG.all lv hg)⟩⟩
theorem ev_lst (h : EA X b ρ es fun rs ρ' => ∃ ys : List PyData, rs = ys.map .d ∧ ys.length ≤ sizeLine ∧ p (.own ys) ρ') : EV X b ρ (.List es pos) p := fun σ H L Q l hh k =>
  ⟨_, pe_lst (wa_pa es), h σ H L _ l hh fun rs ρ' vs H' ⟨ys, e, n, hp⟩ l' lv hh' => by
    subst e
    rw [List.length_map] at lv
    refine ⟨by rw [lv]; exact n, fun a ha => ?_⟩
    obtain ⟨G, hg⟩ := hh'
    exact k _ ρ' _ _ hp l' ⟨_, hg.dropM.newL ha (HoldG.all lv hg)⟩⟩
theorem ev_callB {id : String} {x : Str} {ps cp : Pos} (hg : Gl X x) (hm : X.mg x = none) (hv : bootBuiltins x = some (.builtin id)) (h : EA X b ρ (e :: es) fun rs ρ' => CV X b (.builtin id) rs fun r => p r ρ') (hn : x ≠ "__name__" := by decide) (hdb : (x == ("__debug__" : Str)) = false := by decide)
    (he : starEach (e :: es) X.env = (false, eval e X.env) :: starEach es X.env := by rfl) (hpl : (backTo cp (starEach es X.env)).any (·.1) = false := by rfl) : EV X b ρ (.Call (.Name x ps) (e :: es) [] cp) p := fun σ H L Q l hh k =>
  ⟨_, pe_callB (scl_ok _) hg hm hv (wa_pa _) hn hdb he hpl, h σ H L _ l hh fun rs ρ' vs H' ⟨rr, ho, hk⟩ l' lv hh' => ⟨rr, ho, hk vs H' _ _ lv hh' fun r v H2 hp hh2 => k r ρ' v H2 hp l' hh2⟩⟩
theorem ev_callTy {T : String} {x : Str} {ps cp : Pos} (hg : Gl X x) (hm : X.mg x = none) (hv : bootBuiltins x = some (.type T)) (h : EA X b ρ (e :: es) fun rs ρ' => CV X b (.type T) rs fun r => p r ρ') (hn : x ≠ "__name__" := by decide) (hdb : (x == ("__debug__" : Str)) = false := by decide)
    (he : starEach (e :: es) X.env = (false, eval e X.env) :: starEach es X.env := by rfl) (hpl : (backTo cp (starEach es X.env)).any (·.1) = false := by rfl) : EV X b ρ (.Call (.Name x ps) (e :: es) [] cp) p := fun σ H L Q l hh k =>
  ⟨_, pe_callTy (scl_ok _) hg hm hv (wa_pa _) hn hdb he hpl, h σ H L _ l hh fun rs ρ' vs H' ⟨rr, ho, hk⟩ l' lv hh' => ⟨rr, ho, hk vs H' _ _ lv hh' fun r v H2 hp hh2 => k r ρ' v H2 hp l' hh2⟩⟩
theorem ev_ix (hs : PlainIx e2) (h : EV X b ρ e1 fun r1 ρ1 => EV X b ρ1 e2 fun r2 ρ2 => IV X b r1 r2 fun r => p r ρ2) : EV X b ρ (.Subscript e1 e2 pos) p := fun σ H L Q l hh q =>
  ⟨_, pe_ix six_ok (we_pe e1) (we_pe e2) hs, h σ H L _ l hh fun r1 ρ1 v1 H1 h1 l1 hh1 => h1 σ H1 ((some v1, r1) :: L) _ l1 (hh1.perm perm_in.symm) fun r2 ρ2 v2 H2 h2 l2 hh2 => h2.go hh2 fun r v H' hp hh' => q r ρ2 v H' hp l2 hh'⟩
end

end DE

namespace DE
open PySem PySem.Spec PyProof.Rows L2 SZ VR VX StX RT
section
variable {X : Cx} {b : Bs} {ρ : List Sl} {p : Sl → Prop}
/-! ### operations on data -/
theorem ov_int {f : Value → Value → Sem Value} {g : Int → Int → Int} {i j : Int} (ho : OpR X f (rI0 fun i j => .int (g i j))) (h : p (.d (.int (g i j)))) : OV X b f (.d (.int i)) (.d (.int j)) p := ⟨_, ho, fun v1 v2 H L Q hh k => by
  have e1 := hh.isI
  have e2 := hh.drop.isI
  subst e1 e2
  exact ⟨i, j, rfl, rfl, k _ _ H h (hh.drop.drop.int _)⟩⟩
theorem ov_intC {f : Value → Value → Sem Value} {C : Int → Int → Prop} {g : Int → Int → Int} {i j : Int} (ho : OpR X f (rI C fun i j => .int (g i j))) (hc : C i j) (h : p (.d (.int (g i j)))) : OV X b f (.d (.int i)) (.d (.int j)) p := ⟨_, ho, fun v1 v2 H L Q hh k => by
  have e1 := hh.isI
  have e2 := hh.drop.isI
  subst e1 e2
  exact ⟨i, j, rfl, rfl, hc, k _ _ H h (hh.drop.drop.int _)⟩⟩
theorem ov_intB {f : Value → Value → Sem Value} {g : Int → Int → Bool} {i j : Int} (ho : OpR X f (rI0 fun i j => .bl (g i j))) (h : p (.d (.bool (g i j)))) : OV X b f (.d (.int i)) (.d (.int j)) p := ⟨_, ho, fun v1 v2 H L Q hh k => by
  have e1 := hh.isI
  have e2 := hh.drop.isI
  subst e1 e2
  exact ⟨i, j, rfl, rfl, k _ _ H h (hh.drop.drop.bl _)⟩⟩
theorem ov_add {i j : Int} (h : p (.d (.int (i + j)))) : OV X b (binaryOp .Add) (.d (.int i)) (.d (.int j)) p := ov_int (g := fun i j => i + j) op_add h
theorem ov_sub {i j : Int} (h : p (.d (.int (i - j)))) : OV X b (binaryOp .Sub) (.d (.int i)) (.d (.int j)) p := ov_int (g := fun i j => i - j) op_sub h
theorem ov_mul {i j : Int} (hc : CMul i j) (h : p (.d (.int (i * j)))) : OV X b (binaryOp .Mult) (.d (.int i)) (.d (.int j)) p := ov_intC (g := fun i j => i * j) op_mul hc h
theorem ov_mod {i j : Int} (hc : 0 < j) (h : p (.d (.int (i % j)))) : OV X b (binaryOp .Mod) (.d (.int i)) (.d (.int j)) p := ov_intC (g := fun i j => i % j) op_mod hc h
theorem ov_fdiv {i j : Int} (hc : CDiv i j) (h : p (.d (.int (i / j)))) : OV X b (binaryOp .FloorDiv) (.d (.int i)) (.d (.int j)) p := ov_intC (g := fun i j => i / j) op_fdiv hc h
theorem ov_lt {i j : Int} (h : p (.d (.bool (decide (i < j))))) : OV X b (compareOp .Lt) (.d (.int i)) (.d (.int j)) p := ov_intB (g := fun i j => decide (i < j)) op_lt h
theorem ov_le {i j : Int} (h : p (.d (.bool (decide (i ≤ j))))) : OV X b (compareOp .LtE) (.d (.int i)) (.d (.int j)) p := ov_intB (g := fun i j => decide (i ≤ j)) op_le h
theorem ov_gt {i j : Int} (h : p (.d (.bool (decide (j < i))))) : OV X b (compareOp .Gt) (.d (.int i)) (.d (.int j)) p := ov_intB (g := fun i j => decide (j < i)) op_gt h
theorem ov_ge {i j : Int} (h : p (.d (.bool (decide (j ≤ i))))) : OV X b (compareOp .GtE) (.d (.int i)) (.d (.int j)) p := ov_intB (g := fun i j => decide (j ≤ i)) op_ge h
def sdat : PyData → Option V
  | .none => some .non
  | .bool c => some (.bl c)
  | .int i => some (.int i)
  | .str x => some (.str x)
  | _ => none
theorem dp_sdat {K : PySem.W.Frag} {H : Hp} {v u : V} {y : PyData} (h : Dp K H v y) (e : sdat y = some u) : v = u := by
  cases h <;> simp [sdat] at e <;> exact e
theorem ov_eqS {y z : PyData} {u w : V} (hy : sdat y = some u) (hz : sdat z = some w) (hs : scal u w = true) (h : p (.d (.bool (decide (u = w))))) : OV X b (compareOp .Eq) (.d y) (.d z) p := ⟨_, op_eq, fun v1 v2 H L Q hh k => by
  have e1 := dp_sdat hh.dp hy
  have e2 := dp_sdat hh.drop.dp hz
  subst e1 e2
  exact ⟨hs, k _ _ H h (hh.drop.drop.bl _)⟩⟩
theorem ov_neS {y z : PyData} {u w : V} (hy : sdat y = some u) (hz : sdat z = some w) (hs : scal u w = true) (h : p (.d (.bool (!decide (u = w))))) : OV X b (compareOp .NotEq) (.d y) (.d z) p := ⟨_, op_ne, fun v1 v2 H L Q hh k => by
  have e1 := dp_sdat hh.dp hy
  have e2 := dp_sdat hh.drop.dp hz
  subst e1 e2
  exact ⟨hs, k _ _ H h (hh.drop.drop.bl _)⟩⟩
theorem dec_vstr {x y : Str} : decide (V.str x = V.str y) = decide (x = y) := by
  by_cases h : x = y
  · subst h; simp
  · rw [decide_eq_false h]; exact decide_eq_false fun e => h (V.str.inj e)
theorem dec_vint {x y : Int} : decide (V.int x = V.int y) = decide (x = y) := by
  by_cases h : x = y
  · subst h; simp
  · rw [decide_eq_false h]; exact decide_eq_false fun e => h (V.int.inj e)
theorem ov_eqStr {x y : Str} (h : p (.d (.bool (decide (x = y))))) : OV X b (compareOp .Eq) (.d (.str x)) (.d (.str y)) p := ov_eqS rfl rfl rfl (by rw [dec_vstr]; exact h)
theorem ov_neStr {x y : Str} (h : p (.d (.bool (!decide (x = y))))) : OV X b (compareOp .NotEq) (.d (.str x)) (.d (.str y)) p := ov_neS rfl rfl rfl (by rw [dec_vstr]; exact h)
theorem ov_eqInt {x y : Int} (h : p (.d (.bool (decide (x = y))))) : OV X b (compareOp .Eq) (.d (.int x)) (.d (.int y)) p := ov_eqS rfl rfl rfl (by rw [dec_vint]; exact h)
theorem ov_neInt {x y : Int} (h : p (.d (.bool (!decide (x = y))))) : OV X b (compareOp .NotEq) (.d (.int x)) (.d (.int y)) p := ov_neS rfl rfl rfl (by rw [dec_vint]; exact h)
/-- == of data at any depth -/
theorem ov_eqD {y z : PyData} (hu : X.A.units + 64 < cLine) (hy : SeqAt.shaped y = true) (hz : SeqAt.shaped z = true) (h : p (.d (.bool (PyData.eqv y z)))) : OV X b (compareOp .Eq) (.d y) (.d z) p := ⟨_, op_eqD hu, fun v1 v2 H L Q hh k => ⟨y, z, hh.dp, hh.drop.dp, hy, hz, k _ _ H h (hh.drop.drop.bl _)⟩⟩
theorem ov_neD {y z : PyData} (hu : X.A.units + 64 < cLine) (hy : SeqAt.shaped y = true) (hz : SeqAt.shaped z = true) (h : p (.d (.bool (!PyData.eqv y z)))) : OV X b (compareOp .NotEq) (.d y) (.d z) p := ⟨_, op_neD hu, fun v1 v2 H L Q hh k => ⟨y, z, hh.dp, hh.drop.dp, hy, hz, k _ _ H h (hh.drop.drop.bl _)⟩⟩
def isNon : PyData → Bool
  | .none => true
  | _ => false
theorem dp_non {K : PySem.W.Frag} {H : Hp} {v : V} {y : PyData} (h : Dp K H v y) : decide (v = .non) = isNon y := by
  cases h <;> simp [isNon]
theorem ov_isN {y : PyData} (h : p (.d (.bool (isNon y)))) : OV X b (compareOp .Is) (.d y) (.d .none) p := ⟨_, op_isN, fun v1 v2 H L Q hh k => by
  refine ⟨hh.drop.isN, ?_⟩
  rw [dp_non hh.dp]
  exact k _ _ H h (hh.drop.drop.bl _)⟩
theorem ov_notN {y : PyData} (h : p (.d (.bool (!isNon y)))) : OV X b (compareOp .IsNot) (.d y) (.d .none) p := ⟨_, op_notN, fun v1 v2 H L Q hh k => by
  refine ⟨hh.drop.isN, ?_⟩
  rw [dp_non hh.dp]
  exact k _ _ H h (hh.drop.drop.bl _)⟩
theorem ov_addS {x y : Str} (hz : x.length + y.length ≤ sizeLine) (h : p (.d (.str (x ++ y)))) : OV X b (binaryOp .Add) (.d (.str x)) (.d (.str y)) p := ⟨_, op_add_str, fun v1 v2 H L Q hh k => by
  have e1 := hh.isS
  have e2 := hh.drop.isS
  subst e1 e2
  exact ⟨x, y, rfl, rfl, hz, k _ _ H h (hh.drop.drop.str _)⟩⟩
/-- texts among texts -/
theorem dp_strs {K : PySem.W.Frag} {G : Hp} : ∀ {xs : List V} {ys : List Str}, DpAll K G xs (ys.map .str) → xs = ys.map .str
  | [], [], _ => rfl
  | [], _ :: _, h => by cases h
  | _ :: _, [], h => by cases h
  | x :: xs, y :: ys, h => by
    cases h with
    | cons h1 h2 =>
      cases h1
      rw [dp_strs h2, List.map_cons]
theorem HoldG.seq {K : PySem.W.Frag} {G H : Hp} {v : V} {y : PyData} {L : List Cl} (h : HoldG K b G H ((some v, .d y) :: L)) : Dp K G v y := by
  obtain ⟨v', e, hd⟩ := h.data
  cases e
  exact hd
theorem ov_inS {x : Str} {ys : List Str} {y : PyData} (hy : y = .tuple (ys.map .str) ∨ y = .list (ys.map .str)) (h : p (.d (.bool (ys.contains x)))) : OV X b (compareOp .In) (.d (.str x)) (.d y) p := ⟨_, op_in_seq, fun v1 v2 H L Q hh k => by
  have e1 := hh.isS
  subst e1
  have hd := hh.drop.dp
  rcases hy with rfl | rfl
  · cases hd with
    | tup h1 h2 =>
      have e := dp_strs h2
      subst e
      refine ⟨_, _, rfl, .inr h1, rfl, strFlat _, ?_⟩
      rw [strIn]
      exact k _ _ H h (hh.drop.drop.bl _)
  · cases hd with
    | lst h1 h2 =>
      have e := dp_strs h2
      subst e
      refine ⟨_, _, rfl, .inl h1, rfl, strFlat _, ?_⟩
      rw [strIn]
      exact k _ _ H h (hh.drop.drop.bl _)⟩
theorem ov_notInS {x : Str} {ys : List Str} {y : PyData} (hy : y = .tuple (ys.map .str) ∨ y = .list (ys.map .str)) (h : p (.d (.bool (!ys.contains x)))) : OV X b (compareOp .NotIn) (.d (.str x)) (.d y) p := ⟨_, op_notIn_seq, fun v1 v2 H L Q hh k => by
  have e1 := hh.isS
  subst e1
  have hd := hh.drop.dp
  rcases hy with rfl | rfl
  · cases hd with
    | tup h1 h2 =>
      have e := dp_strs h2
      subst e
      refine ⟨_, _, rfl, .inr h1, rfl, strFlat _, ?_⟩
      rw [strIn]
      exact k _ _ H h (hh.drop.drop.bl _)
  · cases hd with
    | lst h1 h2 =>
      have e := dp_strs h2
      subst e
      refine ⟨_, _, rfl, .inl h1, rfl, strFlat _, ?_⟩
      rw [strIn]
      exact k _ _ H h (hh.drop.drop.bl _)⟩
/-! ### lists: + of two, * n -/
theorem Hold.ref {H : Hp} {v : V} {ys : List PyData} {L : List Cl} {K : PySem.W.Frag} (h : Hold K b H ((some v, .own ys) :: L)) : ∃ p vs, v = .ref p ∧ H p = some (.lst vs) ∧ vs.length = ys.length := by
  obtain ⟨G, hg⟩ := h
  obtain ⟨p, vs, e, _, _, h3, h4⟩ := hg.ok _ List.mem_cons_self
  cases e
  exact ⟨p, vs, rfl, h3, DpAll.len h4⟩
theorem ov_cat {xs ys : List PyData} (hz : xs.length + ys.length ≤ sizeLine) (h : p (.own (xs ++ ys))) : OV X b (binaryOp .Add) (.own xs) (.own ys) p := ⟨_, op_cat, fun v1 v2 H L Q hh k => by
  obtain ⟨G, hg⟩ := hh
  obtain ⟨l1, us, e1, _, _, h1, d1⟩ := hg.ok _ List.mem_cons_self
  obtain ⟨l2, vs, e2, _, _, h2, d2⟩ := hg.drop.ok _ List.mem_cons_self
  cases e1
  cases e2
  exact ⟨l1, l2, us, vs, rfl, rfl, h1, h2, by rw [DpAll.len d1, DpAll.len d2]; exact hz, fun q hq => k _ _ _ h ⟨G, hg.drop.drop.newL hq (DpAll.app d1 d2)⟩⟩⟩
/-! ### items -/
theorem dp_at {K : PySem.W.Frag} {G : Hp} {xs : List V} {ys : List PyData} {i : Int} {y : PyData} (h : DpAll K G xs ys) (e : atI ys i = some y) : ∃ x, atI xs i = some x ∧ Dp K G x y := by
  unfold atI at e ⊢
  rw [DpAll.len h]
  cases hk : ixN ys.length i with
  | none => rw [hk] at e; cases e
  | some k =>
    rw [hk] at e
    have hl : k < xs.length := by rw [DpAll.len h]; exact (List.getElem?_eq_some_iff.mp e).1
    obtain ⟨d, e1, hd⟩ := DpAll.at h (List.getElem?_eq_getElem hl)
    have e : ys[k]? = some y := e
    rw [e1] at e
    cases e
    exact ⟨_, List.getElem?_eq_getElem hl, hd⟩
theorem iv_tup {ys : List PyData} {i : Int} {y : PyData} (hi : atI ys i = some y) (h : p (.d y)) : IV X b (.d (.tuple ys)) (.d (.int i)) p := ⟨_, ix_tup, fun v1 v2 H L Q hh k => by
  have e2 := hh.drop.isI
  subst e2
  obtain ⟨G, hg⟩ := hh
  cases hg.seq with
  | tup h1 h2 =>
    obtain ⟨x, ex, hx⟩ := dp_at h2 hi
    exact ⟨_, _, _, _, rfl, rfl, hg.up.tup h1, ex, k _ _ H h ⟨G, hg.drop.drop.add hx⟩⟩⟩
theorem iv_lst {ys : List PyData} {i : Int} {y : PyData} (hi : atI ys i = some y) (h : p (.d y)) : IV X b (.d (.list ys)) (.d (.int i)) p := ⟨_, ix_list, fun v1 v2 H L Q hh k => by
  have e2 := hh.drop.isI
  subst e2
  obtain ⟨G, hg⟩ := hh
  cases hg.seq with
  | lst h1 h2 =>
    obtain ⟨x, ex, hx⟩ := dp_at h2 hi
    exact ⟨_, _, _, _, rfl, rfl, hg.up.seq h1, ex, k _ _ H h ⟨G, hg.drop.drop.add hx⟩⟩⟩
theorem iv_own {ys : List PyData} {i : Int} {y : PyData} (hi : atI ys i = some y) (h : p (.d y)) : IV X b (.own ys) (.d (.int i)) p := ⟨_, ix_list, fun v1 v2 H L Q hh k => by
  have e2 := hh.drop.isI
  subst e2
  obtain ⟨G, hg⟩ := hh
  obtain ⟨l1, us, e1, _, _, h1, d1⟩ := hg.ok _ List.mem_cons_self
  cases e1
  obtain ⟨x, ex, hx⟩ := dp_at d1 hi
  exact ⟨_, _, _, _, rfl, rfl, .of h1, ex, k _ _ H h ⟨G, hg.drop.drop.add hx⟩⟩⟩
theorem iv_str {x : Str} {i : Int} {c : Nat} (hz : x.length ≤ sizeLine) (hi : atI x.cps.toList i = some c) (h : p (.d (.str ⟨#[c]⟩))) : IV X b (.d (.str x)) (.d (.int i)) p := ⟨_, ix_str, fun v1 v2 H L Q hh k => by
  have e1 := hh.isS
  have e2 := hh.drop.isI
  subst e1 e2
  exact ⟨x, i, c, rfl, rfl, hz, hi, k _ _ H h (hh.drop.drop.str _)⟩⟩
/-! ### built-ins -/
theorem one_in {rs : List Sl} {vs : List V} {r : Sl} (lv : vs.length = [r].length) : ∃ v, vs = [v] := List.length_eq_one_iff.mp (by simpa using lv)
theorem cv_lenT {ys : List PyData} (h : p (.d (.int ys.length))) : CV X b (.builtin "len") [.d (.tuple ys)] p := ⟨_, call_len_seq, fun vs H L Q lv hh k => by
  obtain ⟨v, rfl⟩ := one_in (rs := []) lv
  cases Hold.dp (show Hold X.K b H ((some v, .d (.tuple ys)) :: L) from hh) with
  | tup h1 h2 =>
    refine ⟨_, _, rfl, .inr h1, ?_⟩
    rw [DpAll.len h2]
    exact k _ _ H h (Hold.int (Hold.drop (show Hold X.K b H ((some (.ref _), .d (.tuple ys)) :: L) from hh)) _)⟩
theorem cv_lenL {ys : List PyData} (h : p (.d (.int ys.length))) : CV X b (.builtin "len") [.d (.list ys)] p := ⟨_, call_len_seq, fun vs H L Q lv hh k => by
  obtain ⟨v, rfl⟩ := one_in (rs := []) lv
  cases Hold.dp (show Hold X.K b H ((some v, .d (.list ys)) :: L) from hh) with
  | lst h1 h2 =>
    refine ⟨_, _, rfl, .inl h1, ?_⟩
    rw [DpAll.len h2]
    exact k _ _ H h (Hold.int (Hold.drop (show Hold X.K b H ((some (.ref _), .d (.list ys)) :: L) from hh)) _)⟩
theorem cv_lenO {ys : List PyData} (h : p (.d (.int ys.length))) : CV X b (.builtin "len") [.own ys] p := ⟨_, call_len_seq, fun vs H L Q lv hh k => by
  obtain ⟨v, rfl⟩ := one_in (rs := []) lv
  have hh : Hold X.K b H ((some v, .own ys) :: L) := hh
  obtain ⟨q, us, rfl, h1, h2⟩ := hh.ref
  refine ⟨_, _, rfl, .inl (.of h1), ?_⟩
  rw [h2]
  exact k _ _ H h (hh.drop.int _)⟩
theorem cv_lenS {x : Str} (hz : x.length ≤ sizeLine) (h : p (.d (.int x.length))) : CV X b (.builtin "len") [.d (.str x)] p := ⟨_, call_len_str, fun vs H L Q lv hh k => by
  obtain ⟨v, rfl⟩ := one_in (rs := []) lv
  have hh : Hold X.K b H ((some v, .d (.str x)) :: L) := hh
  have e := hh.isS
  subst e
  exact ⟨x, rfl, hz, k _ _ H h (hh.drop.int _)⟩⟩
theorem cv_int {i : Int} (h : p (.d (.int i))) : CV X b (.type "int") [.d (.int i)] p := ⟨_, call_int1, fun vs H L Q lv hh k => by
  obtain ⟨v, rfl⟩ := one_in (rs := []) lv
  have hh : Hold X.K b H ((some v, .d (.int i)) :: L) := hh
  have e := hh.isI
  subst e
  exact .inl ⟨i, rfl, k _ _ H h (hh.drop.int _)⟩⟩
theorem cv_intB {i : Bool} (h : p (.d (.int (if i then 1 else 0)))) : CV X b (.type "int") [.d (.bool i)] p := ⟨_, call_int1, fun vs H L Q lv hh k => by
  obtain ⟨v, rfl⟩ := one_in (rs := []) lv
  have hh : Hold X.K b H ((some v, .d (.bool i)) :: L) := hh
  have e := hh.isB
  subst e
  exact .inr ⟨i, rfl, k _ _ H h (hh.drop.int _)⟩⟩
theorem cv_strI {i : Int} (hz : i.natAbs.log2 < 1920) (h : p (.d (.str (toString i)))) : CV X b (.type "str") [.d (.int i)] p := ⟨_, call_str_int, fun vs H L Q lv hh k => by
  obtain ⟨v, rfl⟩ := one_in (rs := []) lv
  have hh : Hold X.K b H ((some v, .d (.int i)) :: L) := hh
  have e := hh.isI
  subst e
  exact ⟨i, rfl, hz, k _ _ H h (hh.drop.str _)⟩⟩
theorem cv_tupL {ys : List PyData} (h : p (.d (.tuple ys))) : CV X b (.type "tuple") [.d (.list ys)] p := ⟨_, call_tuple_of, fun vs H L Q lv hh k => by
  obtain ⟨v, rfl⟩ := one_in (rs := []) lv
  have hh : Hold X.K b H ((some v, .d (.list ys)) :: L) := hh
  obtain ⟨G, hg⟩ := hh
  cases hg.seq with
  | lst h1 h2 => exact ⟨_, _, rfl, .inl ⟨hg.up.seq h1, fun q hq => k _ _ _ h ⟨_, hg.drop.newT hq h2⟩⟩⟩⟩
theorem cv_tupO {ys : List PyData} (h : p (.d (.tuple ys))) : CV X b (.type "tuple") [.own ys] p := ⟨_, call_tuple_of, fun vs H L Q lv hh k => by
  obtain ⟨v, rfl⟩ := one_in (rs := []) lv
  have hh : Hold X.K b H ((some v, .own ys) :: L) := hh
  obtain ⟨G, hg⟩ := hh
  obtain ⟨l1, us, e1, _, _, h1, d1⟩ := hg.ok _ List.mem_cons_self
  cases e1
  exact ⟨_, _, rfl, .inl ⟨.of h1, fun q hq => k _ _ _ h ⟨_, hg.drop.newT hq d1⟩⟩⟩⟩
theorem cv_lstL {ys : List PyData} (h : p (.own ys)) : CV X b (.type "list") [.d (.list ys)] p := ⟨_, call_list_of, fun vs H L Q lv hh k => by
  obtain ⟨v, rfl⟩ := one_in (rs := []) lv
  have hh : Hold X.K b H ((some v, .d (.list ys)) :: L) := hh
  obtain ⟨G, hg⟩ := hh
  cases hg.seq with
  | lst h1 h2 => exact ⟨_, _, rfl, .inl (hg.up.seq h1), fun q hq => k _ _ _ h ⟨_, hg.drop.newL hq h2⟩⟩⟩
theorem dp_bools {K : PySem.W.Frag} {G : Hp} : ∀ {xs : List V} {ys : List Bool}, DpAll K G xs (ys.map .bool) → xs = ys.map .bl
  | [], [], _ => rfl
  | [], _ :: _, h => by cases h
  | _ :: _, [], h => by cases h
  | x :: xs, y :: ys, h => by
    cases h with
    | cons h1 h2 =>
      cases h1
      rw [dp_bools h2, List.map_cons]
theorem cv_all (hc : X.calm = true) {bs : List Bool} (h : p (.d (.bool (bs.all id)))) : CV X b (.builtin "all") [.own (bs.map .bool)] p := ⟨_, cr_all hc, fun vs H L Q lv hh k => by
  obtain ⟨v, rfl⟩ := one_in (rs := []) lv
  have hh : Hold X.K b H ((some v, .own (bs.map .bool)) :: L) := hh
  obtain ⟨G, hg⟩ := hh
  obtain ⟨l1, us, e1, _, _, h1, d1⟩ := hg.ok _ List.mem_cons_self
  cases e1
  have e := dp_bools d1
  subst e
  exact ⟨_, bs, rfl, .of h1, k _ _ _ h ⟨G, hg.drop.add (.bl _)⟩⟩⟩
theorem cv_any (hc : X.calm = true) {bs : List Bool} (h : p (.d (.bool (bs.any id)))) : CV X b (.builtin "any") [.own (bs.map .bool)] p := ⟨_, cr_any hc, fun vs H L Q lv hh k => by
  obtain ⟨v, rfl⟩ := one_in (rs := []) lv
  have hh : Hold X.K b H ((some v, .own (bs.map .bool)) :: L) := hh
  obtain ⟨G, hg⟩ := hh
  obtain ⟨l1, us, e1, _, _, h1, d1⟩ := hg.ok _ List.mem_cons_self
  cases e1
  have e := dp_bools d1
  subst e
  exact ⟨_, bs, rfl, .of h1, k _ _ _ h ⟨G, hg.drop.add (.bl _)⟩⟩⟩
/-- x[k:l] of a text -/
def subTy (a t : String) : Bool := a == t || (a == "bool" && t == "int")
theorem kit_d {K : PySem.W.Frag} {t : String} (ht : t = "int" ∨ t = "bool" ∨ t = "str" ∨ t = "tuple" ∨ t = "list" ∨ t = "dict") (y : PyData) : PySem.W.kitOne K (.type (tyD y)) (.type t) = some (subTy (tyD y) t) := by
  rcases ht with rfl | rfl | rfl | rfl | rfl | rfl <;> cases y <;> dsimp only [tyD] <;> exact kit_ty (by decide +kernel)
theorem ev_isi {e : Expr} {t : String} {x : Str} {p : Sl → List Sl → Prop} {ps cp pn : Pos} (hg : Gl X "isinstance") (hm : X.mg "isinstance" = none) (hgt : Gl X x) (hmt : X.mg x = none) (hv : bootBuiltins x = some (.type t)) (ht : t = "int" ∨ t = "bool" ∨ t = "str" ∨ t = "tuple" ∨ t = "list" ∨ t = "dict")
    (h : EV X b ρ e fun r ρ' => ∃ y, r = .d y ∧ p (.d (.bool (subTy (tyD y) t))) ρ') (hn : x ≠ "__name__" := by decide) (hd : (x == ("__debug__" : Str)) = false := by decide) (he : starEach [e, .Name x pn] X.env = (false, eval e X.env) :: starEach [.Name x pn] X.env := by rfl) (hpl : (backTo cp (starEach [.Name x pn] X.env)).any (·.1) = false := by rfl) :
    EV X b ρ (.Call (.Name "isinstance" ps) [e, .Name x pn] [] cp) p := fun σ H L Q l hh k =>
  ⟨_, pe_callB call_isi hg hm (by decide +kernel) (pa_cons (we_pe e) (pa_cons (pe_bltn hgt hmt (u := .type t) (v := .ty t) hv rfl hn hd) pa_nil) he) (by decide) (by decide) he hpl, h σ H L _ l hh fun r ρ' v H' ⟨y, er, hp⟩ l' hh' => by
    subst er
    exact ⟨v, .ty t, .type (tyD y), .type t, subTy (tyD y) t, rfl, .ty _, dp_ty hh'.dp, kit_d ht y, k _ ρ' _ H' hp l' (hh'.drop.bl _)⟩⟩
end

end DE

namespace DE
open PySem PySem.Spec PyProof.Rows L2 SZ VR VX StX RT
/-! ### statements -/
structure Po where
  nx : List Sl → Prop
  rt : Sl → List Sl → Prop
  bk : List Sl → Prop
  ct : List Sl → Prop
structure PoOk (X : Cx) (b : Bs) (L : List Cl) (p : Po) (D : Ends) (n : Nat) : Prop where
  nx : ∀ ρ' σ' H', p.nx ρ' → σ'.length = ρ'.length → ρ'.length = n → Hold X.K b H' (σ'.zip ρ' ++ L) → D.nx σ' H'
  rt : ∀ r ρ' v (σ' : L2.St) H', p.rt r ρ' → σ'.length = ρ'.length → ρ'.length = n → Hold X.K b H' ((some v, r) :: (σ'.zip ρ' ++ L)) → D.rt v H'
  bk : ∀ ρ' σ' H', p.bk ρ' → σ'.length = ρ'.length → ρ'.length = n → Hold X.K b H' (σ'.zip ρ' ++ L) → D.bk σ' H'
  ct : ∀ ρ' σ' H', p.ct ρ' → σ'.length = ρ'.length → ρ'.length = n → Hold X.K b H' (σ'.zip ρ' ++ L) → D.ct σ' H'
def XS (X : Cx) (b : Bs) (ρ : List Sl) (st : Stmt) (p : Po) : Prop := ∀ σ H L D, σ.length = ρ.length → Hold X.K b H (σ.zip ρ ++ L) → PoOk X b L p D ρ.length → WS X st D σ H
def XB (X : Cx) (b : Bs) (ρ : List Sl) (st : List Stmt) (p : Po) : Prop := ∀ σ H L D, σ.length = ρ.length → Hold X.K b H (σ.zip ρ ++ L) → PoOk X b L p D ρ.length → WSs X st D σ H
/-- a store: ts the slots that may change -/
def EG (X : Cx) (b : Bs) (ts : List Nat) (ρ : List Sl) (tg : Expr) (r : Sl) (p : List Sl → Prop) : Prop := ∀ σ H L v Q, σ.length = ρ.length → Hold X.K b H ((some v, r) :: (σ.zip ρ ++ L)) →
  (∀ ρ' σ' H', p ρ' → σ'.length = ρ'.length → ρ'.length = ρ.length → L2.wipe σ' ts = L2.wipe σ ts → Hold X.K b H' (σ'.zip ρ' ++ L) → Q σ' H') → WG X tg v σ H Q
def EGs (X : Cx) (b : Bs) (ts : List Nat) (ρ : List Sl) (tg : List Expr) (rs : List Sl) (p : List Sl → Prop) : Prop := ∀ σ H L vs Q, σ.length = ρ.length → vs.length = rs.length → Hold X.K b H ((vs.map some).zip rs ++ (σ.zip ρ ++ L)) →
  (∀ ρ' σ' H', p ρ' → σ'.length = ρ'.length → ρ'.length = ρ.length → L2.wipe σ' ts = L2.wipe σ ts → Hold X.K b H' (σ'.zip ρ' ++ L) → Q σ' H') → WGs X tg vs σ H Q
section
variable {X : Cx} {b : Bs} {ρ : List Sl} {p : Po} {e e1 e2 : Expr} {rest : List Stmt} {st : Stmt} {pos : Pos}
theorem xb_nil (h : p.nx ρ) : XB X b ρ [] p := fun σ H L D l hh k => ⟨_, pss_nil, k.nx ρ σ H h l rfl hh⟩
theorem xb_cons (h : XS X b ρ st { p with nx := fun ρ' => ρ'.length = ρ.length → XB X b ρ' rest p }) : XB X b ρ (st :: rest) p := fun σ H L D l hh k =>
  ⟨_, pss_cons (ws_ps st) (wss_pss rest), h σ H L { D with nx := WSs X rest D } l hh ⟨fun ρ' σ' H' h1 l' n' hh' => h1 n' σ' H' L D l' hh' (by rw [n']; exact k), k.rt, k.bk, k.ct⟩⟩
theorem xb_one (h : XS X b ρ st p) : XB X b ρ [st] p := fun σ H L D l hh k => ⟨_, pss_one (ws_ps st), h σ H L D l hh k⟩
theorem xs_ret (h : EV X b ρ e fun r ρ' => ρ'.length = ρ.length → p.rt r ρ') : XS X b ρ (.Return (some e) pos) p := fun σ H L D l hh k => ⟨_, ps_ret (we_pe e), h σ H L _ l hh fun r ρ' v H' hp l' hh' => k.rt r ρ' v σ H' (hp (l'.symm.trans l)) l' (l'.symm.trans l) hh'⟩
theorem xs_retN (h : p.rt (.d .none) ρ) : XS X b ρ (.Return none pos) p := fun σ H L D l hh k => ⟨_, ps_retN, k.rt _ ρ .non σ H h l rfl hh.non⟩
theorem xs_pass (h : p.nx ρ) : XS X b ρ (.Pass pos) p := fun σ H L D l hh k => ⟨_, ps_pass, k.nx ρ σ H h l rfl hh⟩
theorem xs_break (h : p.bk ρ) : XS X b ρ (.Break pos) p := fun σ H L D l hh k => ⟨_, ps_break, k.bk ρ σ H h l rfl hh⟩
theorem xs_cont (h : p.ct ρ) : XS X b ρ (.Continue pos) p := fun σ H L D l hh k => ⟨_, ps_continue, k.ct ρ σ H h l rfl hh⟩
theorem xs_drop (hs : swapsWith e none pos.line X.env = pure false := by rfl) (h : EV X b ρ e fun _ ρ' => ρ'.length = ρ.length → p.nx ρ') : XS X b ρ (.Expr e pos) p := fun σ H L D l hh k => ⟨_, ps_expr (we_pe e) hs, h σ H L _ l hh fun r ρ' v H' hp l' hh' => k.nx ρ' σ H' (hp (l'.symm.trans l)) l' (l'.symm.trans l) hh'.drop⟩
theorem xs_if {c : Expr} {s1 s2 : List Stmt} (h : ET X b ρ c fun t ρ' => ρ'.length = ρ.length → (t = true → XB X b ρ' s1 p) ∧ (t = false → XB X b ρ' s2 p)) : XS X b ρ (.If c s1 s2 pos) p := fun σ H L D l hh k =>
  ⟨_, ps_if (wt_pt c) (wss_pss s1) (wss_pss s2), h σ H L _ l hh fun t ρ' H' hp l' hh' => by
    have n' := l'.symm.trans l
    obtain ⟨h1, h2⟩ := hp n'
    cases t with
    | true => exact h1 rfl σ H' L D l' hh' (by rw [n']; exact k)
    | false => exact h2 rfl σ H' L D l' hh' (by rw [n']; exact k)⟩
/-! ### stores -/
theorem wipe_set {σ : L2.St} {i : Nat} {x : Option V} : ∀ {ts : List Nat}, i ∈ ts → L2.wipe (σ.set i x) ts = L2.wipe σ ts
  | t :: ts, h => by
    unfold L2.wipe
    by_cases hi : i ∈ ts
    · rw [wipe_set hi]
    · have ht : i = t := by
        rcases List.mem_cons.mp h with h | h
        · exact h
        · exact absurd h hi
      subst ht
      have : L2.wipe (σ.set i x) ts = (L2.wipe σ ts).set i x := by
        clear h
        induction ts with
        | nil => rfl
        | cons u ts ih =>
          have hu : i ≠ u := fun e => hi (by rw [e]; exact List.mem_cons_self)
          unfold L2.wipe
          rw [ih (fun z => hi (List.mem_cons_of_mem _ z)), List.set_comm _ _ hu]
      rw [this, List.set_set]
theorem zip_set {σ : L2.St} : ∀ {ρ : List Sl} {i : Nat} {r : Sl} {x : Option V}, i < ρ.length → σ.length = ρ.length → ∃ c M, (σ.zip ρ).Perm (c :: M) ∧ ((σ.set i x).zip (ρ.set i r)).Perm ((x, r) :: M) := by
  intro ρ i r x hi l
  have h1 : ρ[i]? = some ρ[i] := List.getElem?_eq_getElem hi
  have h2 : σ[i]? = some σ[i] := List.getElem?_eq_getElem (by omega)
  obtain ⟨M, p1, _⟩ := set_perm (s' := r) h1 h2
  refine ⟨_, M, p1, ?_⟩
  clear h1 h2
  have : ∀ (σ : L2.St) (ρ : List Sl) (i : Nat) (hi : i < ρ.length) (hs : i < σ.length) (M : List Cl), (σ.zip ρ).Perm ((σ[i], ρ[i]) :: M) → ((σ.set i x).zip (ρ.set i r)).Perm ((x, r) :: M) := by
    intro σ
    induction σ with
    | nil => intro ρ i _ hs; simp at hs
    | cons y σ ih =>
      intro ρ i hi hs M hM
      cases ρ with
      | nil => simp at hi
      | cons z ρ =>
        cases i with
        | zero =>
          simp at hM ⊢
          exact hM
        | succ i =>
          simp only [List.getElem_cons_succ, List.zip_cons_cons, List.set_cons_succ] at hM ⊢
          have hm : (y, z) ∈ (σ[i]'(by simpa using hs), ρ[i]'(by simpa using hi)) :: M := hM.mem_iff.mp List.mem_cons_self
          obtain ⟨M1, q1, _⟩ := set_perm (σ := σ) (ρ := ρ) (s' := r) (List.getElem?_eq_getElem (by simpa using hi)) (List.getElem?_eq_getElem (by simpa using hs))
          have h3 := ih ρ i (by simpa using hi) (by simpa using hs) M1 q1
          have e1 : ((y, z) :: (σ[i]'(by simpa using hs), ρ[i]'(by simpa using hi)) :: M1).Perm ((σ[i]'(by simpa using hs), ρ[i]'(by simpa using hi)) :: M) := (List.Perm.cons _ q1.symm).trans hM
          have e2 : ((y, z) :: M1).Perm M := by
            exact ((List.Perm.swap (y, z) (σ[i]'(by simpa using hs), ρ[i]'(by simpa using hi)) M1).trans e1).cons_inv
          exact ((List.Perm.cons _ h3).trans (.swap ..)).trans (List.Perm.cons _ e2)
  exact this σ ρ i hi (by omega) M p1
theorem eg_name (i : Nat) {ts : List Nat} {r : Sl} {p : List Sl → Prop} {x : Str} (hN : X.N.Nodup) (hi : X.N[i]? = some x) (hx : Loc X.env.scope x) (hl : i < ρ.length) (ht : i ∈ ts) (h : p (ρ.set i r)) (hf : X.fn x = true ∨ X.env.scope.names.lookup x = some .local := by first | exact .inl rfl | exact .inr rfl | assumption) : EG X b ts ρ (.Name x pos) r p := fun σ H L v Q l hh k => by
  refine ⟨_, pg_name hN hi hx hf, ?_⟩
  obtain ⟨c, M, p1, p2⟩ := zip_set (r := r) (x := some v) hl l
  refine k _ _ H h (by simp [l]) (by simp) (wipe_set ht) ?_
  have h1 : Hold X.K b H (c :: ((some v, r) :: (M ++ L))) := hh.perm ((List.Perm.swap ..).trans (List.Perm.cons _ (p1.symm.append_right L)))
  exact h1.drop.perm (p2.append_right L)
theorem egs_nil {ts : List Nat} {p : List Sl → Prop} (h : p ρ) : EGs X b ts ρ [] [] p := fun σ H L vs Q l lv hh k => by
  have : vs = [] := List.length_eq_zero_iff.mp (by simpa using lv)
  subst this
  exact ⟨_, pgs_nil, rfl, k ρ σ H h l rfl rfl hh⟩
theorem egs_cons {ts : List Nat} {tg : Expr} {tgs : List Expr} {r : Sl} {rs : List Sl} {p : List Sl → Prop} (hs : (assignEach (tg :: tgs) X.env).map (·.2) = assign tg X.env :: (assignEach tgs X.env).map (·.2) := by rfl) (h : EG X b ts ρ tg r fun ρ' => ρ'.length = ρ.length → EGs X b ts ρ' tgs rs p) : EGs X b ts ρ (tg :: tgs) (r :: rs) p := fun σ H L vs Q l lv hh k => by
  cases vs with
  | nil => simp at lv
  | cons v vs =>
    refine ⟨_, pgs_cons (wg_pg tg) (wgs_pgs tgs) hs, v, vs, rfl, ?_⟩
    have hh : Hold X.K b H ((some v, r) :: (((vs.map some).zip rs) ++ (σ.zip ρ ++ L))) := hh
    refine h σ H ((vs.map some).zip rs ++ L) v _ l (hh.perm (List.Perm.cons _ ?_)) fun ρ' σ' H' h1 l' n' w' hh' => ?_
    · rw [← List.append_assoc, ← List.append_assoc]
      exact List.Perm.append_right _ List.perm_append_comm
    · refine h1 n' σ' H' L vs Q l' (by simpa using lv) (hh'.perm ?_) fun ρ2 σ2 H2 hp l2 n2 w2 hh2 => k ρ2 σ2 H2 hp l2 (n2.trans n') (w2.trans w') hh2
      rw [← List.append_assoc, ← List.append_assoc]
      exact List.Perm.append_right _ List.perm_append_comm
/-- a, b = a tuple of data -/
theorem eg_tup {ts : List Nat} {tgs : List Expr} {k0 : Nat} {ys : List PyData} {p : List Sl → Prop} (hc : X.calm = true) (hn : ys.length = tgs.length) (hna : (assignEach tgs X.env).length = tgs.length := by rfl) (hst : (assignEach tgs X.env).findIdx? (·.1) = none := by rfl) (h : EGs X b ts ρ tgs (ys.map .d) p) : EG X b ts ρ (.Tuple tgs k0 pos) (.d (.tuple ys)) p := fun σ H L v Q l hh k => by
  obtain ⟨G, hg⟩ := hh
  cases hg.seq with
  | @tup a xs _ h1 h2 =>
    refine ⟨_, pg_tup hc (wgs_pgs tgs) hna hst, a, xs, rfl, hg.up.tup h1, (DpAll.len h2).trans hn, ?_⟩
    refine h σ H L xs Q l (by rw [List.length_map]; exact DpAll.len h2) ⟨G, ?_⟩ k
    have hd := hg.drop
    clear hg h1
    have : ∀ {xs : List V} {ys : List PyData}, DpAll X.K G xs ys → HoldG X.K b G H (((xs.map some).zip (ys.map .d)) ++ (σ.zip ρ ++ L)) := by
      intro xs ys hx
      induction xs generalizing ys with
      | nil => cases hx; exact hd
      | cons x xs ih => cases hx with | cons g1 g2 => exact (ih g2).add g1
    exact this h2
theorem xs_asg {tg : Expr} {ts : List Nat} (hs : swapsWithSole [tg] e pos.line X.env = pure false := by rfl) (hw : swappedStores [tg] e X.env = pure none := by rfl) (ha : (assignEach [tg] X.env).map (·.2) = [assign tg X.env] := by rfl) (h : EV X b ρ e fun r ρ' => ρ'.length = ρ.length → EG X b ts ρ' tg r fun ρ2 => ρ2.length = ρ.length → p.nx ρ2) : XS X b ρ (.Assign [tg] e pos) p := fun σ H L D l hh k =>
  ⟨_, ps_asg (we_pe e) (wg_pg tg) hs hw ha, h σ H L _ l hh fun r ρ' v H' h1 l' hh' => h1 (l'.symm.trans l) σ H' L v _ l' hh' fun ρ2 σ2 H2 hp l2 n2 _ hh2 => k.nx ρ2 σ2 H2 (hp (n2.trans (l'.symm.trans l))) l2 (n2.trans (l'.symm.trans l)) hh2⟩
/-- name = e -/
theorem xs_set (i : Nat) {x : Str} {pos' : Pos} (hN : X.N.Nodup) (hi : X.N[i]? = some x) (hx : Loc X.env.scope x) (hl : i < ρ.length) (hs : swapsWith e (some (.Name x pos')) pos.line X.env = pure false := by rfl) (hf : X.fn x = true ∨ X.env.scope.names.lookup x = some .local := by first | exact .inl rfl | exact .inr rfl | assumption)
    (h : EV X b ρ e fun r ρ' => ρ'.length = ρ.length → p.nx (ρ'.set i r)) : XS X b ρ (.Assign [.Name x pos'] e pos) p := fun σ H L D l hh k =>
  ⟨_, ps_set hN hi hx (we_pe e) hs hf, h σ H L _ l hh fun r ρ' v H' h1 l' hh' => by
    have n' := l'.symm.trans l
    obtain ⟨c, M, p1, p2⟩ := zip_set (r := r) (x := some v) (by rw [n']; exact hl) l'
    refine k.nx _ _ H' (h1 n') (by simp [l']) (by simp [n']) ?_
    have h2 : Hold X.K b H' (c :: ((some v, r) :: (M ++ L))) := hh'.perm ((List.Perm.swap ..).trans (List.Perm.cons _ (p1.symm.append_right L)))
    exact h2.drop.perm (p2.append_right L)⟩
end

end DE

namespace DE
open PySem PySem.Spec PyProof.Rows L2 SZ VR VX StX RT
/-! ### calls of defs -/
def cool : Sl → Sl
  | .own ys => .d (.list ys)
  | s => s
def setS : Sl → List PyData → Sl
  | .own _, ys => .own ys
  | _, ys => .bor ys
section
variable {K : PySem.W.Frag} {b : Bs} {G H H' : Hp} {L : List Cl}
theorem Hold.cool {x : Option V} {s : Sl} (h : Hold K b H ((x, s) :: L)) : Hold K b H ((x, DE.cool s) :: L) := by
  cases s with
  | own ys => exact h.freeze
  | _ => exact h
theorem Hold.coolAll : ∀ {vs : List V} {rs : List Sl} {L : List Cl}, Hold K b H ((vs.map some).zip rs ++ L) → Hold K b H ((vs.map some).zip (rs.map DE.cool) ++ L)
  | [], _, _, h => by simpa using h
  | _ :: _, [], _, h => h
  | v :: vs, r :: rs, L, h => by
    have h1 : Hold K b H ((some v, r) :: ((vs.map some).zip rs ++ L)) := h
    have h2 := h1.cool.perm (L' := (vs.map some).zip rs ++ ((some v, DE.cool r) :: L)) perm_in.symm
    exact (Hold.coolAll h2).perm perm_in
/-- no list held alone -/
def flatS : Sl → Bool
  | .d _ => true
  | .fact _ _ => true
  | .un => true
  | _ => false
theorem flat_ads : ∀ {L : List Cl}, (∀ c ∈ L, flatS c.2 = true) → ads L = []
  | [], _ => rfl
  | c :: L, h => by
    rw [ads_cons, flat_ads fun d hd => h d (List.mem_cons_of_mem _ hd)]
    have := h c List.mem_cons_self
    rcases c with ⟨_ | v, s⟩
    · cases s <;> simp [ads]
    · cases s <;> first | (simp [flatS] at this; done) | (cases v <;> simp [ads])
theorem HoldG.sub0 {M : List Cl} (h : HoldG K b G H (M ++ L)) (hf : ∀ c ∈ M, flatS c.2 = true) : HoldG K ⟨G, H, []⟩ G H M :=
  ⟨Same.refl _, h.up, fun a o e => .inl e, fun a o e _ => e, fun a ha => (nomatch ha), fun c hc => by
    have ok := h.ok c (List.mem_append_left _ hc)
    have := hf c hc
    rcases c with ⟨x, s⟩
    cases s with
    | un => trivial
    | d y => exact ok
    | fact φ st => exact ok
    | own ys => exact absurd this Bool.false_ne_true
    | bor ys => exact absurd this Bool.false_ne_true, by rw [flat_ads hf]; exact List.nodup_nil, h.fl⟩
theorem HoldG.subB {M : List Cl} {a : Addr} {s : Sl} {ys : List PyData} (h : HoldG K b G H ((some (.ref a), s) :: (M ++ L))) (hs : s = .own ys ∨ s = .bor ys) (hf : ∀ c ∈ M, flatS c.2 = true) : HoldG K ⟨G, H, [a]⟩ G H ((some (.ref a), .bor ys) :: M) := by
  have h0 : G a = none ∧ ∃ vs, H a = some (.lst vs) ∧ DpAll K G vs ys := by
    have ok := h.ok _ List.mem_cons_self
    rcases hs with rfl | rfl
    · obtain ⟨q, vs, e, _, h2, h3, h4⟩ := ok; cases e; exact ⟨h2, vs, h3, h4⟩
    · obtain ⟨q, vs, e, _, h2, h3, h4⟩ := ok; cases e; exact ⟨h2, vs, h3, h4⟩
  obtain ⟨g, vs, h3, h4⟩ := h0
  have f := (HoldG.sub0 h.drop hf)
  refine ⟨Same.refl _, h.up, fun a o e => .inl e, fun a o e _ => e, fun c hc => ?_, fun c hc => ?_, ?_, h.fl⟩
  · rw [List.mem_singleton.mp hc, h3]; rfl
  · rcases List.mem_cons.mp hc with rfl | hc
    · exact ⟨a, vs, rfl, List.mem_singleton_self _, g, h3, h4⟩
    · have ok := f.ok c hc
      have := hf c hc
      rcases c with ⟨x, s⟩
      cases s with
      | un => trivial
      | d y => exact ok
      | fact φ st => exact ok
      | own ys => exact absurd this Bool.false_ne_true
      | bor ys => exact absurd this Bool.false_ne_true
  · show (a :: ads M).Nodup
    rw [flat_ads hf]
    exact List.nodup_cons.mpr ⟨by simp, List.nodup_nil⟩
/-- behind a call: what the caller holds -/
theorem HoldG.after (h : HoldG K b G H L) {r : Sl} {v : V} (k : Hold K ⟨G, H, []⟩ H' [(some v, r)]) (hr : ∀ ys, r ≠ .bor ys) : Hold K b H' ((some v, r) :: L) := by
  obtain ⟨G', k⟩ := k
  have keep : ∀ a o, H a = some o → H' a = some o := fun a o e => k.rest a o e (by simp)
  have gn : ∀ a, G a = none → (H a).isSome = true → G' a = none := fun a e hs => by
    cases q : G' a with
    | none => rfl
    | some o =>
      rcases k.new a o q with z | z
      · have z : G a = some o := z; rw [e] at z; cases z
      · have z : H a = none := z; rw [z] at hs; cases hs
  refine ⟨G', h.old.trans k.old, k.up, fun a o e => ?_, fun a o e n => keep a o (h.rest a o e n), fun a ha => ?_, fun c hc => ?_, ?_, k.fl⟩
  · rcases k.new a o e with z | z
    · exact h.new a o z
    · exact .inr (h.fresh z)
  · have := h.bs a ha
    cases q : H a with
    | none => rw [q] at this; cases this
    | some o => rw [keep a o q]; rfl
  · rcases List.mem_cons.mp hc with rfl | hc
    · have ok := k.ok _ List.mem_cons_self
      cases r with
      | un => trivial
      | d y => exact ok
      | fact φ st => exact ok
      | bor ys => exact absurd rfl (hr ys)
      | own ys => obtain ⟨q, vs, e, h1, h2, h3, h4⟩ := ok; exact ⟨q, vs, e, h.fresh h1, h2, h3, h4⟩
    · have ok := h.ok c hc
      rcases c with ⟨x, s⟩
      cases s with
      | un => trivial
      | d y => obtain ⟨v, e, z⟩ := ok; exact ⟨v, e, Dp.keep k.old z⟩
      | fact φ st => obtain ⟨v, e, z⟩ := ok; exact ⟨v, e, st _ _ _ k.old z⟩
      | own ys => obtain ⟨q, vs, e, h1, h2, h3, h4⟩ := ok; exact ⟨q, vs, e, h1, gn q h2 (by rw [h3]; rfl), keep _ _ h3, DpAll.keep k.old h4⟩
      | bor ys => obtain ⟨q, vs, e, h1, h2, h3, h4⟩ := ok; exact ⟨q, vs, e, h1, gn q h2 (by rw [h3]; rfl), keep _ _ h3, DpAll.keep k.old h4⟩
  · rw [ads_cons]
    have ok := k.ok _ List.mem_cons_self
    cases r with
    | own ys =>
      obtain ⟨q, vs, e, h1, h2, h3, h4⟩ := ok
      cases e
      refine List.nodup_cons.mpr ⟨fun hm => ?_, h.nd⟩
      obtain ⟨_, vs', e⟩ := h.adsH hm
      have h1 : H q = none := h1
      rw [h1] at e; cases e
    | bor ys => exact absurd rfl (hr ys)
    | un => cases v <;> simpa [ads] using h.nd
    | d y => cases v <;> simpa [ads] using h.nd
    | fact φ st => cases v <;> simpa [ads] using h.nd
theorem HoldG.afterB {a : Addr} {s s' : Sl} {ys ys' : List PyData} (h : HoldG K b G H ((some (.ref a), s) :: L)) {r : Sl} {v : V} (k : Hold K ⟨G, H, [a]⟩ H' [(some v, r), (some (.ref a), .bor ys')]) (hr : ∀ ys, r ≠ .bor ys) (hs : (s = .own ys ∧ s' = .own ys') ∨ (s = .bor ys ∧ s' = .bor ys')) : Hold K b H' ((some v, r) :: (some (.ref a), s') :: L) := by
  obtain ⟨G', k⟩ := k
  have keep : ∀ c o, H c = some o → c ≠ a → H' c = some o := fun c o e n => k.rest c o e (by simpa using n)
  have gn : ∀ c, G c = none → (H c).isSome = true → G' c = none := fun c e hs => by
    cases q : G' c with
    | none => rfl
    | some o =>
      rcases k.new c o q with z | z
      · have z : G c = some o := z; rw [e] at z; cases z
      · have z : H c = none := z; rw [z] at hs; cases hs
  obtain ⟨q0, us, e0, _, g0, h0, d0⟩ := k.ok _ (List.mem_cons_of_mem _ List.mem_cons_self)
  cases e0
  have nd : (a :: ads L).Nodup := by rcases hs with ⟨rfl, _⟩ | ⟨rfl, _⟩ <;> exact h.nd
  have na := (List.nodup_cons.mp nd).1
  have as : ads ((some (V.ref a), s') :: L) = a :: ads L := by rcases hs with ⟨_, rfl⟩ | ⟨_, rfl⟩ <;> rfl
  have base : b.H a = none ∨ a ∈ b.B := by
    have ok := h.ok _ List.mem_cons_self
    rcases hs with ⟨rfl, _⟩ | ⟨rfl, _⟩
    · obtain ⟨q, _, e, z, _⟩ := ok; cases e; exact .inl z
    · obtain ⟨q, _, e, z, _⟩ := ok; cases e; exact .inr z
  refine ⟨G', h.old.trans k.old, k.up, fun c o e => ?_, fun c o e n => ?_, fun c hc => ?_, fun c hc => ?_, ?_, k.fl⟩
  · rcases k.new c o e with z | z
    · exact h.new c o z
    · exact .inr (h.fresh z)
  · refine keep c o (h.rest c o e n) fun z => ?_
    subst z
    rcases base with z | z
    · rw [z] at e; cases e
    · exact n z
  · by_cases z : c = a
    · subst z; rw [h0]; rfl
    · have := h.bs c hc
      cases q : H c with
      | none => rw [q] at this; cases this
      | some o => rw [keep c o q z]; rfl
  · rcases List.mem_cons.mp hc with rfl | hc
    · have ok := k.ok _ List.mem_cons_self
      cases r with
      | un => trivial
      | d y => exact ok
      | fact φ st => exact ok
      | bor ys => exact absurd rfl (hr ys)
      | own ys => obtain ⟨q, vs, e, h1, h2, h3, h4⟩ := ok; exact ⟨q, vs, e, h.fresh h1, h2, h3, h4⟩
    · rcases List.mem_cons.mp hc with rfl | hm
      · have ok := h.ok _ List.mem_cons_self
        rcases hs with ⟨rfl, rfl⟩ | ⟨rfl, rfl⟩
        · obtain ⟨q, _, e, z, _⟩ := ok; cases e; exact ⟨a, us, rfl, z, g0, h0, d0⟩
        · obtain ⟨q, _, e, z, _⟩ := ok; cases e; exact ⟨a, us, rfl, z, g0, h0, d0⟩
      · have ok := h.ok c (List.mem_cons_of_mem _ hm)
        rcases c with ⟨x, t⟩
        cases t with
        | un => trivial
        | d y => obtain ⟨v, e, z⟩ := ok; exact ⟨v, e, Dp.keep k.old z⟩
        | fact φ st => obtain ⟨v, e, z⟩ := ok; exact ⟨v, e, st _ _ _ k.old z⟩
        | own zs =>
          obtain ⟨q, vs, e, h1, h2, h3, h4⟩ := ok
          have n : q ≠ a := fun n => na (by subst n; subst e; exact ads_mem (.inl ⟨_, rfl⟩) hm)
          exact ⟨q, vs, e, h1, gn q h2 (by rw [h3]; rfl), keep _ _ h3 n, DpAll.keep k.old h4⟩
        | bor zs =>
          obtain ⟨q, vs, e, h1, h2, h3, h4⟩ := ok
          have n : q ≠ a := fun n => na (by subst n; subst e; exact ads_mem (.inr ⟨_, rfl⟩) hm)
          exact ⟨q, vs, e, h1, gn q h2 (by rw [h3]; rfl), keep _ _ h3 n, DpAll.keep k.old h4⟩
  · rw [ads_cons, as]
    have ok := k.ok _ List.mem_cons_self
    cases r with
    | own zs =>
      obtain ⟨q, vs, e, h1, h2, h3, h4⟩ := ok
      cases e
      have h1 : H q = none := h1
      refine List.nodup_cons.mpr ⟨fun hm => ?_, nd⟩
      have hm' : q ∈ ads ((some (V.ref a), s) :: L) := by rcases hs with ⟨rfl, _⟩ | ⟨rfl, _⟩ <;> exact hm
      obtain ⟨_, vs', e⟩ := h.adsH hm'
      rw [h1] at e; cases e
    | bor ys => exact absurd rfl (hr ys)
    | un => cases v <;> simpa [ads] using nd
    | d y => cases v <;> simpa [ads] using nd
    | fact φ st => cases v <;> simpa [ads] using nd
end
/-- a def that changes nothing it is handed -/
def spP (K : PySem.W.Frag) (Pre : List Sl → Prop) (Res : List Sl → Sl → Prop) : Sp := fun vs H Q _ => ∃ (G : Hp) (as : List Sl), vs.length = as.length ∧ HoldG K ⟨G, H, []⟩ G H ((vs.map some).zip as) ∧ Pre as ∧ ∀ r, Res as r → (∀ ys, r ≠ .bor ys) → ∀ v H', Hold K ⟨G, H, []⟩ H' [(some v, r)] → Q v H'
/-- a def that changes the list in its first place -/
def spB (K : PySem.W.Frag) (Pre : List PyData → List Sl → Prop) (Res : List PyData → List Sl → Sl → List PyData → Prop) : Sp := fun vs H Q _ => ∃ (G : Hp) (a : Addr) (us : List V) (ys : List PyData) (as : List Sl), vs = .ref a :: us ∧ us.length = as.length ∧ HoldG K ⟨G, H, [a]⟩ G H ((some (.ref a), .bor ys) :: (us.map some).zip as) ∧
  Pre ys as ∧ ∀ r ys', Res ys as r ys' → (∀ zs, r ≠ .bor zs) → ∀ v H', Hold K ⟨G, H, [a]⟩ H' [(some v, r), (some (.ref a), .bor ys')] → Q v H'
section
variable {X : Cx} {b : Bs} {ρ : List Sl} {p : Sl → List Sl → Prop} {e : Expr} {es : List Expr}
theorem flat_zip {vs : List V} : ∀ {rs : List Sl}, (∀ r ∈ rs, flatS r = true) → ∀ c ∈ (vs.map some).zip rs, flatS c.2 = true := fun h c hc => h _ (List.of_mem_zip hc).2
theorem ev_call {CX : CXT} {k : Nat} {f : Addr} {fd : FuncData} {ps : List Str} {Pre : List Sl → Prop} {Res : List Sl → Sl → Prop} {x : Str} {p1 cp : Pos} (F : FnOk X.prog X.w X.K X.mg X.base CX k f fd ps (spP X.K Pre Res)) (hr : Room k X.A) (hg : Gl X x) (hm : X.mg x = some (.ref f)) (hk : PySem.W.keepIn X.K (.ref f) = true) (hb : Binds X.K fd ps []) {E : XK} (hx : Passes CX X E)
    (h : EA X b ρ (e :: es) fun rs ρ' => (∀ r ∈ rs.map cool, flatS r = true) ∧ Pre (rs.map cool) ∧ ∀ r, Res (rs.map cool) r → (∀ ys, r ≠ .bor ys) ∧ p r ρ')
    (hdb : (x == ("__debug__" : Str)) = false := by decide) (he : starEach (e :: es) X.env = (false, eval e X.env) :: starEach es X.env := by rfl) (hpl : (backTo cp (starEach es X.env)).any (·.1) = false := by rfl) : EV X b ρ (.Call (.Name x p1) (e :: es) [] cp) p := fun σ H L Q l hh q =>
  ⟨_, pe_call F hr hg hm hk hb .nil hx (wa_pa _) hdb he hpl, h σ H L _ l hh fun rs ρ' vs H' ⟨hf, hp, h2⟩ l' lv hh' => by
    obtain ⟨G, hG⟩ := hh'.coolAll
    refine ⟨G, rs.map cool, by simp [lv], by rw [List.append_nil]; exact HoldG.sub0 hG (flat_zip hf), hp, fun r hr n v H2 hh2 => ?_⟩
    exact q r ρ' v H2 (h2 r hr).2 l' (hG.dropM.after hh2 n)⟩
theorem ev_call0 {CX : CXT} {k : Nat} {f : Addr} {fd : FuncData} {Pre : List Sl → Prop} {Res : List Sl → Sl → Prop} {x : Str} {p1 cp : Pos} (F : FnOk X.prog X.w X.K X.mg X.base CX k f fd [] (spP X.K Pre Res)) (hr : Room k X.A) (hg : Gl X x) (hm : X.mg x = some (.ref f)) (hk : PySem.W.keepIn X.K (.ref f) = true) (hb : Binds X.K fd [] []) {E : XK} (hx : Passes CX X E)
    (h : Pre [] ∧ ∀ r, Res [] r → (∀ ys, r ≠ .bor ys) ∧ p r ρ) (hdb : (x == ("__debug__" : Str)) = false := by decide) : EV X b ρ (.Call (.Name x p1) [] [] cp) p := fun σ H L Q l hh q =>
  ⟨_, pe_call0 F hr hg hm hk hb .nil hx hdb, by
    obtain ⟨G, hG⟩ := hh
    refine ⟨G, [], rfl, HoldG.sub0 (M := []) (L := σ.zip ρ ++ L) hG (by simp), h.1, fun r hr n v H2 hh2 => ?_⟩
    exact q r ρ v H2 (h.2 r hr).2 l (hG.after hh2 n)⟩
/-- f(x, e, ..): the list that the name at slot i holds alone is changed -/
theorem ev_callL (i : Nat) {CX : CXT} {k : Nat} {f : Addr} {fd : FuncData} {ps : List Str} {Pre : List PyData → List Sl → Prop} {Res : List PyData → List Sl → Sl → List PyData → Prop} {x y : Str} {p1 p2 cp : Pos} (F : FnOk X.prog X.w X.K X.mg X.base CX k f fd ps (spB X.K Pre Res)) (hr : Room k X.A) (hg : Gl X x) (hm : X.mg x = some (.ref f)) (hk : PySem.W.keepIn X.K (.ref f) = true) (hb : Binds X.K fd ps []) {E : XK} (hx : Passes CX X E)
    (hN : X.N[i]? = some y) (hv : Vis X.env.scope y)
    (h : EA X b ρ es fun rs ρ' => (∀ r ∈ rs.map cool, flatS r = true) ∧ ∃ s ys, ρ'[i]? = some s ∧ (s = .own ys ∨ s = .bor ys) ∧ Pre ys (rs.map cool) ∧ ∀ r ys', Res ys (rs.map cool) r ys' → (∀ ys, r ≠ .bor ys) ∧ p r (ρ'.set i (setS s ys')))
    (hs0 : ∃ s ys, ρ[i]? = some s ∧ (s = .own ys ∨ s = .bor ys))
    (hdy : (y == ("__debug__" : Str)) = false := by decide) (hcy : (y == ("__classdict__" : Str)) = false := by decide) (hdb : (x == ("__debug__" : Str)) = false := by decide) (he : starEach (.Name y p2 :: es) X.env = (false, eval (.Name y p2) X.env) :: starEach es X.env := by rfl) (hpl : (backTo cp (starEach es X.env)).any (·.1) = false := by rfl) : EV X b ρ (.Call (.Name x p1) (.Name y p2 :: es) [] cp) p := fun σ H L Q l hh q => by
  obtain ⟨s0, ys0, h0, k0⟩ := hs0
  obtain ⟨x0, hx0, hm0⟩ := zip_mem l h0
  have hv0 : ∃ a, x0 = some (.ref a) := by
    obtain ⟨G, hG⟩ := hh
    have ok := hG.ok _ (List.mem_append_left _ hm0)
    rcases k0 with rfl | rfl
    · obtain ⟨q, _, e, _⟩ := ok; exact ⟨q, e⟩
    · obtain ⟨q, _, e, _⟩ := ok; exact ⟨q, e⟩
  obtain ⟨a, rfl⟩ := hv0
  refine ⟨_, pe_call F hr hg hm hk hb .nil hx (pa_cons (pe_var hN hv hdy hcy) (wa_pa es) he) hdb he hpl, .ref a, hx0, ?_⟩
  refine h σ H L _ l hh fun rs ρ' vs H' ⟨hf, s, ys, hs, ks, hp, h2⟩ l' lv hh' => ?_
  obtain ⟨G, hG⟩ := hh'.coolAll
  obtain ⟨M, q1, q2⟩ := set_perm (s' := setS s ys) hs hx0
  have hG2 : HoldG X.K b G H' ((some (.ref a), s) :: (((vs.map some).zip (rs.map cool)) ++ (M ++ L))) := hG.perm (by
    refine ((perm_in (A := (vs.map some).zip (rs.map cool)) (M := M ++ L)).trans ?_)
    exact List.Perm.append_left _ (q1.symm.append_right L))
  refine ⟨G, a, vs, ys, rs.map cool, by simp, by simp [lv], HoldG.subB hG2 ks (flat_zip hf), hp, fun r ys' hr n v H2 hh2 => ?_⟩
  have hG3 : HoldG X.K b G H' ((some (.ref a), s) :: (M ++ L)) := (hG.dropM (M := (vs.map some).zip (rs.map cool))).perm (q1.symm.append_right L)
  obtain ⟨M', r1, r2⟩ := set_perm (s' := setS s ys') hs hx0
  have hMM : M.Perm M' := (q1.symm.trans r1).cons_inv
  refine q r _ v H2 (h2 r ys' hr).2 (by rw [List.length_set]; exact l') ?_
  have hA := hG3.afterB (ys := ys) (s' := setS s ys') hh2 n (by rcases ks with rfl | rfl <;> simp [setS])
  refine hA.perm (List.Perm.cons _ ?_)
  exact (r2.append_right L).trans (List.Perm.cons _ (hMM.symm.append_right L))
end

end DE

namespace DE
open PySem PySem.Spec PyProof.Rows L2 SZ VR VX StX RT
/-! ### the body of a def -/
section
variable {P : Program} {w : World} {K : PySem.W.Frag} {mg : Str → Option Value} {base : Heap}
theorem zip_start {N : List Str} {vs : List V} {as : List Sl} (l : vs.length = as.length) : (L2.start N vs).zip (as ++ List.replicate (N.length - as.length) .un) = (vs.map some).zip as ++ (List.replicate (N.length - as.length) (none : Option V)).zip (List.replicate (N.length - as.length) .un) := by
  unfold L2.start
  rw [List.zip_append (by simp [l]), l]
theorem hold_start {b : Bs} {H : Hp} {L : List Cl} : ∀ n : Nat, Hold K b H L → Hold K b H (L ++ (List.replicate n (none : Option V)).zip (List.replicate n Sl.un))
  | 0, h => by simpa using h
  | n + 1, h => by
    have h1 := hold_start n h
    rw [List.replicate_succ, List.replicate_succ, List.zip_cons_cons]
    exact h1.un.perm perm_in.symm
/-- where a def's body stands -/
theorem fn_P {x qual : Str} {st : Stmt} {f : Addr} {fd : FuncData} {N ps : List Str} {k : Nat} {Pre : List Sl → Prop} {Res : List Sl → Sl → Prop} (F : Fun K x qual st f fd) (S : FnScope N ps (defScope st)) (len : ∀ as, Pre as → as.length = ps.length) (hN : ps.length ≤ N.length)
    (h : ∀ (cdv : Value) (A : Around) (outer : List Env) (s : Shared) (H : Hp) (E : XK), Room k (A.deeper (envOfC qual (defScope st) s.heap.objs.size f cdv)) → ∀ (b : Bs) (as : List Sl), Pre as → XB (cxOf CX0 P w K mg base N qual (defScope st) f cdv A outer s H E).nox b (as ++ List.replicate (N.length - as.length) .un) (defBody st)
      ⟨fun _ => Res as (.d .none), fun r _ => Res as r ∧ ∀ ys, r ≠ .bor ys, fun _ => False, fun _ => False⟩) : FnOk P w K mg base CX0 (k + 1) f fd ps (spP K Pre Res) := by
  refine F.ok S (fun vs H Q E z => ?_) (fun cdv A outer s H vs Q E hr z => ?_)
  · obtain ⟨G, as, l, _, hp, _⟩ := z
    exact l.trans (len as hp)
  · obtain ⟨G, as, l, hG, hp, q⟩ := z
    obtain ⟨t, ht, hq⟩ := h cdv A outer s H E hr ⟨G, H, []⟩ as hp (L2.start N vs) H [] { nx := fun _ H' => Q .non H', rt := Q } (by unfold L2.start; have := len as hp; simp [l])
      (by rw [List.append_nil, zip_start l]; exact hold_start _ ⟨G, hG⟩)
      ⟨fun ρ' σ' H' hn l' n' hh => q (.d .none) hn (by simp) .non H' (hh.dropL (M := σ'.zip ρ') (L := []) |>.non), fun r ρ' v σ' H' hn l' n' hh => q r hn.1 hn.2 v H' ((hh.perm (L' := σ'.zip ρ' ++ [(some v, r)]) (by rw [List.append_nil]; exact List.perm_append_singleton _ _)).dropL), fun _ _ _ z => z.elim, fun _ _ _ z => z.elim⟩
    exact ⟨t, ht, hq⟩
/-- .. that changes the list in its first place -/
theorem fn_B {x qual : Str} {st : Stmt} {f : Addr} {fd : FuncData} {N ps : List Str} {k : Nat} {Pre : List PyData → List Sl → Prop} {Res : List PyData → List Sl → Sl → List PyData → Prop} (F : Fun K x qual st f fd) (S : FnScope N ps (defScope st)) (len : ∀ ys as, Pre ys as → as.length + 1 = ps.length)
    (h : ∀ (cdv : Value) (A : Around) (outer : List Env) (s : Shared) (H : Hp) (E : XK), Room k (A.deeper (envOfC qual (defScope st) s.heap.objs.size f cdv)) → ∀ (b : Bs) (ys : List PyData) (as : List Sl), Pre ys as → XB (cxOf CX0 P w K mg base N qual (defScope st) f cdv A outer s H E).nox b (.bor ys :: (as ++ List.replicate (N.length - (as.length + 1)) .un)) (defBody st)
      ⟨fun ρ' => ∃ ys', ρ'[0]? = some (.bor ys') ∧ Res ys as (.d .none) ys', fun r ρ' => ∃ ys', ρ'[0]? = some (.bor ys') ∧ Res ys as r ys' ∧ ∀ zs, r ≠ .bor zs, fun _ => False, fun _ => False⟩) : FnOk P w K mg base CX0 (k + 1) f fd ps (spB K Pre Res) := by
  refine F.ok S (fun vs H Q E z => ?_) (fun cdv A outer s H vs Q E hr z => ?_)
  · obtain ⟨G, a, us, ys, as, rfl, l, _, hp, _⟩ := z
    rw [List.length_cons, l]
    exact len ys as hp
  · obtain ⟨G, a, us, ys, as, rfl, l, hG, hp, q⟩ := z
    have one : ∀ {b : Bs} {H' : Hp} {L : List Cl} {x : Option V} {zs : List PyData}, b.B = [a] → Hold K b H' ((x, .bor zs) :: L) → x = some (.ref a) := fun {b H' L x zs} eb hh => by
      obtain ⟨G', hg⟩ := hh
      obtain ⟨q, _, e, hm, _⟩ := hg.ok _ List.mem_cons_self
      rw [eb] at hm
      rw [e, List.mem_singleton.mp hm]
    have get : ∀ {ρ' : List Sl} {σ' : L2.St} {H' : Hp} {zs : List PyData} {M : List Cl}, ρ'[0]? = some (.bor zs) → σ'.length = ρ'.length → Hold K ⟨G, H, [a]⟩ H' (M ++ σ'.zip ρ') → Hold K ⟨G, H, [a]⟩ H' (M ++ [(some (.ref a), .bor zs)]) := fun {ρ' σ' H' zs M} h0 l' hh => by
      cases ρ' with
      | nil => simp at h0
      | cons r ρ' =>
        cases σ' with
        | nil => simp at l'
        | cons y σ' =>
          have h0 : r = .bor zs := by simpa using h0
          subst h0
          have h1 : Hold K ⟨G, H, [a]⟩ H' ((y, .bor zs) :: (M ++ σ'.zip ρ')) := hh.perm perm_in
          have ey := one rfl h1
          subst ey
          refine (h1.perm (L' := σ'.zip ρ' ++ (M ++ [(some (.ref a), .bor zs)])) ?_).dropL
          rw [← List.append_assoc]
          exact (List.perm_append_singleton _ _).trans (List.Perm.cons _ List.perm_append_comm)
    obtain ⟨t, ht, hq⟩ := h cdv A outer s H E hr ⟨G, H, [a]⟩ ys as hp (L2.start N (.ref a :: us)) H [] { nx := fun _ H' => Q .non H', rt := Q } (by unfold L2.start; simp [l])
      (by
        rw [List.append_nil]
        have := zip_start (N := N) (vs := .ref a :: us) (as := .bor ys :: as) (by simp [l])
        rw [List.cons_append] at this
        rw [show (List.length as + 1) = (Sl.bor ys :: as).length from rfl, this]
        exact hold_start _ ⟨G, hG⟩)
      ⟨fun ρ' σ' H' ⟨ys', e0, hn⟩ l' n' hh => q (.d .none) ys' hn (by simp) .non H' (get (M := [(some .non, .d .none)]) e0 l' (by rw [List.append_nil] at hh; exact hh.non)), fun r ρ' v σ' H' ⟨ys', e0, hn, nb⟩ l' n' hh => q r ys' hn nb v H' (get (M := [(some v, r)]) e0 l' (by rw [List.append_nil] at hh; exact hh)), fun _ _ _ z => z.elim, fun _ _ _ z => z.elim⟩
    exact ⟨t, ht, hq⟩
end
/-! ### loops -/
section
variable {X : Cx} {b : Bs} {ρ : List Sl} {p : Po} {e tg : Expr} {body : List Stmt} {pos : Pos}
/-- these are the items at v -/
def itemsL (K : PySem.W.Frag) (xs : List V) (ys : List PyData) : Sl := .fact (fun v G => ∃ a, v = .ref a ∧ SqL K G a xs ∧ DpAll K G xs ys) (fun _ _ _ s ⟨a, e, h1, h2⟩ => ⟨a, e, s.seq h1, DpAll.keep s h2⟩)
def itemsT (K : PySem.W.Frag) (xs : List V) (ys : List PyData) : Sl := .fact (fun v G => ∃ a, v = .ref a ∧ SqT K G a xs ∧ DpAll K G xs ys) (fun _ _ _ s ⟨a, e, h1, h2⟩ => ⟨a, e, s.tup h1, DpAll.keep s h2⟩)
def loopI (p : Po) (I : Nat → List Sl → Prop) (i : Nat) : Po := ⟨I (i + 1), p.rt, p.nx, I (i + 1)⟩
theorem vals1_of {vs : List V} {i : Int} {K : PySem.W.Frag} {H : Hp} {L : List Cl} (lv : vs.length = 1) (h : Hold K b H ((vs.map some).zip [.d (.int i)] ++ L)) : vs = [.int i] ∧ Hold K b H L := by
  obtain ⟨v, rfl⟩ := List.length_eq_one_iff.mp lv
  have h : Hold K b H ((some v, .d (.int i)) :: L) := h
  exact ⟨by rw [h.isI], h.drop⟩
theorem xs_while {c : Expr} (hp : PassesOwn (model X.prog X.w) X.A X.env X.xe) (I : Nat → List Sl → Prop) (m0 : Nat) (h0 : I m0 ρ)
    (h : ∀ m ρ', ρ'.length = ρ.length → I m ρ' → ET X b ρ' c fun t ρ2 => ρ2.length = ρ.length → (t = true → XB X b ρ2 body ⟨fun ρ3 => ∃ m', m' < m ∧ I m' ρ3, p.rt, p.nx, fun ρ3 => ∃ m', m' < m ∧ I m' ρ3⟩) ∧ (t = false → p.nx ρ2)) : XS X b ρ (.While c body [] pos) p := fun σ H L D l hh k =>
  ⟨_, ps_while hp (wt_pt c) (wss_pss body), fun m σ' H' => ∃ ρ', I m ρ' ∧ σ'.length = ρ'.length ∧ ρ'.length = ρ.length ∧ Hold X.K b H' (σ'.zip ρ' ++ L), ⟨m0, ρ, h0, l, rfl, hh⟩, fun m σ' H' ⟨ρ', hi, l', n', hh'⟩ => h m ρ' n' hi σ' H' L _ l' hh' fun t ρ2 H2 h2 l2 hh2 => by
    have n2 := (l2.symm.trans l').trans n'
    obtain ⟨h3, h4⟩ := h2 n2
    cases t with
    | true => exact ⟨fun σ3 H3 => ∃ m', m' < m ∧ ∃ ρ', I m' ρ' ∧ σ3.length = ρ'.length ∧ ρ'.length = ρ.length ∧ Hold X.K b H3 (σ3.zip ρ' ++ L), fun _ _ z => z, h3 rfl σ' H2 L { D with nx := _, ct := _, bk := D.nx } l2 hh2 ⟨fun ρ3 σ3 H3 ⟨m', hm, z⟩ l3 n3 hh3 => ⟨m', hm, ρ3, z, l3, n3.trans n2, hh3⟩, fun r ρ3 v σ3 H3 z l3 n3 hh3 => k.rt r ρ3 v σ3 H3 z l3 (n3.trans n2) hh3, fun ρ3 σ3 H3 z l3 n3 hh3 => k.nx ρ3 σ3 H3 z l3 (n3.trans n2) hh3, fun ρ3 σ3 H3 ⟨m', hm, z⟩ l3 n3 hh3 => ⟨m', hm, ρ3, z, l3, n3.trans n2, hh3⟩⟩⟩
    | false => exact k.nx ρ2 σ' H2 (h4 rfl) l2 n2 hh2⟩
end

end DE

namespace DE
open PySem PySem.Spec PyProof.Rows L2 SZ VR VX StX RT
/-! ### comprehensions -/
def wipeR (ρ : List Sl) : List Nat → List Sl
  | [] => ρ
  | v :: vs => (wipeR ρ vs).set v .un
theorem wipeR_len (ρ : List Sl) : ∀ vs : List Nat, (wipeR ρ vs).length = ρ.length
  | [] => rfl
  | v :: vs => by unfold wipeR; rw [List.length_set, wipeR_len ρ vs]
def AllB (X : Cx) (scope : Scope) (φ : Cx → Prop) : Prop := ∀ (s : Shared) (H : Hp) (C : Addr) (cl : List (Str × Addr)) (fp : List Addr), φ (X.blk s H scope (compEnvC scope cl C X.env) fp)
def WTs (X : Cx) (es : List Expr) (σ : L2.St) (H : Hp) (Q : Bool → Hp → Prop) : Prop := ∃ t, PTs X es t ∧ t σ H Q
theorem wts_pts {X : Cx} (es : List Expr) : PTs X es (WTs X es) := ⟨fun pins s σ H Q I ⟨_, h, q⟩ => h.run pins s σ H Q I q⟩
def ETs (X : Cx) (b : Bs) (ρ : List Sl) (es : List Expr) (p : Bool → List Sl → Prop) : Prop := ∀ σ H L Q, σ.length = ρ.length → Hold X.K b H (σ.zip ρ ++ L) →
  (∀ c ρ' H', p c ρ' → σ.length = ρ'.length → Hold X.K b H' (σ.zip ρ' ++ L) → Q c H') → WTs X es σ H Q
section
variable {X : Cx} {b : Bs} {ρ : List Sl} {e : Expr} {q : Bool → List Sl → Prop}
theorem ets_nil (h : q true ρ) : ETs X b ρ [] q := fun σ H L Q l hh k => ⟨_, pts_nil, k true ρ H h l hh⟩
theorem ets_one (h : ET X b ρ e q) : ETs X b ρ [e] q := fun σ H L Q l hh k => ⟨_, pts_one (wt_pt e), h σ H L _ l hh k⟩
end
section
variable {K : PySem.W.Frag} {b : Bs} {H : Hp} {L : List Cl} {σ : L2.St} {ρ : List Sl}
theorem hold_setun {i : Nat} {x : Option V} (l : σ.length = ρ.length) (h : Hold K b H (σ.zip ρ ++ L)) : Hold K b H ((σ.set i x).zip (ρ.set i .un) ++ L) := by
  by_cases hi : i < ρ.length
  · obtain ⟨c, M, p1, p2⟩ := zip_set (r := .un) (x := x) hi l
    exact ((h.perm (p1.symm.append_right L)).drop.un (x := x)).perm (p2.append_right L)
  · rw [List.set_eq_of_length_le (by omega), List.set_eq_of_length_le (by omega)]
    exact h
theorem hold_wipe (l : σ.length = ρ.length) (h : Hold K b H (σ.zip ρ ++ L)) : ∀ vs : List Nat, Hold K b H ((L2.wipe σ vs).zip (wipeR ρ vs) ++ L)
  | [] => h
  | v :: vs => by
    unfold L2.wipe wipeR
    exact hold_setun (by rw [wipe_length, wipeR_len]; exact l) (hold_wipe l h vs)
theorem hold_unwipe {ρ : List Sl} (l : σ.length = ρ.length) : ∀ (vs : List Nat), (∀ v ∈ vs, ρ[v]? = some .un) → Hold K b H ((L2.wipe σ vs).zip ρ ++ L) → Hold K b H (σ.zip ρ ++ L)
  | [], _, h => h
  | v :: vs, hu, h => by
    unfold L2.wipe at h
    refine hold_unwipe l vs (fun u hu' => hu u (List.mem_cons_of_mem _ hu')) ?_
    have hv := hu v List.mem_cons_self
    have hi : v < ρ.length := (List.getElem?_eq_some_iff.mp hv).1
    have hs : (L2.wipe σ vs)[v]? = some ((L2.wipe σ vs)[v]'(by rw [wipe_length, l]; exact hi)) := List.getElem?_eq_getElem _
    have h2 := hold_setun (i := v) (x := (L2.wipe σ vs)[v]'(by rw [wipe_length, l]; exact hi)) (by rw [List.length_set, wipe_length]; exact l) h
    rw [List.set_set, List.set_getElem_self] at h2
    have e2 : ρ.set v .un = ρ := by
      refine List.ext_getElem? fun j => ?_
      by_cases e : v = j
      · subst e; rw [List.getElem?_set_self hi]; exact hv.symm
      · rw [List.getElem?_set_ne e]
    rw [e2] at h2
    exact h2
theorem wipeR_un {ρ : List Sl} : ∀ {vs : List Nat}, (∀ v ∈ vs, ρ[v]? = some .un) → wipeR ρ vs = ρ
  | [], _ => rfl
  | v :: vs, h => by
    unfold wipeR
    rw [wipeR_un fun u hu => h u (List.mem_cons_of_mem _ hu)]
    have hv := h v List.mem_cons_self
    have hi : v < ρ.length := (List.getElem?_eq_some_iff.mp hv).1
    refine List.ext_getElem? fun j => ?_
    by_cases e : v = j
    · subst e; rw [List.getElem?_set_self hi]; exact hv.symm
    · rw [List.getElem?_set_ne e]
theorem wipe_at {σ : L2.St} {u : Nat} : ∀ ws : List Nat, u ∈ ws → u < σ.length → (L2.wipe σ ws)[u]? = some none
  | t :: ws, h, hl => by
    show ((L2.wipe σ ws).set t none)[u]? = some none
    by_cases e : t = u
    · subst e; rw [List.getElem?_set_self (by rw [wipe_length]; exact hl)]
    · rw [List.getElem?_set_ne e]
      exact wipe_at ws (by rcases List.mem_cons.mp h with h | h; exact absurd h.symm e; exact h) hl
theorem wipe_sub {σ : L2.St} : ∀ us ws : List Nat, (∀ u ∈ us, u ∈ ws) → L2.wipe (L2.wipe σ ws) us = L2.wipe σ ws
  | [], _, _ => rfl
  | u :: us, ws, hs => by
    show (L2.wipe (L2.wipe σ ws) us).set u none = L2.wipe σ ws
    rw [wipe_sub us ws fun v hv => hs v (List.mem_cons_of_mem _ hv)]
    by_cases hl : u < (L2.wipe σ ws).length
    · refine List.ext_getElem? fun j => ?_
      by_cases e : u = j
      · subst e
        rw [List.getElem?_set_self hl]
        exact (wipe_at ws (hs u List.mem_cons_self) (by rw [wipe_length] at hl; exact hl)).symm
      · rw [List.getElem?_set_ne e]
    · rw [List.set_eq_of_length_le (by omega)]
theorem HoldG.app {G : Hp} {D : Addr} {acc : List PyData} {v : V} {z : PyData} (h : HoldG K b G H ((some v, .d z) :: (some (.ref D), .own acc) :: L)) : ∃ us, H D = some (.lst us) ∧ us.length = acc.length ∧ HoldG K b G (upd H D (.lst (us ++ [v]))) ((some (.ref D), .own (acc ++ [z])) :: L) := by
  obtain ⟨q, us, e, _, _, h3, h4⟩ := h.ok _ (List.mem_cons_of_mem _ List.mem_cons_self)
  cases e
  exact ⟨us, h3, DpAll.len h4, h.drop.put (.inl ⟨rfl, rfl⟩) (DpAll.app h4 (.cons h.seq .nil))⟩
end
section
variable {X : Cx} {b : Bs} {ρ : List Sl} {iter tg elt : Expr} {ifs : List Expr} {p : Sl → List Sl → Prop}
/-- one turn of a comprehension -/
def LcTurn (X : Cx) (b : Bs) (scope : Scope) (tg elt : Expr) (ifs : List Expr) (vs : List Nat) (y : PyData) (ρ' : List Sl) (acc : List PyData) (J : List PyData → List Sl → Prop) : Prop :=
  ∃ p1 : List Sl → Prop, AllB X scope (fun Y => EG Y b vs ρ' tg (.d y) p1) ∧ ∀ ρ2, p1 ρ2 → ∃ p2 : Bool → List Sl → Prop, AllB X scope (fun Y => ETs Y b ρ2 ifs p2) ∧ ∀ c ρ3, p2 c ρ3 →
    (c = false → J acc (wipeR ρ3 vs)) ∧ (c = true → acc.length < sizeLine ∧ AllB X scope fun Y => EV Y b ρ3 elt fun r ρ4 => ∃ z, cool r = .d z ∧ J (acc ++ [z]) (wipeR ρ4 vs))
theorem lc_go {scope : Scope} {vs : List Nat} {y : PyData} {x : V} {ρ' : List Sl} {acc : List PyData} {J : List PyData → List Sl → Prop} {σ : L2.St} {H : Hp} {D : Addr} {M : List Cl} {Nx : Hp → Prop} (ht : LcTurn X b scope tg elt ifs vs y ρ' acc J) (l : σ.length = ρ'.length)
    (hh : Hold X.K b H ((some x, .d y) :: ((L2.wipe σ vs).zip ρ' ++ (some (.ref D), .own acc) :: M)))
    (k : ∀ acc' ρ4 H', J acc' ρ4 → ρ4.length = ρ'.length → Hold X.K b H' ((L2.wipe σ vs).zip ρ4 ++ (some (.ref D), .own acc') :: M) → Nx H') :
    (fun v σ H Q => ∀ (s : Shared) (H0 : Hp) (C : Addr) (cl : List (Str × Addr)) (fp : List Addr), WG (X.blk s H0 scope (compEnvC scope cl C X.env) fp) tg v σ H Q) x (L2.wipe σ vs) H fun σ2 H2 => L2.wipe σ2 vs = L2.wipe σ vs ∧
      (fun σ H Q => ∀ (s : Shared) (H0 : Hp) (C : Addr) (cl : List (Str × Addr)) (fp : List Addr), WTs (X.blk s H0 scope (compEnvC scope cl C X.env) fp) ifs σ H Q) σ2 H2 fun c H3 =>
        if c = true then (fun σ H Q => ∀ (s : Shared) (H0 : Hp) (C : Addr) (cl : List (Str × Addr)) (fp : List Addr), WE (X.blk s H0 scope (compEnvC scope cl C X.env) fp) elt σ H Q) σ2 H3 fun y H4 => ∃ acc, H4 D = some (.lst acc) ∧ acc.length < sizeLine ∧ Nx (upd H4 D (.lst (acc ++ [y]))) else Nx H3 := by
  obtain ⟨p1, g1, t1⟩ := ht
  have lw : (L2.wipe σ vs).length = ρ'.length := by rw [wipe_length]; exact l
  intro s H0 C cl fp
  refine g1 s H0 C cl fp (L2.wipe σ vs) H _ x _ lw hh fun ρ2 σ2 H2 h2 l2 n2 w2 hh2 => ⟨?_, ?_⟩
  · rw [w2]
    exact wipe_sub vs vs fun _ h => h
  · have w2' : L2.wipe σ2 vs = L2.wipe σ vs := by
      rw [w2]
      exact wipe_sub vs vs fun _ h => h
    obtain ⟨p2, q2, t2⟩ := t1 ρ2 h2
    intro s H0 C cl fp
    refine q2 s H0 C cl fp σ2 H2 _ _ l2 hh2 fun c ρ3 H3 h3 l3 hh3 => ?_
    obtain ⟨tf, tt⟩ := t2 c ρ3 h3
    have n3 : ρ3.length = ρ'.length := l3.symm.trans (l2.trans n2)
    cases c with
    | false =>
      rw [if_neg Bool.false_ne_true]
      refine k acc _ H3 (tf rfl) (by rw [wipeR_len]; exact n3) ?_
      have := hold_wipe l3 hh3 vs
      rw [w2'] at this
      exact this
    | true =>
      rw [if_pos rfl]
      obtain ⟨hz, t3⟩ := tt rfl
      intro s H0 C cl fp
      refine t3 s H0 C cl fp σ2 H3 _ _ l3 hh3 fun r ρ4 v H4 ⟨z, er, hJ⟩ l4 hh4 => ?_
      have h5 := hh4.cool
      rw [er] at h5
      have n4 : ρ4.length = ρ'.length := l4.symm.trans (l3.trans n3)
      obtain ⟨G, hG⟩ := h5
      obtain ⟨us, e1, e2, hA⟩ := HoldG.app (hG.perm (L' := (some v, .d z) :: (some (.ref D), .own acc) :: (σ2.zip ρ4 ++ M)) (List.Perm.cons _ perm_in))
      refine ⟨us, e1, by rw [e2]; exact hz, k _ _ _ hJ (by rw [wipeR_len]; exact n4) ?_⟩
      have h6 : Hold X.K b (upd H4 D (.lst (us ++ [v]))) (σ2.zip ρ4 ++ (some (.ref D), .own (acc ++ [z])) :: M) := ⟨G, hA.perm perm_in.symm⟩
      have := hold_wipe l4 h6 vs
      rw [w2'] at this
      exact this
def lcG (X : Cx) (scope : Scope) (tg : Expr) : TG := fun v σ H Q => ∀ (s : Shared) (H0 : Hp) (C : Addr) (cl : List (Str × Addr)) (fp : List Addr), WG (X.blk s H0 scope (compEnvC scope cl C X.env) fp) tg v σ H Q
def lcT (X : Cx) (scope : Scope) (ifs : List Expr) : TT := fun σ H Q => ∀ (s : Shared) (H0 : Hp) (C : Addr) (cl : List (Str × Addr)) (fp : List Addr), WTs (X.blk s H0 scope (compEnvC scope cl C X.env) fp) ifs σ H Q
def lcE (X : Cx) (scope : Scope) (elt : Expr) : TE := fun σ H Q => ∀ (s : Shared) (H0 : Hp) (C : Addr) (cl : List (Str × Addr)) (fp : List Addr), WE (X.blk s H0 scope (compEnvC scope cl C X.env) fp) elt σ H Q
end

end DE

namespace DE
open PySem PySem.Spec PyProof.Rows L2 SZ VR VX StX RT
/-! ### what a for and a comprehension walk over -/
def EI (X : Cx) (b : Bs) (ρ : List Sl) (tg iter : Expr) (p : List PyData → List Sl → Prop) : Prop := ∃ wi, PI X tg iter wi ∧ ∀ σ H L R, σ.length = ρ.length → Hold X.K b H (σ.zip ρ ++ L) →
  (∀ (ys : List PyData) (ρ' : List Sl) (H' : Hp) (J : It) (G : Hp → Prop) (Y : Nat → Hp → V → Hp → Prop) (c : Cl), p ys ρ' → σ.length = ρ'.length → Walk J ys.length G Y → Hold X.K b H' (σ.zip ρ' ++ c :: L) → (∀ H2 L2, Hold X.K b H2 (c :: L2) → G H2) →
    (∀ i x H1 H2 L2, i < ys.length → Y i H1 x H2 → Hold X.K b H1 (c :: L2) → ∃ y, ys[i]? = some y ∧ Hold X.K b H2 ((some x, .d y) :: c :: L2)) → R J H') → wi σ H R
section
variable {X : Cx} {b : Bs} {ρ : List Sl} {tg e : Expr} {es : List Expr} {p : List PyData → List Sl → Prop}
theorem wlen {J : It} {n m : Nat} {G : Hp → Prop} {Y : Nat → Hp → V → Hp → Prop} (h : m = n) (w : Walk J n G Y) : Walk J m G Y := h ▸ w
theorem Hold.itemsL {H : Hp} {a : Addr} {xs : List V} {ys : List PyData} {L : List Cl} {K : PySem.W.Frag} (h : Hold K b H ((some (.ref a), DE.itemsL K xs ys) :: L)) : SqL K H a xs := by
  obtain ⟨G, hG⟩ := h
  obtain ⟨v, e, a', e', h1, _⟩ := hG.ok _ List.mem_cons_self
  cases e
  cases e'
  exact hG.up.seq h1
theorem Hold.itemsL_at {H : Hp} {a : Addr} {xs : List V} {ys : List PyData} {L : List Cl} {K : PySem.W.Frag} {i : Nat} {x : V} (h : Hold K b H ((some (.ref a), DE.itemsL K xs ys) :: L)) (hx : xs[i]? = some x) : ∃ y, ys[i]? = some y ∧ Hold K b H ((some x, .d y) :: (some (.ref a), DE.itemsL K xs ys) :: L) := by
  obtain ⟨G, hG⟩ := h
  obtain ⟨v, e, a', e', _, h2⟩ := hG.ok _ List.mem_cons_self
  cases e
  cases e'
  obtain ⟨y, hy, hd⟩ := DpAll.at h2 hx
  exact ⟨y, hy, G, hG.add hd⟩
theorem Hold.itemsT {H : Hp} {a : Addr} {xs : List V} {ys : List PyData} {L : List Cl} {K : PySem.W.Frag} (h : Hold K b H ((some (.ref a), DE.itemsT K xs ys) :: L)) : SqT K H a xs := by
  obtain ⟨G, hG⟩ := h
  obtain ⟨v, e, a', e', h1, _⟩ := hG.ok _ List.mem_cons_self
  cases e
  cases e'
  exact hG.up.tup h1
theorem Hold.itemsT_at {H : Hp} {a : Addr} {xs : List V} {ys : List PyData} {L : List Cl} {K : PySem.W.Frag} {i : Nat} {x : V} (h : Hold K b H ((some (.ref a), DE.itemsT K xs ys) :: L)) (hx : xs[i]? = some x) : ∃ y, ys[i]? = some y ∧ Hold K b H ((some x, .d y) :: (some (.ref a), DE.itemsT K xs ys) :: L) := by
  obtain ⟨G, hG⟩ := h
  obtain ⟨v, e, a', e', _, h2⟩ := hG.ok _ List.mem_cons_self
  cases e
  cases e'
  obtain ⟨y, hy, hd⟩ := DpAll.at h2 hx
  exact ⟨y, hy, G, hG.add hd⟩
theorem len_items {K : PySem.W.Frag} {H : Hp} {a : Addr} {xs : List V} {ys : List PyData} {L : List Cl} (h : Hold K b H ((some (.ref a), DE.itemsL K xs ys) :: L)) : xs.length = ys.length := by
  obtain ⟨G, hG⟩ := h
  obtain ⟨v, e, a', e', _, h2⟩ := hG.ok _ List.mem_cons_self
  cases e
  cases e'
  exact DpAll.len h2
theorem Hold.toL {K : PySem.W.Frag} {H : Hp} {v : V} {r : Sl} {ys : List PyData} {L : List Cl} (h : Hold K b H ((some v, r) :: L)) (er : DE.cool r = .d (.list ys)) : ∃ a xs, v = .ref a ∧ xs.length = ys.length ∧ Hold K b H ((some (.ref a), DE.itemsL K xs ys) :: L) := by
  have h2 := h.cool
  rw [er] at h2
  obtain ⟨G, hG⟩ := h2
  cases hG.seq with
  | @lst a xs _ s1 s2 => exact ⟨a, xs, rfl, DpAll.len s2, G, hG.drop.addF ⟨a, rfl, s1, s2⟩⟩
theorem Hold.toT {K : PySem.W.Frag} {H : Hp} {v : V} {ys : List PyData} {L : List Cl} (h : Hold K b H ((some v, .d (.tuple ys)) :: L)) : ∃ a xs, v = .ref a ∧ xs.length = ys.length ∧ Hold K b H ((some (.ref a), DE.itemsT K xs ys) :: L) := by
  obtain ⟨G, hG⟩ := h
  cases hG.seq with
  | @tup a xs _ s1 s2 => exact ⟨a, xs, rfl, DpAll.len s2, G, hG.drop.addF ⟨a, rfl, s1, s2⟩⟩
theorem ei_list (h : EV X b ρ e fun r ρ' => ∃ ys, cool r = .d (.list ys) ∧ p ys ρ') : EI X b ρ tg e p := ⟨_, pi_list (we_pe e), fun σ H L R l hh k => h σ H L _ l hh fun r ρ' v H' ⟨ys, er, hp⟩ l' hh' => by
  obtain ⟨a, xs, rfl, lx, h2⟩ := hh'.toL er
  refine ⟨a, rfl, ⟨xs, h2.itemsL⟩, k ys ρ' H' _ _ _ (some (.ref a), itemsL X.K xs ys) hp l' (wlen lx.symm walk_list) (h2.perm perm_in.symm) (fun H2 L2 z => z.itemsL) fun i x H1 H2 L2 hi ⟨e1, e2⟩ z => ?_⟩
  subst e1
  exact z.itemsL_at e2⟩
theorem ei_tup (h : EV X b ρ e fun r ρ' => ∃ ys, r = .d (.tuple ys) ∧ p ys ρ') : EI X b ρ tg e p := ⟨_, pi_tup (we_pe e), fun σ H L R l hh k => h σ H L _ l hh fun r ρ' v H' ⟨ys, er, hp⟩ l' hh' => by
  subst er
  obtain ⟨a, xs, rfl, lx, h2⟩ := hh'.toT
  refine ⟨a, rfl, ⟨xs, h2.itemsT⟩, k ys ρ' H' _ _ _ (some (.ref a), itemsT X.K xs ys) hp l' (wlen lx.symm walk_tup) (h2.perm perm_in.symm) (fun H2 L2 z => z.itemsT) fun i x H1 H2 L2 hi ⟨e1, e2⟩ z => ?_⟩
  subst e1
  exact z.itemsT_at e2⟩
def strD (z : Str) : List PyData := z.cps.toList.map fun c => .str ⟨#[c]⟩
theorem ei_str (h : EV X b ρ e fun r ρ' => ∃ z, r = .d (.str z) ∧ p (strD z) ρ') : EI X b ρ tg e p := ⟨_, pi_str (we_pe e), fun σ H L R l hh k => h σ H L _ l hh fun r ρ' v H' ⟨z, er, hp⟩ l' hh' => by
  subst er
  have ev := hh'.isS
  subst ev
  have lz : (strD z).length = z.cps.size := by unfold strD; simp
  refine ⟨z, rfl, k (strD z) ρ' H' _ _ _ (none, .un) hp l' (wlen lz walk_str) (hh'.drop.un.perm perm_in.symm) (fun H2 L2 z => trivial) fun i x H1 H2 L2 hi ⟨e1, c, e2, e3⟩ hz => ?_⟩
  subst e1 e3
  refine ⟨.str ⟨#[c]⟩, ?_, hz.str _⟩
  unfold strD
  rw [List.getElem?_map, Array.getElem?_toList, e2]
  rfl⟩
def rngD (lo : Int) (n : Nat) : List PyData := (List.range n).map fun i : Nat => .int (lo + (i : Int))
theorem rngD_len (lo : Int) (n : Nat) : (rngD lo n).length = n := by unfold rngD; simp
theorem rngD_at {lo : Int} {n i : Nat} (h : i < n) : (rngD lo n)[i]? = some (.int (lo + (i : Int))) := by unfold rngD; simp [h]
theorem ei_range {a : Expr} {p1 p2 : Pos} (hg : Gl X "range") (hm : X.mg "range" = none) (h : EV X b ρ a fun r ρ' => ∃ n : Int, r = .d (.int n) ∧ -(2 ^ 62) ≤ n ∧ n < 2 ^ 62 ∧ p (rngD 0 n.toNat) ρ') (hs : starEach [a] X.env = [(false, eval a X.env)] := by rfl) : EI X b ρ tg (.Call (.Name "range" p1) [a] [] p2) p :=
  ⟨_, pi_range1 hg hm (pa_cons (we_pe a) pa_nil hs) hs, fun σ H L R l hh k => h σ H L _ l hh fun r ρ' v H' ⟨n, er, b1, b2, hp⟩ l' hh' => by
    subst er
    have ev := hh'.isI
    subst ev
    refine ⟨n, rfl, b1, b2, k _ ρ' H' _ _ _ (none, .un) hp l' (wlen (rngD_len 0 n.toNat) (walk_range (lo := 0))) (hh'.drop.un.perm perm_in.symm) (fun _ _ _ => trivial) fun i x H1 H2 L2 hi ⟨e1, e2⟩ hz => ?_⟩
    subst e1 e2
    rw [rngD_len] at hi
    exact ⟨_, rngD_at hi, hz.int _⟩⟩
theorem ei_range2 {a1 a2 : Expr} {p1 p2 : Pos} (hg : Gl X "range") (hm : X.mg "range" = none) (h : EV X b ρ a1 fun r ρ1 => ∃ m : Int, r = .d (.int m) ∧ EV X b ρ1 a2 fun r ρ' => ∃ n : Int, r = .d (.int n) ∧ (-(2 ^ 62) ≤ m ∧ m < 2 ^ 62 ∧ -(2 ^ 62) ≤ n ∧ n < 2 ^ 62) ∧ p (rngD m (n - m).toNat) ρ')
    (hs : starEach [a1, a2] X.env = [(false, eval a1 X.env), (false, eval a2 X.env)] := by rfl) (hs2 : starEach [a2] X.env = [(false, eval a2 X.env)] := by rfl) (hs3 : starEach [a1, a2] X.env = (false, eval a1 X.env) :: starEach [a2] X.env := by rfl) : EI X b ρ tg (.Call (.Name "range" p1) [a1, a2] [] p2) p :=
  ⟨_, pi_range2 hg hm (pa_cons (we_pe a1) (pa_cons (we_pe a2) pa_nil hs2) hs3) hs hs2, fun σ H L R l hh k => h σ H L _ l hh fun r1 ρ1 v1 H1 ⟨m, er1, h1⟩ l1 hh1 => by
    subst er1
    have ev := hh1.isI
    subst ev
    refine h1 σ H1 L _ l1 hh1.drop fun r ρ' v H' ⟨n, er, bb, hp⟩ l' hh' => ?_
    subst er
    have ev := hh'.isI
    subst ev
    refine ⟨m, n, rfl, bb, k _ ρ' H' _ _ _ (none, .un) hp l' (wlen (rngD_len m (n - m).toNat) (walk_range (lo := m))) (hh'.drop.un.perm perm_in.symm) (fun _ _ _ => trivial) fun i x H1 H2 L2 hi ⟨e1, e2⟩ hz => ?_⟩
    subst e1 e2
    rw [rngD_len] at hi
    exact ⟨_, rngD_at hi, hz.int _⟩⟩
def enD (ys : List PyData) : List PyData := (List.range ys.length).map fun i => .tuple [.int (i : Nat), ys.getD i .none]
theorem enD_len (ys : List PyData) : (enD ys).length = ys.length := by unfold enD; simp
theorem enD_at {ys : List PyData} {i : Nat} {y : PyData} (h : ys[i]? = some y) : (enD ys)[i]? = some (.tuple [.int (i : Nat), y]) := by
  have hi := (List.getElem?_eq_some_iff.mp h).1
  unfold enD
  simp [hi]
  rw [List.getElem?_eq_getElem hi] at h
  exact Option.some.inj h
theorem ei_enum {p1 p2 tpos : Pos} {elts : List Expr} {kk : Nat} (hg : Gl X "enumerate") (hm : X.mg "enumerate" = none) (h : EV X b ρ e fun r ρ' => ∃ ys, cool r = .d (.list ys) ∧ p (enD ys) ρ') (hs : starEach [e] X.env = [(false, eval e X.env)] := by rfl) : EI X b ρ (.Tuple elts kk tpos) (.Call (.Name "enumerate" p1) [e] [] p2) p :=
  ⟨_, pi_enum hg hm (pa_cons (we_pe e) pa_nil hs) hs, fun σ H L R l hh k => h σ H L _ l hh fun r ρ' v H' ⟨ys, er, hp⟩ l' hh' => by
    obtain ⟨a, xs, rfl, lx, h2⟩ := hh'.toL er
    refine ⟨a, xs, rfl, h2.itemsL, k _ ρ' H' _ _ _ (some (.ref a), itemsL X.K xs ys) hp l' (wlen ((enD_len ys).trans lx.symm) walk_enum) (h2.perm perm_in.symm) (fun H2 L2 z => z.itemsL) fun i x H1 H2 L2 hi ⟨T, u, y, e1, e2, e3, e4, e5⟩ z => ?_⟩
    subst e1 e3
    cases e4
    obtain ⟨d, hd, hz⟩ := z.itemsL_at e5
    obtain ⟨G, hG⟩ := hz
    refine ⟨_, enD_at hd, _, hG.drop.newT e2 (.cons (.int _) (.cons hG.seq .nil))⟩⟩
/-! ### for and comprehensions -/
theorem xs_for {p : Po} {iter : Expr} {body : List Stmt} {pos : Pos} {ts : List Nat} (hp : PassesOwn (model X.prog X.w) X.A X.env X.xe) (hc : X.calm = true) (hst : ∀ x, foldedSetIterable iter X.env x = pure x := by intro _; rfl)
    (h : EI X b ρ tg iter fun ys ρ1 => ρ1.length = ρ.length → ∃ I : Nat → List Sl → Prop, I 0 ρ1 ∧ (∀ i y ρ', ys[i]? = some y → ρ'.length = ρ.length → I i ρ' → EG X b ts ρ' tg (.d y) fun ρ2 => ρ2.length = ρ.length → XB X b ρ2 body (loopI p I i)) ∧ ∀ ρ', I ys.length ρ' → p.nx ρ') : XS X b ρ (.For tg iter body [] pos) p := fun σ H L D l hh k => by
  obtain ⟨wi, hi, h⟩ := h
  refine ⟨_, ps_for hp hc hi (wg_pg tg) (wss_pss body) hst, h σ H L _ l hh fun ys ρ1 H1 J G Y c h1 l1 W hh1 hG hY => ?_⟩
  have n1 := l1.symm.trans l
  obtain ⟨I, i0, hs, hd⟩ := h1 n1
  refine for_it W (fun i σ' H' => ∃ ρ', I i ρ' ∧ σ'.length = ρ'.length ∧ ρ'.length = ρ.length ∧ Hold X.K b H' (σ'.zip ρ' ++ c :: L)) ⟨ρ1, i0, l1, n1, hh1⟩ (fun i σ' H' _ ⟨ρ', _, _, _, hh'⟩ => hG H' _ (hh'.perm perm_in)) (fun i x σ' H1' H2' hi ⟨ρ', hI, l', n', hh'⟩ hy => ?_) (fun σ' H' ⟨ρ', hI, l', n', hh'⟩ => k.nx ρ' σ' H' (hd ρ' hI) l' n' ((hh'.perm perm_in).drop))
  obtain ⟨y, ey, hz⟩ := hY i x H1' H2' _ hi hy (hh'.perm perm_in)
  refine hs i y ρ' ey n' hI σ' H2' (c :: L) x _ l' (hz.perm (List.Perm.cons _ perm_in.symm)) fun ρ2 σ2 H2 h3 l2 n2 _ hh2 => ?_
  exact h3 (n2.trans n') σ2 H2 _ { D with nx := _, ct := _, bk := D.nx } l2 hh2 ⟨fun ρ3 σ3 H3 z l3 n3 hh3 => ⟨ρ3, z, l3, n3.trans (n2.trans n'), hh3⟩, fun r ρ3 v σ3 H3 z l3 n3 hh3 => k.rt r ρ3 v σ3 H3 z l3 (n3.trans (n2.trans n')) ((hh3.perm (L' := c :: ((some v, r) :: (σ3.zip ρ3 ++ L))) ((List.Perm.swap ..).trans (List.Perm.cons _ perm_in))).drop),
          fun ρ3 σ3 H3 z l3 n3 hh3 => k.nx ρ3 σ3 H3 z l3 (n3.trans (n2.trans n')) ((hh3.perm perm_in).drop), fun ρ3 σ3 H3 z l3 n3 hh3 => ⟨ρ3, z, l3, n3.trans (n2.trans n'), hh3⟩⟩
theorem lc_all {p : Sl → List Sl → Prop} {iter elt : Expr} {ifs : List Expr} {scope : Scope} {own : List (Str × Nat)} 
    (h : EI X b ρ tg iter fun ys ρ1 => ρ1.length = ρ.length → ∃ I : Nat → List PyData → List Sl → Prop, I 0 [] ρ1 ∧ (∀ i acc ρ', I i acc ρ' → ∀ v ∈ own.map (·.2), ρ'[v]? = some .un) ∧
      (∀ i y acc ρ', ys[i]? = some y → ρ'.length = ρ.length → I i acc ρ' → LcTurn X b scope tg elt ifs (own.map (·.2)) y ρ' acc (I (i + 1))) ∧ ∀ acc ρ', I ys.length acc ρ' → p (.own acc) ρ') :
    ∃ wi, PI X tg iter wi ∧ ∀ σ H L Q, σ.length = ρ.length → Hold X.K b H (σ.zip ρ ++ L) → (∀ r ρ' v H', p r ρ' → σ.length = ρ'.length → Hold X.K b H' ((some v, r) :: (σ.zip ρ' ++ L)) → Q v H') → tLc wi (lcG X scope tg) (lcT X scope ifs) (lcE X scope elt) (own.map (·.2)) σ H Q := by
  obtain ⟨wi, hi, h⟩ := h
  refine ⟨wi, hi, fun σ H L Q l hh k => h σ H L _ l hh fun ys ρ1 H1 J G Y c h1 l1 W hh1 hG hY D hD => ?_⟩
  have n1 := l1.symm.trans l
  obtain ⟨I, i0, hun, hst, hd⟩ := h1 n1
  refine lc_it W (fun i H' => ∃ acc ρ', I i acc ρ' ∧ ρ'.length = ρ.length ∧ Hold X.K b H' ((L2.wipe σ (own.map (·.2))).zip ρ' ++ (some (.ref D), .own acc) :: c :: L))
    ⟨[], ρ1, i0, n1, ?_⟩ (fun i H' _ ⟨acc, ρ', _, _, hh'⟩ => hG H' ((L2.wipe σ (own.map (·.2))).zip ρ' ++ (some (.ref D), .own acc) :: L) (hh'.perm ?_)) (fun i x H1' H2' hi ⟨acc, ρ', hI, n', hh'⟩ hy => ?_) (fun H' ⟨acc, ρ', hI, n', hh'⟩ => ?_)
  · obtain ⟨G', h3⟩ := hh1
    have h4 : Hold X.K b (upd H1 D (.lst [])) (σ.zip ρ1 ++ (some (.ref D), .own []) :: c :: L) := ⟨G', (h3.newL hD .nil).perm perm_in.symm⟩
    have h5 := hold_wipe l1 h4 (own.map (·.2))
    rw [wipeR_un (hun 0 [] ρ1 i0)] at h5
    exact h5
  · exact perm_in.trans (List.Perm.append_left _ (List.Perm.swap ..))
  · obtain ⟨y, ey, hz⟩ := hY i x H1' H2' ((L2.wipe σ (own.map (·.2))).zip ρ' ++ (some (.ref D), .own acc) :: L) hi hy (hh'.perm (perm_in.trans (List.Perm.append_left _ (List.Perm.swap ..))))
    exact lc_go (M := c :: L) (hst i y acc ρ' ey n' hI) (l1.trans (n1.trans n'.symm)) (hz.perm (List.Perm.cons _ (perm_in.trans (List.Perm.append_left _ (List.Perm.swap ..))).symm)) fun acc' ρ4 H4 hJ n4 hh4 => ⟨acc', ρ4, hJ, n4.trans n', hh4⟩
  · have h2 := hold_unwipe (l1.trans (n1.trans n'.symm)) _ (hun _ _ _ hI) hh'
    exact k _ ρ' _ H' (hd acc ρ' hI) (l1.trans (n1.trans n'.symm)) ((h2.perm (L' := c :: (some (.ref D), .own acc) :: (σ.zip ρ' ++ L)) ((List.Perm.swap ..).trans ((List.Perm.cons _ perm_in).trans perm_in))).drop)
theorem ev_lc {p : Sl → List Sl → Prop} {iter elt : Expr} {ifs : List Expr} {scope : Scope} (own : List (Str × Nat)) {pos : Pos} (hc : X.calm = true) (hN : X.N.Nodup) (ok : BlkOk X.N X.env.scope scope own)
    (h : EI X b ρ tg iter fun ys ρ1 => ρ1.length = ρ.length → ∃ I : Nat → List PyData → List Sl → Prop, I 0 [] ρ1 ∧ (∀ i acc ρ', I i acc ρ' → ∀ v ∈ own.map (·.2), ρ'[v]? = some .un) ∧
      (∀ i y acc ρ', ys[i]? = some y → ρ'.length = ρ.length → I i acc ρ' → LcTurn X b scope tg elt ifs (own.map (·.2)) y ρ' acc (I (i + 1))) ∧ ∀ acc ρ', I ys.length acc ρ' → p (.own acc) ρ')
    (hs : ∀ x, foldedSetIterable iter X.env x = pure x := by intro _; rfl) : EV X b ρ (.ListComp elt [⟨tg, iter, ifs, 0⟩] scope pos) p := fun σ H L Q l hh k => by
  obtain ⟨wi, hi, g⟩ := lc_all h
  exact ⟨_, pe_lc (g := lcG X scope tg) (tt := lcT X scope ifs) (te := lcE X scope elt) hc hN hi ok (fun s H C cl fp => ⟨fun pins s' σ H' v u Q I r q => (wg_pg tg).run pins s' σ H' v u Q I r (q s H C cl fp)⟩) (fun s H C cl fp => ⟨fun pins s' σ H' Q I q => (wts_pts ifs).run pins s' σ H' Q I (q s H C cl fp)⟩) (fun s H C cl fp => ⟨fun pins s' σ H' Q I q => (we_pe elt).run pins s' σ H' Q I (q s H C cl fp)⟩) hs, g σ H L Q l hh k⟩
/-- name = [..] in one row -/
theorem xs_setLc {p : Po} (i : Nat) {y : Str} {py spos : Pos} {iter elt : Expr} {ifs : List Expr} {scope : Scope} (own : List (Str × Nat)) {pos : Pos} (hc : X.calm = true) (hN : X.N.Nodup) (hy : X.N[i]? = some y) (hl : i < ρ.length) (hyl : X.env.scope.names.lookup y = some .local)
    (hsw : swapsWith (.ListComp elt [⟨tg, iter, ifs, 0⟩] scope pos) (some (.Name y py)) spos.line X.env = pure true) (ok : BlkOk X.N X.env.scope scope own)
    (h : EI X b ρ tg iter fun ys ρ1 => ρ1.length = ρ.length → ∃ I : Nat → List PyData → List Sl → Prop, I 0 [] ρ1 ∧ (∀ i acc ρ', I i acc ρ' → ∀ v ∈ own.map (·.2), ρ'[v]? = some .un) ∧
      (∀ i y acc ρ', ys[i]? = some y → ρ'.length = ρ.length → I i acc ρ' → LcTurn X b scope tg elt ifs (own.map (·.2)) y ρ' acc (I (i + 1))) ∧ ∀ acc ρ', I ys.length acc ρ' → ρ'.length = ρ.length → p.nx (ρ'.set i (.own acc)))
    (hs : ∀ x, foldedSetIterable iter X.env x = pure x := by intro _; rfl) : XS X b ρ (.Assign [.Name y py] (.ListComp elt [⟨tg, iter, ifs, 0⟩] scope pos) spos) p := fun σ H L D l hh k => by
  obtain ⟨wi, hi, g⟩ := lc_all (p := fun r ρ' => ρ'.length = ρ.length → p.nx (ρ'.set i r)) h
  refine ⟨_, ps_setLc (g := lcG X scope tg) (tt := lcT X scope ifs) (te := lcE X scope elt) hc hN hy hyl hsw hi ok (fun s H C cl fp => ⟨fun pins s' σ H' v u Q I r q => (wg_pg tg).run pins s' σ H' v u Q I r (q s H C cl fp)⟩) (fun s H C cl fp => ⟨fun pins s' σ H' Q I q => (wts_pts ifs).run pins s' σ H' Q I (q s H C cl fp)⟩) (fun s H C cl fp => ⟨fun pins s' σ H' Q I q => (we_pe elt).run pins s' σ H' Q I (q s H C cl fp)⟩) hs, ?_⟩
  refine g σ H L _ l hh fun r ρ' v H' h1 l' hh' => ?_
  have n' := l'.symm.trans l
  obtain ⟨c, M, p1, p2⟩ := zip_set (r := r) (x := some v) (by rw [n']; exact hl) l'
  refine k.nx _ _ H' (h1 n') (by simp [l']) (by simp [n']) ?_
  have h2 : Hold X.K b H' (c :: ((some v, r) :: (M ++ L))) := hh'.perm ((List.Perm.swap ..).trans (List.Perm.cons _ (p1.symm.append_right L)))
  exact h2.drop.perm (p2.append_right L)
end

end DE

namespace DE
open PySem PySem.Spec PyProof.Rows L2 SZ VR VX StX RT
section
variable {X : Cx} {b : Bs} {ρ : List Sl} {p : Sl → List Sl → Prop} {e e1 e2 : Expr} {pos : Pos}
/-! ### x.append(e), x.extend(e): the list that the name at slot i holds alone -/
theorem slot_ref {i : Nat} {s : Sl} {ys : List PyData} {σ : L2.St} {H : Hp} {L : List Cl} (l : σ.length = ρ.length) (hr : ρ[i]? = some s) (hs : s = .own ys ∨ s = .bor ys) (hh : Hold X.K b H (σ.zip ρ ++ L)) : ∃ a, σ[i]? = some (some (.ref a)) := by
  obtain ⟨x, hx, hm⟩ := zip_mem l hr
  obtain ⟨G, hG⟩ := hh
  have ok := hG.ok _ (List.mem_append_left _ hm)
  rcases hs with rfl | rfl
  · obtain ⟨q, _, e, _⟩ := ok; subst e; exact ⟨q, hx⟩
  · obtain ⟨q, _, e, _⟩ := ok; subst e; exact ⟨q, hx⟩
theorem cell_lst {K : PySem.W.Frag} {G H : Hp} {a : Addr} {s : Sl} {ys : List PyData} {L : List Cl} (h : HoldG K b G H ((some (.ref a), s) :: L)) (hs : s = .own ys ∨ s = .bor ys) : ∃ us, H a = some (.lst us) ∧ us.length = ys.length ∧ DpAll K G us ys := by
  have ok := h.ok _ List.mem_cons_self
  rcases hs with rfl | rfl
  · obtain ⟨q, us, e, _, _, h3, h4⟩ := ok; cases e; exact ⟨us, h3, DpAll.len h4, h4⟩
  · obtain ⟨q, us, e, _, _, h3, h4⟩ := ok; cases e; exact ⟨us, h3, DpAll.len h4, h4⟩
theorem xs_append (i : Nat) {p : Po} {x : Str} {p1 p2 p3 p4 : Pos} (hN : X.N[i]? = some x) (hv : Vis X.env.scope x)
    (h : EV X b ρ e fun r ρ' => ρ'.length = ρ.length → ∃ s ys z, cool r = .d z ∧ ρ'[i]? = some s ∧ (s = .own ys ∨ s = .bor ys) ∧ ys.length < sizeLine ∧ p.nx (ρ'.set i (setS s (ys ++ [z])))) (h0 : ∃ s ys, ρ[i]? = some s ∧ (s = .own ys ∨ s = .bor ys))
    (hd : (x == ("__debug__" : Str)) = false := by decide) (hcd : (x == ("__classdict__" : Str)) = false := by decide)
    (hbase : attributeBase (.Name x p1) "append" X.env (eval (.Name x p1) X.env) = eval (.Name x p1) X.env := by rfl)
    (hfew : ((backTo p3 (starEach [e] X.env)).all (fun x => !x.1) && (backToKw p3 (keywordEach [] X.env)).all (fun x => x.1.isSome) && decide (([e] : List Expr).length + ([] : List Keyword).length + (if ([] : List Keyword).isEmpty then 0 else 1) < 30)) = true := by rfl)
    (hline : (p2.endLine == p3.line) = true := by rfl) (hse : starEach [e] X.env = (false, eval e X.env) :: starEach [] X.env := by rfl) (hpl : (backTo p3 (starEach [] X.env)).any (·.1) = false := by rfl)
    (hsw : swapsWith (.Call (.Attribute (.Name x p1) "append" p2) [e] [] p3) none p4.line X.env = pure false := by rfl) : XS X b ρ (.Expr (.Call (.Attribute (.Name x p1) "append" p2) [e] [] p3) p4) p := fun σ H L D l hh k => by
  obtain ⟨s0, ys0, h0r, h0s⟩ := h0
  obtain ⟨a, ha⟩ := slot_ref l h0r h0s hh
  refine ⟨_, ps_expr (pe_bm PySem.F.plainAttrs_list PySem.F.slot_list_append PySem.F.type_list_append mt_append (pe_var hN hv hd hcd) (pa_cons (we_pe e) pa_nil hse) hbase hfew hline hse hpl) hsw, .ref a, ha, ?_, ?_⟩
  · obtain ⟨x0, hx0, hm⟩ := zip_mem l h0r
    rw [ha] at hx0
    cases hx0
    obtain ⟨G, hG⟩ := hh
    have ok := hG.ok _ (List.mem_append_left _ hm)
    rcases h0s with rfl | rfl
    · obtain ⟨q, us, e, _, _, h3, _⟩ := ok; cases e; exact .inl ⟨rfl, us, .of h3⟩
    · obtain ⟨q, us, e, _, _, h3, _⟩ := ok; cases e; exact .inl ⟨rfl, us, .of h3⟩
  · refine h σ H L _ l hh fun r ρ' v H' h1 l' hh' => ?_
    have n' := l'.symm.trans l
    obtain ⟨s, ys, z, er, hr, hs, hz, hp⟩ := h1 n'
    have hh2 := hh'.cool
    rw [er] at hh2
    obtain ⟨M, q1, q2⟩ := set_perm (s' := setS s (ys ++ [z])) hr ha
    obtain ⟨G, hG⟩ := hh2
    have hG2 : HoldG X.K b G H' ((some (.ref a), s) :: (some v, .d z) :: (M ++ L)) := hG.perm ((List.Perm.swap ..).trans (List.Perm.cons _ (q1.symm.append_right L)))
    obtain ⟨us, e1, e2, e3⟩ := cell_lst hG2 hs
    refine ⟨a, us, v, rfl, rfl, e1, by rw [e2]; exact hz, k.nx _ _ _ hp (by simp [l']) (by simp [n']) ?_⟩
    have hv : Dp X.K G v z := hG.seq
    have hput := hG2.put (s' := setS s (ys ++ [z])) (ys := ys) (ys' := ys ++ [z]) (vs := us ++ [v]) (by rcases hs with rfl | rfl <;> simp [setS]) (DpAll.app e3 (.cons hv .nil))
    exact ⟨G, ((hput.perm ((List.Perm.swap ..))).drop).perm (q2.append_right L)⟩
theorem xs_extend (i : Nat) {p : Po} {x : Str} {p1 p2 p3 p4 : Pos} (hN : X.N[i]? = some x) (hv : Vis X.env.scope x)
    (h : EV X b ρ e fun r ρ' => ρ'.length = ρ.length → ∃ s ys zs, r = .own zs ∧ ρ'[i]? = some s ∧ (s = .own ys ∨ s = .bor ys) ∧ ys.length + zs.length ≤ sizeLine ∧ p.nx (ρ'.set i (setS s (ys ++ zs)))) (h0 : ∃ s ys, ρ[i]? = some s ∧ (s = .own ys ∨ s = .bor ys))
    (hd : (x == ("__debug__" : Str)) = false := by decide) (hcd : (x == ("__classdict__" : Str)) = false := by decide)
    (hbase : attributeBase (.Name x p1) "extend" X.env (eval (.Name x p1) X.env) = eval (.Name x p1) X.env := by rfl)
    (hfew : ((backTo p3 (starEach [e] X.env)).all (fun x => !x.1) && (backToKw p3 (keywordEach [] X.env)).all (fun x => x.1.isSome) && decide (([e] : List Expr).length + ([] : List Keyword).length + (if ([] : List Keyword).isEmpty then 0 else 1) < 30)) = true := by rfl)
    (hline : (p2.endLine == p3.line) = true := by rfl) (hse : starEach [e] X.env = (false, eval e X.env) :: starEach [] X.env := by rfl) (hpl : (backTo p3 (starEach [] X.env)).any (·.1) = false := by rfl)
    (hsw : swapsWith (.Call (.Attribute (.Name x p1) "extend" p2) [e] [] p3) none p4.line X.env = pure false := by rfl) : XS X b ρ (.Expr (.Call (.Attribute (.Name x p1) "extend" p2) [e] [] p3) p4) p := fun σ H L D l hh k => by
  obtain ⟨s0, ys0, h0r, h0s⟩ := h0
  obtain ⟨a, ha⟩ := slot_ref l h0r h0s hh
  refine ⟨_, ps_expr (pe_bm PySem.F.plainAttrs_list PySem.F.slot_list_extend PySem.F.type_list_extend mt_extend (pe_var hN hv hd hcd) (pa_cons (we_pe e) pa_nil hse) hbase hfew hline hse hpl) hsw, .ref a, ha, ?_, ?_⟩
  · obtain ⟨x0, hx0, hm⟩ := zip_mem l h0r
    rw [ha] at hx0
    cases hx0
    obtain ⟨G, hG⟩ := hh
    have ok := hG.ok _ (List.mem_append_left _ hm)
    rcases h0s with rfl | rfl
    · obtain ⟨q, us, e, _, _, h3, _⟩ := ok; cases e; exact .inl ⟨rfl, us, .of h3⟩
    · obtain ⟨q, us, e, _, _, h3, _⟩ := ok; cases e; exact .inl ⟨rfl, us, .of h3⟩
  · refine h σ H L _ l hh fun r ρ' v H' h1 l' hh' => ?_
    have n' := l'.symm.trans l
    obtain ⟨s, ys, zs, er, hr, hs, hz, hp⟩ := h1 n'
    subst er
    obtain ⟨M, q1, q2⟩ := set_perm (s' := setS s (ys ++ zs)) hr ha
    obtain ⟨G, hG⟩ := hh'
    have hG2 : HoldG X.K b G H' ((some (.ref a), s) :: (some v, .own zs) :: (M ++ L)) := hG.perm ((List.Perm.swap ..).trans (List.Perm.cons _ (q1.symm.append_right L)))
    obtain ⟨us, e1, e2, e3⟩ := cell_lst hG2 hs
    obtain ⟨q, ws, ev, _, _, w3, w4⟩ := hG2.ok _ (List.mem_cons_of_mem _ List.mem_cons_self)
    cases ev
    refine ⟨a, q, us, ws, rfl, rfl, e1, w3, by rw [e2, DpAll.len w4]; exact hz, k.nx _ _ _ hp (by simp [l']) (by simp [n']) ?_⟩
    have hput := hG2.put (s' := setS s (ys ++ zs)) (ys := ys) (ys' := ys ++ zs) (vs := us ++ ws) (by rcases hs with rfl | rfl <;> simp [setS]) (DpAll.app e3 w4)
    exact ⟨G, ((hput.perm ((List.Perm.swap ..))).drop).perm (q2.append_right L)⟩
/-- sep.join(texts) -/
theorem ev_join {p1 p2 : Pos} (h : EV X b ρ e1 fun r1 ρ1 => ∃ a, r1 = .d (.str a) ∧ EV X b ρ1 e2 fun r2 ρ2 => ∃ ys : List Str, (cool r2 = .d (.list (ys.map .str)) ∨ r2 = .d (.tuple (ys.map .str))) ∧ (ys.map (·.length)).sum + ys.length * a.length ≤ 16777216 ∧ p (.d (.str (Txt.join a ys))) ρ2)
    (hs : starEach [e2] X.env = [(false, eval e2 X.env)] := by rfl) (hbase : attributeBase e1 "join" X.env (eval e1 X.env) = eval e1 X.env := by rfl) (hline : (p1.endLine == p2.line) = true := by rfl) : EV X b ρ (.Call (.Attribute e1 "join" p1) [e2] [] p2) p := fun σ H L Q l hh k =>
  ⟨_, pe_join (we_pe e1) (we_pe e2) hs hbase hline, h σ H L _ l hh fun r1 ρ1 v1 H1 ⟨a, er, h1⟩ l1 hh1 => by
    subst er
    have ev := hh1.isS
    subst ev
    refine ⟨⟨_, rfl⟩, h1 σ H1 L _ l1 hh1.drop fun r2 ρ2 v2 H2 ⟨ys, h2, hz, hp⟩ l2 hh2 => ?_⟩
    rcases h2 with h2 | h2
    · obtain ⟨q, xs, rfl, lx, h3⟩ := hh2.toL h2
      obtain ⟨G, hG⟩ := id h3
      obtain ⟨v, ev, a', ea, s1, s2⟩ := hG.ok _ List.mem_cons_self
      cases ev
      cases ea
      have := dp_strs s2
      subst this
      exact ⟨a, q, ys, rfl, rfl, .inl h3.itemsL, hz, k _ ρ2 _ H2 hp l2 (h3.drop.str _)⟩
    · subst h2
      obtain ⟨q, xs, rfl, lx, h3⟩ := hh2.toT
      obtain ⟨G, hG⟩ := id h3
      obtain ⟨v, ev, a', ea, s1, s2⟩ := hG.ok _ List.mem_cons_self
      cases ev
      cases ea
      have := dp_strs s2
      subst this
      exact ⟨a, q, ys, rfl, rfl, .inr h3.itemsT, hz, k _ ρ2 _ H2 hp l2 (h3.drop.str _)⟩⟩
/-! ### slices -/
def WO (X : Cx) (o : Option Expr) (σ : L2.St) (H : Hp) (Q : Option Int → Hp → Prop) : Prop := ∃ t, PO X o t ∧ t σ H Q
theorem wo_po (o : Option Expr) : PO X o (WO X o) := ⟨fun pins s σ H Q I ⟨_, h, q⟩ => h.run pins s σ H Q I q⟩
def EO (X : Cx) (b : Bs) (ρ : List Sl) (o : Option Expr) (p : Option Int → List Sl → Prop) : Prop := match o with
  | none => p none ρ
  | some e => EV X b ρ e fun r ρ' => ∃ i, r = .d (.int i) ∧ p (some i) ρ'
theorem eo_go {o : Option Expr} {p : Option Int → List Sl → Prop} (h : EO X b ρ o p) : ∀ σ H L Q, σ.length = ρ.length → Hold X.K b H (σ.zip ρ ++ L) → (∀ c ρ' H', p c ρ' → σ.length = ρ'.length → Hold X.K b H' (σ.zip ρ' ++ L) → Q c H') → WO X o σ H Q := fun σ H L Q l hh k => by
  cases o with
  | none => exact ⟨_, po_none, k none ρ H h l hh⟩
  | some e => exact ⟨_, po_some (we_pe e), h σ H L _ l hh fun r ρ' v H' ⟨i, er, hp⟩ l' hh' => by
      subst er
      have ev := hh'.isI
      subst ev
      exact ⟨i, rfl, k (some i) ρ' H' hp l' hh'.drop⟩⟩
def sSl (X : Cx) : V → Option Int → Option Int → Hp → VK → Prop := fun x lo hi H Q => ∃ rr : V → Option Int → Option Int → Hp → VK → Prop, SlR X rr ∧ rr x lo hi H Q
theorem ssl_ok : SlR X (sSl X) := fun pins s σ H x v vl vu lo hi sl Q I rx hs pl pu ⟨_, h, q⟩ => h pins s σ H x v vl vu lo hi sl Q I rx hs pl pu q
/-- the cut of a value -/
inductive Cut : Sl → Option Int → Option Int → (Sl → Prop) → Prop
  | str {z : Str} {lo hi : Option Int} {p : Sl → Prop} : z.length ≤ sizeLine → p (.d (.str (cutS z lo hi))) → Cut (.d (.str z)) lo hi p
  | lst {r : Sl} {ys : List PyData} {lo hi : Option Int} {p : Sl → Prop} : cool r = .d (.list ys) → p (.own (((ys.drop (HT.sIx ys.length 0 lo)).take (HT.sIx ys.length ys.length hi - HT.sIx ys.length 0 lo)))) → Cut r lo hi p
  | tup {ys : List PyData} {lo hi : Option Int} {p : Sl → Prop} : p (.d (.tuple (((ys.drop (HT.sIx ys.length 0 lo)).take (HT.sIx ys.length ys.length hi - HT.sIx ys.length 0 lo))))) → Cut (.d (.tuple ys)) lo hi p
theorem DpAll.drop2 {K : PySem.W.Frag} {G : Hp} : ∀ {xs : List V} {ys : List PyData} (n : Nat), DpAll K G xs ys → DpAll K G (xs.drop n) (ys.drop n)
  | _, _, 0, h => by simpa using h
  | _, _, _ + 1, .nil => by simpa using DpAll.nil
  | _, _, n + 1, .cons _ h => by simpa using DpAll.drop2 n h
theorem DpAll.take2 {K : PySem.W.Frag} {G : Hp} : ∀ {xs : List V} {ys : List PyData} (n : Nat), DpAll K G xs ys → DpAll K G (xs.take n) (ys.take n)
  | _, _, 0, h => by simpa using DpAll.nil
  | _, _, _ + 1, .nil => by simpa using DpAll.nil
  | _, _, n + 1, .cons g h => by simpa using DpAll.cons g (DpAll.take2 n h)
theorem ev_slice {lo hi : Option Expr} {p1 p2 : Pos} (h : EV X b ρ e fun r ρ1 => (∀ ys, r ≠ .bor ys) ∧ EO X b ρ1 lo fun l ρ2 => EO X b ρ2 hi fun u ρ3 => Cut r l u fun r' => p r' ρ3) : EV X b ρ (.Subscript e (.Slice lo hi none p1) p2) p := fun σ H L Q l hh k =>
  ⟨_, pe_slice ssl_ok (we_pe e) (wo_po lo) (wo_po hi), h σ H L _ l hh fun r ρ1 v H1 ⟨nb, h1⟩ l1 hh1 => eo_go h1 σ H1 ((some v, r) :: L) _ l1 (hh1.perm perm_in.symm) fun lv ρ2 H2 h2 l2 hh2 => eo_go h2 σ H2 ((some v, r) :: L) _ l2 hh2 fun uv ρ3 H3 h3 l3 hh3 => by
    have hh4 := hh3.perm (perm_in (A := σ.zip ρ3))
    cases h3 with
    | str hz hp =>
      have ev := hh4.isS
      subst ev
      exact ⟨_, sl_str, _, rfl, hz, k _ ρ3 _ H3 hp l3 (hh4.drop.str _)⟩
    | lst er hp =>
      obtain ⟨a, xs, rfl, lx, h5⟩ := hh4.toL er
      refine ⟨_, sl_list, a, xs, rfl, h5.itemsL, fun q hq => k _ ρ3 _ _ hp l3 ?_⟩
      obtain ⟨G, hG⟩ := h5
      obtain ⟨v', ev, a', ea, s1, s2⟩ := hG.ok _ List.mem_cons_self
      cases ev
      cases ea
      refine ⟨G, hG.drop.newL hq ?_⟩
      unfold cutV
      rw [lx]
      exact DpAll.take2 _ (DpAll.drop2 _ s2)
    | tup hp =>
      obtain ⟨a, xs, rfl, lx, h5⟩ := hh4.toT
      obtain ⟨G, hG⟩ := id h5
      obtain ⟨v', ev, a', ea, s1, s2⟩ := hG.ok _ List.mem_cons_self
      cases ev
      cases ea
      refine ⟨_, sl_tupA, a, xs, rfl, h5.itemsT, fun w => ?_, fun _ q hq => ?_⟩
      · refine k _ ρ3 _ H3 hp l3 ⟨G, hG.drop.add ?_⟩
        have w1 := w.1
        have w2 := w.2
        rw [lx] at w1 w2
        rw [w1, w2, List.drop_zero, Nat.sub_zero, List.take_of_length_le (Nat.le_refl _)]
        exact .tup s1 s2
      · refine k _ ρ3 _ _ hp l3 ⟨_, hG.drop.newT hq ?_⟩
        unfold cutV
        rw [lx]
        exact DpAll.take2 _ (DpAll.drop2 _ s2)⟩
/-- the operands are changed no more -/
theorem OV.cool {f : Value → Value → Sem Value} {r1 r2 : Sl} {p : Sl → Prop} (h : OV X b f (DE.cool r1) (DE.cool r2) p) : OV X b f r1 r2 p := by
  obtain ⟨rr, ho, k⟩ := h
  refine ⟨rr, ho, fun v1 v2 H L Q hh q => k v1 v2 H L Q ?_ q⟩
  have h1 := hh.cool
  exact ((h1.perm (List.Perm.swap ..)).cool).perm (List.Perm.swap ..)
theorem IV.cool {r1 r2 : Sl} {p : Sl → Prop} (h : IV X b (DE.cool r1) (DE.cool r2) p) : IV X b r1 r2 p := by
  obtain ⟨rr, ho, k⟩ := h
  refine ⟨rr, ho, fun v1 v2 H L Q hh q => k v1 v2 H L Q ?_ q⟩
  have h1 := hh.cool
  exact ((h1.perm (List.Perm.swap ..)).cool).perm (List.Perm.swap ..)
theorem dp_ints {K : PySem.W.Frag} {G : Hp} : ∀ {xs : List V} {ys : List Int}, DpAll K G xs (ys.map .int) → xs = ys.map .int
  | [], [], _ => rfl
  | [], _ :: _, h => by cases h
  | _ :: _, [], h => by cases h
  | x :: xs, y :: ys, h => by
    cases h with
    | cons h1 h2 =>
      cases h1
      rw [dp_ints h2, List.map_cons]
theorem intIn (z : Int) : ∀ l : List Int, inV (.int z) (l.map V.int) = l.contains z
  | [] => rfl
  | x :: l => by
    have ih := intIn z l
    unfold inV at ih ⊢
    rw [List.map_cons, List.any_cons, ih, List.contains_cons]
    congr 1
    simp only [eqV]
    first | rfl | exact Bool.beq_comm .. | (rw [Bool.eq_iff_iff]; simp [eq_comm])
theorem intFlat (l : List Int) : (l.map V.int).all flatV = true := by
  rw [List.all_map]
  exact List.all_eq_true.mpr fun _ _ => rfl
theorem ov_inI {x : Int} {ys : List Int} {y : PyData} {p : Sl → Prop} (hy : y = .tuple (ys.map .int) ∨ y = .list (ys.map .int)) (h : p (.d (.bool (ys.contains x)))) : OV X b (compareOp .In) (.d (.int x)) (.d y) p := ⟨_, op_in_seq, fun v1 v2 H L Q hh k => by
  have e1 := hh.isI
  subst e1
  have hd := hh.drop.dp
  rcases hy with rfl | rfl
  · cases hd with
    | tup h1 h2 =>
      have e := dp_ints h2
      subst e
      refine ⟨_, _, rfl, .inr h1, rfl, intFlat _, ?_⟩
      rw [intIn]
      exact k _ _ H h (hh.drop.drop.bl _)
  · cases hd with
    | lst h1 h2 =>
      have e := dp_ints h2
      subst e
      refine ⟨_, _, rfl, .inl h1, rfl, intFlat _, ?_⟩
      rw [intIn]
      exact k _ _ H h (hh.drop.drop.bl _)⟩
/-- one sign in a text -/
theorem ov_inC {c : Nat} {z : Str} {p : Sl → Prop} (h : p (.d (.bool (decide (c ∈ z.cps.toList))))) : OV X b (compareOp .In) (.d (.str ⟨#[c]⟩)) (.d (.str z)) p := ⟨_, op_inS, fun v1 v2 H L Q hh k => by
  have e1 := hh.isS
  have e2 := hh.drop.isS
  subst e1 e2
  exact ⟨c, z, rfl, rfl, k _ _ H h (hh.drop.drop.bl _)⟩⟩
theorem ov_notInC {c : Nat} {z : Str} {p : Sl → Prop} (h : p (.d (.bool (!decide (c ∈ z.cps.toList))))) : OV X b (compareOp .NotIn) (.d (.str ⟨#[c]⟩)) (.d (.str z)) p := ⟨_, op_notInS, fun v1 v2 H L Q hh k => by
  have e1 := hh.isS
  have e2 := hh.drop.isS
  subst e1 e2
  exact ⟨c, z, rfl, rfl, k _ _ H h (hh.drop.drop.bl _)⟩⟩
/-- x, y = e1, e2 -/
theorem xs_par (i j : Nat) {p : Po} {x y : Str} {px py pt pos : Pos} {kt k2 : Nat} {pt2 : Pos} (hc : X.calm = true) (hN : X.N.Nodup) (hi : X.N[i]? = some x) (hj : X.N[j]? = some y) (hij : i ≠ j) (li : i < ρ.length) (lj : j < ρ.length)
    (hx : X.env.scope.names.lookup x = some .local) (hy : X.env.scope.names.lookup y = some .local) (h : EA X b ρ [e1, e2] fun rs ρ' => ρ'.length = ρ.length → ∃ r1 r2, rs = [r1, r2] ∧ p.nx ((ρ'.set i r1).set j r2))
    (hw : swappedStores [.Tuple [.Name x px, .Name y py] kt pt] (.Tuple [e1, e2] k2 pt2) X.env = pure (some [x, y]))
    (hs : swapsWithSole [.Tuple [.Name x px, .Name y py] kt pt] (.Tuple [e1, e2] k2 pt2) pos.line X.env = pure false := by rfl) :
    XS X b ρ (.Assign [.Tuple [.Name x px, .Name y py] kt pt] (.Tuple [e1, e2] k2 pt2) pos) p := fun σ H L D l hh k =>
  ⟨_, ps_par hc hN hi hj hij hx hy (wa_pa _) hw hs, h σ H L _ l hh fun rs ρ' vs H' h1 l' lv hh' => by
    have n' := l'.symm.trans l
    obtain ⟨r1, r2, er, hp⟩ := h1 n'
    subst er
    match vs, lv with
    | [v1, v2], _ =>
      refine ⟨v1, v2, rfl, k.nx _ _ H' hp (by simp [l']) (by simp [n']) ?_⟩
      have hh2 : Hold X.K b H' ((some v1, r1) :: (some v2, r2) :: (σ.zip ρ' ++ L)) := hh'
      obtain ⟨c, M, p1, p2⟩ := zip_set (r := r1) (x := some v1) (by rw [n']; exact li) l'
      have h3 : Hold X.K b H' ((some v2, r2) :: ((σ.set i (some v1)).zip (ρ'.set i r1) ++ L)) := by
        have h2 : Hold X.K b H' (c :: ((some v2, r2) :: (some v1, r1) :: (M ++ L))) := hh2.perm (by
          refine ((List.Perm.cons _ (List.Perm.swap ..)).trans ((List.Perm.swap ..).trans (List.Perm.cons _ (List.Perm.swap ..)))).trans ?_
          exact List.Perm.cons _ (List.Perm.cons _ (p1.symm.append_right L)))
        exact h2.drop.perm (List.Perm.cons _ (p2.append_right L))
      obtain ⟨c2, M2, q1, q2⟩ := zip_set (σ := σ.set i (some v1)) (ρ := ρ'.set i r1) (r := r2) (x := some v2) (i := j) (by rw [List.length_set, n']; exact lj) (by simp [l'])
      have h4 : Hold X.K b H' (c2 :: ((some v2, r2) :: (M2 ++ L))) := h3.perm ((List.Perm.swap ..).trans (List.Perm.cons _ (q1.symm.append_right L)))
      exact h4.drop.perm (q2.append_right L)⟩
end

end DE

namespace DE
open PySem PySem.Spec PyProof.Rows L2 SZ VR VX StX RT
/-- the data of cells, lists held alone read for good -/
def datas : List Sl → Option (List PyData)
  | [] => some []
  | .d y :: rs => match datas rs with
    | some ys => some (y :: ys)
    | none => none
  | .own zs :: rs => match datas rs with
    | some ys => some (.list zs :: ys)
    | none => none
  | _ => none
theorem datas_cool : ∀ {rs : List Sl} {ys : List PyData}, datas rs = some ys → rs.map cool = ys.map .d
  | [], ys, h => by
    unfold datas at h
    cases h
    rfl
  | .d y :: rs, ys, h => by
    unfold datas at h
    cases e : datas rs with
    | none => rw [e] at h; cases h
    | some zs =>
      rw [e] at h
      cases h
      rw [List.map_cons, List.map_cons, datas_cool e]
      rfl
  | .own y :: rs, ys, h => by
    unfold datas at h
    cases e : datas rs with
    | none => rw [e] at h; cases h
    | some zs =>
      rw [e] at h
      cases h
      rw [List.map_cons, List.map_cons, datas_cool e]
      rfl
  | .un :: rs, ys, h => by simp [datas] at h
  | .bor _ :: rs, ys, h => by simp [datas] at h
  | .fact _ _ :: rs, ys, h => by simp [datas] at h
section
variable {X : Cx} {b : Bs} {ρ : List Sl} {p : Sl → List Sl → Prop} {e : Expr} {es : List Expr} {pos : Pos}
theorem ev_tupD {k : Nat} (h : EA X b ρ es fun rs ρ' => ∃ ys : List PyData, datas rs = some ys ∧ ys.length ≤ 100000 ∧ p (.d (.tuple ys)) ρ') : EV X b ρ (.Tuple es k pos) p := fun σ H L Q l hh k =>
  ⟨_, pe_tup (wa_pa es), h σ H L _ l hh fun rs ρ' vs H' ⟨ys, e, n, hp⟩ l' lv hh' => by
    have h2 := hh'.coolAll
    have e2 := datas_cool e
    rw [e2] at h2
    have lr : rs.length = ys.length := by have := congrArg List.length e2; simpa using this
    refine ⟨by rw [lv, lr, sizeLine_eq]; omega, fun a ha => ?_⟩
    obtain ⟨G, hg⟩ := h2
    exact k _ ρ' _ _ hp l' ⟨_, hg.dropM.newT ha (HoldG.all (lv.trans lr) hg)⟩⟩
theorem ev_lstD (h : EA X b ρ es fun rs ρ' => ∃ ys : List PyData, datas rs = some ys ∧ ys.length ≤ 100000 ∧ p (.own ys) ρ') : EV X b ρ (.List es pos) p := fun σ H L Q l hh k =>
  ⟨_, pe_lst (wa_pa es), h σ H L _ l hh fun rs ρ' vs H' ⟨ys, e, n, hp⟩ l' lv hh' => by
    have h2 := hh'.coolAll
    have e2 := datas_cool e
    rw [e2] at h2
    have lr : rs.length = ys.length := by have := congrArg List.length e2; simpa using this
    refine ⟨by rw [lv, lr, sizeLine_eq]; omega, fun a ha => ?_⟩
    obtain ⟨G, hg⟩ := h2
    exact k _ ρ' _ _ hp l' ⟨_, hg.dropM.newL ha (HoldG.all (lv.trans lr) hg)⟩⟩
/-- a name of the module that holds data -/
def GlD (X : Cx) (x : Str) (y : PyData) : Prop := ∃ v u, X.mg x = some u ∧ RelV v u ∧ ∀ G, Dp X.K G v y
theorem ev_glob {x : Str} {y : PyData} (g : GlD X x y) (hg : Gl X x) (h : p (.d y) ρ) (hd : (x == ("__debug__" : Str)) = false := by decide) : EV X b ρ (.Name x pos) p := fun σ H L Q l hh k => by
  obtain ⟨v, u, hm, r, hv⟩ := g
  obtain ⟨G, hG⟩ := hh
  exact ⟨_, pe_glob hg hm r hd, k _ ρ v H h l ⟨G, hG.add (hv G)⟩⟩
/-- a def that is called: all that a call asks -/
structure CalP (P : Program) (w : World) (K : PySem.W.Frag) (mg : Str → Option Value) (base : Heap) (CX : CXT) (x : Str) (k : Nat) (Pre : List Sl → Prop) (Res : List Sl → Sl → Prop) : Prop where
  ex : ∃ f fd ps, FnOk P w K mg base CX k f fd ps (spP K Pre Res) ∧ mg x = some (.ref f) ∧ PySem.W.keepIn K (.ref f) = true ∧ Binds K fd ps []
structure CalB (P : Program) (w : World) (K : PySem.W.Frag) (mg : Str → Option Value) (base : Heap) (CX : CXT) (x : Str) (k : Nat) (Pre : List PyData → List Sl → Prop) (Res : List PyData → List Sl → Sl → List PyData → Prop) : Prop where
  ex : ∃ f fd ps, FnOk P w K mg base CX k f fd ps (spB K Pre Res) ∧ mg x = some (.ref f) ∧ PySem.W.keepIn K (.ref f) = true ∧ Binds K fd ps []
theorem ev_cal {CX : CXT} {k : Nat} {Pre : List Sl → Prop} {Res : List Sl → Sl → Prop} {x : Str} {p1 cp : Pos} (C : CalP X.prog X.w X.K X.mg X.base CX x k Pre Res) (hr : Room k X.A) (hg : Gl X x) {E : XK} (hx : Passes CX X E)
    (h : EA X b ρ (e :: es) fun rs ρ' => ∃ ys, datas rs = some ys ∧ Pre (ys.map .d) ∧ ∀ r, Res (ys.map .d) r → (∀ ys, r ≠ .bor ys) ∧ p r ρ')
    (hdb : (x == ("__debug__" : Str)) = false := by decide) (he : starEach (e :: es) X.env = (false, eval e X.env) :: starEach es X.env := by rfl) (hpl : (backTo cp (starEach es X.env)).any (·.1) = false := by rfl) : EV X b ρ (.Call (.Name x p1) (e :: es) [] cp) p := by
  obtain ⟨f, fd, ps, F, hm, hk, hb⟩ := C.ex
  refine ev_call F hr hg hm hk hb hx (fun σ H L Q l hh k => h σ H L Q l hh fun rs ρ' vs H' ⟨ys, ed, h1, h2⟩ => k rs ρ' vs H' ?_) hdb he hpl
  dsimp only
  rw [datas_cool ed]
  refine ⟨fun r hr => ?_, h1, h2⟩
  obtain ⟨y, _, rfl⟩ := List.mem_map.mp hr
  rfl
theorem ev_calL (i : Nat) {CX : CXT} {k : Nat} {Pre : List PyData → List Sl → Prop} {Res : List PyData → List Sl → Sl → List PyData → Prop} {x y : Str} {p1 p2 cp : Pos} (C : CalB X.prog X.w X.K X.mg X.base CX x k Pre Res) (hr : Room k X.A) (hg : Gl X x) {E : XK} (hx : Passes CX X E)
    (hN : X.N[i]? = some y) (hv : Vis X.env.scope y)
    (h : EA X b ρ es fun rs ρ' => ∃ zs, datas rs = some zs ∧ ∃ s ys, ρ'[i]? = some s ∧ (s = .own ys ∨ s = .bor ys) ∧ Pre ys (zs.map .d) ∧ ∀ r ys', Res ys (zs.map .d) r ys' → (∀ ys, r ≠ .bor ys) ∧ p r (ρ'.set i (setS s ys')))
    (hs0 : ∃ s ys, ρ[i]? = some s ∧ (s = .own ys ∨ s = .bor ys))
    (hdy : (y == ("__debug__" : Str)) = false := by decide) (hcy : (y == ("__classdict__" : Str)) = false := by decide) (hdb : (x == ("__debug__" : Str)) = false := by decide) (he : starEach (.Name y p2 :: es) X.env = (false, eval (.Name y p2) X.env) :: starEach es X.env := by rfl) (hpl : (backTo cp (starEach es X.env)).any (·.1) = false := by rfl) : EV X b ρ (.Call (.Name x p1) (.Name y p2 :: es) [] cp) p := by
  obtain ⟨f, fd, ps, F, hm, hk, hb⟩ := C.ex
  refine ev_callL i F hr hg hm hk hb hx hN hv (fun σ H L Q l hh k => h σ H L Q l hh fun rs ρ' vs H' ⟨zs, ed, h1⟩ => k rs ρ' vs H' ?_) hs0 hdy hcy hdb he hpl
  dsimp only
  rw [datas_cool ed]
  refine ⟨fun r hr => ?_, h1⟩
  obtain ⟨y, _, rfl⟩ := List.mem_map.mp hr
  rfl
end

end DE

namespace DE
open PySem PySem.Spec PyProof.Rows L2 SZ VR VX StX RT
/-! ### expressions that change nothing: what they come to -/
def EVr (X : Cx) (b : Bs) (ρ : List Sl) (e : Expr) (r : Sl) : Prop := ∀ p : Sl → List Sl → Prop, p r ρ → EV X b ρ e p
def ETr (X : Cx) (b : Bs) (ρ : List Sl) (e : Expr) (c : Bool) : Prop := ∀ p : Bool → List Sl → Prop, p c ρ → ET X b ρ e p
def EWr (X : Cx) (b : Bs) (ρ : List Sl) (e : Expr) (c : Bool) : Prop := ∀ p : Bool → List Sl → Prop, p c ρ → EW X b ρ e p
def EAr (X : Cx) (b : Bs) (ρ : List Sl) (es : List Expr) (rs : List Sl) : Prop := ∀ p : List Sl → List Sl → Prop, p rs ρ → EA X b ρ es p
def OVr (X : Cx) (b : Bs) (f : Value → Value → Sem Value) (r1 r2 r : Sl) : Prop := ∀ p : Sl → Prop, p r → OV X b f r1 r2 p
def IVr (X : Cx) (b : Bs) (r1 r2 r : Sl) : Prop := ∀ p : Sl → Prop, p r → IV X b r1 r2 p
def UVr (X : Cx) (b : Bs) (f : Value → Sem Value) (r1 r : Sl) : Prop := ∀ p : Sl → Prop, p r → UV X b f r1 p
def CVr (X : Cx) (b : Bs) (f : Value) (rs : List Sl) (r : Sl) : Prop := ∀ p : Sl → Prop, p r → CV X b f rs p
section
variable {X : Cx} {b : Bs} {ρ : List Sl} {e e1 e2 e3 : Expr} {es rest : List Expr} {pos : Pos} {r r1 r2 r3 : Sl} {x y z : PyData} {c c1 c2 : Bool}
theorem r_int {i : Int} {j} : EVr X b ρ (.Constant (.int i) j pos) (.d (.int i)) := fun _ h => ev_int h
theorem r_bl {i : Bool} {j} : EVr X b ρ (.Constant (.bool i) j pos) (.d (.bool i)) := fun _ h => ev_bl h
theorem r_str {i : Str} {j} : EVr X b ρ (.Constant (.str i) j pos) (.d (.str i)) := fun _ h => ev_str h
theorem r_non {j} : EVr X b ρ (.Constant .none j pos) (.d .none) := fun _ h => ev_non h
theorem r_var (i : Nat) {y : PyData} {x : Str} (hN : X.N[i]? = some x) (hv : Vis X.env.scope x) (hr : ρ[i]? = some (.d y)) (hd : (x == ("__debug__" : Str)) = false := by decide) (hcd : (x == ("__classdict__" : Str)) = false := by decide) : EVr X b ρ (.Name x pos) (.d y) := fun _ h => ev_var i hN hv hr h hd hcd
theorem r_glob {x : Str} {y : PyData} (g : GlD X x y) (hg : Gl X x) (hd : (x == ("__debug__" : Str)) = false := by decide) : EVr X b ρ (.Name x pos) (.d y) := fun _ h => ev_glob g hg h hd
theorem r_bin {op : Operator} (h1 : EVr X b ρ e1 r1) (h2 : EVr X b ρ e2 r2) (h3 : OVr X b (binaryOp op) r1 r2 r) : EVr X b ρ (.BinOp e1 op e2 pos) r := fun _ h => ev_bin (h1 _ (h2 _ (h3 _ h)))
theorem r_cmp {op : CmpOp} (h1 : EVr X b ρ e1 r1) (h2 : EVr X b ρ e2 r2) (h3 : OVr X b (compareOp op) r1 r2 r) (hm : behindInMarks op e2 = false := by first | exact nomark _ | rfl | with_unfolding_all rfl) : EVr X b ρ (.Compare e1 [op] [e2] pos) r := fun _ h => ev_cmp hm (h1 _ (h2 _ (h3 _ h)))
theorem t_cmp {op : CmpOp} (h1 : EVr X b ρ e1 r1) (h2 : EVr X b ρ e2 r2) (h3 : OVr X b (compareOp op) r1 r2 (.d (.bool c))) (hm : behindInMarks op e2 = false := by first | exact nomark _ | rfl | with_unfolding_all rfl) : ETr X b ρ (.Compare e1 [op] [e2] pos) c := fun _ h => et_cmp hm (h1 _ (h2 _ (h3 _ ⟨_, rfl, h⟩)))
theorem r_chain {o1 o2 : CmpOp} (h1 : EVr X b ρ e1 r1) (h2 : EVr X b ρ e2 (.d y)) (h3 : EVr X b ρ e3 r3) (h4 : OVr X b (compareOp o1) r1 (.d y) (.d (.bool c1))) (h5 : OVr X b (compareOp o2) (.d y) r3 (.d (.bool c2))) (hm : lastMarks [o1, o2] [e2, e3] = false := by with_unfolding_all rfl) : EVr X b ρ (.Compare e1 [o1, o2] [e2, e3] pos) (.d (.bool (c1 && c2))) := fun _ h =>
  ev_chain hm (h1 _ (h2 _ ⟨y, rfl, h4 _ ⟨c1, rfl, fun e => by subst e; exact h, fun e => h3 _ (h5 _ (by subst e; exact h))⟩⟩))
theorem t_chain {o1 o2 : CmpOp} (h1 : EVr X b ρ e1 r1) (h2 : EVr X b ρ e2 (.d y)) (h3 : EVr X b ρ e3 r3) (h4 : OVr X b (compareOp o1) r1 (.d y) (.d (.bool c1))) (h5 : OVr X b (compareOp o2) (.d y) r3 (.d (.bool c2))) (hm : lastMarks [o1, o2] [e2, e3] = false := by with_unfolding_all rfl) : ETr X b ρ (.Compare e1 [o1, o2] [e2, e3] pos) (c1 && c2) := fun _ h =>
  et_chain hm (h1 _ (h2 _ ⟨y, rfl, h4 _ ⟨c1, rfl, fun e => by subst e; exact h, fun e => h3 _ (h5 _ ⟨c2, rfl, by subst e; exact h⟩)⟩⟩))
theorem r_one {op : BoolOp} (h : EVr X b ρ e r) : EVr X b ρ (.BoolOp op [e] pos) r := fun _ k => ev_one (h _ k)
theorem r_and (h1 : EVr X b ρ e1 (.d (.bool c1))) (h2 : c1 = true → EVr X b ρ (.BoolOp .And (e2 :: rest) pos) (.d (.bool c2))) : EVr X b ρ (.BoolOp .And (e1 :: e2 :: rest) pos) (.d (.bool (c1 && c2))) := fun _ h =>
  ev_and (h1 _ ⟨c1, rfl, fun e => by subst e; exact h, fun e => h2 e _ (by subst e; exact h)⟩)
theorem r_or (h1 : EVr X b ρ e1 (.d (.bool c1))) (h2 : c1 = false → EVr X b ρ (.BoolOp .Or (e2 :: rest) pos) (.d (.bool c2))) : EVr X b ρ (.BoolOp .Or (e1 :: e2 :: rest) pos) (.d (.bool (c1 || c2))) := fun _ h =>
  ev_or (h1 _ ⟨c1, rfl, fun e => by subst e; exact h, fun e => h2 e _ (by subst e; exact h)⟩)
theorem r_not (h1 : EVr X b ρ e (.d (.bool c))) : EVr X b ρ (.UnaryOp .Not e pos) (.d (.bool (!c))) := fun _ h => ev_not (h1 _ ⟨c, rfl, h⟩)
theorem t_val (h1 : EVr X b ρ e (.d (.bool c))) (he : ∀ whole, isTrue e X.env whole = (do let v ← whole; standAt e.pos; holding [v] (truthy v)) := by intro _; rfl) : ETr X b ρ e c := fun _ h => et_val he (h1 _ ⟨c, rfl, h⟩)
theorem t_not (h1 : ETr X b ρ e c) : ETr X b ρ (.UnaryOp .Not e pos) (!c) := fun _ h => et_not (h1 _ h)
theorem t_w (h1 : EWr X b ρ e c) : ETr X b ρ e c := fun _ h => et_w (h1 _ h)
theorem w_and1 (h1 : ETr X b ρ e c) : EWr X b ρ (.BoolOp .And [e] pos) c := fun _ h => ew_and1 (h1 _ h)
theorem w_or1 (h1 : ETr X b ρ e c) : EWr X b ρ (.BoolOp .Or [e] pos) c := fun _ h => ew_or1 (h1 _ h)
theorem w_and (h1 : ETr X b ρ e1 c1) (h2 : c1 = true → EWr X b ρ (.BoolOp .And (e2 :: rest) pos) c2) : EWr X b ρ (.BoolOp .And (e1 :: e2 :: rest) pos) (c1 && c2) := fun _ h =>
  ew_and (h1 _ ⟨fun e => by subst e; exact h, fun e => h2 e _ (by subst e; exact h)⟩)
theorem w_or (h1 : ETr X b ρ e1 c1) (h2 : c1 = false → EWr X b ρ (.BoolOp .Or (e2 :: rest) pos) c2) : EWr X b ρ (.BoolOp .Or (e1 :: e2 :: rest) pos) (c1 || c2) := fun _ h =>
  ew_or (h1 _ ⟨fun e => by subst e; exact h, fun e => h2 e _ (by subst e; exact h)⟩)
theorem r_if {t : Expr} (h : ETr X b ρ t c) (h1 : c = true → EVr X b ρ e1 (.d x)) (h2 : c = false → EVr X b ρ e2 (.d y)) : EVr X b ρ (.IfExp t e1 e2 pos) (.d (if c = true then x else y)) := fun _ k =>
  ev_if (h _ ⟨fun e => h1 e _ (by subst e; exact k), fun e => h2 e _ (by subst e; exact k)⟩)
/-- .. of one kind -/
theorem r_ifI {t : Expr} {x y : Int} (h : ETr X b ρ t c) (h1 : c = true → EVr X b ρ e1 (.d (.int x))) (h2 : c = false → EVr X b ρ e2 (.d (.int y))) : EVr X b ρ (.IfExp t e1 e2 pos) (.d (.int (if c = true then x else y))) := fun _ k =>
  ev_if (h _ ⟨fun e => h1 e _ (by subst e; exact k), fun e => h2 e _ (by subst e; exact k)⟩)
theorem r_ifS {t : Expr} {x y : Str} (h : ETr X b ρ t c) (h1 : c = true → EVr X b ρ e1 (.d (.str x))) (h2 : c = false → EVr X b ρ e2 (.d (.str y))) : EVr X b ρ (.IfExp t e1 e2 pos) (.d (.str (if c = true then x else y))) := fun _ k =>
  ev_if (h _ ⟨fun e => h1 e _ (by subst e; exact k), fun e => h2 e _ (by subst e; exact k)⟩)
theorem r_un {op : UnaryOp} (h1 : EVr X b ρ e r1) (h2 : UVr X b (unaryOp op) r1 r) : EVr X b ρ (.UnaryOp op e pos) r := fun _ h => ev_un (h1 _ (h2 _ h))
theorem a_nil : EAr X b ρ [] [] := fun _ h => ea_nil h
theorem a_cons {rs : List Sl} (h1 : EVr X b ρ e r) (h2 : EAr X b ρ es rs) (hs : starEach (e :: es) X.env = (false, eval e X.env) :: starEach es X.env := by rfl) : EAr X b ρ (e :: es) (r :: rs) := fun _ h => ea_cons hs (h1 _ (h2 _ h))
theorem r_tup {k : Nat} {rs : List Sl} {ys : List PyData} (h : EAr X b ρ es rs) (e : datas rs = some ys) (n : ys.length ≤ 100000 := by simp) : EVr X b ρ (.Tuple es k pos) (.d (.tuple ys)) := fun _ k => ev_tupD (h _ ⟨ys, e, n, k⟩)
theorem r_lst {rs : List Sl} {ys : List PyData} (h : EAr X b ρ es rs) (e : datas rs = some ys) (n : ys.length ≤ 100000 := by simp) : EVr X b ρ (.List es pos) (.own ys) := fun _ k => ev_lstD (h _ ⟨ys, e, n, k⟩)
theorem r_ix (h1 : EVr X b ρ e1 r1) (h2 : EVr X b ρ e2 r2) (h3 : IVr X b r1 r2 r) (hs : PlainIx e2 := by intro _ _; rfl) : EVr X b ρ (.Subscript e1 e2 pos) r := fun _ h => ev_ix hs (h1 _ (h2 _ (h3 _ h)))
theorem r_callB {id : String} {x : Str} {ps cp : Pos} {rs : List Sl} (hm : X.mg x = none) (h : EAr X b ρ (e :: es) rs) (h3 : CVr X b (.builtin id) rs r) (hg : Gl X x := by rfl) (hv : bootBuiltins x = some (.builtin id) := by decide +kernel) (hn : x ≠ "__name__" := by decide) (hdb : (x == ("__debug__" : Str)) = false := by decide)
    (he : starEach (e :: es) X.env = (false, eval e X.env) :: starEach es X.env := by rfl) (hpl : (backTo cp (starEach es X.env)).any (·.1) = false := by rfl) : EVr X b ρ (.Call (.Name x ps) (e :: es) [] cp) r := fun _ k => ev_callB hg hm hv (h _ (h3 _ k)) hn hdb he hpl
theorem r_callTy {T : String} {x : Str} {ps cp : Pos} {rs : List Sl} (hm : X.mg x = none) (h : EAr X b ρ (e :: es) rs) (h3 : CVr X b (.type T) rs r) (hg : Gl X x := by rfl) (hv : bootBuiltins x = some (.type T) := by decide +kernel) (hn : x ≠ "__name__" := by decide) (hdb : (x == ("__debug__" : Str)) = false := by decide)
    (he : starEach (e :: es) X.env = (false, eval e X.env) :: starEach es X.env := by rfl) (hpl : (backTo cp (starEach es X.env)).any (·.1) = false := by rfl) : EVr X b ρ (.Call (.Name x ps) (e :: es) [] cp) r := fun _ k => ev_callTy hg hm hv (h _ (h3 _ k)) hn hdb he hpl
theorem r_isi {t : String} {x : Str} {ps cp pn : Pos} (hm : X.mg "isinstance" = none) (hmt : X.mg x = none) (h : EVr X b ρ e (.d y)) (hg : Gl X "isinstance" := by rfl) (hgt : Gl X x := by rfl) (hv : bootBuiltins x = some (.type t) := by decide +kernel) (ht : t = "int" ∨ t = "bool" ∨ t = "str" ∨ t = "tuple" ∨ t = "list" ∨ t = "dict" := by decide)
    (hn : x ≠ "__name__" := by decide) (hd : (x == ("__debug__" : Str)) = false := by decide) (he : starEach [e, .Name x pn] X.env = (false, eval e X.env) :: starEach [.Name x pn] X.env := by rfl) (hpl : (backTo cp (starEach [.Name x pn] X.env)).any (·.1) = false := by rfl) :
    EVr X b ρ (.Call (.Name "isinstance" ps) [e, .Name x pn] [] cp) (.d (.bool (subTy (tyD y) t))) := fun _ k => ev_isi hg hm hgt hmt hv ht (h _ ⟨y, rfl, k⟩) hn hd he hpl
theorem r_cal {CX : CXT} {k : Nat} {Pre : List Sl → Prop} {Res : List Sl → Sl → Prop} {x : Str} {p1 cp : Pos} {rs : List Sl} {ys : List PyData} (C : CalP X.prog X.w X.K X.mg X.base CX x k Pre Res) (hr : Room k X.A) {E : XK} (hx : Passes CX X E)
    (h : EAr X b ρ (e :: es) rs) (ed : datas rs = some ys) (h1 : Pre (ys.map .d)) (h2 : ∀ r', Res (ys.map .d) r' → r' = r) (nb : ∀ ys, r ≠ .bor ys := by intro _; nofun) (hg : Gl X x := by rfl)
    (hdb : (x == ("__debug__" : Str)) = false := by decide) (he : starEach (e :: es) X.env = (false, eval e X.env) :: starEach es X.env := by rfl) (hpl : (backTo cp (starEach es X.env)).any (·.1) = false := by rfl) : EVr X b ρ (.Call (.Name x p1) (e :: es) [] cp) r := fun _ q =>
  ev_cal C hr hg hx (h _ ⟨ys, ed, h1, fun r' hr' => by rw [h2 r' hr']; exact ⟨nb, q⟩⟩) hdb he hpl
theorem r_join {p1 p2 : Pos} {a : Str} {ys : List Str} (h1 : EVr X b ρ e1 (.d (.str a))) (h2 : EVr X b ρ e2 r2) (h3 : cool r2 = .d (.list (ys.map .str)) ∨ r2 = .d (.tuple (ys.map .str))) (hz : (ys.map (·.length)).sum + ys.length * a.length ≤ 16777216)
    (hs : starEach [e2] X.env = [(false, eval e2 X.env)] := by rfl) (hbase : attributeBase e1 "join" X.env (eval e1 X.env) = eval e1 X.env := by rfl) (hline : (p1.endLine == p2.line) = true := by rfl) : EVr X b ρ (.Call (.Attribute e1 "join" p1) [e2] [] p2) (.d (.str (Txt.join a ys))) := fun _ k =>
  ev_join (h1 _ ⟨a, rfl, h2 _ ⟨ys, h3, hz, k⟩⟩) hs hbase hline
theorem r_slice {lo hi : Option Expr} {l u : Option Int} {p1 p2 : Pos} (h : EVr X b ρ e r) (hl : ∀ p, p l ρ → EO X b ρ lo p) (hu : ∀ p, p u ρ → EO X b ρ hi p) (h3 : ∀ p : Sl → Prop, p r2 → Cut r l u p) (nb : ∀ ys, r ≠ .bor ys := by intro _; nofun) : EVr X b ρ (.Subscript e (.Slice lo hi none p1) p2) r2 := fun _ k => ev_slice (h _ ⟨nb, hl _ (hu _ (h3 _ k))⟩)
theorem o_none {p : Option Int → List Sl → Prop} (h : p none ρ) : EO X b ρ none p := h
theorem o_some {i : Int} {p : Option Int → List Sl → Prop} (h1 : EVr X b ρ e (.d (.int i))) (h : p (some i) ρ) : EO X b ρ (some e) p := h1 _ ⟨i, rfl, h⟩
variable {p : Po} {st : List Stmt} {s1 s2 : List Stmt}
theorem x_ret (h : EVr X b ρ e r) (k : p.rt r ρ) : XS X b ρ (.Return (some e) pos) p := xs_ret (h _ fun _ => k)
theorem x_if {t : Expr} (h : ETr X b ρ t c) (h1 : c = true → XB X b ρ s1 p) (h2 : c = false → XB X b ρ s2 p) : XS X b ρ (.If t s1 s2 pos) p := xs_if (h _ fun _ => ⟨h1, h2⟩)
theorem x_set (i : Nat) {x : Str} {pos' : Pos} {ρ2 : List Sl} (h : EVr X b ρ e r) (hi : X.N[i]? = some x) (hx : Loc X.env.scope x) (hN : X.N.Nodup) (h2 : ρ.set i r = ρ2) (k : p.nx ρ2) (hl : i < ρ.length := by first | decide | simp) (hs : swapsWith e (some (.Name x pos')) pos.line X.env = pure false := by rfl) (hf : X.fn x = true ∨ X.env.scope.names.lookup x = some .local := by first | exact .inl rfl | exact .inr rfl | assumption) : XS X b ρ (.Assign [.Name x pos'] e pos) p :=
  xs_set i hN hi hx hl hs hf (h _ fun _ => by rw [h2]; exact k)
theorem x_cons {stm : Stmt} {rest : List Stmt} (h : XS X b ρ stm { p with nx := fun ρ' => ρ'.length = ρ.length → XB X b ρ' rest p }) : XB X b ρ (stm :: rest) p := xb_cons h
end

end DE

namespace DE
open PySem PySem.Spec PyProof.Rows L2 SZ VR VX StX RT
def strsOf : List PyData → Option (List Str)
  | [] => some []
  | .str x :: r => match strsOf r with
    | some l => some (x :: l)
    | none => none
  | _ => none
theorem strsOf_map : ∀ {ys : List PyData} {l : List Str}, strsOf ys = some l → ys = l.map .str
  | [], l, h => by
    unfold strsOf at h
    cases h
    rfl
  | .str x :: r, l, h => by
    unfold strsOf at h
    cases e : strsOf r with
    | none => rw [e] at h; cases h
    | some l' =>
      rw [e] at h
      cases h
      rw [strsOf_map e, List.map_cons]
  | .none :: _, l, h => by simp [strsOf] at h
  | .bool _ :: _, l, h => by simp [strsOf] at h
  | .int _ :: _, l, h => by simp [strsOf] at h
  | .list _ :: _, l, h => by simp [strsOf] at h
  | .tuple _ :: _, l, h => by simp [strsOf] at h
  | .dict _ :: _, l, h => by simp [strsOf] at h
def intsOf : List PyData → Option (List Int)
  | [] => some []
  | .int x :: r => match intsOf r with
    | some l => some (x :: l)
    | none => none
  | _ => none
theorem intsOf_map : ∀ {ys : List PyData} {l : List Int}, intsOf ys = some l → ys = l.map .int
  | [], l, h => by
    unfold intsOf at h
    cases h
    rfl
  | .int x :: r, l, h => by
    unfold intsOf at h
    cases e : intsOf r with
    | none => rw [e] at h; cases h
    | some l' =>
      rw [e] at h
      cases h
      rw [intsOf_map e, List.map_cons]
  | .none :: _, l, h => by simp [intsOf] at h
  | .bool _ :: _, l, h => by simp [intsOf] at h
  | .str _ :: _, l, h => by simp [intsOf] at h
  | .list _ :: _, l, h => by simp [intsOf] at h
  | .tuple _ :: _, l, h => by simp [intsOf] at h
  | .dict _ :: _, l, h => by simp [intsOf] at h
section
variable {X : Cx} {b : Bs} {ρ : List Sl} {e e1 e2 tg elt iter : Expr} {es rest ifs : List Expr} {pos : Pos} {r r1 r2 : Sl} {x y z : PyData} {c : Bool}
theorem or_inS {z : Str} {ds : List PyData} {l : List Str} (er : cool r2 = .d (.list ds) ∨ cool r2 = .d (.tuple ds)) (e : strsOf ds = some l) : OVr X b (compareOp .In) (.d (.str z)) r2 (.d (.bool (l.contains z))) := fun _ h => OV.cool (by
  rcases er with er | er
  · rw [er]; exact ov_inS (.inr (by rw [strsOf_map e])) h
  · rw [er]; exact ov_inS (.inl (by rw [strsOf_map e])) h)
theorem or_notInS {z : Str} {ds : List PyData} {l : List Str} (er : cool r2 = .d (.list ds) ∨ cool r2 = .d (.tuple ds)) (e : strsOf ds = some l) : OVr X b (compareOp .NotIn) (.d (.str z)) r2 (.d (.bool (!l.contains z))) := fun _ h => OV.cool (by
  rcases er with er | er
  · rw [er]; exact ov_notInS (.inr (by rw [strsOf_map e])) h
  · rw [er]; exact ov_notInS (.inl (by rw [strsOf_map e])) h)
theorem or_inI {z : Int} {ds : List PyData} {l : List Int} (er : cool r2 = .d (.list ds) ∨ cool r2 = .d (.tuple ds)) (e : intsOf ds = some l) : OVr X b (compareOp .In) (.d (.int z)) r2 (.d (.bool (l.contains z))) := fun _ h => OV.cool (by
  rcases er with er | er
  · rw [er]; exact ov_inI (.inr (by rw [intsOf_map e])) h
  · rw [er]; exact ov_inI (.inl (by rw [intsOf_map e])) h)
theorem or_inC {a : Nat} {z : Str} : OVr X b (compareOp .In) (.d (.str ⟨#[a]⟩)) (.d (.str z)) (.d (.bool (decide (a ∈ z.cps.toList)))) := fun _ h => ov_inC h
theorem or_notInC {a : Nat} {z : Str} : OVr X b (compareOp .NotIn) (.d (.str ⟨#[a]⟩)) (.d (.str z)) (.d (.bool (!decide (a ∈ z.cps.toList)))) := fun _ h => ov_notInC h
theorem or_addS {x y : Str} (hz : x.length + y.length ≤ sizeLine) : OVr X b (binaryOp .Add) (.d (.str x)) (.d (.str y)) (.d (.str (x ++ y))) := fun _ h => ov_addS hz h
theorem or_cat {xs ys : List PyData} (hz : xs.length + ys.length ≤ sizeLine) : OVr X b (binaryOp .Add) (.own xs) (.own ys) (.own (xs ++ ys)) := fun _ h => ov_cat hz h
theorem or_eqD {d1 d2 : PyData} (hu : X.A.units + 64 < cLine) (e1 : cool r1 = .d d1) (e2 : cool r2 = .d d2) (h1 : SeqAt.shaped d1 = true) (h2 : SeqAt.shaped d2 = true) : OVr X b (compareOp .Eq) r1 r2 (.d (.bool (PyData.eqv d1 d2))) := fun _ h => OV.cool (by rw [e1, e2]; exact ov_eqD hu h1 h2 h)
theorem or_neD {d1 d2 : PyData} (hu : X.A.units + 64 < cLine) (e1 : cool r1 = .d d1) (e2 : cool r2 = .d d2) (h1 : SeqAt.shaped d1 = true) (h2 : SeqAt.shaped d2 = true) : OVr X b (compareOp .NotEq) r1 r2 (.d (.bool (!PyData.eqv d1 d2))) := fun _ h => OV.cool (by rw [e1, e2]; exact ov_neD hu h1 h2 h)
theorem ir_at {ys : List PyData} {i : Int} (er : cool r1 = .d (.list ys) ∨ cool r1 = .d (.tuple ys)) (hi : atI ys i = some y) : IVr X b r1 (.d (.int i)) (.d y) := fun _ h => IV.cool (by
  rcases er with er | er
  · rw [er]; exact iv_lst hi h
  · rw [er]; exact iv_tup hi h)
theorem ir_str {z : Str} {i : Int} {a : Nat} (hz : z.length ≤ sizeLine) (hi : atI z.cps.toList i = some a) : IVr X b (.d (.str z)) (.d (.int i)) (.d (.str ⟨#[a]⟩)) := fun _ h => iv_str hz hi h
theorem cr_lenS {z : Str} (hz : z.length ≤ sizeLine) : CVr X b (.builtin "len") [.d (.str z)] (.d (.int z.length)) := fun _ h => cv_lenS hz h
theorem cr_strI {i : Int} (hz : i.natAbs.log2 < 1920) : CVr X b (.type "str") [.d (.int i)] (.d (.str (toString i))) := fun _ h => cv_strI hz h
/-! ### comprehensions that change nothing -/
def EIr (X : Cx) (b : Bs) (ρ : List Sl) (tg iter : Expr) (ys : List PyData) : Prop := ∀ p : List PyData → List Sl → Prop, p ys ρ → EI X b ρ tg iter p
def ETsr (X : Cx) (b : Bs) (ρ : List Sl) (es : List Expr) (c : Bool) : Prop := ∀ p : Bool → List Sl → Prop, p c ρ → ETs X b ρ es p
theorem ts_nil : ETsr X b ρ [] true := fun _ h => ets_nil h
theorem ts_one (h : ETr X b ρ e c) : ETsr X b ρ [e] c := fun _ k => ets_one (h _ k)
theorem i_list {ys : List PyData} (h : EVr X b ρ e r) (er : cool r = .d (.list ys)) : EIr X b ρ tg e ys := fun _ k => ei_list (h _ ⟨ys, er, k⟩)
theorem i_tup {ys : List PyData} (h : EVr X b ρ e (.d (.tuple ys))) : EIr X b ρ tg e ys := fun _ k => ei_tup (h _ ⟨ys, rfl, k⟩)
theorem i_str {z : Str} (h : EVr X b ρ e (.d (.str z))) : EIr X b ρ tg e (strD z) := fun _ k => ei_str (h _ ⟨z, rfl, k⟩)
theorem i_range {n : Int} {p1 p2 : Pos} (hm : X.mg "range" = none) (h : EVr X b ρ e (.d (.int n))) (b1 : -(2 ^ 62) ≤ n) (b2 : n < 2 ^ 62) (hg : Gl X "range" := by rfl) (hs : starEach [e] X.env = [(false, eval e X.env)] := by rfl) : EIr X b ρ tg (.Call (.Name "range" p1) [e] [] p2) (rngD 0 n.toNat) := fun _ k => ei_range hg hm (h _ ⟨n, rfl, b1, b2, k⟩) hs
theorem i_enum {p1 p2 tpos : Pos} {elts : List Expr} {kk : Nat} {ys : List PyData} (hm : X.mg "enumerate" = none) (h : EVr X b ρ e r) (er : cool r = .d (.list ys)) (hg : Gl X "enumerate" := by rfl) (hs : starEach [e] X.env = [(false, eval e X.env)] := by rfl) : EIr X b ρ (.Tuple elts kk tpos) (.Call (.Name "enumerate" p1) [e] [] p2) (enD ys) := fun _ k => ei_enum hg hm (h _ ⟨ys, er, k⟩) hs
/-- stores that are told -/
def EGr (X : Cx) (b : Bs) (ts : List Nat) (ρ : List Sl) (tg : Expr) (r : Sl) (ρ2 : List Sl) : Prop := ∀ p : List Sl → Prop, p ρ2 → EG X b ts ρ tg r p
theorem g_name (i : Nat) {ts : List Nat} {x : Str} {ρ2 : List Sl} (hi : X.N[i]? = some x) (hx : Loc X.env.scope x) (hN : X.N.Nodup) (e : ρ.set i r = ρ2) (hl : i < ρ.length := by first | decide | simp) (ht : i ∈ ts := by first | decide | simp) (hf : X.fn x = true ∨ X.env.scope.names.lookup x = some .local := by first | exact .inl rfl | exact .inr rfl | assumption) : EGr X b ts ρ (.Name x pos) r ρ2 := fun _ k => eg_name i hN hi hx hl ht (by rw [e]; exact k) hf
def EGsr (X : Cx) (b : Bs) (ts : List Nat) (ρ : List Sl) (tgs : List Expr) (rs : List Sl) (ρ2 : List Sl) : Prop := ∀ p : List Sl → Prop, p ρ2 → EGs X b ts ρ tgs rs p
theorem gs_nil {ts : List Nat} : EGsr X b ts ρ [] [] ρ := fun _ k => egs_nil k
theorem gs_cons {ts : List Nat} {tgs : List Expr} {rs : List Sl} {ρ1 ρ2 : List Sl} (h1 : EGr X b ts ρ tg r ρ1) (h2 : EGsr X b ts ρ1 tgs rs ρ2) (hs : (assignEach (tg :: tgs) X.env).map (·.2) = assign tg X.env :: (assignEach tgs X.env).map (·.2) := by rfl) : EGsr X b ts ρ (tg :: tgs) (r :: rs) ρ2 := fun _ k => egs_cons hs (h1 _ fun _ => h2 _ k)
theorem g_tup {ts : List Nat} {tgs : List Expr} {k0 : Nat} {ys : List PyData} {ρ2 : List Sl} (hc : X.calm = true) (h : EGsr X b ts ρ tgs (ys.map .d) ρ2) (hn : ys.length = tgs.length := by rfl) (hna : (assignEach tgs X.env).length = tgs.length := by rfl) (hst : (assignEach tgs X.env).findIdx? (·.1) = none := by rfl) : EGr X b ts ρ (.Tuple tgs k0 pos) (.d (.tuple ys)) ρ2 := fun _ k => eg_tup hc hn hna hst (h _ k)
theorem lc_turn {scope : Scope} {vs : List Nat} {y : PyData} {ρ2 : List Sl} {acc : List PyData} {J : List PyData → List Sl → Prop} (hg : AllB X scope fun Y => EGr Y b vs ρ tg (.d y) ρ2) (ht : AllB X scope fun Y => ETsr Y b ρ2 ifs c) (hw : wipeR ρ2 vs = ρ)
    (h0 : c = false → J acc ρ) (h1 : c = true → ∃ r z, (AllB X scope fun Y => EVr Y b ρ2 elt r) ∧ cool r = .d z ∧ acc.length < sizeLine ∧ J (acc ++ [z]) ρ) : LcTurn X b scope tg elt ifs vs y ρ acc J :=
  ⟨fun ρ' => ρ' = ρ2, fun s H C cl fp => hg s H C cl fp _ rfl, fun ρ' e => by
    subst e
    refine ⟨fun c' ρ3 => c' = c ∧ ρ3 = ρ', fun s H C cl fp => ht s H C cl fp _ ⟨rfl, rfl⟩, fun c' ρ3 ⟨e1, e2⟩ => ?_⟩
    subst e1 e2
    refine ⟨fun e => by rw [hw]; exact h0 e, fun e => ?_⟩
    obtain ⟨r, z, hr, er, hz, hJ⟩ := h1 e
    exact ⟨hz, fun s H C cl fp => hr s H C cl fp _ ⟨z, er, by rw [hw]; exact hJ⟩⟩⟩
theorem r_lc {α : Type} {scope : Scope} (own : List (Str × Nat)) (l : List α) (g : α → PyData) (cf : α → Bool) (f : α → PyData) (ρt : α → List Sl) {ys : List PyData} (hi : EIr X b ρ tg iter ys) (ey : ys = l.map g) (hc : X.calm = true) (hN : X.N.Nodup) (ok : BlkOk X.N X.env.scope scope own) (hun : ∀ v ∈ own.map (·.2), ρ[v]? = some .un) (hlen : l.length ≤ 100000)
    (hg : ∀ y ∈ l, AllB X scope fun Y => EGr Y b (own.map (·.2)) ρ tg (.d (g y)) (ρt y)) (hw : ∀ y ∈ l, wipeR (ρt y) (own.map (·.2)) = ρ) (ht : ∀ y ∈ l, AllB X scope fun Y => ETsr Y b (ρt y) ifs (cf y))
    (he : ∀ y ∈ l, cf y = true → ∃ r, (AllB X scope fun Y => EVr Y b (ρt y) elt r) ∧ cool r = .d (f y)) (hs : ∀ x, foldedSetIterable iter X.env x = pure x := by intro _; rfl) : EVr X b ρ (.ListComp elt [⟨tg, iter, ifs, 0⟩] scope pos) (.own ((l.filter cf).map f)) := fun p k => by
  refine ev_lc own hc hN ok (hi _ fun _ => ⟨fun i acc ρ' => acc = (((l.take i).filter cf).map f) ∧ ρ' = ρ, ⟨by simp, rfl⟩, fun i acc ρ' ⟨_, e⟩ => by subst e; exact hun, fun i y acc ρ' hy _ ⟨ea, e⟩ => ?_, fun acc ρ' ⟨ea, e⟩ => by subst ea e ey; rw [List.length_map, List.take_length]; exact k⟩) hs
  subst e ey
  rw [List.getElem?_map] at hy
  cases hx : l[i]? with
  | none => rw [hx] at hy; cases hy
  | some x =>
    rw [hx] at hy
    cases hy
    have hm : x ∈ l := List.mem_of_getElem? hx
    have htk : l.take (i + 1) = l.take i ++ [x] := by rw [List.take_add_one, hx]; rfl
    refine lc_turn (hg x hm) (ht x hm) (hw x hm) (fun e => ⟨?_, rfl⟩) fun e => ?_
    · rw [htk, List.filter_append, List.filter_cons, e, ea]
      simp
    · obtain ⟨r, hr, er⟩ := he x hm e
      refine ⟨r, f x, hr, er, ?_, ?_, rfl⟩
      · rw [ea, List.length_map, sizeLine_eq]
        have h1 := List.length_filter_le cf (l.take i)
        have hb : i < l.length := (List.getElem?_eq_some_iff.mp hx).1
        rw [List.length_take] at h1
        omega
      · rw [htk, List.filter_append, List.filter_cons, e, ea]
        simp
end

theorem cr_strS {X : Cx} {b : Bs} {z : Str} : CVr X b (.type "str") [.d (.str z)] (.d (.str z)) := fun _ h => ⟨_, SkE.call_str_str, fun vs H L Q lv hh k => by
  obtain ⟨v, rfl⟩ := one_in (rs := []) lv
  have hh : Hold X.K b H ((some v, .d (.str z)) :: L) := hh
  have e := hh.isS
  subst e
  exact ⟨z, rfl, k _ _ H h (hh.drop.str _)⟩⟩

end DE

namespace DE
open PySem PySem.Spec PyProof.Rows L2 SZ VR VX StX RT
section
variable {X : Cx} {b : Bs} {ρ : List Sl} {p : Sl → List Sl → Prop} {e e2 : Expr} {pos : Pos}
/-- a list held alone is handed on: the name keeps nothing -/
theorem ev_mov (i : Nat) {ys : List PyData} {x : Str} (hN : X.N[i]? = some x) (hv : Vis X.env.scope x) (hr : ρ[i]? = some (.own ys)) (h : p (.own ys) (ρ.set i .un)) (hd : (x == ("__debug__" : Str)) = false := by decide) (hcd : (x == ("__classdict__" : Str)) = false := by decide) : EV X b ρ (.Name x pos) p := fun σ H L Q l hh q => by
  obtain ⟨a, ha⟩ := slot_ref l hr (.inl rfl) hh
  obtain ⟨M, p1, p2⟩ := set_perm (s' := .un) hr ha
  refine ⟨_, pe_var hN hv hd hcd, .ref a, ha, q _ _ _ H h (by simp [l]) ?_⟩
  have h1 : Hold X.K b H ((some (.ref a), .own ys) :: (M ++ L)) := hh.perm (p1.symm.append_right L)
  have h2 := (h1.un (x := some (.ref a))).perm (L' := (some (.ref a), .own ys) :: ((some (.ref a), .un) :: (M ++ L))) (List.Perm.swap ..)
  exact h2.perm (List.Perm.cons _ (p2.append_right L))
theorem x_retO (i : Nat) {po : Po} {ys : List PyData} {x : Str} {pos' : Pos} (hN : X.N[i]? = some x) (hv : Vis X.env.scope x) (hr : ρ[i]? = some (.own ys)) (h : po.rt (.own ys) (ρ.set i .un)) (hd : (x == ("__debug__" : Str)) = false := by decide) (hcd : (x == ("__classdict__" : Str)) = false := by decide) : XS X b ρ (.Return (some (.Name x pos)) pos') po := xs_ret (ev_mov i hN hv hr (fun _ => h) hd hcd)
/-- a list held alone is read, and stays so: what stands in it -/
theorem cell_read {K : PySem.W.Frag} {G H : Hp} {a : Addr} {ys : List PyData} {L : List Cl} (h : HoldG K b G H ((some (.ref a), .own ys) :: L)) : ∃ us, H a = some (.lst us) ∧ DpAll K G us ys := by
  obtain ⟨q, us, e, _, _, h3, h4⟩ := h.ok _ List.mem_cons_self
  cases e
  exact ⟨us, h3, h4⟩
theorem ev_catO (i : Nat) {x : Str} {px : Pos} (hN : X.N[i]? = some x) (hv : Vis X.env.scope x) (h0 : ∃ ys, ρ[i]? = some (.own ys)) (h : EV X b ρ e2 fun r ρ' => ∃ ys zs, ρ'[i]? = some (.own ys) ∧ r = .own zs ∧ ys.length + zs.length ≤ sizeLine ∧ p (.own (ys ++ zs)) ρ') (hd : (x == ("__debug__" : Str)) = false := by decide) (hcd : (x == ("__classdict__" : Str)) = false := by decide) : EV X b ρ (.BinOp (.Name x px) .Add e2 pos) p := fun σ H L Q l hh q => by
  obtain ⟨ys0, hr0⟩ := h0
  obtain ⟨a, ha⟩ := slot_ref l hr0 (.inl rfl) hh
  refine ⟨_, pe_op op_cat (pe_var hN hv hd hcd) (we_pe e2), .ref a, ha, h σ H L _ l hh fun r ρ' v H' ⟨ys, zs, hr, er, hz, hp⟩ l' hh' => ?_⟩
  subst er
  obtain ⟨M, p1, _⟩ := set_perm (s' := .un) hr ha
  obtain ⟨G, hG⟩ := id hh'
  obtain ⟨c, ws, ec, _, _, w3, w4⟩ := hG.ok _ List.mem_cons_self
  cases ec
  obtain ⟨us, u1, u2⟩ := cell_read (hG.drop.perm (p1.symm.append_right L))
  refine ⟨a, c, us, ws, rfl, rfl, u1, w3, by rw [DpAll.len u2, DpAll.len w4]; exact hz, fun f hf => q _ ρ' _ _ hp l' ⟨G, ?_⟩⟩
  exact hG.drop.newL hf (DpAll.app u2 w4)
theorem r_catO (i : Nat) {ys zs : List PyData} {x : Str} {px : Pos} (hN : X.N[i]? = some x) (hv : Vis X.env.scope x) (hr : ρ[i]? = some (.own ys)) (h : EVr X b ρ e2 (.own zs)) (hz : ys.length + zs.length ≤ sizeLine) (hd : (x == ("__debug__" : Str)) = false := by decide) (hcd : (x == ("__classdict__" : Str)) = false := by decide) : EVr X b ρ (.BinOp (.Name x px) .Add e2 pos) (.own (ys ++ zs)) := fun _ k => ev_catO i hN hv ⟨ys, hr⟩ (h _ ⟨ys, zs, hr, rfl, hz, k⟩) hd hcd
/-- len(x), x[e] of a list held alone -/
theorem r_lenO (i : Nat) {s : Sl} {ys : List PyData} {x : Str} {p1 p2 cp : Pos} (hm : X.mg "len" = none) (hN : X.N[i]? = some x) (hv : Vis X.env.scope x) (hr : ρ[i]? = some s) (hs : s = .own ys ∨ s = .bor ys) (hg : Gl X "len" := by rfl) (hd : (x == ("__debug__" : Str)) = false := by decide) (hcd : (x == ("__classdict__" : Str)) = false := by decide)
    (he : starEach [.Name x p2] X.env = (false, eval (.Name x p2) X.env) :: starEach [] X.env := by rfl) (hpl : (backTo cp (starEach [] X.env)).any (·.1) = false := by rfl) : EVr X b ρ (.Call (.Name "len" p1) [.Name x p2] [] cp) (.d (.int ys.length)) := fun p k σ H L Q l hh q => by
  obtain ⟨a, ha⟩ := slot_ref l hr hs hh
  refine ⟨_, pe_callB call_len_seq hg hm PySem.boot_len (pa_cons (pe_var hN hv hd hcd) pa_nil he) (by decide) (by decide) he hpl, .ref a, ha, ?_⟩
  obtain ⟨M, p1, _⟩ := set_perm (s' := .un) hr ha
  obtain ⟨G, hG⟩ := id hh
  obtain ⟨us, u1, u2, _⟩ := cell_lst (hG.perm (p1.symm.append_right L)) hs
  refine ⟨a, us, rfl, .inl (.of u1), ?_⟩
  rw [u2]
  exact q _ ρ _ H k l (hh.int _)
theorem r_ixO (i : Nat) {s : Sl} {ys : List PyData} {k : Int} {y : PyData} {x : Str} {p2 : Pos} (hN : X.N[i]? = some x) (hv : Vis X.env.scope x) (hr : ρ[i]? = some s) (hs : s = .own ys ∨ s = .bor ys) (h2 : EVr X b ρ e2 (.d (.int k))) (hk : atI ys k = some y) (hp : PlainIx e2 := by intro _ _; rfl) (hd : (x == ("__debug__" : Str)) = false := by decide) (hcd : (x == ("__classdict__" : Str)) = false := by decide) : EVr X b ρ (.Subscript (.Name x p2) e2 pos) (.d y) := fun p kk σ H L Q l hh q => by
  obtain ⟨a, ha⟩ := slot_ref l hr hs hh
  refine ⟨_, pe_ix ix_list (pe_var hN hv hd hcd) (we_pe e2) hp, .ref a, ha, h2 (fun r ρ' => r = .d (.int k) ∧ ρ' = ρ) ⟨rfl, rfl⟩ σ H L _ l hh fun r ρ' v H' ⟨er, e⟩ l' hh' => ?_⟩
  subst er e
  have ev := hh'.isI
  subst ev
  obtain ⟨M, p1, _⟩ := set_perm (s' := .un) hr ha
  obtain ⟨G, hG⟩ := hh'.drop
  obtain ⟨us, u1, _, u3⟩ := cell_lst (hG.perm (p1.symm.append_right L)) hs
  obtain ⟨u, hu, hd⟩ := dp_at u3 hk
  exact ⟨a, us, k, u, rfl, rfl, .of u1, hu, q _ ρ' _ H' kk l ⟨G, hG.add hd⟩⟩
end

end DE

namespace DE
open PySem PySem.Spec PyProof.Rows L2 SZ VR VX StX RT
/-! ### a call that knows a part of the heap -/
section
variable {P : Program} {w : World} {G G' H : Hp} {h h' : Heap} {a : Addr} {o : HO}
theorem objok_flat : ∀ {o : HO}, flatO o = true → ObjOk P w H h a o → ObjOk P w G h a o
  | .lst _, _, x => x
  | .tup _, _, x => x
  | .dK _, _, x => x
  | .set _ _, _, x => x
  | .xd _, _, x => x
  | .rng _ _, _, x => x
  | .tbl _, _, x => x
  | .met _ _, _, x => x
  | .ext _, _, x => x
  | .frz _ u, e, x => ⟨x.1, objok_flat (o := u) e x.2⟩
theorem objok_ex : ∀ {o : HO}, ObjOk P w H h a o → ∃ ob, h.get? a = some ob
  | .lst _, ⟨_, _, _, _, e⟩ => ⟨_, e⟩
  | .tup _, ⟨_, _, _, ob, e, _⟩ => ⟨ob, e⟩
  | .dK _, ⟨_, _, _, _, o, _, _, e, _⟩ => ⟨o, e⟩
  | .dT _, ⟨_, _, _, _, o, _, _, e, _⟩ => ⟨o, e⟩
  | .set _ _, ⟨o, _, _, _, e, _⟩ => ⟨o, e⟩
  | .ins _ _ _, ⟨_, _, _, e, _⟩ => ⟨_, e⟩
  | .own _, ⟨o, e⟩ => ⟨o, e⟩
  | .xd _, ⟨_, ⟨o, _, _, e, _⟩, _⟩ => ⟨o, e⟩
  | .rng _ _, ⟨_, _, _, e⟩ => ⟨_, e⟩
  | .frz ob _, ⟨e, _⟩ => ⟨ob, e⟩
  | .tbl _, e => ⟨_, e⟩
  | .met _ _, e => ⟨_, e⟩
  | .ext _, ⟨_, ⟨o, e⟩, _⟩ => ⟨o, e⟩
theorem hok_sub (hs : Same G H) (fl : FlO G) (x : HOk P w H h) : HOk P w G h := fun a o e => by
  have ok := x a o (hs a o e)
  rcases fl a o e with ⟨C, dx, fs, rfl, e2⟩ | ⟨y, rfl, _⟩ | hf
  · obtain ⟨_, r⟩ := ok
    exact ⟨e2, r⟩
  · exact ok
  · exact objok_flat hf ok
/-- what is known behind it -/
def uni (G G' H : Hp) : Hp := fun b => match G' b with
  | some o => some o
  | none => if (G b).isSome = true then none else H b
theorem uni_in (e : G' a = some o) : uni G G' H a = some o := by unfold uni; rw [e]
theorem uni_out (e1 : G' a = none) (e2 : G a = none) : uni G G' H a = H a := by unfold uni; rw [e1, e2]; rfl
theorem uni_ok {fs : List Addr} (hs : Same G H) (fl : FlO G) (x : HOk P w H h) (x' : HOk P w G' h') (u : Un fs [] G G' h h') (hf : ∀ b ∈ fs, H b = none) : HOk P w (uni G G' H) h' ∧ Un fs [] H (uni G G' H) h h' ∧ Same G' (uni G G' H) ∧ (∀ b o, H b = some o → G b = none → uni G G' H b = some o) ∧ ∀ b o, G' b = some o → (G b).isSome = true ∨ H b = none := by
  have ex : ∀ {b o}, H b = some o → ∃ ob, h.get? b = some ob := fun {b o} e => objok_ex (x b o e)
  have out : ∀ {b o}, H b = some o → G b = none → G' b = none := fun {b o} e n => by
    obtain ⟨ob, eo⟩ := ex e
    exact u.free b ob eo n (by simp)
  have keepU : ∀ b o, H b = some o → G b = none → uni G G' H b = some o := fun b o e n => by rw [uni_out (out e n) n]; exact e
  have gnone : ∀ {b}, H b = none → G b = none := fun {b} e => by
    cases q : G b with
    | none => rfl
    | some o => rw [hs b o q] at e; cases e
  have tup : ∀ b xs, H b = some (.tup xs) → uni G G' H b = some (.tup xs) := fun b xs e => by
    cases q : G b with
    | none => exact keepU b _ e q
    | some o =>
      have := hs b o q
      rw [e] at this
      cases this
      exact uni_in (u.tups b xs q)
  refine ⟨fun b o e => ?_, ⟨fun b ob q n hb hx => u.keep b ob q (gnone n) hb hx, fun b ob q n hb hx => u.slot b ob q (gnone n) hb hx, fun b ob q n hx => ?_, u.there, tup, fun b ob v e => ?_, fun b ps e => ?_⟩, fun b o e => uni_in e, keepU, fun b o e => ?_⟩
  · cases q : G' b with
    | some o' =>
      rw [uni_in q] at e
      cases e
      exact (x' b o q).stay (fun _ _ _ z => z) (fun c z => uni_in z) fun c xs z => uni_in z
    | none =>
      have n : G b = none := by
        cases r : G b with
        | none => rfl
        | some o' => unfold uni at e; rw [q, r] at e; simp at e
      rw [uni_out q n] at e
      have nb : b ∉ fs := fun z => by rw [hf b z] at e; cases e
      have own : ∀ c, H c = some (.own b) → G c = none := fun c ec => by
        cases r : G c with
        | none => rfl
        | some o' =>
          have := hs c o' r
          rw [ec] at this
          cases this
          rcases fl c _ r with ⟨_, _, _, z, _⟩ | ⟨y, z, k⟩ | z
          · cases z
          · cases z; rw [n] at k; cases k
          · cases z
      refine (x b o e).stay (fun c v hc z => ?_) (fun c ec => keepU c _ ec (own c ec)) tup
      rcases hc with rfl | hc
      · exact u.keep c v z n nb (by simp)
      · exact u.keep c v z (own c hc) (fun zz => by rw [hf c zz] at hc; cases hc) (by simp)
  · rw [uni_out (u.free b ob q (gnone n) hx) (gnone n)]
    exact n
  · cases q : G b with
    | none => exact keepU b _ e q
    | some o =>
      have := hs b o q
      rw [e] at this
      cases this
      exact uni_in (u.frzs b ob v q)
  · cases q : G b with
    | none => exact ⟨#[], by rw [keepU b _ e q]; simp⟩
    | some o =>
      have := hs b o q
      rw [e] at this
      cases this
      obtain ⟨more, z⟩ := u.tbls b ps q
      exact ⟨more, uni_in z⟩
  · cases q : H b with
    | none => exact .inr rfl
    | some v =>
      cases r : G b with
      | some _ => exact .inl rfl
      | none => rw [out q r] at e; cases e
end
section
variable {P : Program} {w : World} {K : PySem.W.Frag} {mg : Str → Option Value} {base : Heap} {k : Nat} {f : Addr} {fd : FuncData} {ps : List Str} {sp : Sp}
/-- sp, asked of a part G of the heap; the rest stays -/
def frm (sp : Sp) : Sp := fun vs H Q E => ∃ G : Hp, Same G H ∧ FlO G ∧ sp vs G (fun v G' => ∀ H', Same G' H' → (∀ b o, H b = some o → G b = none → H' b = some o) → (∀ b o, G' b = some o → (G b).isSome = true ∨ H b = none) → Q v H') E
theorem frm_run {A : Around} {outer : List Env} {s : Shared} {H : Hp} {args : Args} {vs : List V} {Q : VK} {E : XK} (run : ∀ (H : Hp) (Q : VK), Env0 P w K mg base A outer s H → sp vs H Q E → codeAny (model P w) A (.call (.ref f) args) (CR CX0 outer P w H s Q E) s)
    (e0 : Env0 P w K mg base A outer s H) (h : frm sp vs H Q E) : codeAny (model P w) A (.call (.ref f) args) (CR CX0 outer P w H s Q E) s := by
  obtain ⟨G, hs, fl, h⟩ := h
  have gn : ∀ {b}, H b = none → G b = none := fun {b} e => hs.free e
  refine codeAny_mono (run G _ ⟨e0.frames, e0.mod, fun b o e => ⟨(e0.bs b o e).1, gn (e0.bs b o e).2⟩, e0.bsz, e0.funs, fun b hb => gn (e0.frf b hb), hok_sub hs fl e0.hok, e0.bare⟩ h) fun r s' hr => ?_
  match r, hr with
  | .ok (.ret u), ⟨v, G', os, bare, un, hok, rv, q⟩ =>
    obtain ⟨h1, h2, h3, h4, h5⟩ := uni_ok hs fl e0.hok hok un e0.frf
    exact ⟨v, uni G G' H, os, bare, h2, h1, rv, q _ h3 h4 h5⟩
  | .ok .next, hr => exact hr.elim
  | .ok .brk, hr => exact hr.elim
  | .ok .cont, hr => exact hr.elim
  | .error e, hr => exact hr.elim
theorem _root_.L2.FnOk.frm (F : FnOk P w K mg base CX0 k f fd ps sp) : FnOk P w K mg base CX0 k f fd ps (DE.frm sp) :=
  ⟨fun vs H Q E ⟨G, _, _, h⟩ => F.len vs G _ E h, fun A outer s H args us vs Q E hr e0 hb hv h => frm_run (fun H Q e1 h1 => F.run A outer s H args us vs Q E hr e1 hb hv h1) e0 h⟩
theorem _root_.VX.RunG.frm (F : RunG P w K mg base CX0 k f fd ps sp) : RunG P w K mg base CX0 k f fd ps (DE.frm sp) :=
  fun A outer s H args us vs Q E hg hr e0 hb hv h => frm_run (fun H Q e1 h1 => F A outer s H args us vs Q E hg hr e1 hb hv h1) e0 h
theorem _root_.VX.RunG.imp {CX : CXT} {sp' : Sp} (F : RunG P w K mg base CX k f fd ps sp) (h : ∀ vs H Q E, sp' vs H Q E → sp vs H Q E) : RunG P w K mg base CX k f fd ps sp' :=
  fun A outer s H args us vs Q E hg hr e0 hb hv hh => F A outer s H args us vs Q E hg hr e0 hb hv (h _ _ _ _ hh)
/-- what is new and leans on nothing -/
def flt (G G' : Hp) : Hp := fun b => match G b with
  | some o => some o
  | none => match G' b with
    | some o => if flatO o = true then some o else none
    | none => none
theorem flt_same {G G' : Hp} : Same G (flt G G') := fun b o e => by unfold flt; rw [e]
theorem flt_up {G G' : Hp} (s : Same G G') : Same (flt G G') G' := fun b o e => by
  unfold flt at e
  cases q : G b with
  | some u => rw [q] at e; cases e; exact s b _ q
  | none =>
    rw [q] at e
    cases r : G' b with
    | none => rw [r] at e; cases e
    | some u =>
      rw [r] at e
      by_cases hf : flatO u = true
      · simp [hf] at e; rw [e]
      · simp [hf] at e
theorem flt_fl {G G' : Hp} (f : FlO G) : FlO (flt G G') := fun b o e => by
  cases q : G b with
  | some u =>
    have : flt G G' b = some u := flt_same b u q
    rw [this] at e
    cases e
    rcases f b _ q with ⟨C, dx, fs, e1, e2⟩ | ⟨x, e1, e2⟩ | h
    · exact .inl ⟨C, dx, fs, e1, flt_same _ _ e2⟩
    · refine .inr (.inl ⟨x, e1, ?_⟩)
      cases r : G x with
      | none => rw [r] at e2; cases e2
      | some o => rw [flt_same _ _ r]; rfl
    · exact .inr (.inr h)
  | none =>
    unfold flt at e
    rw [q] at e
    cases r : G' b with
    | none => rw [r] at e; cases e
    | some u =>
      rw [r] at e
      by_cases hf : flatO u = true
      · simp [hf] at e; subst e; exact .inr (.inr hf)
      · simp [hf] at e
theorem flt_in {G G' : Hp} (s : Same G G') {b : Addr} {o : HO} (e : G' b = some o) (hf : flatO o = true) : flt G G' b = some o := by
  unfold flt
  cases q : G b with
  | some u =>
    have := s b u q
    rw [e] at this
    cases this
    rfl
  | none => rw [e]; simp [hf]
theorem flt_rd {G G' : Hp} (s : Same G G') {a : Addr} {u : HO} (h : Rd G' a u) (hf : flatO u = true) : Rd (flt G G') a u := by
  rcases h with h | ⟨o, h⟩
  · exact .inl (flt_in s h hf)
  · exact .inr ⟨o, flt_in s h hf⟩
mutual
theorem flt_dp {G G' : Hp} (s : Same G G') : ∀ {v : V} {y : PyData}, Dp K G' v y → Dp K (flt G G') v y
  | _, _, .non => .non
  | _, _, .bl b => .bl b
  | _, _, .int i => .int i
  | _, _, .str x => .str x
  | _, _, .lst h1 h2 => .lst (h1.imp (fun z => flt_rd s z rfl) id) (flt_dpA s h2)
  | _, _, .tup h1 h2 => .tup (h1.imp (fun z => flt_rd s z rfl) id) (flt_dpA s h2)
theorem flt_dpA {G G' : Hp} (s : Same G G') : ∀ {vs : List V} {ys : List PyData}, DpAll K G' vs ys → DpAll K (flt G G') vs ys
  | _, _, .nil => .nil
  | _, _, .cons h1 h2 => .cons (flt_dp s h1) (flt_dpA s h2)
end
/-- behind a call of the elder kind that hands back data -/
theorem HoldG.oldD {b : Bs} {G G' H H' : Hp} {v : V} {y : PyData} {L : List Cl} (h : HoldG K b G H L) (s : Same G G') (d : Dp K G' v y) (h1 : Same G' H') (h2 : ∀ b o, H b = some o → G b = none → H' b = some o) (h3 : ∀ b o, G' b = some o → (G b).isSome = true ∨ H b = none) : Hold K ⟨G, H, []⟩ H' [(some v, .d y)] :=
  ⟨flt G G', flt_same, (flt_up s).trans h1, fun a o e => (h3 a o (flt_up s a o e)).imp (fun z => by
      cases q : G a with
      | none => rw [q] at z; cases z
      | some o' => rw [flt_same a o' q] at e; cases e; exact q) id, fun a o e _ => by
      cases q : G a with
      | none => exact h2 a o e q
      | some o' =>
        have e1 := h.up a o' q
        have e2 : H a = some o := e
        rw [e2] at e1
        cases e1
        exact h1 a o (s a o q), fun a ha => (nomatch ha), fun c hc => by
      rw [List.mem_singleton.mp hc]
      exact ⟨v, rfl, flt_dp s d⟩, by cases v <;> simp [ads], flt_fl h.fl⟩
end

end DE

namespace DE
open PySem PySem.Spec PyProof.Rows L2 SZ VR VX StX RT
/-! ### words of the elder kind; defs that show; menus -/
section
variable {K : PySem.W.Frag} {b : Bs} {G H H' : Hp} {L : List Cl}
theorem SlOk.same {c : Cl} (s : Same H H') (h : SlOk K b G H c) : SlOk K b G H' c := by
  obtain ⟨x, sl⟩ := c
  cases sl with
  | un => trivial
  | d y => exact h
  | own ys => obtain ⟨p, vs, e, h1, h2, h3, h4⟩ := h; exact ⟨p, vs, e, h1, h2, s _ _ h3, h4⟩
  | bor ys => obtain ⟨p, vs, e, h1, h2, h3, h4⟩ := h; exact ⟨p, vs, e, h1, h2, s _ _ h3, h4⟩
  | fact φ st => exact h
theorem HoldG.same (h : HoldG K b G H L) (s : Same H H') : HoldG K b G H' L := ⟨h.old, h.up.trans s, h.new, fun a o e n => s _ _ (h.rest a o e n), fun a ha => by
  have := h.bs a ha
  cases e : H a with
  | none => rw [e] at this; cases this
  | some o => rw [s _ _ e]; rfl, fun c hc => (h.ok c hc).same s, h.nd, h.fl⟩
theorem Hold.same (h : Hold K b H L) (s : Same H H') : Hold K b H' L := let ⟨G, h⟩ := h; ⟨G, h.same s⟩
/-- an object of one's own, new -/
theorem HoldG.obj (h : HoldG K b G H L) {x dx C : Addr} {fs : List (Str × V)} (s : Same H H') (nx : H x = none) (nd : H dx = none) (ne : dx ≠ x) (h1 : H' x = some (.ins C dx fs)) (h2 : H' dx = some (.own x)) : HoldG K b (upd (upd G dx (.own x)) x (.ins C dx fs)) H' L := by
  have gn : ∀ {c}, H c = none → G c = none := fun {c} e => h.up.free e
  have sG : Same G (upd (upd G dx (.own x)) x (.ins C dx fs)) := fun c o e => by
    rw [upd_ne (ne_of_none e (gn nx)), upd_ne (ne_of_none e (gn nd))]
    exact e
  have hb : ∀ {c}, H c = none → b.H c = none ∨ c ∈ b.B := fun {c} e => by
    by_cases hc : c ∈ b.B
    · exact .inr hc
    · cases e2 : b.H c with
      | none => exact .inl rfl
      | some o => rw [h.rest c o e2 hc] at e; cases e
  have nB : ∀ {c}, H c = none → c ∉ b.B := fun {c} e hc => by
    have := h.bs c hc
    rw [e] at this
    cases this
  have hbn : ∀ {c}, H c = none → b.H c = none := fun {c} e => (hb e).resolve_right (nB e)
  refine ⟨h.old.trans sG, fun c o e => ?_, fun c o e => ?_, fun a o e n => s _ _ (h.rest a o e n), (h.same s).bs, fun c hc => ?_, h.nd, fun c o e => ?_⟩
  · by_cases e1 : c = x
    · subst e1; rw [upd_same] at e; cases e; exact h1
    · rw [upd_ne e1] at e
      by_cases e2 : c = dx
      · subst e2; rw [upd_same] at e; cases e; exact h2
      · rw [upd_ne e2] at e
        exact s _ _ (h.up _ _ e)
  · by_cases e1 : c = x
    · subst e1; exact .inr (hbn nx)
    · rw [upd_ne e1] at e
      by_cases e2 : c = dx
      · subst e2; exact .inr (hbn nd)
      · rw [upd_ne e2] at e
        exact h.new _ _ e
  · have ok := h.ok c hc
    obtain ⟨y, sl⟩ := c
    have ow : ∀ {p : Addr} {vs : List V}, H p = some (.lst vs) → G p = none → (upd (upd G dx (.own x)) x (.ins C dx fs)) p = none := fun {p vs} hp gp => by
      rw [upd_ne (ne_of_none hp nx), upd_ne (ne_of_none hp nd)]
      exact gp
    cases sl with
    | un => trivial
    | d z => obtain ⟨v, e, hd⟩ := ok; exact ⟨v, e, Dp.keep sG hd⟩
    | own ys => obtain ⟨p, vs, e, h1, h2, h3, h4⟩ := ok; exact ⟨p, vs, e, h1, ow h3 h2, s _ _ h3, DpAll.keep sG h4⟩
    | bor ys => obtain ⟨p, vs, e, h1, h2, h3, h4⟩ := ok; exact ⟨p, vs, e, h1, ow h3 h2, s _ _ h3, DpAll.keep sG h4⟩
    | fact φ st => obtain ⟨v, e, hp⟩ := ok; exact ⟨v, e, st _ _ _ sG hp⟩
  · by_cases e1 : c = x
    · subst e1
      rw [upd_same] at e
      cases e
      exact .inl ⟨C, dx, fs, rfl, by rw [upd_ne ne, upd_same]⟩
    · rw [upd_ne e1] at e
      by_cases e2 : c = dx
      · subst e2
        rw [upd_same] at e
        cases e
        exact .inr (.inl ⟨x, rfl, by rw [upd_same]; rfl⟩)
      · rw [upd_ne e2] at e
        rcases h.fl c o e with ⟨C', d', fs', e3, e4⟩ | ⟨y, e3, e4⟩ | h3
        · refine .inl ⟨C', d', fs', e3, ?_⟩
          exact sG _ _ e4
        · refine .inr (.inl ⟨y, e3, ?_⟩)
          cases e5 : G y with
          | none => rw [e5] at e4; cases e4
          | some o' => rw [sG _ _ e5]; rfl
        · exact .inr (.inr h3)
end
section
variable {X : Cx} {b : Bs} {ρ : List Sl} {e e1 e2 : Expr} {es : List Expr} {r : Sl} {c : Bool} {pos : Pos}
theorem r_oldS {te : TE} {z : Str} (he : PE X e te) (h : ∀ σ H L (Q : VK), σ.length = ρ.length → Hold X.K b H (σ.zip ρ ++ L) → (∀ H', Same H H' → Q (.str z) H') → te σ H Q) : EVr X b ρ e (.d (.str z)) := fun _ k σ H L Q l hh q =>
  ⟨te, he, h σ H L Q l hh fun H' s => q _ ρ _ H' k l ((hh.same s).str z)⟩
theorem t_old {te : TT} (he : PT X e te) (h : ∀ σ H L (Q : Bool → Hp → Prop), σ.length = ρ.length → Hold X.K b H (σ.zip ρ ++ L) → (∀ H', Same H H' → Q c H') → te σ H Q) : ETr X b ρ e c := fun _ k σ H L Q l hh q =>
  ⟨te, he, h σ H L Q l hh fun H' s => q _ ρ H' k l (hh.same s)⟩
structure CalG (P : Program) (w : World) (K : PySem.W.Frag) (mg : Str → Option Value) (base : Heap) (CX : CXT) (x : Str) (k : Nat) (Pre : List Sl → Prop) (Res : List Sl → Sl → Prop) : Prop where
  ex : ∃ f fd ps, RunG P w K mg base CX k f fd ps (spP K Pre Res) ∧ (∀ as, Pre as → as.length = ps.length) ∧ mg x = some (.ref f) ∧ PySem.W.keepIn K (.ref f) = true ∧ Binds K fd ps []
theorem ev_calG {CX : CXT} {k : Nat} {Pre : List Sl → Prop} {Res : List Sl → Sl → Prop} {x : Str} {p1 cp : Pos} {p : Sl → List Sl → Prop} (C : CalG X.prog X.w X.K X.mg X.base CX x k Pre Res) (gd : X.A.guards = some []) (hr : Room k X.A) {E : XK} (hx : Passes CX X E)
    (h : EA X b ρ (e :: es) fun rs ρ' => ∃ ys, datas rs = some ys ∧ Pre (ys.map .d) ∧ ∀ r, Res (ys.map .d) r → (∀ ys, r ≠ .bor ys) ∧ p r ρ') (hg : Gl X x := by rfl)
    (hdb : (x == ("__debug__" : Str)) = false := by decide) (he : starEach (e :: es) X.env = (false, eval e X.env) :: starEach es X.env := by rfl) (hpl : (backTo cp (starEach es X.env)).any (·.1) = false := by rfl) : EV X b ρ (.Call (.Name x p1) (e :: es) [] cp) p := fun σ H L Q l hh q => by
  obtain ⟨f, fd, ps, F, ln, hm, hk, hb⟩ := C.ex
  refine ⟨_, pe_callSh F gd hr (fun vs H Q E z => by obtain ⟨G, as, l, _, hp, _⟩ := z; exact l.trans (ln as hp)) hg hm hk hb hx (wa_pa _) hdb he hpl, h σ H L _ l hh fun rs ρ' vs H' ⟨ys, ed, hp, h2⟩ l' lv hh' => ?_⟩
  have ec := datas_cool ed
  obtain ⟨G, hG⟩ := hh'.coolAll
  rw [ec] at hG
  have hsub := HoldG.sub0 hG (flat_zip (vs := vs) fun r hr => by
    obtain ⟨y, _, rfl⟩ := List.mem_map.mp hr
    rfl)
  refine ⟨G, ys.map .d, by rw [← ec]; simp [lv], by rw [List.append_nil]; exact hsub, hp, fun r hr n v H2 hh2 => ?_⟩
  exact q r ρ' v H2 (h2 r hr).2 l' (hG.dropM.after hh2 n)
theorem r_calG {CX : CXT} {k : Nat} {Pre : List Sl → Prop} {Res : List Sl → Sl → Prop} {x : Str} {p1 cp : Pos} {rs : List Sl} {ys : List PyData} (C : CalG X.prog X.w X.K X.mg X.base CX x k Pre Res) (gd : X.A.guards = some []) (hr : Room k X.A) {E : XK} (hx : Passes CX X E)
    (h : EAr X b ρ (e :: es) rs) (ed : datas rs = some ys) (h1 : Pre (ys.map .d)) (h2 : ∀ r', Res (ys.map .d) r' → r' = r) (nb : ∀ ys, r ≠ .bor ys := by intro _; nofun) (hg : Gl X x := by rfl)
    (hdb : (x == ("__debug__" : Str)) = false := by decide) (he : starEach (e :: es) X.env = (false, eval e X.env) :: starEach es X.env := by rfl) (hpl : (backTo cp (starEach es X.env)).any (·.1) = false := by rfl) : EVr X b ρ (.Call (.Name x p1) (e :: es) [] cp) r := fun _ q =>
  ev_calG C gd hr hx (h _ ⟨ys, ed, h1, fun r' hr' => by rw [h2 r' hr']; exact ⟨nb, q⟩⟩) hg hdb he hpl
theorem r_cool {ys : List PyData} (h : EVr X b ρ e (.own ys)) : EVr X b ρ e (.d (.list ys)) := fun _ k σ H L Q l hh q =>
  h (fun r ρ' => r = .own ys ∧ ρ' = ρ) ⟨rfl, rfl⟩ σ H L Q l hh fun r ρ' v H' ⟨e1, e2⟩ l' hh' => by
    subst e1 e2
    exact q _ ρ' v H' k l' hh'.cool
theorem ev_cool {p : Sl → List Sl → Prop} (h : EV X b ρ e fun r ρ' => p (cool r) ρ') : EV X b ρ e p := fun σ H L Q l hh q =>
  h σ H L Q l hh fun r ρ' v H' k l' hh' => q _ ρ' v H' k l' hh'.cool
/-- a list at hand and a drawn place -/
theorem ev_menu {ys : List PyData} {p : Sl → List Sl → Prop} (h1 : EVr X b ρ e1 r) (er : cool r = .d (.list ys) ∨ cool r = .d (.tuple ys)) (h2 : EV X b ρ e2 fun r2 ρ' => ∃ i : Int, r2 = .d (.int i) ∧ 0 ≤ i ∧ i < ys.length ∧ ∀ y, ys[i.toNat]? = some y → p (.d y) ρ') (hs : PlainIx e2 := by intro _ _; rfl) : EV X b ρ (.Subscript e1 e2 pos) p :=
  ev_ix hs (h1 _ (h2.imp fun r2 ρ' ⟨i, e, i0, i1, k⟩ => by
    subst e
    have hl : i.toNat < ys.length := by omega
    have hy : ys[i.toNat]? = some ys[i.toNat] := List.getElem?_eq_getElem hl
    refine ir_at er ?_ _ (k _ hy)
    unfold atI
    have : ixN ys.length i = some i.toNat := by
      have := ixN_nat (k := i.toNat) hl
      rwa [Int.toNat_of_nonneg i0] at this
    rw [this]
    exact hy))
/-- repr of plain data -/
theorem r_repr {y : PyData} {ps cp : Pos} (gd : X.A.guards = some []) (hu : X.A.units + 64 < cLine) (hm : X.mg "repr" = none) (h : EVr X b ρ e (.d y)) (h1 : y.showable = true) (h2 : y.hasDict = false) (h3 : y.depth ≤ 8) (h4 : y.shown.length ≤ sizeLine) (hg : Gl X "repr" := by rfl)
    (he : starEach [e] X.env = (false, eval e X.env) :: starEach [] X.env := by rfl) : EVr X b ρ (.Call (.Name "repr" ps) [e] [] cp) (.d (.str y.shown)) :=
  r_callB (id := "repr") hm (a_cons h a_nil he) (fun p k => ⟨_, call_reprD gd hu, fun vs H L Q lv hh q => by
    obtain ⟨v, rfl⟩ := one_in (rs := [.d y]) (r := .d y) lv
    exact ⟨v, y, rfl, hh.dp, h1, h2, h3, h4, q _ _ _ k (hh.drop.str _)⟩⟩) (hg := hg) (he := he)
end
section
variable {P : Program} {w : World} {K : PySem.W.Frag} {mg : Str → Option Value} {base : Heap}
theorem fn_PG {x qual : Str} {st : Stmt} {f : Addr} {fd : FuncData} {N ps : List Str} {k : Nat} {Pre : List Sl → Prop} {Res : List Sl → Sl → Prop} (F : Fun K x qual st f fd) (S : FnScope N ps (defScope st)) (len : ∀ as, Pre as → as.length = ps.length) (hN : ps.length ≤ N.length)
    (h : ∀ (cdv : Value) (A : Around) (outer : List Env) (s : Shared) (H : Hp) (E : XK), A.guards = some [] → Room k (A.deeper (envOfC qual (defScope st) s.heap.objs.size f cdv)) → ∀ (b : Bs) (as : List Sl), Pre as → XB (cxOf CX0 P w K mg base N qual (defScope st) f cdv A outer s H E).nox b (as ++ List.replicate (N.length - as.length) .un) (defBody st)
      ⟨fun _ => Res as (.d .none), fun r _ => Res as r ∧ ∀ ys, r ≠ .bor ys, fun _ => False, fun _ => False⟩) : RunG P w K mg base CX0 (k + 1) f fd ps (spP K Pre Res) := by
  refine okG F S (fun vs H Q E z => ?_) (fun cdv A outer s H vs Q E hg hr z => ?_)
  · obtain ⟨G, as, l, _, hp, _⟩ := z
    exact l.trans (len as hp)
  · obtain ⟨G, as, l, hG, hp, q⟩ := z
    obtain ⟨t, ht, hq⟩ := h cdv A outer s H E hg hr ⟨G, H, []⟩ as hp (L2.start N vs) H [] { nx := fun _ H' => Q .non H', rt := Q } (by unfold L2.start; have := len as hp; simp [l])
      (by rw [List.append_nil, zip_start l]; exact hold_start _ ⟨G, hG⟩)
      ⟨fun ρ' σ' H' hn l' n' hh => q (.d .none) hn (by simp) .non H' (hh.dropL (M := σ'.zip ρ') (L := []) |>.non), fun r ρ' v σ' H' hn l' n' hh => q r hn.1 hn.2 v H' ((hh.perm (L' := σ'.zip ρ' ++ [(some v, r)]) (by rw [List.append_nil]; exact List.perm_append_singleton _ _)).dropL), fun _ _ _ z => z.elim, fun _ _ _ z => z.elim⟩
    exact ⟨t, ht, hq⟩
end

end DE

namespace K14
open PySem L2 SZ VR VX StX RT DE
local macro_rules | `(tactic| walk_at "v") => `(tactic| first | exact Or.inl rfl | exact Or.inr (Or.inl rfl) | exact Or.inr (Or.inr rfl))
local macro_rules | `(tactic| walk_at "o") => `(tactic| first
  | (refine fun _ h => ov_eqInt h) | (refine fun _ h => ov_eqStr h) | (refine fun _ h => ov_add h) | (refine fun _ h => ov_sub h) | (refine fun _ h => ov_mod (by decide) h) | (refine fun _ h => ov_lt h) | (refine fun _ h => ov_le h) | (refine fun _ h => ov_gt h) | (refine fun _ h => ov_ge h)
  | (refine fun _ h => ov_neInt h) | (refine fun _ h => ov_neStr h) | (refine fun _ h => ov_isN h) | (refine fun _ h => ov_notN h)
  | exact or_inS (.inl rfl) rfl | exact or_inS (.inr rfl) rfl | exact or_inI (.inl rfl) rfl | exact or_inI (.inr rfl) rfl | exact or_notInS (.inl rfl) rfl | exact or_notInS (.inr rfl) rfl | exact or_notInC | exact or_inC
  | (refine fun _ h => ov_mul (by first | exact .inl ⟨by omega, by omega⟩ | exact .inr ⟨by omega, by omega⟩) h))
local macro_rules | `(tactic| walk_at "c") => `(tactic| first
  | (refine fun _ h => cv_int h) | (refine fun _ h => cv_intB h) | (refine fun _ h => cv_lenT h) | (refine fun _ h => cv_lenL h) | (refine fun _ h => cv_lenO h))
abbrev DIG9 : List Str := ["1", "2", "3", "4", "5", "6", "7", "8", "9"]
abbrev numC : List Nat := ("0123456789" : Str).cps.toList
def shortB (z : Str) : Bool := decide (z = "0") || DIG9.contains (cutS z none (some 1))
def rightB (k : Int) (z : Str) : Bool := if (decide (k = 0) || decide (k % 5 = 2)) = true then decide (z = if k = 0 then "line" else "level")
  else if (decide (k = 1) || ([3, 4] : List Int).contains (k % 5)) = true then shortB z && (z.cps.toList.filter (fun c => !decide (c ∈ numC))).isEmpty else (if k % 5 = 1 then WRT else RUL).contains z
theorem eqv_nil {ys : List PyData} : PyData.eqv (.list ys) (.list []) = ys.isEmpty := by
  cases ys <;> simp [PyData.eqv, PyData.eqvAll]
theorem lay_all : ∀ {ys : List PyData}, (∀ y ∈ ys, y.canLay0 = true) → PyData.canLayAll0 ys = true
  | [], _ => rfl
  | y :: ys, h => by
    unfold PyData.canLayAll0
    rw [h y List.mem_cons_self, lay_all fun z hz => h z (List.mem_cons_of_mem _ hz)]
    rfl
theorem depth_all : ∀ {ys : List PyData} {n : Nat}, (∀ y ∈ ys, y.depth ≤ n) → PyData.depthAll ys ≤ n
  | [], _, _ => by simp [PyData.depthAll]
  | y :: ys, n, h => by
    unfold PyData.depthAll
    exact Nat.max_le.mpr ⟨h y List.mem_cons_self, depth_all fun z hz => h z (List.mem_cons_of_mem _ hz)⟩
theorem shaped_flat {ys : List PyData} (h : ∀ y ∈ ys, y.canLay0 = true ∧ y.depth ≤ 20) : SeqAt.shaped (.list ys) = true ∧ SeqAt.shaped (.tuple ys) = true := by
  have h1 := lay_all fun y hy => (h y hy).1
  have h2 := depth_all fun y hy => (h y hy).2
  unfold SeqAt.shaped
  simp only [PyData.canLay0, PyData.depth, h1, Bool.true_and, decide_eq_true_iff]
  exact ⟨decide_eq_true (by omega), decide_eq_true (by omega)⟩
section
variable {P : Program} {w : World} {K : PySem.W.Frag} {mg : Str → Option Value} {base : Heap}
theorem t_right {f : Addr} {fd : FuncData} (F : Fun K "_law_is_right" "_law_is_right" S_law_is_right f fd) (z_int : mg "int" = none) : FnOk P w K mg base CX0 1 f fd ["_law_at", "_law_word"] (spP K (fun as => ∃ (k : Int) (z : Str), as = [.d (.int k), .d (.str z)] ∧ z.length ≤ 100 ∧ PyData.strOk z = true) fun as r => ∃ (k : Int) (z : Str), as = [.d (.int k), .d (.str z)] ∧ r = .d (.bool (rightB k z))) := by
  refine fn_P F sc_law_is_right (fun as h => ?_) (by decide) fun cdv A outer s H E hr b as hp => ?_
  · obtain ⟨k, z, rfl, _⟩ := h; rfl
  obtain ⟨k, z, rfl, hz, ho⟩ := hp
  show XB _ _ [.d (.int k), .d (.str z), .un, .un] _ _
  have hz' : z.length ≤ sizeLine := by rw [sizeLine_eq]; omega
  refine xb_cons (x_if (t_w (w_or (t_cmp (r_var 0 rfl (by walk_at "v") rfl) r_int (by walk_at "o")) fun _ => (w_or1 (t_cmp (r_bin (r_var 0 rfl (by walk_at "v") rfl) r_int (by walk_at "o")) r_int (by walk_at "o"))))) (fun h0 => ?_) (fun h0 => ?_))
  · refine xb_one (x_ret (r_cmp (r_var 1 rfl (by walk_at "v") rfl) (r_ifS (t_cmp (r_var 0 rfl (by walk_at "v") rfl) r_int (by walk_at "o")) (fun _ => r_str) (fun _ => r_str)) (by walk_at "o")) ?_)
    refine ⟨⟨k, z, rfl, ?_⟩, nofun⟩
    unfold rightB
    rw [if_pos h0]
    simp only [decide_eq_true_iff]
    by_cases e : k = 0 <;> simp [e]
  · refine xb_nil (fun _ => ?_)
    refine xb_cons (x_if (t_w (w_or (t_cmp (r_var 0 rfl (by walk_at "v") rfl) r_int (by walk_at "o")) fun _ => (w_or1 (t_cmp (r_bin (r_var 0 rfl (by walk_at "v") rfl) r_int (by walk_at "o")) (r_lst (a_cons r_int (a_cons r_int a_nil)) rfl) (by walk_at "o"))))) (fun h1 => ?_) (fun h1 => ?_))
    · -- if _law_at == 1 or _law_at % 5 in [3, 4]
      refine xb_cons (x_set 2 (r_or (r_cmp (r_var 1 rfl (by walk_at "v") rfl) r_str (by walk_at "o")) fun _ => (r_one (r_cmp (r_slice (r_var 1 rfl (by walk_at "v") rfl) (fun _ => o_none) (fun _ => o_some r_int) (fun _ h => .str hz' h)) (r_lst (a_cons r_str (a_cons r_str (a_cons r_str (a_cons r_str (a_cons r_str (a_cons r_str (a_cons r_str (a_cons r_str (a_cons r_str a_nil))))))))) rfl) (by walk_at "o")))) rfl (by walk_at "v") sc_law_is_right.nd rfl (fun _ => ?_))
      have hco : ∀ c ∈ z.cps.toList, (PyData.str ⟨#[c]⟩).canLay0 = true ∧ (PyData.str ⟨#[c]⟩).depth ≤ 20 := fun c hc => by
        have h1 : z.cps.all (· < 0x110000) = true := ho
        rw [← Array.all_toList] at h1
        have := List.all_eq_true.mp h1 c hc
        refine ⟨?_, by simp [PyData.depth]⟩
        simp only [PyData.canLay0, PyData.strOk]
        simpa using this
      refine xb_one (x_ret (r_and (r_var 2 rfl (by walk_at "v") rfl) fun _ => (r_one (r_cmp (r_lc (own := [("_law_sign", 3)]) z.cps.toList (fun c => .str ⟨#[c]⟩) (fun c => !decide (c ∈ numC)) (fun c => .str ⟨#[c]⟩) (fun c => [.d (.int k), .d (.str z), .d (.bool (shortB z)), .d (.str ⟨#[c]⟩)])
        (i_str (r_var 1 rfl (by walk_at "v") rfl)) rfl rfl sc_law_is_right.nd (blkOk_by (N := ["_law_at", "_law_word", "_law_is_short", "_law_sign"]) (sc := defScope S_law_is_right) (by decide +kernel)) (by intro v hv; rw [List.mem_singleton.mp hv]; rfl)
        (by have : z.cps.toList.length = z.length := by simp [Str.length]
            omega) ?_ ?_ ?_ ?_) (r_lst a_nil rfl) (or_eqD (by have := hr.units; exact this) rfl rfl ?_ rfl)))) ?_)
      · exact fun c hc s H C cl fp => g_name 3 rfl (by walk_at "v") sc_law_is_right.nd rfl
      · exact fun c hc => rfl
      · exact fun c hc s H C cl fp => ts_one (t_cmp (r_var 3 rfl (by walk_at "v") rfl) r_str (by walk_at "o"))
      · exact fun c hc _ => ⟨_, fun s H C cl fp => r_var 3 rfl (by walk_at "v") rfl, rfl⟩
      · refine (shaped_flat fun y hy => ?_).1
        obtain ⟨c, hc, rfl⟩ := List.mem_map.mp hy
        exact hco c (List.mem_filter.mp hc).1
      · refine ⟨⟨k, z, rfl, ?_⟩, nofun⟩
        rw [eqv_nil]
        unfold rightB
        rw [if_neg (by rw [h0]; decide), if_pos h1]
        congr 2
        rw [List.isEmpty_map]
        rfl
    · -- else
      refine xb_nil (fun _ => ?_)
      refine xb_one (x_ret (r_cmp (r_var 1 rfl (by walk_at "v") rfl) (r_ix (r_lst (a_cons (r_lst (a_cons r_str (a_cons r_str (a_cons r_str (a_cons r_str a_nil)))) rfl) (a_cons (r_lst (a_cons r_str (a_cons r_str a_nil)) rfl) a_nil)) rfl) (r_callTy (T := "int") z_int (a_cons (r_cmp (r_bin (r_var 0 rfl (by walk_at "v") rfl) r_int (by walk_at "o")) r_int (by walk_at "o")) a_nil) (by walk_at "c")) (ir_at (y := .list ((if decide (k % 5 = 1) = true then WRT else RUL).map .str)) (.inl rfl) ?_)) (or_inS (l := if decide (k % 5 = 1) = true then WRT else RUL) (.inl rfl) ?_)) ?_)
      · by_cases e : k % 5 = 1
        · simp only [e, decide_true, if_true]; rfl
        · simp only [e, decide_false, Bool.false_eq_true, if_false]; rfl
      · by_cases e : k % 5 = 1
        · simp only [e, decide_true, if_true]; rfl
        · simp only [e, decide_false, Bool.false_eq_true, if_false]; rfl
      · refine ⟨⟨k, z, rfl, ?_⟩, nofun⟩
        have e1 : rightB k z = (if k % 5 = 1 then WRT else RUL).contains z := by
          unfold rightB
          rw [if_neg (by rw [h0]; decide), if_neg (by rw [h1]; decide)]
        rw [e1]
        simp only [decide_eq_true_iff]
/-- the first word that is wrong; the end if too few -/
def wrongN (ws : List Str) : Option Nat := match (List.range ws.length).find? (fun i : Nat => !rightB (i : Int) (ws.getD i "")) with
  | some i => some i
  | none => if ws.length % 5 = 2 then none else some ws.length
def wrongD (ws : List Str) : PyData := match wrongN ws with
  | some i => .int (i : Int)
  | none => .none
end

end K14

namespace K14
open PySem L2 SZ VR VX StX RT DE
local macro_rules | `(tactic| walk_at "v") => `(tactic| first | exact Or.inl rfl | exact Or.inr (Or.inl rfl) | exact Or.inr (Or.inr rfl))
local macro_rules | `(tactic| walk_at "o") => `(tactic| first
  | (refine fun _ h => ov_eqInt h) | (refine fun _ h => ov_eqStr h) | (refine fun _ h => ov_add h) | (refine fun _ h => ov_sub h) | (refine fun _ h => ov_mod (by decide) h) | (refine fun _ h => ov_lt h) | (refine fun _ h => ov_le h) | (refine fun _ h => ov_gt h) | (refine fun _ h => ov_ge h)
  | (refine fun _ h => ov_neInt h) | (refine fun _ h => ov_neStr h) | (refine fun _ h => ov_isN h) | (refine fun _ h => ov_notN h)
  | exact or_inS (.inl rfl) rfl | exact or_inS (.inr rfl) rfl | exact or_inI (.inl rfl) rfl | exact or_inI (.inr rfl) rfl | exact or_notInS (.inl rfl) rfl | exact or_notInS (.inr rfl) rfl | exact or_notInC | exact or_inC
  | (refine fun _ h => ov_mul (by first | exact .inl ⟨by omega, by omega⟩ | exact .inr ⟨by omega, by omega⟩) h))
local macro_rules | `(tactic| walk_at "c") => `(tactic| first
  | (refine fun _ h => cv_int h) | (refine fun _ h => cv_intB h) | (refine fun _ h => cv_lenT h) | (refine fun _ h => cv_lenL h) | (refine fun _ h => cv_lenO h))
section
variable {P : Program} {w : World} {K : PySem.W.Frag} {mg : Str → Option Value} {base : Heap}
/-- words that are small -/
def WsOk (ws : List Str) : Prop := ws.length ≤ 100 ∧ ∀ z ∈ ws, z.length ≤ 100 ∧ PyData.strOk z = true
abbrev spRight (K : PySem.W.Frag) : Sp := spP K (fun as => ∃ (k : Int) (z : Str), as = [.d (.int k), .d (.str z)] ∧ z.length ≤ 100 ∧ PyData.strOk z = true) fun as r => ∃ (k : Int) (z : Str), as = [.d (.int k), .d (.str z)] ∧ r = .d (.bool (rightB k z))
theorem right_one {k : Int} {z : Str} {r : Sl} (h : ∃ (k' : Int) (z' : Str), [Sl.d (.int k), Sl.d (.str z)] = [.d (.int k'), .d (.str z')] ∧ r = .d (.bool (rightB k' z'))) : r = .d (.bool (rightB k z)) := by
  obtain ⟨k', z', e, rfl⟩ := h
  cases e
  rfl
theorem enD_some {ys : List PyData} {i : Nat} {y : PyData} (h : (enD ys)[i]? = some y) : ∃ z, ys[i]? = some z ∧ y = .tuple [.int (i : Int), z] := by
  have hi : i < ys.length := by rw [← enD_len ys]; exact (List.getElem?_eq_some_iff.mp h).1
  have e := enD_at (List.getElem?_eq_getElem hi)
  rw [h] at e
  exact ⟨_, List.getElem?_eq_getElem hi, Option.some.inj e⟩
theorem t_wrong {f : Addr} {fd : FuncData} (F : Fun K "_law_wrong" "_law_wrong" S_law_wrong f fd) (z_enumerate : mg "enumerate" = none) (z_len : mg "len" = none) (C__law_is_right : CalP P w K mg base CX0 "_law_is_right" 1 (fun as => ∃ (k : Int) (z : Str), as = [.d (.int k), .d (.str z)] ∧ z.length ≤ 100 ∧ PyData.strOk z = true) fun as r => ∃ (k : Int) (z : Str), as = [.d (.int k), .d (.str z)] ∧ r = .d (.bool (rightB k z))) :
    FnOk P w K mg base CX0 2 f fd ["_law_words_here"] (spP K (fun as => ∃ ws : List Str, as = [.d (.list (ws.map .str))] ∧ WsOk ws) fun as r => ∃ ws : List Str, as = [.d (.list (ws.map .str))] ∧ r = .d (wrongD ws)) := by
  refine fn_P F sc_law_wrong (fun as h => ?_) (by decide) fun cdv A outer s H E hr b as hp => ?_
  · obtain ⟨ws, rfl, _⟩ := h; rfl
  obtain ⟨ws, rfl, hn, hz⟩ := hp
  show XB _ _ [.d (.list (ws.map .str)), .un, .un] _ _
  refine xb_cons (xs_for (ts := [1, 2]) PassesOwn.never rfl (by intro _; rfl) ((i_enum z_enumerate (r_var 0 rfl (by walk_at "v") rfl) rfl) _ fun _ => ?_))
  refine ⟨fun i ρ' => (∃ s1 s2, ρ' = [.d (.list (ws.map .str)), s1, s2]) ∧ ∀ j, j < i → rightB (j : Int) (ws.getD j "") = true, ⟨⟨_, _, rfl⟩, fun j h => absurd h (Nat.not_lt_zero j)⟩, ?_, ?_⟩
  · rintro i y ρ' hy hl ⟨⟨s1, s2, rfl⟩, hj⟩
    obtain ⟨x, hx, rfl⟩ := enD_some hy
    rw [List.getElem?_map] at hx
    cases hw : ws[i]? with
    | none => rw [hw] at hx; cases hx
    | some z =>
      rw [hw] at hx
      cases hx
      have hi : i < ws.length := (List.getElem?_eq_some_iff.mp hw).1
      have hg : ws.getD i "" = z := by rw [List.getD_eq_getElem?_getD, hw]; rfl
      obtain ⟨z1, z2⟩ := hz z (List.mem_of_getElem? hw)
      refine (g_tup rfl (gs_cons (g_name 1 rfl (by walk_at "v") sc_law_wrong.nd rfl) (gs_cons (g_name 2 rfl (by walk_at "v") sc_law_wrong.nd rfl) gs_nil))) _ fun _ => ?_
      refine xb_one (x_if (t_not (t_val (r_cal C__law_is_right hr pass0 (a_cons (r_var 1 rfl (by walk_at "v") rfl) (a_cons (r_var 2 rfl (by walk_at "v") rfl) a_nil)) rfl ⟨_, _, rfl, z1, z2⟩ (fun r' h => right_one h)))) (fun h0 => ?_) (fun h0 => ?_))
      · refine xb_one (x_ret (r_var 1 rfl (by walk_at "v") rfl) ⟨⟨ws, rfl, ?_⟩, nofun⟩)
        have h0 : rightB (i : Int) z = false := by simpa using h0
        unfold wrongD wrongN
        have : (List.range ws.length).find? (fun i : Nat => !rightB (i : Int) (ws.getD i "")) = some i := by
          rw [List.find?_eq_some_iff_append]
          refine ⟨by rw [hg, h0]; rfl, List.range i, (List.range' (i + 1) (ws.length - i - 1)), ?_, fun a ha => ?_⟩
          · rw [List.range_eq_range', List.range_eq_range']
            have : ws.length = i + (1 + (ws.length - i - 1)) := by omega
            rw [this, List.range'_append_1.symm, List.range'_append_1.symm]
            simp
          · rw [hj a (List.mem_range.mp ha)]
            rfl
        rw [this]
      · refine xb_nil ⟨⟨_, _, rfl⟩, fun j hj' => ?_⟩
        rcases Nat.lt_succ_iff_lt_or_eq.mp hj' with h | rfl
        · exact hj j h
        · rw [hg]
          simpa using h0
  · rintro ρ' ⟨⟨s1, s2, rfl⟩, hj⟩ hl
    refine xb_one (x_ret (r_if (t_cmp (r_bin (r_callB (id := "len") z_len (a_cons (r_var 0 rfl (by walk_at "v") rfl) a_nil) (by walk_at "c")) r_int (by walk_at "o")) r_int (by walk_at "o")) (fun _ => r_non) (fun _ => (r_callB (id := "len") z_len (a_cons (r_var 0 rfl (by walk_at "v") rfl) a_nil) (by walk_at "c")))) ⟨⟨ws, rfl, ?_⟩, nofun⟩)
    have hn2 : (enD (ws.map PyData.str)).length = ws.length := by rw [enD_len, List.length_map]
    rw [hn2] at hj
    have : (List.range ws.length).find? (fun i : Nat => !rightB (i : Int) (ws.getD i "")) = none := by
      rw [List.find?_eq_none]
      intro a ha
      rw [hj a (List.mem_range.mp ha)]
      decide
    unfold wrongD wrongN
    rw [this, List.length_map]
    by_cases h5 : ws.length % 5 = 2
    · simp [h5]; try omega
    · simp [h5]; try omega
end

end K14

namespace K14
open PySem L2 SZ VR VX StX RT DE
local macro_rules | `(tactic| walk_at "v") => `(tactic| first | exact Or.inl rfl | exact Or.inr (Or.inl rfl) | exact Or.inr (Or.inr rfl))
local macro_rules | `(tactic| walk_at "o") => `(tactic| first
  | (refine fun _ h => ov_eqInt h) | (refine fun _ h => ov_eqStr h) | (refine fun _ h => ov_add h) | (refine fun _ h => ov_sub h) | (refine fun _ h => ov_mod (by decide) h) | (refine fun _ h => ov_lt h) | (refine fun _ h => ov_le h) | (refine fun _ h => ov_gt h) | (refine fun _ h => ov_ge h)
  | (refine fun _ h => ov_neInt h) | (refine fun _ h => ov_neStr h) | (refine fun _ h => ov_isN h) | (refine fun _ h => ov_notN h)
  | exact or_inS (.inl rfl) rfl | exact or_inS (.inr rfl) rfl | exact or_inI (.inl rfl) rfl | exact or_inI (.inr rfl) rfl | exact or_notInS (.inl rfl) rfl | exact or_notInS (.inr rfl) rfl | exact or_notInC | exact or_inC
  | (refine fun _ h => ov_mul (by first | exact .inl ⟨by omega, by omega⟩ | exact .inr ⟨by omega, by omega⟩) h))
local macro_rules | `(tactic| walk_at "c") => `(tactic| first
  | (refine fun _ h => cv_int h) | (refine fun _ h => cv_intB h) | (refine fun _ h => cv_lenT h) | (refine fun _ h => cv_lenL h) | (refine fun _ h => cv_lenO h))
section
variable {P : Program} {w : World} {K : PySem.W.Frag} {mg : Str → Option Value} {base : Heap}
/-- a level as it is drawn -/
def LvOk (d : PyData) : Prop := ∃ (s y : Int) (r w : Str), d = .tuple [.int s, .int y, .str r, .str w] ∧ 0 ≤ s ∧ s ≤ 1000 ∧ 0 ≤ y ∧ y ≤ 1000
def oneW : PyData → PyData
  | .int i => .str (Str.ofString (toString i))
  | d => d
theorem t_words {f : Addr} {fd : FuncData} (F : Fun K "_law_words" "_law_words" S_law_words f fd) (z_str : mg "str" = none) : FnOk P w K mg base CX0 1 f fd ["_law_line", "_law_levels"] (spP K (fun as => ∃ (ln : Int) (ds : List PyData), as = [.d (.int ln), .d (.tuple ds)] ∧ 0 ≤ ln ∧ ln ≤ 1000 ∧ ds.length ≤ 3 ∧ ∀ d ∈ ds, LvOk d) fun as r => ∃ (ln : Int) (ds : List PyData), as = [.d (.int ln), .d (.tuple ds)] ∧ r = .own ((cacheW ln ds).map .str)) := by
  have lg : ∀ i : Int, 0 ≤ i → i ≤ 1000 → i.natAbs.log2 < 1920 := fun i h1 h2 => by
    have h3 : i.natAbs ≤ 1000 := by omega
    have h4 : i.natAbs.log2 ≤ i.natAbs := by
      by_cases h : i.natAbs = 0
      · rw [h]; decide
      · exact Nat.le_of_lt ((Nat.log2_lt h).mpr Nat.lt_two_pow_self)
    omega
  refine fn_P F sc_law_words (fun as h => ?_) (by decide) fun cdv A outer s H E hr b as hp => ?_
  · obtain ⟨ln, ds, rfl, _⟩ := h; rfl
  obtain ⟨ln, ds, rfl, l0, l1, hn, hd⟩ := hp
  show XB _ _ [.d (.int ln), .d (.tuple ds), .un, .un, .un] _ _
  refine xb_cons (x_set 2 (r_lst (a_cons r_str (a_cons (r_callTy (T := "str") z_str (a_cons (r_var 0 rfl (by walk_at "v") rfl) a_nil) (cr_strI (lg _ l0 l1))) a_nil)) rfl) rfl (by walk_at "v") sc_law_words.nd rfl (fun _ => ?_))
  refine xb_cons (xs_for (ts := [3]) PassesOwn.never rfl (by intro _; rfl) ((i_tup (r_var 1 rfl (by walk_at "v") rfl)) _ fun _ => ?_))
  refine ⟨fun i ρ' => ∃ s3, ρ' = [.d (.int ln), .d (.tuple ds), .own ((cacheW ln (ds.take i)).map .str), s3, .un], ⟨_, rfl⟩, ?_, ?_⟩
  · rintro i y ρ' hy hl ⟨s3, rfl⟩
    have hi : i < ds.length := (List.getElem?_eq_some_iff.mp hy).1
    obtain ⟨sn, yn, r, w', rfl, s0, s1, y0, y1⟩ := hd y (List.mem_of_getElem? hy)
    refine (g_name 3 rfl (by walk_at "v") sc_law_words.nd rfl) _ fun _ => ?_
    have htk : ds.take (i + 1) = ds.take i ++ [.tuple [.int sn, .int yn, .str r, .str w']] := by rw [List.take_add_one, hy]; rfl
    have hl2 : (cacheW ln (ds.take i)).length ≤ 17 := by
      have : ∀ d : PyData, (lvStrs d).length ≤ 5 := fun d => by unfold lvStrs; split <;> simp
      have h2 : ∀ l : List PyData, (l.flatMap lvStrs).length ≤ 5 * l.length := fun l => by
        induction l with
        | nil => simp
        | cons a l ih =>
          rw [List.flatMap_cons, List.length_append, List.length_cons]
          have := this a
          omega
      have := h2 (ds.take i)
      rw [List.length_take] at this
      unfold cacheW
      rw [List.length_append]
      have h3 : ([Str.ofString "line", Str.ofString (toString ln)] : List Str).length = 2 := rfl
      omega
    refine xb_one (x_set 2 (r_bin (r_catO 2 rfl (by walk_at "v") rfl (r_lst (a_cons r_str a_nil) rfl) (by rw [sizeLine_eq]; simp; omega)) (r_lc (own := [("_law_one", 4)]) [.int sn, .int yn, .str r, .str w'] id (fun _ => true) oneW (fun d => [.d (.int ln), .d (.tuple ds), .own ((cacheW ln (ds.take i)).map .str), .d (.tuple [.int sn, .int yn, .str r, .str w']), .d d]) (i_tup (r_var 3 rfl (by walk_at "v") rfl)) rfl rfl sc_law_words.nd
        (blkOk_by (N := ["_law_line", "_law_levels", "_law_found", "_law_level", "_law_one"]) (sc := defScope S_law_words) (by decide +kernel)) (by intro v hv; rw [List.mem_singleton.mp hv]; rfl) (by simp) ?_ ?_ ?_ ?_) (or_cat (by rw [sizeLine_eq]; simp; omega))) rfl (by walk_at "v") sc_law_words.nd rfl ?_)
    · exact fun c hc s H C cl fp => g_name 4 rfl (by walk_at "v") sc_law_words.nd rfl
    · exact fun c hc => rfl
    · exact fun c hc s H C cl fp => ts_nil
    · intro c hc _
      have hc : c = .int sn ∨ c = .int yn ∨ c = .str r ∨ c = .str w' := by simpa using hc
      rcases hc with rfl | rfl | rfl | rfl
      · exact ⟨_, fun s H C cl fp => r_callTy (T := "str") z_str (a_cons (r_var 4 rfl (by walk_at "v") rfl) a_nil) (cr_strI (lg _ s0 s1)), rfl⟩
      · exact ⟨_, fun s H C cl fp => r_callTy (T := "str") z_str (a_cons (r_var 4 rfl (by walk_at "v") rfl) a_nil) (cr_strI (lg _ y0 y1)), rfl⟩
      · exact ⟨_, fun s H C cl fp => r_callTy (T := "str") z_str (a_cons (r_var 4 rfl (by walk_at "v") rfl) a_nil) cr_strS, rfl⟩
      · exact ⟨_, fun s H C cl fp => r_callTy (T := "str") z_str (a_cons (r_var 4 rfl (by walk_at "v") rfl) a_nil) cr_strS, rfl⟩
    · refine ⟨.d (.tuple [.int sn, .int yn, .str r, .str w']), ?_⟩
      rw [htk]
      unfold cacheW
      rw [List.flatMap_append, ← List.append_assoc, List.map_append (l₁ := _ ++ _)]
      simp [lvStrs, oneW]
  · rintro ρ' ⟨s3, rfl⟩ hl
    rw [List.take_length]
    exact xb_one (x_retO 2 rfl (by walk_at "v") rfl ⟨⟨ln, ds, rfl, rfl⟩, nofun⟩)
end

end K14

namespace K14
open PySem L2 SZ VR VX StX RT DE
/-! ### texts made of pieces -/
/-- pieces of a text, and what they are as tokens from a on -/
def itemToks : List (List Nat) → Nat → List (List Nat × Nat)
  | [], _ => []
  | it :: r, a => (if it = [32] ∨ it = [10] then [] else [(it, a)]) ++ itemToks r (a + it.length)
/-- a sign, or a run behind which none goes on -/
def GoodIt : List (List Nat) → Prop
  | [] => True
  | it :: r => ((∃ c, it = [c] ∧ an c = false) ∨ (it ≠ [] ∧ it.all an = true ∧ ∀ c, r.flatten[0]? = some c → an c = false)) ∧ GoodIt r
theorem gp_iff (c : Nat) : gp c = decide (c = 32 ∨ c = 10) := by
  have e : GAP.cps.toList = [32, 10] := by decide +kernel
  unfold gp
  rw [e, Bool.eq_iff_iff]
  simp
theorem an_ngp {c : Nat} (h : an c = true) : gp c = false := by
  rw [gp_iff]
  refine decide_eq_false fun z => ?_
  have h32 : an 32 = false := by decide +kernel
  have h10 : an 10 = false := by decide +kernel
  rcases z with rfl | rfl
  · rw [h32] at h; cases h
  · rw [h10] at h; cases h
theorem takeWhile_run : ∀ (it r : List Nat), it.all an = true → (∀ c, r[0]? = some c → an c = false) → ((it ++ r).takeWhile an) = it
  | [], [], _, _ => rfl
  | [], c :: r, _, h => by
    rw [List.nil_append, List.takeWhile_cons, h c rfl]
    rfl
  | x :: it, r, h, hr => by
    rw [List.all_cons, Bool.and_eq_true] at h
    rw [List.cons_append, List.takeWhile_cons, h.1, if_pos rfl, takeWhile_run it r h.2 hr]
theorem toks_items : ∀ (its : List (List Nat)) (s : List Nat) (a : Nat), GoodIt its → s.drop a = its.flatten → toks s a = itemToks its a
  | [], s, a, _, e => by
    have hl : ¬ a < s.length := fun h => by
      have := congrArg List.length e
      rw [List.length_drop] at this
      simp at this
      omega
    rw [toks_end hl]
    rfl
  | it :: r, s, a, ⟨h, g⟩, e => by
    rw [List.flatten_cons] at e
    have hne : it ≠ [] := by
      rcases h with ⟨c, rfl, _⟩ | ⟨h, _, _⟩
      · simp
      · exact h
    obtain ⟨c, t, rfl⟩ := List.exists_cons_of_ne_nil hne
    have hc : s[a]? = some c := by
      have := congrArg (fun l => l[0]?) e
      simpa [List.getElem?_drop] using this
    have hl : a < s.length := (List.getElem?_eq_some_iff.mp hc).1
    have ed : s.drop (a + (c :: t).length) = r.flatten := by
      rw [← List.drop_drop, e, List.drop_append_of_le_length (Nat.le_refl _), List.drop_length, List.nil_append]
    have ih := toks_items r s (a + (c :: t).length) g ed
    rcases h with ⟨c', e', hc'⟩ | ⟨_, ha, hr⟩
    · have e1 : c = c' ∧ t = [] := by simpa using e'
      obtain ⟨rfl, rfl⟩ := e1
      have en : nxt s a = a + 1 := by
        unfold nxt
        rw [runE_stop hc hc']
        omega
      by_cases hg : gp c = true
      · rw [toks_gap hc hg, en]
        have : [c] = [32] ∨ [c] = [10] := by
          rw [gp_iff, decide_eq_true_iff] at hg
          rcases hg with rfl | rfl
          · exact .inl rfl
          · exact .inr rfl
        show _ = (if [c] = [32] ∨ [c] = [10] then [] else [([c], a)]) ++ itemToks r (a + 1)
        rw [if_pos this]
        exact ih
      · have hg' : gp c = false := Bool.eq_false_iff.mpr hg
        rw [toks_tok hc hg', en]
        have : ¬ ([c] = [32] ∨ [c] = [10]) := fun z => hg (by
          rw [gp_iff, decide_eq_true_iff]
          simpa using z)
        show _ = (if [c] = [32] ∨ [c] = [10] then [] else [([c], a)]) ++ itemToks r (a + 1)
        rw [if_neg this, e]
        have e2 : a + 1 - a = 1 := by omega
        rw [e2]
        exact congrArg _ ih
    · have hac : an c = true := by
        rw [List.all_cons, Bool.and_eq_true] at ha
        exact ha.1
      have er : runE s a = a + (c :: t).length := by
        unfold runE
        rw [e, takeWhile_run _ _ ha hr]
      have en : nxt s a = a + (c :: t).length := by
        unfold nxt
        rw [er]
        simp only [List.length_cons]
        omega
      have hg' : gp c = false := an_ngp hac
      rw [toks_tok hc hg', en]
      have : ¬ (c :: t = [32] ∨ c :: t = [10]) := fun z => by
        have : c = 32 ∨ c = 10 := by
          rcases z with z | z
          · exact .inl (by simp at z; exact z.1)
          · exact .inr (by simp at z; exact z.1)
        rw [gp_iff] at hg'
        exact absurd this (of_decide_eq_false hg')
      show _ = (if c :: t = [32] ∨ c :: t = [10] then [] else [(c :: t, a)]) ++ itemToks r (a + (c :: t).length)
      rw [if_neg this, e, Nat.add_sub_cancel_left, List.take_append_of_le_length (Nat.le_refl _), List.take_length]
      exact congrArg _ ih

/-! ### words of a cache's text: classes of places -/
def cls (k : Nat) : Nat := if k = 0 then 0 else if k % 5 = 2 then 1 else if k = 1 ∨ k % 5 = 3 ∨ k % 5 = 4 then 2 else if k % 5 = 1 then 3 else 4
def ac (c : Nat) (t : List Nat) : Bool := match c with
  | 0 => decide (t = tLINE)
  | 1 => decide (t = tLEVEL)
  | 2 => isN t && decide (t.length ≤ 150)
  | 3 => WRT.contains ⟨t.toArray⟩
  | _ => RUL.contains ⟨t.toArray⟩
def rc (c : Nat) (z : Str) : Bool := match c with
  | 0 => decide (z = "line")
  | 1 => decide (z = "level")
  | 2 => shortB z && (z.cps.toList.filter (fun c => !decide (c ∈ numC))).isEmpty
  | 3 => WRT.contains z
  | _ => RUL.contains z
theorem right_cls (k : Nat) (z : Str) : rightB (k : Int) z = rc (cls k) z := by
  unfold rightB cls
  by_cases h0 : k = 0
  · subst h0; simp [rc]
  · have e0 : (decide ((k : Int) = 0)) = false := decide_eq_false (by omega)
    by_cases h2 : k % 5 = 2
    · have e2 : decide ((k : Int) % 5 = 2) = true := decide_eq_true (by omega)
      rw [e0, e2, if_neg h0, if_pos h2]
      have : ¬ ((k : Int) = 0) := by omega
      simp [rc, this, h0]
    · have e2 : decide ((k : Int) % 5 = 2) = false := decide_eq_false (by omega)
      rw [e0, e2, if_neg h0, if_neg h2]
      by_cases h1 : k = 1 ∨ k % 5 = 3 ∨ k % 5 = 4
      · have e1 : (decide ((k : Int) = 1) || ([3, 4] : List Int).contains ((k : Int) % 5)) = true := by
          rcases h1 with h | h | h
          · rw [decide_eq_true (show (k : Int) = 1 by omega)]; rfl
          · rw [show (k : Int) % 5 = 3 by omega]; simp
          · rw [show (k : Int) % 5 = 4 by omega]; simp
        rw [e1, if_pos h1]
        simp [rc]
      · have e1 : (decide ((k : Int) = 1) || ([3, 4] : List Int).contains ((k : Int) % 5)) = false := by
          rw [decide_eq_false (show ¬ (k : Int) = 1 by omega)]
          simp
          omega
        rw [e1, if_neg h1]
        by_cases h3 : k % 5 = 1
        · rw [if_pos h3]
          have : (k : Int) % 5 = 1 := by omega
          simp [rc, this]
        · rw [if_neg h3]
          have : ¬ (k : Int) % 5 = 1 := by omega
          simp [rc, this]
/-- what a word begins with, as tokens -/
def wi (w : Str) : List (List Nat) := match w.cps.toList with
  | [] => []
  | c :: r => if (c :: r).all an = true then [c :: r] else if r = [] then [[c]] else [[c], r]
abbrev WD : List Str := ["line", "level", "used", "brought", "second", "tree", "back", "through", "1", "2", "3", "4", "7", "02", "x", "Used", "-1", "n", "*", "9", "0"]
def wdOk (w : Str) : Bool := match w.cps.toList with
  | [] => false
  | c :: r => (((c :: r).all an || (!an c && r.all an)) && !decide (c = 32) && !decide (c = 10)) && decide (w.length ≤ 10) && PyData.strOk w &&
    (List.range 5).all fun k => rc k w == (ac k ((wi w).headD [])) && (!(rc k w) || (c :: r).all an)
theorem wd_ok : ∀ w ∈ WD, wdOk w = true := by decide +kernel
/-- pieces: gaps and words -/
def pit : List (List Nat × Str) → List Nat → List (List Nat)
  | [], g => g.map fun c => [c]
  | (h, w) :: r, g => (h.map fun c => [c]) ++ (wi w ++ pit r g)
def gapC (h : List Nat) : Bool := h.all fun c => decide (c = 32) || decide (c = 10)
def psOk : List (List Nat × Str) → List Nat → Prop
  | [], g => gapC g = true
  | (h, w) :: r, g => gapC h = true ∧ wdOk w = true ∧ (∀ q ∈ r, q.1 ≠ []) ∧ psOk r g
theorem itemToks_cons (it : List Nat) (r : List (List Nat)) (a : Nat) : itemToks (it :: r) a = (if it = [32] ∨ it = [10] then [] else [(it, a)]) ++ itemToks r (a + it.length) := rfl
theorem pit_cons (h : List Nat) (w : Str) (r : List (List Nat × Str)) (g : List Nat) : pit ((h, w) :: r) g = (h.map fun c => [c]) ++ (wi w ++ pit r g) := rfl
theorem itemToks_app : ∀ (l r : List (List Nat)) (a : Nat), itemToks (l ++ r) a = itemToks l a ++ itemToks r (a + l.flatten.length)
  | [], r, a => by simp [itemToks]
  | it :: l, r, a => by
    rw [List.cons_append, itemToks_cons, itemToks_cons, itemToks_app l r, List.append_assoc, List.flatten_cons, List.length_append, Nat.add_assoc]
theorem gap_toks : ∀ {h : List Nat} {a : Nat}, gapC h = true → itemToks (h.map fun c => [c]) a = []
  | [], _, _ => rfl
  | c :: h, a, e => by
    unfold gapC at e
    rw [List.all_cons, Bool.and_eq_true] at e
    rw [List.map_cons]
    unfold itemToks
    rw [gap_toks (h := h) e.2]
    have : c = 32 ∨ c = 10 := by simpa using e.1
    rcases this with rfl | rfl <;> simp
theorem map_flat (h : List Nat) : (h.map fun c => [c]).flatten = h := by
  induction h with
  | nil => rfl
  | cons c h ih => rw [List.map_cons, List.flatten_cons, ih]; rfl
theorem wi_flat {w : Str} : (wi w).flatten = w.cps.toList := by
  unfold wi
  split
  · rename_i e; rw [e]; rfl
  · rename_i c r e
    rw [e]
    split
    · simp
    · split
      · rename_i h; rw [h]; rfl
      · simp
theorem wd_parts {w : Str} (h : wdOk w = true) : ∃ c r, w.cps.toList = c :: r ∧ ((c :: r).all an = true ∨ (an c = false ∧ r.all an = true)) ∧ c ≠ 32 ∧ c ≠ 10 ∧ w.length ≤ 10 ∧ PyData.strOk w = true ∧ ∀ k, k < 5 → rc k w = ac k ((wi w).headD []) ∧ (rc k w = true → (c :: r).all an = true) := by
  unfold wdOk at h
  split at h
  · cases h
  · rename_i c r e
    simp only [Bool.and_eq_true, Bool.or_eq_true, Bool.not_eq_true', decide_eq_true_iff, decide_eq_false_iff_not, List.all_eq_true, List.mem_range] at h
    obtain ⟨⟨⟨⟨⟨h1, h2⟩, h3⟩, h4⟩, h5⟩, h6⟩ := h
    refine ⟨c, r, e, ?_, h2, h3, h4, h5, fun k hk => ?_⟩
    · rcases h1 with h1 | ⟨h1, h1'⟩
      · exact .inl (List.all_eq_true.mpr h1)
      · exact .inr ⟨h1, List.all_eq_true.mpr h1'⟩
    · have := h6 k hk
      simp only [beq_iff_eq] at this
      refine ⟨this.1, fun z => ?_⟩
      rcases this.2 with h | h
      · rw [z] at h; cases h
      · exact List.all_eq_true.mpr h
theorem pit_flat : ∀ {ps : List (List Nat × Str)} {g : List Nat}, (pit ps g).flatten = (ps.map fun q => q.1 ++ q.2.cps.toList).flatten ++ g
  | [], g => by simp [pit, map_flat]
  | (h, w) :: r, g => by
    unfold pit
    rw [List.flatten_append, List.flatten_append, map_flat, wi_flat, pit_flat, List.map_cons, List.flatten_cons]
    simp
theorem an32 {c : Nat} (h : c = 32 ∨ c = 10) : an c = false := by
  rcases h with rfl | rfl <;> decide +kernel
theorem gap_good : ∀ {h : List Nat} {r : List (List Nat)}, gapC h = true → GoodIt r → GoodIt ((h.map fun c => [c]) ++ r)
  | [], _, _, g => g
  | c :: h, r, e, g => by
    unfold gapC at e
    rw [List.all_cons, Bool.and_eq_true] at e
    have : c = 32 ∨ c = 10 := by simpa using e.1
    rw [List.map_cons, List.cons_append]
    exact ⟨.inl ⟨c, rfl, an32 this⟩, gap_good e.2 g⟩
theorem pit_good : ∀ {ps : List (List Nat × Str)} {g : List Nat}, psOk ps g → GoodIt (pit ps g)
  | [], g, h => by
    have := gap_good (r := []) h trivial
    simpa [pit] using this
  | (h, w) :: r, g, ⟨h1, h2, h3, h4⟩ => by
    have ih := pit_good h4
    have hn : ∀ c, (pit r g).flatten[0]? = some c → an c = false := fun c hc => by
      rw [pit_flat] at hc
      cases r with
      | nil =>
        have hc : g[0]? = some c := by simpa using hc
        have hg : gapC g = true := h4
        unfold gapC at hg
        have := List.all_eq_true.mp hg c (List.mem_of_getElem? hc)
        exact an32 (by simpa using this)
      | cons q r =>
        obtain ⟨hq, wq⟩ := q
        have hne := h3 (hq, wq) List.mem_cons_self
        obtain ⟨x, t, ex⟩ := List.exists_cons_of_ne_nil hne
        have ex : hq = x :: t := ex
        subst ex
        have hc : x = c := by simpa using hc
        subst hc
        obtain ⟨k1, _⟩ := h4
        unfold gapC at k1
        have := List.all_eq_true.mp k1 x List.mem_cons_self
        exact an32 (by simpa using this)
    unfold pit
    refine gap_good h1 ?_
    obtain ⟨c, t, e, hc, _⟩ := wd_parts h2
    unfold wi
    rw [e]
    simp only
    split
    · rename_i ha
      exact ⟨.inr ⟨by simp, ha, by simpa using hn⟩, ih⟩
    · rename_i ha
      rcases hc with hc | ⟨hc1, hc2⟩
      · exact absurd hc ha
      · split
        · exact ⟨.inl ⟨c, rfl, hc1⟩, ih⟩
        · rename_i hr
          exact ⟨.inl ⟨c, rfl, hc1⟩, .inr ⟨hr, hc2, by simpa using hn⟩, ih⟩
/-- the tokens of the pieces: the first of each word, while the words ahead are one token each -/
theorem pit_toks {h : List Nat} {w : Str} {r : List (List Nat × Str)} {g : List Nat} {a : Nat} (ok : psOk ((h, w) :: r) g) : ∃ more, itemToks (pit ((h, w) :: r) g) a = ((wi w).headD [], a + h.length) :: more ∧ (w.cps.toList.all an = true → (wi w).headD [] = w.cps.toList ∧ more = itemToks (pit r g) (a + h.length + w.length)) := by
  obtain ⟨h1, h2, h3, h4⟩ := ok
  obtain ⟨c, t, e, hc, c32, c10, _⟩ := wd_parts h2
  rw [pit_cons, itemToks_app, gap_toks h1, List.nil_append, map_flat, itemToks_app, wi_flat]
  have lw : w.cps.toList.length = w.length := by simp [Str.length]
  rw [lw]
  have ew : wi w = if (c :: t).all an = true then [c :: t] else if t = [] then [[c]] else [[c], t] := by unfold wi; rw [e]
  rw [ew, e]
  by_cases ha : (c :: t).all an = true
  · rw [if_pos ha]
    refine ⟨itemToks (pit r g) (a + h.length + w.length), ?_, fun _ => ⟨rfl, rfl⟩⟩
    rw [itemToks_cons, if_neg (by simp [c32, c10])]
    rfl
  · rw [if_neg ha]
    by_cases hr : t = []
    · rw [if_pos hr, itemToks_cons, if_neg (by simp [c32, c10])]
      exact ⟨_, rfl, fun z => absurd z ha⟩
    · rw [if_neg hr, itemToks_cons, if_neg (by simp [c32, c10])]
      exact ⟨_, rfl, fun z => absurd z ha⟩
/-- where the i-th word begins -/
def posW : List (List Nat × Str) → Nat → Nat
  | [], _ => 0
  | (h, _) :: _, 0 => h.length
  | (h, w) :: r, i + 1 => h.length + w.length + posW r i
theorem pit_at : ∀ {ps : List (List Nat × Str)} {g : List Nat} {a i : Nat} {q : List Nat × Str}, psOk ps g → ps[i]? = some q → (∀ j q', j < i → ps[j]? = some q' → q'.2.cps.toList.all an = true) → (itemToks (pit ps g) a)[i]? = some ((wi q.2).headD [], a + posW ps i)
  | (h, w) :: r, g, a, 0, q, ok, hq, _ => by
    obtain ⟨more, e, _⟩ := pit_toks (a := a) ok
    rw [e]
    cases hq
    rfl
  | (h, w) :: r, g, a, i + 1, q, ok, hq, hs => by
    obtain ⟨more, e, hm⟩ := pit_toks (a := a) ok
    obtain ⟨_, e2⟩ := hm (hs 0 (h, w) (Nat.succ_pos i) rfl)
    rw [e, e2]
    have := pit_at (a := a + h.length + w.length) (i := i) (q := q) ok.2.2.2 (by simpa using hq) fun j q' hj hq' => hs (j + 1) q' (by omega) (by simpa using hq')
    have ep : posW ((h, w) :: r) (i + 1) = h.length + w.length + posW r i := rfl
    rw [List.getElem?_cons_succ, this, ep]
    congr 2
    omega
theorem pit_len : ∀ {ps : List (List Nat × Str)} {g : List Nat} {a : Nat}, psOk ps g → (∀ q ∈ ps, q.2.cps.toList.all an = true) → (itemToks (pit ps g) a).length = ps.length
  | [], g, a, ok, _ => by
    unfold pit
    rw [gap_toks ok]
    rfl
  | (h, w) :: r, g, a, ok, hs => by
    obtain ⟨more, e, hm⟩ := pit_toks (a := a) ok
    obtain ⟨_, e2⟩ := hm (hs _ List.mem_cons_self)
    rw [e, e2, List.length_cons, pit_len ok.2.2.2 fun q hq => hs q (List.mem_cons_of_mem _ hq), List.length_cons]

end K14

namespace K14
open PySem L2 SZ VR VX StX RT DE
/-! ### the reader over words -/
section
variable {ts : List (List Nat × Nat)} {k m : Nat}
theorem numM_ok {α : Type} {f : Int → Res α} (h : ac 2 (tk ts k) = true) : numM ts k f = f (numVal (tk ts k)) := by
  have h : (isN (tk ts k) && decide ((tk ts k).length ≤ 150)) = true := h
  rw [Bool.and_eq_true, decide_eq_true_iff] at h
  unfold numM
  rw [if_pos h.1, if_neg (by omega)]
theorem numM_bad {α : Type} {f : Int → Res α} (h : ac 2 (tk ts k) = false) (hl : (tk ts k).length ≤ 150) : numM ts k f = .syn (ps ts k) := by
  have h : (isN (tk ts k) && decide ((tk ts k).length ≤ 150)) = false := h
  rw [decide_eq_true hl, Bool.and_true] at h
  unfold numM
  rw [if_neg (by rw [h]; decide)]
theorem ruleM_ok {α : Type} {f : Str → Res α} (h : ac 4 (tk ts k) = true) : oneM RUL ts k f = f ⟨(tk ts k).toArray⟩ := by
  unfold oneM
  exact if_pos h
theorem ruleM_bad {α : Type} {f : Str → Res α} (h : ac 4 (tk ts k) = false) : oneM RUL ts k f = .syn (ps ts k) := by
  unfold oneM
  exact if_neg (by rw [show RUL.contains ⟨(tk ts k).toArray⟩ = false from h]; decide)
theorem wrM_ok {α : Type} {f : Str → Res α} (h : ac 3 (tk ts k) = true) : oneM WRT ts k f = f ⟨(tk ts k).toArray⟩ := by
  unfold oneM
  exact if_pos h
theorem wrM_bad {α : Type} {f : Str → Res α} (h : ac 3 (tk ts k) = false) : oneM WRT ts k f = .syn (ps ts k) := by
  unfold oneM
  exact if_neg (by rw [show WRT.contains ⟨(tk ts k).toArray⟩ = false from h]; decide)
def Acc (ts : List (List Nat × Nat)) (m : Nat) : Prop := ∀ j, j < m → ac (cls j) (tk ts j) = true
theorem cls_2 {k : Nat} (h : k % 5 = 2) : cls k = 1 := by unfold cls; rw [if_neg (by omega), if_pos h]
theorem cls_3 {k : Nat} (h : k % 5 = 3 ∨ k % 5 = 4) : cls k = 2 := by unfold cls; rw [if_neg (by omega), if_neg (by omega), if_pos (by omega)]
theorem cls_0 {k : Nat} (h : k % 5 = 0) (h0 : 2 ≤ k) : cls k = 4 := by unfold cls; rw [if_neg (by omega), if_neg (by omega), if_neg (by omega), if_neg (by omega)]
theorem cls_1 {k : Nat} (h : k % 5 = 1) (h0 : 2 ≤ k) : cls k = 3 := by unfold cls; rw [if_neg (by omega), if_neg (by omega), if_neg (by omega), if_pos h]
theorem lvsM_bad (ha : Acc ts m) (hb : ac (cls m) (tk ts m) = false) (hl : (tk ts m).length ≤ 150) (he : cls m = 1 → tk ts m ≠ []) : ∀ (f k : Nat) (ds : List PyData), k % 5 = 2 → k ≤ m → m - k < f → lvsM ts f k ds = .syn (ps ts m)
  | 0, k, ds, _, _, h => absurd h (Nat.not_lt_zero _)
  | f + 1, k, ds, h2, hk, hf => by
    unfold lvsM
    by_cases hkm : k = m
    · subst hkm
      rw [cls_2 h2] at hb
      have h3 : ¬ tk ts k = tLEVEL := of_decide_eq_false hb
      rw [if_neg h3, if_neg (he (cls_2 h2))]
    · have hk1 := ha k (by omega)
      rw [cls_2 h2] at hk1
      rw [if_pos (of_decide_eq_true hk1)]
      unfold lvM
      by_cases m1 : m = k + 1
      · subst m1
        rw [cls_3 (by omega)] at hb
        exact numM_bad hb hl
      have a1 := ha (k + 1) (by omega)
      rw [cls_3 (by omega)] at a1
      rw [numM_ok a1]
      by_cases m2 : m = k + 1 + 1
      · subst m2
        rw [cls_3 (by omega)] at hb
        exact numM_bad hb hl
      have a2 := ha (k + 1 + 1) (by omega)
      rw [cls_3 (by omega)] at a2
      rw [numM_ok a2]
      by_cases m3 : m = k + 1 + 2
      · subst m3
        rw [cls_0 (by omega) (by omega)] at hb
        exact ruleM_bad hb
      have a3 := ha (k + 1 + 2) (by omega)
      rw [cls_0 (by omega) (by omega)] at a3
      rw [ruleM_ok a3]
      by_cases m4 : m = k + 1 + 3
      · subst m4
        rw [cls_1 (by omega) (by omega)] at hb
        exact wrM_bad hb
      have a4 := ha (k + 1 + 3) (by omega)
      rw [cls_1 (by omega) (by omega)] at a4
      rw [wrM_ok a4]
      exact lvsM_bad ha hb hl he f (k + 5) _ (by omega) (by omega) (by omega)
def lvT (ts : List (List Nat × Nat)) (k : Nat) : PyData := .tuple [.int (numVal (tk ts (k + 1))), .int (numVal (tk ts (k + 1 + 1))), .str ⟨(tk ts (k + 1 + 2)).toArray⟩, .str ⟨(tk ts (k + 1 + 3)).toArray⟩]
def lvTs (ts : List (List Nat × Nat)) (k n : Nat) : List PyData := (List.range n).map fun i => lvT ts (k + 5 * i)
theorem lvTs_succ (ts : List (List Nat × Nat)) (k n : Nat) : lvTs ts k (n + 1) = lvT ts k :: lvTs ts (k + 5) n := by
  unfold lvTs
  rw [List.range_succ_eq_map, List.map_cons, List.map_map]
  congr 1
  refine List.map_congr_left fun i _ => ?_
  show lvT ts (k + 5 * (i + 1)) = lvT ts (k + 5 + 5 * i)
  congr 1
  omega
theorem lvsM_good (ha : Acc ts m) (he : tk ts m = []) : ∀ (f k n : Nat) (ds : List PyData), k % 5 = 2 → k + 5 * n = m → n < f → lvsM ts f k ds = .ok (ds ++ lvTs ts k n) m
  | 0, k, n, ds, _, _, h => absurd h (Nat.not_lt_zero _)
  | f + 1, k, 0, ds, h2, hk, hf => by
    unfold lvsM
    have : k = m := by omega
    subst this
    rw [he, if_neg (by decide), if_pos rfl]
    simp [lvTs]
  | f + 1, k, n + 1, ds, h2, hk, hf => by
    unfold lvsM
    have hk1 := ha k (by omega)
    rw [cls_2 h2] at hk1
    rw [if_pos (of_decide_eq_true hk1)]
    unfold lvM
    have a1 := ha (k + 1) (by omega)
    rw [cls_3 (by omega)] at a1
    have a2 := ha (k + 1 + 1) (by omega)
    rw [cls_3 (by omega)] at a2
    have a3 := ha (k + 1 + 2) (by omega)
    rw [cls_0 (by omega) (by omega)] at a3
    have a4 := ha (k + 1 + 3) (by omega)
    rw [cls_1 (by omega) (by omega)] at a4
    rw [numM_ok a1, numM_ok a2, ruleM_ok a3, wrM_ok a4]
    have ih := lvsM_good ha he f (k + 5) n (ds ++ [lvT ts k]) (by omega) (by omega) (by omega)
    rw [lvTs_succ]
    rw [List.append_assoc] at ih
    exact ih
theorem cacheM_bad (ha : Acc ts m) (hb : ac (cls m) (tk ts m) = false) (hl : (tk ts m).length ≤ 150) (he : cls m = 1 → tk ts m ≠ []) (hm : m < ts.length) : cacheM ts = .syn (ps ts m) := by
  unfold cacheM
  by_cases m0 : m = 0
  · subst m0
    exact if_neg (of_decide_eq_false hb)
  · rw [if_pos (of_decide_eq_true (ha 0 (by omega)))]
    by_cases m1 : m = 1
    · subst m1
      exact numM_bad hb hl
    · have a1 := ha 1 (by omega)
      rw [numM_ok (show ac 2 (tk ts 1) = true from a1), lvsM_bad ha hb hl he ts.length 2 [] rfl (by omega) (by omega)]
theorem cacheM_good (ha : Acc ts m) (h2 : m % 5 = 2) (he : tk ts m = []) (hm : m < ts.length) : cacheM ts = .ok (numVal (tk ts 1), lvTs ts 2 ((m - 2) / 5)) m := by
  unfold cacheM
  rw [if_pos (of_decide_eq_true (ha 0 (by omega)))]
  by_cases m1 : m = 1
  · omega
  · have a1 := ha 1 (by omega)
    rw [numM_ok (show ac 2 (tk ts 1) = true from a1), lvsM_good ha he ts.length 2 ((m - 2) / 5) [] rfl (by omega) (by omega)]
    simp
end
theorem cls_lt (k : Nat) : cls k < 5 := by
  unfold cls
  split
  · decide
  · split
    · decide
    · split
      · decide
      · split <;> decide
theorem ac_nil (c : Nat) (h : c < 5) : ac c [] = false := by
  match c, h with
  | 0, _ => decide +kernel
  | 1, _ => decide +kernel
  | 2, _ => decide +kernel
  | 3, _ => decide +kernel
  | 4, _ => decide +kernel
/-! ### texts of words and what is read of them -/
/-- the words of pieces -/
def wsOf (ps : List (List Nat × Str)) : List Str := ps.map (·.2)
def txtOf (ps : List (List Nat × Str)) (g : List Nat) : List Nat := (ps.map fun q => q.1 ++ q.2.cps.toList).flatten ++ g
theorem toks_of {ps : List (List Nat × Str)} {g : List Nat} (ok : psOk ps g) : toks (txtOf ps g) 0 = itemToks (pit ps g) 0 := toks_items _ _ 0 (pit_good ok) (by rw [List.drop_zero, pit_flat]; rfl)
theorem psOk_wd : ∀ {ps : List (List Nat × Str)} {g : List Nat}, psOk ps g → ∀ q ∈ ps, wdOk q.2 = true
  | [], _, _, q, h => by cases h
  | (h, w) :: r, g, ⟨_, h2, _, h4⟩, q, hq => by
    rcases List.mem_cons.mp hq with rfl | hq
    · exact h2
    · exact psOk_wd h4 q hq
theorem wi_head_len {w : Str} (h : wdOk w = true) : ((wi w).headD []).length ≤ 10 ∧ (wi w).headD [] ≠ [] := by
  obtain ⟨c, r, e, _, _, _, hl, _⟩ := wd_parts h
  have hl : w.cps.toList.length ≤ 10 := by simpa [Str.length] using hl
  rw [e] at hl
  have ew : wi w = if (c :: r).all an = true then [c :: r] else if r = [] then [[c]] else [[c], r] := by unfold wi; rw [e]
  rw [ew]
  by_cases ha : (c :: r).all an = true
  · rw [if_pos ha]; exact ⟨hl, by simp⟩
  · rw [if_neg ha]
    by_cases hr : r = []
    · rw [if_pos hr]; simp
    · rw [if_neg hr]; simp
theorem read_words {z : Str} {ps : List (List Nat × Str)} {g : List Nat} (ok : psOk ps g) (ez : z.cps.toList = txtOf ps g) {m : Nat} (hm : m ≤ ps.length) (hs : ∀ j q, j < m → ps[j]? = some q → rc (cls j) q.2 = true) :
    Acc (tokz z) m ∧ m < (tokz z).length ∧ (∀ q, ps[m]? = some q → tk (tokz z) m = (wi q.2).headD [] ∧ K14.ps (tokz z) m = posW ps m) ∧ (m = ps.length → tk (tokz z) m = [] ∧ K14.ps (tokz z) m = z.length) ∧ ∀ j q, j < m → ps[j]? = some q → tk (tokz z) j = q.2.cps.toList := by
  have et : tokz z = itemToks (pit ps g) 0 ++ [([], z.length)] := by unfold tokz; rw [ez, toks_of ok]
  have wd := psOk_wd ok
  have single : ∀ j q, j < m → ps[j]? = some q → q.2.cps.toList.all an = true := fun j q hj hq => by
    obtain ⟨c, r, e, _, _, _, _, _, h⟩ := wd_parts (wd q (List.mem_of_getElem? hq))
    rw [e]
    exact (h (cls j) (cls_lt j)).2 (hs j q hj hq)
  have at1 : ∀ j q, j ≤ m → ps[j]? = some q → (tokz z)[j]? = some ((wi q.2).headD [], posW ps j) := fun j q hj hq => by
    have := pit_at (a := 0) ok hq fun j' q' h1 h2 => single j' q' (by omega) h2
    rw [et, List.getElem?_append_left (List.getElem?_eq_some_iff.mp this).1, this, Nat.zero_add]
  have at2 : m = ps.length → (tokz z)[m]? = some ([], z.length) := fun e => by
    have hl := pit_len (a := 0) ok fun q hq => by
      obtain ⟨j, hj⟩ := List.getElem?_of_mem hq
      exact single j q (by rw [e]; exact (List.getElem?_eq_some_iff.mp hj).1) hj
    rw [et, List.getElem?_append_right (by omega), hl, e, Nat.sub_self]
    rfl
  have word : ∀ j q, j < m → ps[j]? = some q → tk (tokz z) j = q.2.cps.toList := fun j q hj hq => by
    rw [(tk_of (at1 j q (by omega) hq)).1]
    have hall := single j q hj hq
    obtain ⟨c, r, e, _⟩ := wd_parts (wd q (List.mem_of_getElem? hq))
    have ew : wi q.2 = if (c :: r).all an = true then [c :: r] else if r = [] then [[c]] else [[c], r] := by unfold wi; rw [e]
    rw [ew, e]
    rw [e] at hall
    rw [if_pos hall]
    rfl
  refine ⟨fun j hj => ?_, ?_, fun q hq => tk_of (at1 m q (Nat.le_refl _) hq), fun e => tk_of (at2 e), word⟩
  · have hjl : j < ps.length := by omega
    have hq : ps[j]? = some ps[j] := List.getElem?_eq_getElem hjl
    rw [(tk_of (at1 j _ (by omega) hq)).1]
    obtain ⟨c, r, e, _, _, _, _, _, h⟩ := wd_parts (wd _ (List.mem_of_getElem? hq))
    rw [← (h (cls j) (cls_lt j)).1]
    exact hs j _ hj hq
  · by_cases e : m = ps.length
    · exact (List.getElem?_eq_some_iff.mp (at2 e)).1
    · have hq : ps[m]? = some (ps[m]'(by omega)) := List.getElem?_eq_getElem (by omega)
      exact (List.getElem?_eq_some_iff.mp (at1 m _ (Nat.le_refl _) hq)).1
/-- the first wrong word is told -/
theorem cache_wrong {z : Str} {ps : List (List Nat × Str)} {g : List Nat} (ok : psOk ps g) (ez : z.cps.toList = txtOf ps g) {m : Nat} {q : List Nat × Str} (hq : ps[m]? = some q) (hs : ∀ j q, j < m → ps[j]? = some q → rc (cls j) q.2 = true) (hb : rc (cls m) q.2 = false) : cacheM (tokz z) = .syn (posW ps m) := by
  have hm : m < ps.length := (List.getElem?_eq_some_iff.mp hq).1
  obtain ⟨h1, h2, h3, _⟩ := read_words ok ez (Nat.le_of_lt hm) hs
  obtain ⟨e1, e2⟩ := h3 q hq
  have wd := psOk_wd ok q (List.mem_of_getElem? hq)
  obtain ⟨c, r, e, _, _, _, _, _, h⟩ := wd_parts wd
  obtain ⟨l1, l2⟩ := wi_head_len wd
  rw [cacheM_bad h1 (by rw [e1, ← (h (cls m) (cls_lt m)).1]; exact hb) (by rw [e1]; omega) (fun _ => by rw [e1]; exact l2) h2, e2]
theorem cache_short {z : Str} {ps : List (List Nat × Str)} {g : List Nat} (ok : psOk ps g) (ez : z.cps.toList = txtOf ps g) (hs : ∀ j q, j < ps.length → ps[j]? = some q → rc (cls j) q.2 = true) (h5 : ps.length % 5 ≠ 2) : cacheM (tokz z) = .syn z.length := by
  obtain ⟨h1, h2, _, h4, _⟩ := read_words ok ez (Nat.le_refl _) hs
  obtain ⟨e1, e2⟩ := h4 rfl
  rw [cacheM_bad h1 (by rw [e1]; exact ac_nil _ (cls_lt _)) (by rw [e1]; exact Nat.zero_le _) (fun c => ?_) h2, e2]
  unfold cls at c
  split at c
  · cases c
  · split at c
    · cases c
    · split at c
      · cases c
      · cases c
theorem cache_good {z : Str} {ps : List (List Nat × Str)} {g : List Nat} (ok : psOk ps g) (ez : z.cps.toList = txtOf ps g) (hs : ∀ j q, j < ps.length → ps[j]? = some q → rc (cls j) q.2 = true) (h5 : ps.length % 5 = 2) : cacheM (tokz z) = .ok (numVal (tk (tokz z) 1), lvTs (tokz z) 2 ((ps.length - 2) / 5)) ps.length := by
  obtain ⟨h1, h2, _, h4, _⟩ := read_words ok ez (Nat.le_refl _) hs
  exact cacheM_good h1 h5 (h4 rfl).1 h2

end K14

namespace K14
open PySem L2 SZ VR VX StX RT DE
local macro_rules | `(tactic| walk_at "v") => `(tactic| first | exact Or.inl rfl | exact Or.inr (Or.inl rfl) | exact Or.inr (Or.inr rfl))
local macro_rules | `(tactic| walk_at "o") => `(tactic| first
  | (refine fun _ h => ov_eqInt h) | (refine fun _ h => ov_eqStr h) | (refine fun _ h => ov_add h) | (refine fun _ h => ov_sub h) | (refine fun _ h => ov_mod (by decide) h) | (refine fun _ h => ov_lt h) | (refine fun _ h => ov_le h) | (refine fun _ h => ov_gt h) | (refine fun _ h => ov_ge h)
  | (refine fun _ h => ov_neInt h) | (refine fun _ h => ov_neStr h) | (refine fun _ h => ov_isN h) | (refine fun _ h => ov_notN h)
  | exact or_inS (.inl rfl) rfl | exact or_inS (.inr rfl) rfl | exact or_inI (.inl rfl) rfl | exact or_inI (.inr rfl) rfl | exact or_notInS (.inl rfl) rfl | exact or_notInS (.inr rfl) rfl | exact or_notInC | exact or_inC
  | (refine fun _ h => ov_mul (by first | exact .inl ⟨by omega, by omega⟩ | exact .inr ⟨by omega, by omega⟩) h))
local macro_rules | `(tactic| walk_at "c") => `(tactic| first
  | (refine fun _ h => cv_int h) | (refine fun _ h => cv_intB h) | (refine fun _ h => cv_lenT h) | (refine fun _ h => cv_lenL h) | (refine fun _ h => cv_lenO h))
/-! ### the draws as data -/
def PoolD (ys : List PyData) : Prop := ∃ p q : Int, ys = [.int p, .int q] ∧ 0 ≤ p
abbrev PreT : List PyData → List Sl → Prop := fun ys as => PoolD ys ∧ ∃ wd : Int, as = [.d (.int wd)] ∧ 0 < wd ∧ wd < 1073741824
abbrev ResT : List PyData → List Sl → Sl → List PyData → Prop := fun _ as r ys' => PoolD ys' ∧ ∃ wd i : Int, as = [.d (.int wd)] ∧ r = .d (.int i) ∧ 0 ≤ i ∧ i < wd
abbrev PreP : List Sl → Prop := fun as => ∃ (ns : List Int) (k : Nat), as = [.d (.list (ns.map .int)), .d (.int k)] ∧ k ≤ 63 ∧ ns.length ≤ 63
abbrev ResP : List Sl → Sl → Prop := fun _ r => ∃ ys, r = .own ys ∧ PoolD ys
theorem dp_iz {K : PySem.W.Frag} {G : Hp} : ∀ {ns : List Int} {xs : List V}, DpAll K G xs (ns.map .int) → xs = iz ns
  | [], _, h => by cases h; rfl
  | n :: ns, _, h => by
    rw [List.map_cons] at h
    cases h with
    | cons h1 h2 =>
      cases h1
      rw [dp_iz h2]
      rfl
theorem dp_two {K : PySem.W.Frag} {G : Hp} {p q : Int} {vs : List V} (h : DpAll K G vs [.int p, .int q]) : vs = [.int p, .int q] := by
  cases h with
  | cons h1 h2 =>
    cases h1
    cases h2 with
    | cons h3 h4 =>
      cases h3
      cases h4
      rfl
section
variable {P : Program} {w : World} {K : PySem.W.Frag} {mg : Str → Option Value} {base : Heap}
theorem take_B {f : Addr} {fd : FuncData} {k : Nat} {ps : List Str} (F : FnOk P w K mg base CX0 k f fd ps spTake) : FnOk P w K mg base CX0 k f fd ps (spB K PreT ResT) := F.imp fun vs H Q E z => by
  obtain ⟨G, a, us, ys, as, rfl, l, hG, ⟨⟨p, q, rfl, hp⟩, wd, rfl, w0, w1⟩, h⟩ := z
  obtain ⟨u, rfl⟩ : ∃ u, us = [u] := List.length_eq_one_iff.mp (by simpa using l)
  have ok0 := hG.ok _ List.mem_cons_self
  obtain ⟨a', us0, e, hm, hg0, hl, hd⟩ := ok0
  cases e
  have := dp_two hd
  subst this
  obtain ⟨v, e, hv⟩ := hG.ok (some u, .d (.int wd)) (by simp)
  cases e
  cases hv
  refine ⟨a, wd, rfl, ⟨p, q, hl, hp⟩, w0, w1, fun r H' r0 r1 ⟨p', q', hl', hp'⟩ hb hn => ?_⟩
  refine h (.d (.int r)) [.int p', .int q'] ⟨⟨p', q', rfl, hp'⟩, wd, r, rfl, rfl, r0, r1⟩ (by simp) _ H' ⟨G, hG.old, fun b o e => hb b o (hG.up _ _ e) (fun n => by rw [n, hg0] at e; cases e), fun b o e => .inl e, fun b o e n => hb b o e (by simpa using n), fun b hb' => ?_, fun c hc => ?_, by simp [ads], hG.fl⟩
  · rw [List.mem_singleton.mp hb', hl']
    rfl
  · simp only [List.mem_cons, List.not_mem_nil, or_false] at hc
    rcases hc with rfl | rfl
    · exact ⟨_, rfl, .int r⟩
    · exact ⟨a, [.int p', .int q'], rfl, List.mem_singleton_self _, hg0, hl', .cons (.int _) (.cons (.int _) .nil)⟩
theorem pool_P {f : Addr} {fd : FuncData} {k : Nat} {ps : List Str} (F : FnOk P w K mg base CX0 k f fd ps (spPool K)) : FnOk P w K mg base CX0 k f fd ps (spP K PreP ResP) := F.imp fun vs H Q E z => by
  obtain ⟨G, as, l, hG, ⟨ns, k, rfl, hk, hn⟩, h⟩ := z
  obtain ⟨u1, u2, rfl⟩ : ∃ u1 u2, vs = [u1, u2] := by
    match vs, l with
    | [u1, u2], _ => exact ⟨u1, u2, rfl⟩
  obtain ⟨v1, e1, d1⟩ := hG.ok (some u1, .d (.list (ns.map .int))) (by simp)
  obtain ⟨v2, e2, d2⟩ := hG.ok (some u2, .d (.int k)) (by simp)
  cases e1; cases e2; cases d2
  cases d1 with
  | @lst a xs _ g1 g2 =>
    have := dp_iz g2
    subst this
    refine ⟨a, ns, k, rfl, hG.up.seq g1, hk, hn, fun p H' hp s ⟨p1, q1, hl, h0⟩ => ?_⟩
    have gp : G p = none := hG.up.free hp
    refine h _ ⟨[.int p1, .int q1], rfl, p1, q1, rfl, h0⟩ (by simp) _ H' ⟨G, hG.old, hG.up.trans s, fun b o e => .inl e, fun b o e _ => s _ _ e, fun b hb => (nomatch hb), fun c hc => ?_, by simp [ads], hG.fl⟩
    rw [List.mem_singleton.mp hc]
    exact ⟨p, [.int p1, .int q1], rfl, hp, gp, hl, .cons (.int _) (.cons (.int _) .nil)⟩
end
section
variable {X : Cx} {b : Bs} {ρ : List Sl} {p : Sl → List Sl → Prop} {e : Expr} {es : List Expr} {pos : Pos}
/-- a draw -/
theorem ev_take (i : Nat) {k : Nat} {wd : Int} {s : Sl} {ys : List PyData} {p1 p2 cp : Pos} (C : CalB X.prog X.w X.K X.mg X.base CX0 "_law_take" k PreT ResT) (hr : Room k X.A) (hN : X.N[i]? = some "_law_pool_here") (hv : Vis X.env.scope "_law_pool_here") {E : XK} (hx : Passes CX0 X E)
    (hs : ρ[i]? = some s) (ks : s = .own ys ∨ s = .bor ys) (hy : PoolD ys) (h : EVr X b ρ e (.d (.int wd))) (w0 : 0 < wd) (w1 : wd < 1073741824) (k : ∀ (r : Int) (ys' : List PyData), 0 ≤ r → r < wd → PoolD ys' → p (.d (.int r)) (ρ.set i (setS s ys'))) (hg : Gl X "_law_take" := by rfl)
    (he0 : starEach [e] X.env = (false, eval e X.env) :: starEach [] X.env := by rfl) (he : starEach [.Name "_law_pool_here" p2, e] X.env = (false, eval (.Name "_law_pool_here" p2) X.env) :: starEach [e] X.env := by rfl) (hpl : (backTo cp (starEach [e] X.env)).any (·.1) = false := by rfl) : EV X b ρ (.Call (.Name "_law_take" p1) [.Name "_law_pool_here" p2, e] [] cp) p :=
  ev_calL i C hr hg hx hN hv (a_cons h a_nil he0 _ ⟨[.int wd], rfl, s, ys, hs, ks, ⟨hy, wd, rfl, w0, w1⟩, fun r ys' ⟨h1, wd', j, e1, e2, j0, j1⟩ => by
    cases e1
    subst e2
    exact ⟨by simp, k j ys' j0 j1 h1⟩⟩) ⟨s, ys, hs, ks⟩ (by decide) (by decide) (by decide) he hpl
end

end K14

namespace K14
open PySem L2 SZ VR VX StX RT
def lcmL (n : Nat) (f s : Nat) : List Int := ((List.range n).map fun j : Nat => (1 : Int) + (j : Int)).filter fun m => decide (m % (f : Int) = 0) && decide (m % (s : Int) = 0)
theorem lcmL_succ (n f s : Nat) : lcmL (n + 1) f s = if (decide (((1 : Int) + (n : Int)) % (f : Int) = 0) && decide (((1 : Int) + (n : Int)) % (s : Int) = 0)) = true then lcmL n f s ++ [(1 : Int) + (n : Int)] else lcmL n f s := by
  unfold lcmL
  rw [List.range_succ, List.map_append, List.filter_append, List.map_cons, List.map_nil, List.filter_cons]
  split
  · rfl
  · rw [List.filter_nil, List.append_nil]
theorem mod_dvd (m f : Nat) : (((m : Int) % (f : Int)) = 0) ↔ f ∣ m := by
  rw [← Int.natCast_emod]
  constructor
  · intro h
    exact Nat.dvd_of_mod_eq_zero (by omega)
  · intro h
    have := Nat.mod_eq_zero_of_dvd h
    omega
theorem lcmL_first {n f s : Nat} (hf : 0 < f) (hs : 0 < s) (h : Nat.lcm f s ≤ n) : (lcmL n f s)[0]? = some ((Nat.lcm f s : Nat) : Int) := by
  have hp : 0 < Nat.lcm f s := Nat.lcm_pos hf hs
  have key : ∀ k, k < Nat.lcm f s → lcmL k f s = [] := by
    intro k
    induction k with
    | zero => intro _; rfl
    | succ k ih =>
      intro hk
      rw [lcmL_succ, ih (by omega), if_neg]
      intro hh
      rw [Bool.and_eq_true, decide_eq_true_iff, decide_eq_true_iff] at hh
      have e : (1 : Int) + (k : Int) = ((k + 1 : Nat) : Int) := by omega
      rw [e, mod_dvd, mod_dvd] at hh
      have := Nat.le_of_dvd (by omega) (Nat.lcm_dvd hh.1 hh.2)
      omega
  have at0 : lcmL (Nat.lcm f s) f s = [((Nat.lcm f s : Nat) : Int)] := by
    obtain ⟨k, hk⟩ : ∃ k, Nat.lcm f s = k + 1 := ⟨Nat.lcm f s - 1, by omega⟩
    have e : (1 : Int) + (k : Int) = ((k + 1 : Nat) : Int) := by omega
    have d1 := Nat.dvd_lcm_left f s
    have d2 := Nat.dvd_lcm_right f s
    have k0 := key k (by omega)
    rw [hk] at d1 d2 ⊢
    rw [lcmL_succ, k0, e, if_pos]
    · rfl
    · rw [Bool.and_eq_true, decide_eq_true_iff, decide_eq_true_iff, mod_dvd, mod_dvd]
      exact ⟨d1, d2⟩
  have grow : ∀ m, (lcmL (Nat.lcm f s + m) f s)[0]? = some ((Nat.lcm f s : Nat) : Int) := by
    intro m
    induction m with
    | zero => rw [Nat.add_zero, at0]; rfl
    | succ m ih =>
      rw [← Nat.add_assoc, lcmL_succ]
      split
      · rw [List.getElem?_append_left]
        · exact ih
        · exact (List.getElem?_eq_some_iff.mp ih).1
      · exact ih
  have e : n = Nat.lcm f s + (n - Nat.lcm f s) := by omega
  rw [e]
  exact grow _
theorem lcmL_len (n f s : Nat) : (lcmL n f s).length ≤ n := by
  unfold lcmL
  refine Nat.le_trans (List.length_filter_le _ _) ?_
  rw [List.length_map, List.length_range]
  exact Nat.le_refl _
def spTg (K : PySem.W.Frag) : Sp := fun vs H Q _ => ∃ (lv : V) (ds : List PyData), vs = [lv] ∧ Dp K H lv (.tuple ds) ∧ (∀ d ∈ ds, lvlD d = true) ∧ (∀ i, i ≤ ds.length → togN (ds.take i) ≤ 840) ∧ ∀ H', Same H H' → Q (.int (togN ds : Int)) H'
theorem togN_pos {ds : List PyData} (h : ∀ x ∈ ds, lvlD x = true) : ∀ i, i ≤ ds.length → 0 < togN (ds.take i) := by
  intro i
  induction i with
  | zero => intro _; simp [togN]
  | succ i ih =>
    intro hi
    have hx : ds[i]? = some ds[i] := List.getElem?_eq_getElem hi
    rw [togN_snoc hx]
    obtain ⟨a, b, r, y, e, h1, h2⟩ := lvl_sets (h _ (List.getElem_mem hi))
    have hs : 0 < setsN ds[i] := by
      rw [e]
      show 0 < a.natAbs
      omega
    exact Nat.lcm_pos (ih (by omega)) hs
section
variable {P : Program} {w : World} {K : PySem.W.Frag} {mg : Str → Option Value} {base : Heap}
end

/-! ### the law's values -/
def Sm (n : Nat) (x : Str) : Prop := x.length ≤ n ∧ PyData.strOk x = true
theorem Sm.app {a b : Nat} {x y : Str} (h : Sm a x) (k : Sm b y) : Sm (a + b) (x ++ y) := by
  refine ⟨?_, ?_⟩
  · rw [Str.length_append]
    have := h.1
    have := k.1
    omega
  · have h2 := h.2
    have k2 := k.2
    unfold PyData.strOk at *
    rw [Str.cps_append, Array.all_append, h2, k2]
    rfl
theorem Sm.mono {a b : Nat} {x : Str} (h : Sm a x) (n : a ≤ b) : Sm b x := ⟨Nat.le_trans h.1 n, h.2⟩
def ShS (n : Nat) (d : PyData) : Bool := d.showable && (!d.hasDict && (decide (d.depth ≤ 4) && (decide (d.shown.length ≤ n) && (PyData.strOk d.shown && d.canLay0))))
theorem ShS.ok {n : Nat} {d : PyData} (h : ShS n d = true) : d.showable = true ∧ d.hasDict = false ∧ d.depth ≤ 4 ∧ Sm n d.shown ∧ d.canLay0 = true := by
  unfold ShS at h
  simp only [Bool.and_eq_true, decide_eq_true_iff, Bool.not_eq_true'] at h
  exact ⟨h.1, h.2.1, h.2.2.1, ⟨h.2.2.2.1, h.2.2.2.2.1⟩, h.2.2.2.2.2⟩
theorem ShS.show {n : Nat} {d : PyData} (h : ShS n d = true) (hn : n ≤ 1000) : ShowOk d := by
  obtain ⟨h1, h2, h3, h4, _⟩ := ShS.ok h
  exact ⟨h1, h2, by omega, Nat.le_of_lt (Nat.lt_of_le_of_lt (show _ ≤ 1000 from Nat.le_trans h4.1 hn) (by rw [sizeLine_eq]; omega))⟩
theorem odd_all : ∀ d ∈ ODD, (ShS 200 d && !lvlD d) = true := by decide +kernel
theorem odd_sh {d : PyData} (h : d ∈ ODD) : ShS 200 d = true := (Bool.and_eq_true_iff.mp (odd_all d h)).1
theorem odd_bad {d : PyData} (h : d ∈ ODD) : lvlD d = false := by
  have := (Bool.and_eq_true_iff.mp (odd_all d h)).2
  rwa [Bool.not_eq_true'] at this
theorem mk_all : ∀ s ∈ ([1, 2, 3, 4] : List Int), ∀ y ∈ ([1, 2, 3, 4] : List Int), ∀ r ∈ RUL, ∀ w ∈ WRT, (ShS 40 (.tuple [.int s, .int y, .str r, .str w]) && decide ((PyData.tuple [.int s, .int y, .str r, .str w]).depth = 1)) = true := by decide +kernel
theorem MkL.sh {d : PyData} (h : MkL d) : ShS 40 d = true ∧ d.depth = 1 := by
  obtain ⟨s, y, r, w, rfl, s1, s4, y1, y4, hr, hw, _⟩ := h
  have hs : s ∈ ([1, 2, 3, 4] : List Int) := by
    simp only [List.mem_cons, List.not_mem_nil, or_false]
    omega
  have hy : y ∈ ([1, 2, 3, 4] : List Int) := by
    simp only [List.mem_cons, List.not_mem_nil, or_false]
    omega
  have := mk_all s hs y hy r hr w hw
  rw [Bool.and_eq_true, decide_eq_true_iff] at this
  exact this
theorem list_three {α : Type} {l : List α} (h1 : 1 ≤ l.length) (h3 : l.length ≤ 3) : (∃ a, l = [a]) ∨ (∃ a b, l = [a, b]) ∨ ∃ a b c, l = [a, b, c] := by
  match l, h1, h3 with
  | [a], _, _ => exact .inl ⟨a, rfl⟩
  | [a, b], _, _ => exact .inr (.inl ⟨a, b, rfl⟩)
  | [a, b, c], _, _ => exact .inr (.inr ⟨a, b, c, rfl⟩)
theorem sm_list {ts : List Str} (h1 : 1 ≤ ts.length) (h3 : ts.length ≤ 3) (h : ∀ t ∈ ts, Sm 40 t) : Sm 200 (listText ts) := by
  have o : Sm 1 ("[" : Str) := ⟨by decide +kernel, by decide +kernel⟩
  have c : Sm 1 ("]" : Str) := ⟨by decide +kernel, by decide +kernel⟩
  have e : Sm 0 ("" : Str) := ⟨by decide +kernel, by decide +kernel⟩
  have m : Sm 2 (", " : Str) := ⟨by decide +kernel, by decide +kernel⟩
  rcases list_three h1 h3 with ⟨a, rfl⟩ | ⟨a, b, rfl⟩ | ⟨a, b, d, rfl⟩
  · have ha := h a (by simp)
    show Sm 200 ((("[" : Str) ++ "" ++ a) ++ "]")
    exact (((o.app e).app ha).app c).mono (by omega)
  · have ha := h a (by simp)
    have hb := h b (by simp)
    show Sm 200 (((("[" : Str) ++ "" ++ a) ++ ", " ++ b) ++ "]")
    exact (((((o.app e).app ha).app m).app hb).app c).mono (by omega)
  · have ha := h a (by simp)
    have hb := h b (by simp)
    have hd := h d (by simp)
    show Sm 200 ((((("[" : Str) ++ "" ++ a) ++ ", " ++ b) ++ ", " ++ d) ++ "]")
    exact (((((((o.app e).app ha).app m).app hb).app m).app hd).app c).mono (by omega)
theorem sm_tup4 {a : Str} (ha : Sm 40 a) : Sm 200 (tupleText [a, a, a, a]) := by
  have o : Sm 1 ("(" : Str) := ⟨by decide +kernel, by decide +kernel⟩
  have c : Sm 1 (")" : Str) := ⟨by decide +kernel, by decide +kernel⟩
  have m : Sm 2 (", " : Str) := ⟨by decide +kernel, by decide +kernel⟩
  have t : tupleText [a, a, a, a] = ("(" : Str) ++ (a ++ ", " ++ (a ++ ", " ++ (a ++ ", " ++ a))) ++ (")" : Str) := rfl
  rw [t]
  exact ((o.app ((ha.app m).app ((ha.app m).app ((ha.app m).app ha)))).app c).mono (by omega)
theorem lst_sh {ds : List PyData} (h1 : 1 ≤ ds.length) (h3 : ds.length ≤ 3) (h : ∀ d ∈ ds, MkL d) : ShS 200 (.list ds) = true ∧ (PyData.tuple ds).canLay0 = true ∧ (PyData.tuple ds).depth ≤ 4 := by
  have all : ∀ d ∈ ds, d.showable = true ∧ d.hasDict = false ∧ d.depth = 1 ∧ Sm 40 d.shown ∧ d.canLay0 = true := fun d hd => by
    obtain ⟨g, g1⟩ := (h d hd).sh
    obtain ⟨k1, k2, k3, k4, k5⟩ := ShS.ok g
    exact ⟨k1, k2, g1, k4, k5⟩
  have sm : Sm 200 (PyData.list ds).shown := by
    rw [PyData.shown]
    refine sm_list ?_ ?_ ?_
    · rcases list_three h1 h3 with ⟨a, rfl⟩ | ⟨a, b, rfl⟩ | ⟨a, b, c, rfl⟩ <;> simp [PyData.shownAll]
    · rcases list_three h1 h3 with ⟨a, rfl⟩ | ⟨a, b, rfl⟩ | ⟨a, b, c, rfl⟩ <;> simp [PyData.shownAll]
    · intro t ht
      rcases list_three h1 h3 with ⟨a, rfl⟩ | ⟨a, b, rfl⟩ | ⟨a, b, c, rfl⟩ <;> simp [PyData.shownAll] at ht
      · subst ht; exact (all _ (by simp)).2.2.2.1
      · rcases ht with rfl | rfl
        · exact (all _ (by simp)).2.2.2.1
        · exact (all _ (by simp)).2.2.2.1
      · rcases ht with rfl | rfl | rfl
        · exact (all _ (by simp)).2.2.2.1
        · exact (all _ (by simp)).2.2.2.1
        · exact (all _ (by simp)).2.2.2.1
  have sO := sm.2
  have sL := sm.1
  clear sm
  unfold ShS
  rw [decide_eq_true sL, sO]
  rcases list_three h1 h3 with ⟨a, rfl⟩ | ⟨a, b, rfl⟩ | ⟨a, b, c, rfl⟩
  · obtain ⟨a1, a2, a3, _, a5⟩ := all a (by simp)
    simp [PyData.showable, PyData.showableAll, PyData.hasDict, PyData.hasDictAll, PyData.depth, PyData.depthAll, PyData.canLay0, PyData.canLayAll0, a1, a2, a3, a5]
  · obtain ⟨a1, a2, a3, _, a5⟩ := all a (by simp)
    obtain ⟨b1, b2, b3, _, b5⟩ := all b (by simp)
    simp [PyData.showable, PyData.showableAll, PyData.hasDict, PyData.hasDictAll, PyData.depth, PyData.depthAll, PyData.canLay0, PyData.canLayAll0, a1, a2, a3, a5, b1, b2, b3, b5]
  · obtain ⟨a1, a2, a3, _, a5⟩ := all a (by simp)
    obtain ⟨b1, b2, b3, _, b5⟩ := all b (by simp)
    obtain ⟨c1, c2, c3, _, c5⟩ := all c (by simp)
    simp [PyData.showable, PyData.showableAll, PyData.hasDict, PyData.hasDictAll, PyData.depth, PyData.depthAll, PyData.canLay0, PyData.canLayAll0, a1, a2, a3, a5, b1, b2, b3, b5, c1, c2, c3, c5]
theorem four_sh {a : PyData} (h : MkL a) : ShS 200 (.tuple [a, a, a, a]) = true := by
  obtain ⟨g, g1⟩ := h.sh
  obtain ⟨k1, k2, k3, k4, k5⟩ := ShS.ok g
  have sm : Sm 200 (PyData.tuple [a, a, a, a]).shown := by
    rw [PyData.shown]
    exact sm_tup4 k4
  unfold ShS
  rw [decide_eq_true sm.1, sm.2]
  simp [PyData.showable, PyData.showableAll, PyData.hasDict, PyData.hasDictAll, PyData.depth, PyData.depthAll, PyData.canLay0, PyData.canLayAll0, k1, k2, g1, k5]
theorem tup_shaped {ds : List PyData} (h1 : 1 ≤ ds.length) (h3 : ds.length ≤ 3) (h : ∀ d ∈ ds, MkL d) : SeqAt.shaped (.tuple ds) = true := by
  obtain ⟨_, c, d⟩ := lst_sh h1 h3 h
  unfold SeqAt.shaped
  rw [c, decide_eq_true (show (PyData.tuple ds).depth ≤ 64 by omega)]
  rfl
theorem cac_shaped {x : Str} (h : PyData.strOk x = true) : SeqAt.shaped (.list [.str "cache", .str x]) = true := by
  have e : PyData.strOk ("cache" : Str) = true := by decide +kernel
  simp [SeqAt.shaped, PyData.canLay0, PyData.canLayAll0, PyData.depth, PyData.depthAll, h, e]
theorem cac_refl (x : Str) : PyData.eqv (.list [.str "cache", .str x]) (.list [.str "cache", .str x]) = true := by
  simp [PyData.eqv, PyData.eqvAll]
theorem eqv_last {a b : PyData} (h : PyData.eqv a b = false) : ∀ ini : List PyData, PyData.eqvAll (ini ++ [a]) (ini ++ [b]) = false
  | [] => by simp [PyData.eqvAll, h]
  | x :: r => by simp [PyData.eqvAll, eqv_last h r]
theorem tog12 {ds : List PyData} (h : ∀ d ∈ ds, MkL d) : ∀ i, i ≤ ds.length → togN (ds.take i) ∣ 12 := by
  intro i
  induction i with
  | zero => intro _; exact ⟨12, rfl⟩
  | succ i ih =>
    intro hi
    have hx : ds[i]? = some ds[i] := List.getElem?_eq_getElem hi
    rw [togN_snoc hx]
    obtain ⟨s, y, r, w, e, s1, s4, _⟩ := h _ (List.getElem_mem hi)
    refine Nat.lcm_dvd (ih (by omega)) ?_
    rw [e]
    show s.natAbs ∣ 12
    have : s = 1 ∨ s = 2 ∨ s = 3 ∨ s = 4 := by omega
    rcases this with rfl | rfl | rfl | rfl <;> decide
theorem tog_le12 {ds : List PyData} (h : ∀ d ∈ ds, MkL d) : ∀ i, i ≤ ds.length → togN (ds.take i) ≤ 12 := fun i hi => Nat.le_of_dvd (by decide) (tog12 h i hi)
theorem tog12' {ds : List PyData} (h : ∀ d ∈ ds, MkL d) : togN ds ≤ 12 := by
  have := tog_le12 h ds.length (Nat.le_refl _)
  rwa [List.take_length] at this
theorem bad_mk {ds : List PyData} (h1 : 1 ≤ ds.length) (h3 : ds.length ≤ 3) (h : ∀ d ∈ ds, MkL d) : badL (.tuple ds) = none := by
  show (if 1 ≤ ds.length ∧ ds.length ≤ 3 then ds.find? (fun d => !lvlD d) else some (.tuple ds)) = none
  rw [if_pos ⟨h1, h3⟩]
  exact find_none fun x hx => (h x hx).lvl
theorem bad_bent {ds : List PyData} {d : PyData} {i : Nat} (h3 : ds.length ≤ 3) (hi : i < ds.length) (h : ∀ d ∈ ds, MkL d) (hd : lvlD d = false) : badL (.tuple (ds.take i ++ d :: ds.drop (i + 1))) = some d := by
  have hl : (ds.take i ++ d :: ds.drop (i + 1)).length = ds.length := by
    rw [List.length_append, List.length_cons, List.length_take, List.length_drop]
    omega
  have ht : (ds.take i).length = i := by rw [List.length_take]; omega
  show (if 1 ≤ (ds.take i ++ d :: ds.drop (i + 1)).length ∧ (ds.take i ++ d :: ds.drop (i + 1)).length ≤ 3 then (ds.take i ++ d :: ds.drop (i + 1)).find? (fun d => !lvlD d) else _) = some d
  rw [if_pos (by rw [hl]; omega)]
  refine find_first (i := i) (fun x hx => ?_) ?_ hd
  · rw [List.take_append_of_le_length (by omega), List.take_of_length_le (by omega)] at hx
    exact (h x (List.mem_of_mem_take hx)).lvl
  · rw [List.getElem?_append_right (by omega), ht, Nat.sub_self]
    rfl
abbrev L0 : List PyData := [.none, .int 0, .int 9, .int (-1), .bool true, .str "2", .int 1000, .list [.int 2]]
theorem l0_all : ∀ d ∈ L0, (ShS 200 d && !cntD d 8) = true := by decide +kernel

end K14

namespace K14
open PySem L2 SZ VR VX StX RT
/-! ### law -/
theorem passF {X : Cx} : Passes (L2.CX X.prog X.w) X (fun _ _ _ => False) := passes_call takes0 (fun _ _ _ _ h => h.elim)
theorem good_ln {ln : Int} (h : ln = 1 ∨ ln = 2 ∨ ln = 4) : cntD (.int ln) 8 = true := by rcases h with rfl | rfl | rfl <;> rfl
theorem good_ln2 {ln : Int} (h : ln = 1 ∨ ln = 2 ∨ ln = 4) : cntD (.int (ln % 4 + 1)) 8 = true := by rcases h with rfl | rfl | rfl <;> rfl
theorem cinit_ok {K : PySem.W.Frag} {C CI CT x dx : Addr} {ln : Int} {lv : V} {ds : List PyData} {H Hx : Hp} {Q : VK} {E : XK} (hp : Hx x = some (.ins C dx [])) (sx : Same H Hx) (nx : H x = none) (hv : Dp K H lv (.tuple ds)) (g1 : cntD (.int ln) 8 = true) (g2 : badL (.tuple ds) = none) (g3 : (togN ds : Int) * ln ≤ 64)
    (q : ∀ H', Same H H' → ChAt K C H' x ln ds → Q .non H') : spCInit K C CI CT [.ref x, .int ln, lv] Hx Q E := by
  refine ⟨x, dx, .int ln, lv, .int ln, .tuple ds, rfl, hp, .int ln, Dp.keep sx hv, fun c => ?_, fun _ b eb => ?_, fun l2 ds2 e1 e2 _ _ => ⟨fun h => ?_, fun _ H' b1 hx => ?_⟩⟩
  · rw [g1] at c; cases c
  · rw [g2] at eb; cases eb
  · cases e1
    cases e2
    omega
  · cases e1
    cases e2
    have SH : Same H H' := fun b o e => b1 b o (sx b o e) (ne_of_none e nx)
    exact q H' SH ⟨dx, lv, hx, Dp.keep SH hv⟩
theorem for_lit {K : PySem.W.Frag} {ta : TA} {g : TG} {tb u : TS} {D : Ends} {σ : L2.St} {H : Hp} {ds : List PyData} (h : LitA K ta ds) (n : ds.length ≤ 100)
    (k : ∀ (M : Addr) (vs : List V) (H' : Hp), H M = none → Same H H' → H' M = some (.lst vs) → DpAll K H' vs ds → ∃ Pv : Nat → L2.St → Hp → Prop, Pv 0 σ H' ∧ (∀ i σ H, i ≤ vs.length → Pv i σ H → SqL K H M vs) ∧
      (∀ i x σ H, vs[i]? = some x → Pv i σ H → g x σ H fun σ2 H2 => tb { nx := Pv (i + 1), rt := D.rt, bk := u D, ct := Pv (i + 1) } σ2 H2) ∧ (∀ σ H, Pv vs.length σ H → u D σ H)) : tSeq (tFor (iList K (tLst ta)) g tb) u D σ H := by
  unfold tSeq tFor
  refine lit_new (K := K) h n _ _ _ fun M vs H' nM s1 fm dm => ?_
  obtain ⟨Pv, p0, pl, ps, pd⟩ := k M vs H' nM s1 fm dm
  exact ⟨M, rfl, ⟨_, .of fm⟩, for_list Pv p0 pl ps pd⟩
theorem same_butR {p : Addr} {H0 H1 H2 : Hp} (hp : H0 p = none) (s : Same H0 H1) (b : ButR p H1 H2) : Same H0 H2 := fun c o e => b c o (s c o e) (ne_of_none e hp)
theorem DpAll.take' {K : PySem.W.Frag} {H : Hp} : ∀ {xs : List V} {ds : List PyData} (n : Nat), DpAll K H xs ds → DpAll K H (xs.take n) (ds.take n)
  | _, _, 0, _ => by rw [List.take_zero, List.take_zero]; exact .nil
  | _, _, n + 1, .nil => by rw [List.take_nil, List.take_nil]; exact .nil
  | _, _, n + 1, .cons h r => by rw [List.take_succ_cons, List.take_succ_cons]; exact .cons h (DpAll.take' n r)
theorem DpAll.drop' {K : PySem.W.Frag} {H : Hp} : ∀ {xs : List V} {ds : List PyData} (n : Nat), DpAll K H xs ds → DpAll K H (xs.drop n) (ds.drop n)
  | _, _, 0, h => by rw [List.drop_zero, List.drop_zero]; exact h
  | _, _, n + 1, .nil => by rw [List.drop_nil, List.drop_nil]; exact .nil
  | _, _, n + 1, .cons h r => by rw [List.drop_succ_cons, List.drop_succ_cons]; exact DpAll.drop' n r
theorem cut_to (xs : List V) (i : Nat) : cutV xs none (some (i : Int)) = xs.take i := by
  unfold cutV
  rw [HT.sIx_nat, HT.sIx_none, List.drop_zero, Nat.sub_zero, List.take_eq_take_iff]
  omega
theorem cut_from (xs : List V) (i : Nat) : cutV xs (some (i : Int)) none = xs.drop i := by
  unfold cutV
  rw [HT.sIx_nat, HT.sIx_none]
  by_cases h : i ≤ xs.length
  · rw [Nat.min_eq_left h, List.take_of_length_le (by rw [List.length_drop]; omega)]
  · rw [Nat.min_eq_right (by omega), List.drop_length, List.take_nil, List.drop_eq_nil_of_le (by omega)]
theorem last_at {K : PySem.W.Frag} {H : Hp} {xs : List V} {ds : List PyData} (h : DpAll K H xs ds) (h1 : 1 ≤ ds.length) (h3 : ds.length ≤ 3) : ∃ v l ini, ds = ini ++ [l] ∧ atI xs (-1) = some v ∧ Dp K H v l ∧ DpAll K H (cutV xs none (some (-1))) ini := by
  rcases list_three h1 h3 with ⟨a, rfl⟩ | ⟨a, b, rfl⟩ | ⟨a, b, c, rfl⟩
  · cases h with
    | cons p r =>
      cases r with
      | nil => exact ⟨_, a, [], rfl, rfl, p, .nil⟩
  · cases h with
    | cons p r =>
      cases r with
      | cons q r =>
        cases r with
        | nil => exact ⟨_, b, [a], rfl, rfl, q, .cons p .nil⟩
  · cases h with
    | cons p r =>
      cases r with
      | cons q r =>
        cases r with
        | cons q2 r =>
          cases r with
          | nil => exact ⟨_, c, [a, b], rfl, rfl, q2, .cons p (.cons q .nil)⟩
theorem first_at {K : PySem.W.Frag} {H : Hp} {xs : List V} {ds : List PyData} (h : DpAll K H xs ds) (h1 : 1 ≤ ds.length) : ∃ v l, l ∈ ds ∧ cutV xs none (some 1) = [v] ∧ Dp K H v l := by
  cases h with
  | nil => simp at h1
  | cons p r => exact ⟨_, _, List.mem_cons_self, cut_to _ 1, p⟩
def othW (w : Str) : Str := if w = "back" then "through" else "back"
theorem oth_at (w : Str) : atI [V.str (Str.ofString "back"), V.str (Str.ofString "through")] (if decide (V.str w = V.str (Str.ofString "back")) = true then 1 else 0) = some (.str (othW w)) := by
  unfold othW
  by_cases h : w = "back"
  · subst h
    rw [if_pos (by simp), if_pos rfl]
    rfl
  · rw [if_neg (by simpa using h), if_neg h]
    rfl
theorem oth_mem {w : Str} : othW w ∈ WRT := by
  unfold othW
  split
  · exact List.mem_cons_of_mem _ List.mem_cons_self
  · exact List.mem_cons_self
theorem oth_ne {w : Str} (h : w ∈ WRT) : w ≠ othW w := by
  unfold othW
  split
  · rename_i e
    rw [e]
    decide
  · assumption
theorem lst4_shaped {ds : List PyData} {a b c : Int} (h1 : 1 ≤ ds.length) (h3 : ds.length ≤ 3) (h : ∀ d ∈ ds, MkL d) : SeqAt.shaped (.list [.int a, .tuple ds, .int b, .int c]) = true := by
  obtain ⟨_, hc, hd⟩ := lst_sh h1 h3 h
  have e : PyData.depth (.list [.int a, .tuple ds, .int b, .int c]) = (PyData.tuple ds).depth + 1 := by
    simp [PyData.depth, PyData.depthAll]
  unfold SeqAt.shaped
  rw [e, decide_eq_true (show (PyData.tuple ds).depth + 1 ≤ 64 by omega)]
  simp only [PyData.canLay0, PyData.canLayAll0] at hc ⊢
  rw [hc]
  rfl
theorem lst4_eq {ds : List PyData} {a b c c' : Int} (h1 : 1 ≤ ds.length) (h3 : ds.length ≤ 3) (h : ∀ d ∈ ds, MkL d) (e : c = c') : PyData.eqv (.list [.int a, .tuple ds, .int b, .int c]) (.list [.int a, .tuple ds, .int b, .int c']) = true := by
  subst e
  have := PySem.SeqAt.eqv_refl _ (lst_sh h1 h3 h).2.1
  simp [PyData.eqv, PyData.eqvAll] at this ⊢
  exact this
theorem mk_go {K : PySem.W.Frag} {C CI CT x dx : Addr} {ln : Int} {lv : V} {ds : List PyData} {H : Hp} {R : Hp → Prop} {E : XK} (nx : H x = none) (nd : H dx = none) (ne : dx ≠ x) (hv : Dp K H lv (.tuple ds)) (g1 : cntD (.int ln) 8 = true) (g2 : badL (.tuple ds) = none) (g3 : (togN ds : Int) * ln ≤ 64)
    (q : ∀ H', Same H H' → ChAt K C H' x ln ds → R H') : spCInit K C CI CT [.ref x, .int ln, lv] (upd (upd H dx (.own x)) x (.ins C dx [])) (fun v H2 => v = .non ∧ R H2) E :=
  cinit_ok upd_same ((Same.new nd).upN (by rw [upd_ne ne.symm]; exact nx)) nx hv g1 g2 g3 fun H' s c => ⟨rfl, q H' s c⟩
theorem own_go {K : PySem.W.Frag} {mg : Str → Option Value} {C x y : Addr} {ln ln' : Int} {ds ds' : List PyData} {H : Hp} {Q : VK} {E : XK} {neg c : Bool} (Z : ChC K mg C) (hx : ChAt K C H x ln ds) (hs : SeqAt.shaped (.tuple ds) = true) (hy : ChAt K C H y ln' ds') (hs' : SeqAt.shaped (.tuple ds') = true)
    (e : (decide (ln = ln') && PyData.eqv (.tuple ds) (.tuple ds')) = c) (q : Q (.bl (if neg = true then !c else c)) H) : rOwnE K C (spCEq K C) E neg (.ref x) (.ref y) H Q := by
  obtain ⟨dx, lv, h1, h2⟩ := id hx
  obtain ⟨dy, lw, k1, k2⟩ := id hy
  refine ⟨x, dx, _, .ref C, rfl, h1, Z.kit.ty k1, ?_, x, .ref y, ln, ds, rfl, hx, hs, .inl ⟨y, ln', ds', rfl, hy, hs', _, rfl, ?_⟩⟩
  · unfold PySem.W.notFirst
    simp
  · rw [e]
    exact q
theorem not_first {K : PySem.W.Frag} {C : Addr} {t : Value} (su : PySem.W.subIn K t (.ref C) = some false) : PySem.W.notFirst K C t = true := by
  unfold PySem.W.notFirst
  rw [su]
  simp
theorem own_no {K : PySem.W.Frag} {C x : Addr} {y : V} {t : Value} {ln : Int} {ds : List PyData} {H : Hp} {Q : VK} {E : XK} (hx : ChAt K C H x ln ds) (hs : SeqAt.shaped (.tuple ds) = true) (ty : TyX K H y t) (n : (t == .ref C) = false) (su : PySem.W.subIn K t (.ref C) = some false) (q : Q (.bl false) H) :
    rOwnE K C (spCEq K C) E false (.ref x) y H Q := by
  obtain ⟨dx, lv, h1, h2⟩ := id hx
  refine ⟨x, dx, _, t, rfl, h1, ty, ?_, x, y, ln, ds, rfl, hx, hs, .inr ⟨t, ty, n, su, _, rfl, q⟩⟩
  unfold PySem.W.notFirst
  rw [su]
  simp
theorem show_int (i : Int) (h0 : 0 ≤ i) (h9 : i ≤ 9) : ShowOk (.int i) := by
  have h : i = 0 ∨ i = 1 ∨ i = 2 ∨ i = 3 ∨ i = 4 ∨ i = 5 ∨ i = 6 ∨ i = 7 ∨ i = 8 ∨ i = 9 := by omega
  rcases h with rfl | rfl | rfl | rfl | rfl | rfl | rfl | rfl | rfl | rfl <;> exact ⟨by decide +kernel, by decide +kernel, by decide +kernel, by decide +kernel⟩
theorem lvl_wide {s : Int} (h5 : 5 ≤ s) (h8 : s ≤ 8) : ∀ d ∈ ([.tuple [.int s, .int 1, .str "used", .str "back"], .tuple [.int 4, .int 4, .str "brought", .str "through"]] : List PyData), lvlD d = true := fun d hd => by
  have h : s = 5 ∨ s = 6 ∨ s = 7 ∨ s = 8 := by omega
  simp only [List.mem_cons, List.not_mem_nil, or_false] at hd
  rcases hd with rfl | rfl
  · rcases h with rfl | rfl | rfl | rfl <;> decide +kernel
  · decide +kernel
theorem bad_none {ds : List PyData} (h1 : 1 ≤ ds.length) (h3 : ds.length ≤ 3) (h : ∀ x ∈ ds, lvlD x = true) : badL (.tuple ds) = none := by
  show (if 1 ≤ ds.length ∧ ds.length ≤ 3 then ds.find? (fun d => !lvlD d) else some (.tuple ds)) = none
  rw [if_pos ⟨h1, h3⟩]
  exact find_none h
section
variable {P : Program} {w : World} {K : PySem.W.Frag} {mg : Str → Option Value} {base : Heap} {C CI CT : Addr}
end

end K14

namespace K14
open PySem L2 SZ VR VX StX RT DE
local macro_rules | `(tactic| walk_at "v") => `(tactic| first | exact Or.inl rfl | exact Or.inr (Or.inl rfl) | exact Or.inr (Or.inr rfl))
local macro_rules | `(tactic| walk_at "o") => `(tactic| first
  | (refine fun _ h => ov_eqInt h) | (refine fun _ h => ov_eqStr h) | (refine fun _ h => ov_add h) | (refine fun _ h => ov_sub h) | (refine fun _ h => ov_mod (by decide) h) | (refine fun _ h => ov_lt h) | (refine fun _ h => ov_le h) | (refine fun _ h => ov_gt h) | (refine fun _ h => ov_ge h)
  | (refine fun _ h => ov_neInt h) | (refine fun _ h => ov_neStr h) | (refine fun _ h => ov_isN h) | (refine fun _ h => ov_notN h)
  | exact or_inS (.inl rfl) rfl | exact or_inS (.inr rfl) rfl | exact or_inI (.inl rfl) rfl | exact or_inI (.inr rfl) rfl | exact or_notInS (.inl rfl) rfl | exact or_notInS (.inr rfl) rfl | exact or_notInC | exact or_inC
  | (refine fun _ h => ov_mul (by first | exact .inl ⟨by omega, by omega⟩ | exact .inr ⟨by omega, by omega⟩) h))
local macro_rules | `(tactic| walk_at "c") => `(tactic| first
  | (refine fun _ h => cv_int h) | (refine fun _ h => cv_intB h) | (refine fun _ h => cv_lenT h) | (refine fun _ h => cv_lenL h) | (refine fun _ h => cv_lenO h))
section
variable {P : Program} {w : World} {K : PySem.W.Frag} {mg : Str → Option Value} {base : Heap}
abbrev PreC : List PyData → List Sl → Prop := fun ys as => PoolD ys ∧ as = []
abbrev ResC : List PyData → List Sl → Sl → List PyData → Prop := fun _ _ r ys' => PoolD ys' ∧ ∃ (ln : Int) (ds : List PyData), r = .d (.tuple [.int ln, .tuple ds]) ∧ (ln = 1 ∨ ln = 2 ∨ ln = 4) ∧ 1 ≤ ds.length ∧ ds.length ≤ 3 ∧ ∀ d ∈ ds, MkL d
theorem cache_B {f : Addr} {fd : FuncData} (F : Fun K "_law_cache" "_law_cache" S_law_cache f fd) (CT : CalB P w K mg base CX0 "_law_take" 1 PreT ResT) (z_range : mg "range" = none) (z_tuple : mg "tuple" = none) : FnOk P w K mg base CX0 2 f fd ["_law_pool_here"] (spB K PreC ResC) := by
  refine fn_B F sc_law_cache (fun ys as h => ?_) fun cdv A outer s H E hr b ys as hp => ?_
  · obtain ⟨_, rfl⟩ := h; rfl
  obtain ⟨hy, rfl⟩ := hp
  show XB _ _ [.bor ys, .un, .un, .un, .un, .un] _ _
  refine xb_cons (x_set 1 (r_lst a_nil rfl) rfl (by walk_at "v") sc_law_cache.nd rfl (fun _ => ?_))
  refine xb_cons (xs_for (ts := [2]) PassesOwn.never rfl (by intro _; rfl) (ei_range rfl z_range (ev_bin (r_int _ (ev_take 0 CT hr rfl (by walk_at "v") pass0 rfl (.inr rfl) hy r_int (by decide) (by decide) fun r ys1 r0 r1 hy1 => ov_add ⟨_, rfl, by omega, by omega, fun _ => ?_⟩)))))
  refine ⟨fun i ρ' => ∃ ys ds s2 s3 s4 s5, ρ' = [.bor ys, .own ds, s2, s3, s4, s5] ∧ PoolD ys ∧ ds.length = i ∧ ∀ d ∈ ds, MkL d, ⟨ys1, [], _, _, _, _, rfl, hy1, rfl, by simp⟩, ?_, ?_⟩
  · rintro i y ρ' hi hl ⟨ys, ds, s2, s3, s4, s5, rfl, hy, hn, hd⟩
    have hi : i < (1 + r).toNat := by
      have := (List.getElem?_eq_some_iff.mp hi).1
      rwa [rngD_len] at this
    refine (g_name 2 rfl (by walk_at "v") sc_law_cache.nd rfl) _ fun _ => ?_
    refine xb_cons (xs_par 3 4 rfl sc_law_cache.nd rfl rfl (by decide) (by simp) (by simp) rfl rfl (ea_cons (h := ev_menu (r_lst (a_cons r_int (a_cons r_int (a_cons r_int (a_cons r_int (a_cons r_int a_nil))))) rfl) (.inl rfl) (ev_take 0 CT hr rfl (by walk_at "v") pass0 rfl (.inr rfl) hy (wd := 5) r_int (by decide) (by decide) fun j1 ys1 j10 j11 hy1 => ⟨_, rfl, j10, j11, fun y1 hm1 => ?_⟩))) rfl)
    refine ea_cons (h := ev_menu (r_lst (a_cons r_int (a_cons r_int (a_cons r_int (a_cons r_int (a_cons r_int a_nil))))) rfl) (.inl rfl) (ev_take 0 CT hr rfl (by walk_at "v") pass0 rfl (.inr rfl) hy1 (wd := 5) r_int (by decide) (by decide) fun j2 ys2 j20 j21 hy2 => ⟨_, rfl, j20, j21, fun y2 hm2 => ?_⟩))
    refine ea_nil (fun _ => ⟨_, _, rfl, ?_⟩)
    have m1 : ∃ a : Int, y1 = .int a ∧ 1 ≤ a ∧ a ≤ 4 := by
      have := List.mem_of_getElem? hm1
      simp only [List.mem_cons, List.not_mem_nil, or_false] at this
      rcases this with rfl | rfl | rfl | rfl | rfl <;> exact ⟨_, rfl, by decide, by decide⟩
    have m2 : ∃ a : Int, y2 = .int a ∧ 1 ≤ a ∧ a ≤ 4 := by
      have := List.mem_of_getElem? hm2
      simp only [List.mem_cons, List.not_mem_nil, or_false] at this
      rcases this with rfl | rfl | rfl | rfl | rfl <;> exact ⟨_, rfl, by decide, by decide⟩
    obtain ⟨a, rfl, a1, a4⟩ := m1
    obtain ⟨c, rfl, c1, c4⟩ := m2
    intro _
    show XB _ _ [.bor ys2, .own ds, .d y, .d (.int a), .d (.int c), s5] _ _
    refine xb_cons (xs_set 5 sc_law_cache.nd rfl (by walk_at "v") (by simp) rfl (.inl rfl) (ev_menu (r_lst (a_cons r_str (a_cons r_str (a_cons r_str (a_cons r_str a_nil)))) rfl) (.inl rfl) (ev_take 0 CT hr rfl (by walk_at "v") pass0 rfl (.inr rfl) hy2 r_int (by decide) (by decide) fun j3 ys3 j30 j31 hy3 => ⟨_, rfl, j30, j31, fun y3 hm3 => fun _ _ => ?_⟩)))
    have m3 : ∃ r : Str, y3 = .str r ∧ r ∈ RUL := by
      have := List.mem_of_getElem? hm3
      simp only [List.mem_cons, List.not_mem_nil, or_false] at this
      rcases this with rfl | rfl | rfl | rfl
      · exact ⟨"used", rfl, by decide⟩
      · exact ⟨"brought", rfl, by decide⟩
      · exact ⟨"second", rfl, by decide⟩
      · exact ⟨"tree", rfl, by decide⟩
    obtain ⟨ru, rfl, hru⟩ := m3
    show XB _ _ [.bor ys3, .own ds, .d y, .d (.int a), .d (.int c), .d (.str ru)] _ _
    refine xb_cons (x_set 4 (r_ifI (t_w (w_and (t_cmp (r_var 5 rfl (by walk_at "v") rfl) r_str (by walk_at "o")) fun _ => (w_and1 (t_cmp (r_var 4 rfl (by walk_at "v") rfl) r_int (by walk_at "o"))))) (fun _ => r_int) (fun _ => (r_var 4 rfl (by walk_at "v") rfl))) rfl (by walk_at "v") sc_law_cache.nd rfl (fun _ => ?_))
    refine xb_one (xs_append 1 rfl (by walk_at "v") (ev_tupD (ea_cons (h := (r_var 3 rfl (by walk_at "v") rfl) _ (ea_cons (h := (r_var 4 rfl (by walk_at "v") rfl) _ (ea_cons (h := (r_var 5 rfl (by walk_at "v") rfl) _ (ea_cons (h := ev_menu (r_lst (a_cons r_str (a_cons r_str (a_cons r_str a_nil))) rfl) (.inl rfl) (ev_take 0 CT hr rfl (by walk_at "v") pass0 rfl (.inr rfl) hy3 r_int (by decide) (by decide) fun j4 ys4 j40 j41 hy4 => ⟨_, rfl, j40, j41, fun y4 hm4 => ea_nil ⟨_, rfl, by simp, fun _ => ?_⟩⟩)))))))))) ⟨_, _, rfl, .inl rfl⟩)
    have m4 : ∃ r : Str, y4 = .str r ∧ r ∈ WRT := by
      have := List.mem_of_getElem? hm4
      simp only [List.mem_cons, List.not_mem_nil, or_false] at this
      rcases this with rfl | rfl | rfl
      · exact ⟨"back", rfl, by decide⟩
      · exact ⟨"back", rfl, by decide⟩
      · exact ⟨"through", rfl, by decide⟩
    obtain ⟨wr, rfl, hwr⟩ := m4
    refine ⟨_, ds, _, rfl, rfl, .inl rfl, by rw [sizeLine_eq]; omega, ys4, _, _, _, _, _, rfl, hy4, by simp [hn], fun d hd' => ?_⟩
    rcases List.mem_append.mp hd' with h | h
    · exact hd d h
    · rw [List.mem_singleton.mp h]
      refine ⟨a, _, ru, wr, rfl, a1, a4, ?_, ?_, hru, hwr, ?_⟩
      · split
        · decide
        · exact c1
      · split
        · decide
        · exact c4
      · rintro ⟨e1, rfl⟩
        by_cases h3 : c = 3
        · subst h3
          simp at e1
        · simp [h3] at e1
  · rintro ρ' ⟨ys, ds, s2, s3, s4, s5, rfl, hy, hn, hd⟩ hl
    rw [rngD_len] at hn
    refine xb_one (xs_ret (ev_tupD (ea_cons (h := ev_menu (r_lst (a_cons r_int (a_cons r_int (a_cons r_int (a_cons r_int a_nil)))) rfl) (.inl rfl) (ev_take 0 CT hr rfl (by walk_at "v") pass0 rfl (.inr rfl) hy r_int (by decide) (by decide) fun j1 ys1 j10 j11 hy1 => ⟨_, rfl, j10, j11, fun y1 hm1 => ea_cons (h := ev_callTy (T := "tuple") rfl z_tuple (by decide +kernel) (ea_cons (h := ev_mov 1 rfl (by walk_at "v") rfl (ea_nil (cv_tupO (ea_nil ⟨_, rfl, by simp, fun _ => ?_⟩))))))⟩)))))
    have m1 : ∃ a : Int, y1 = .int a ∧ (a = 1 ∨ a = 2 ∨ a = 4) := by
      have := List.mem_of_getElem? hm1
      simp only [List.mem_cons, List.not_mem_nil, or_false] at this
      rcases this with rfl | rfl | rfl | rfl <;> exact ⟨_, rfl, by decide⟩
    obtain ⟨a, rfl, ha⟩ := m1
    exact ⟨ys1, rfl, ⟨hy1, a, ds, rfl, ha, by omega, by omega, hd⟩, by simp⟩
end

end K14

namespace K14
open PySem L2 SZ VR VX StX RT DE
local macro_rules | `(tactic| walk_at "v") => `(tactic| first | exact Or.inl rfl | exact Or.inr (Or.inl rfl) | exact Or.inr (Or.inr rfl))
local macro_rules | `(tactic| walk_at "o") => `(tactic| first
  | (refine fun _ h => ov_eqInt h) | (refine fun _ h => ov_eqStr h) | (refine fun _ h => ov_add h) | (refine fun _ h => ov_sub h) | (refine fun _ h => ov_mod (by decide) h) | (refine fun _ h => ov_lt h) | (refine fun _ h => ov_le h) | (refine fun _ h => ov_gt h) | (refine fun _ h => ov_ge h)
  | (refine fun _ h => ov_neInt h) | (refine fun _ h => ov_neStr h) | (refine fun _ h => ov_isN h) | (refine fun _ h => ov_notN h)
  | exact or_inS (.inl rfl) rfl | exact or_inS (.inr rfl) rfl | exact or_inI (.inl rfl) rfl | exact or_inI (.inr rfl) rfl | exact or_notInS (.inl rfl) rfl | exact or_notInS (.inr rfl) rfl | exact or_notInC | exact or_inC
  | (refine fun _ h => ov_mul (by first | exact .inl ⟨by omega, by omega⟩ | exact .inr ⟨by omega, by omega⟩) h))
local macro_rules | `(tactic| walk_at "c") => `(tactic| first
  | (refine fun _ h => cv_int h) | (refine fun _ h => cv_intB h) | (refine fun _ h => cv_lenT h) | (refine fun _ h => cv_lenL h) | (refine fun _ h => cv_lenO h))
/-! ### what is heard, as data -/
def heardY : PyData → List PyData
  | .str z => heardC z
  | y => [.str "text", .str y.shown]
def HrOk : PyData → Prop
  | .str z => z.length ≤ 50000 ∧ ∀ ln ds k, cacheM (tokz z) = .ok (ln, ds) k → (cntD (.int ln) 8 = false → ShowOk (.int ln)) ∧ ∀ b, badL (.tuple ds) = some b → ShowOk b
  | y => isS y = false ∧ ShowOk y
abbrev PreH : List Sl → Prop := fun as => ∃ y, as = [.d y] ∧ HrOk y
abbrev ResH : List Sl → Sl → Prop := fun as r => ∃ y, as = [.d y] ∧ r = .d (.list (heardY y))
section
variable {P : Program} {w : World} {K : PySem.W.Frag} {mg : Str → Option Value} {base : Heap} {C CV CS CT CI : Addr}
theorem heard_P {f : Addr} {fd : FuncData} {k : Nat} {ps : List Str} (F : RunG P w K mg base CX0 k f fd ps (spHeard K)) : RunG P w K mg base CX0 k f fd ps (spP K PreH ResH) := F.frm.imp fun vs H Q E z => by
  obtain ⟨G, as, l, hG, ⟨y, rfl, ho⟩, h⟩ := z
  obtain ⟨u, rfl⟩ : ∃ u, vs = [u] := List.length_eq_one_iff.mp (by simpa using l)
  obtain ⟨v, e, hv⟩ := hG.ok (some u, .d y) (by simp)
  cases e
  have go : ∀ v' G', Same G G' → Dp K G' v' (.list (heardY y)) → ∀ H', Same G' H' → (∀ b o, H b = some o → G b = none → H' b = some o) → (∀ b o, G' b = some o → (G b).isSome = true ∨ H b = none) → Q v' H' := fun v' G' s d H' h1 h2 h3 =>
    h _ ⟨y, rfl, rfl⟩ (by simp) v' H' (hG.oldD s d h1 h2 h3)
  refine ⟨G, hG.up, hG.fl, u, rfl, ?_⟩
  by_cases hs : isS y = true
  · cases y with
    | str z =>
      cases hv
      exact .inr ⟨z, rfl, ho.1, ho.2, fun v' G' s d => go v' G' s d⟩
    | _ => cases hs
  · refine .inl ⟨y, .type (tyD y), hv, dp_ty hv, ?_, ?_, fun v' G' s d => go v' G' s ?_⟩
    · rw [kitS]
      simpa using hs
    · cases y with
      | str z => exact absurd rfl hs
      | _ => exact ho.2
    · cases y with
      | str z => exact absurd rfl hs
      | _ => exact d
end

end K14

namespace K14
open PySem L2 SZ VR VX StX RT DE
local macro_rules | `(tactic| walk_at "v") => `(tactic| first | exact Or.inl rfl | exact Or.inr (Or.inl rfl) | exact Or.inr (Or.inr rfl))
local macro_rules | `(tactic| walk_at "o") => `(tactic| first
  | (refine fun _ h => ov_eqInt h) | (refine fun _ h => ov_eqStr h) | (refine fun _ h => ov_add h) | (refine fun _ h => ov_sub h) | (refine fun _ h => ov_mod (by decide) h) | (refine fun _ h => ov_lt h) | (refine fun _ h => ov_le h) | (refine fun _ h => ov_gt h) | (refine fun _ h => ov_ge h)
  | (refine fun _ h => ov_neInt h) | (refine fun _ h => ov_neStr h) | (refine fun _ h => ov_isN h) | (refine fun _ h => ov_notN h)
  | exact or_inS (.inl rfl) rfl | exact or_inS (.inr rfl) rfl | exact or_inI (.inl rfl) rfl | exact or_inI (.inr rfl) rfl | exact or_notInS (.inl rfl) rfl | exact or_notInS (.inr rfl) rfl | exact or_notInC | exact or_inC
  | (refine fun _ h => ov_mul (by first | exact .inl ⟨by omega, by omega⟩ | exact .inr ⟨by omega, by omega⟩) h))
local macro_rules | `(tactic| walk_at "c") => `(tactic| first
  | (refine fun _ h => cv_int h) | (refine fun _ h => cv_intB h) | (refine fun _ h => cv_lenT h) | (refine fun _ h => cv_lenL h) | (refine fun _ h => cv_lenO h))
/-! ### what the law calls -/
abbrev PreW : List Sl → Prop := fun as => ∃ (ln : Int) (ds : List PyData), as = [.d (.int ln), .d (.tuple ds)] ∧ 0 ≤ ln ∧ ln ≤ 1000 ∧ ds.length ≤ 3 ∧ ∀ d ∈ ds, LvOk d
abbrev ResW : List Sl → Sl → Prop := fun as r => ∃ (ln : Int) (ds : List PyData), as = [.d (.int ln), .d (.tuple ds)] ∧ r = .own ((cacheW ln ds).map .str)
abbrev PreX : List Sl → Prop := fun as => ∃ ws : List Str, as = [.d (.list (ws.map .str))] ∧ WsOk ws
abbrev ResX : List Sl → Sl → Prop := fun as r => ∃ ws : List Str, as = [.d (.list (ws.map .str))] ∧ r = .d (wrongD ws)
structure LwD (P : Program) (w : World) (K : PySem.W.Frag) (mg : Str → Option Value) (base : Heap) (C CV CS CT CI : Addr) : Prop where
  Z : ChC K mg C
  len : mg "len" = none
  rng : mg "range" = none
  rep : mg "repr" = none
  max : mg "max" = none
  min : mg "min" = none
  take : CalB P w K mg base CX0 "_law_take" 1 PreT ResT
  pool : CalP P w K mg base CX0 "_law_pool" 1 PreP ResP
  cache : CalB P w K mg base CX0 "_law_cache" 2 PreC ResC
  words : CalP P w K mg base CX0 "_law_words" 1 PreW ResW
  wrong : CalP P w K mg base CX0 "_law_wrong" 2 PreX ResX
  heard : CalG P w K mg base CX0 "_law_heard" 8 PreH ResH
  make : ∃ f fd, Mk K C f ∧ Binds K fd ["self", "line", "levels"] [] ∧ FnOk P w K mg base (L2.CX P w) 5 f fd ["self", "line", "levels"] (spCInit K C CI CT)
  show_ : ∃ f fd, Meth K C "show" f ∧ Binds K fd ["self"] [] ∧ FnOk P w K mg base CX0 1 f fd ["self"] (spShow K C)
  read : ∃ mc pR fR, ClX.CRead K C mc ∧ ClX.CMet K C mc "read" pR fR ∧ FnR P w K mg base (L2.CX P w) 7 fR (spRead K C CV CS CT CI)
  eq : ∃ f fd, PySem.W.findIn K (.ref C) "__eq__" = some (some (.ref f)) ∧ PySem.W.isFn K (.ref f) = true ∧ Binds K fd ["self", "other"] [] ∧ FnOk P w K mg base CX0 1 f fd ["self", "other"] (spCEq K C)
  ne : PySem.W.findIn K (.ref C) "__ne__" = some (some (.builtin "object.__ne__"))
/-- a cache that stays -/
def ChF (K : PySem.W.Frag) (C : Addr) (ln : Int) (ds : List PyData) : Sl := .fact (fun v G => ∃ a, v = .ref a ∧ ChAt K C G a ln ds) (fun _ _ _ s ⟨a, e, h⟩ => ⟨a, e, h.same s⟩)
section
variable {X : Cx} {b : Bs} {ρ : List Sl} {e1 e2 : Expr} {C CV CS CT CI : Addr} {ln : Int} {ds : List PyData}
theorem r_cache {p1 cp : Pos} (D : LwD X.prog X.w X.K X.mg X.base C CV CS CT CI) (hr : Room 6 X.A) (h : EAr X b ρ [e1, e2] [.d (.int ln), .d (.tuple ds)]) (g1 : cntD (.int ln) 8 = true) (g2 : badL (.tuple ds) = none) (g3 : (togN ds : Int) * ln ≤ 64)
    (hg : Gl X "Cache" := by rfl) (he : starEach [e1, e2] X.env = (false, eval e1 X.env) :: starEach [e2] X.env := by rfl) (hpl : (backTo cp (starEach [e2] X.env)).any (·.1) = false := by rfl) : EVr X b ρ (.Call (.Name "Cache" p1) [e1, e2] [] cp) (ChF X.K C ln ds) := fun p k σ H L Q l hh q => by
  obtain ⟨f, fd, MM, bM, GM⟩ := D.make
  refine ⟨_, pe_make MM GM hr hg D.Z.mgC bM .nil passF (wa_pa _) (by decide) he hpl, h (fun rs ρ' => rs = [.d (.int ln), .d (.tuple ds)] ∧ ρ' = ρ) ⟨rfl, rfl⟩ σ H L _ l hh fun rs ρ' vs H1 ⟨e1, e2⟩ l' lv hh' => ?_⟩
  subst e1 e2
  obtain ⟨u1, u2, rfl⟩ : ∃ u1 u2, vs = [u1, u2] := by
    match vs, lv with
    | [u1, u2], _ => exact ⟨u1, u2, rfl⟩
  obtain ⟨G, hG⟩ := hh'
  obtain ⟨v1, e1, d1⟩ := hG.ok (some u1, .d (.int ln)) (by simp)
  obtain ⟨v2, e2, d2⟩ := hG.ok (some u2, .d (.tuple ds)) (by simp)
  cases e1; cases e2; cases d1
  have hG2 : HoldG X.K b G H1 (σ.zip ρ' ++ L) := hG.drop.drop
  refine fun x dx nx nd ne => ?_
  have sx : Same H1 (upd (upd H1 dx (.own x)) x (.ins C dx [])) := (Same.new nd).upN (by rw [upd_ne ne.symm]; exact nx)
  refine ⟨x, dx, .int ln, u2, .int ln, .tuple ds, rfl, upd_same, .int ln, Dp.keep sx (hG.inH d2), fun c => ?_, fun _ b eb => ?_, fun l2 ds2 e1 e2 _ _ => ⟨fun h => ?_, fun _ H' b1 hx => ⟨rfl, ?_⟩⟩⟩
  · rw [g1] at c; cases c
  · rw [g2] at eb; cases eb
  · cases e1
    cases e2
    omega
  · cases e1
    cases e2
    have S : Same H1 H' := fun c o e => b1 c o (sx c o e) (ne_of_none e nx)
    have hdx : H' dx = some (.own x) := b1 dx _ (by rw [upd_ne ne, upd_same]) ne
    have hO := hG2.obj S nx nd ne hx hdx
    have gx : G x = none := hG.up.free nx
    have gd : G dx = none := hG.up.free nd
    have sG : ∀ fs, Same G (upd (upd G dx (.own x)) x (.ins C dx fs)) := fun fs => (Same.new gd).trans (Same.new (by rw [upd_ne ne.symm]; exact gx))
    exact q _ ρ' (.ref x) H' k l' ⟨_, hO.addF (st := fun _ _ _ s ⟨a, e, h⟩ => ⟨a, e, h.same s⟩) ⟨x, rfl, dx, u2, upd_same, Dp.keep (sG _) d2⟩⟩
theorem cell_at {i : Nat} {σ : L2.St} {H : Hp} {L : List Cl} (l : σ.length = ρ.length) (hh : Hold X.K b H (σ.zip ρ ++ L)) (hr : ρ[i]? = some (ChF X.K C ln ds)) : ∃ a, σ[i]? = some (some (.ref a)) ∧ ChAt X.K C H a ln ds := by
  obtain ⟨x', hx, hm⟩ := zip_mem l hr
  obtain ⟨G, hG⟩ := hh
  obtain ⟨v, e, a, e2, hc⟩ := hG.ok _ (List.mem_append_left _ hm)
  subst e2
  subst e
  exact ⟨a, hx, hc.same hG.up⟩
theorem r_show (i : Nat) {e : Expr} {E : XK} (hpe : PE X e (tMeth C "show" (spShow X.K C) [] E (tVar i) tNil)) (hs : ρ[i]? = some (ChF X.K C ln ds)) (l1 : 1 ≤ ln) (l8 : ln ≤ 8) (d3 : ds.length ≤ 3) (hl : ∀ d ∈ ds, lvlD d = true) : EVr X b ρ e (.d (.str (Txt.join (Str.ofString " ") (cacheW ln ds)))) :=
  r_oldS hpe fun σ H L Q l hh q => by
    obtain ⟨a, ha, hc⟩ := cell_at l hh hs
    obtain ⟨dx, lv, h1, h2⟩ := id hc
    exact ⟨.ref a, ha, a, dx, _, rfl, h1, rfl, a, ln, ds, rfl, hc, l1, l8, d3, hl, fun H' s => q H' s⟩
end

end K14

namespace K14
open PySem L2 SZ VR VX StX RT DE
/-! ### words joined -/
def psR (ws : List Str) : List (List Nat × Str) := ws.map fun w => ([32], w)
def psJ : List Str → List (List Nat × Str)
  | [] => []
  | w :: r => ([], w) :: psR r
theorem wsOf_psR (ws : List Str) : wsOf (psR ws) = ws := by
  unfold wsOf psR
  rw [List.map_map]
  exact List.map_id ws
theorem wsOf_psJ (ws : List Str) : wsOf (psJ ws) = ws := by
  cases ws with
  | nil => rfl
  | cons w r =>
    show w :: wsOf (psR r) = w :: r
    rw [wsOf_psR]
theorem wsOf_len (ps : List (List Nat × Str)) : (wsOf ps).length = ps.length := by unfold wsOf; rw [List.length_map]
theorem psJ_len (ws : List Str) : (psJ ws).length = ws.length := by rw [← wsOf_len, wsOf_psJ]
theorem wsOf_at {ps : List (List Nat × Str)} {j : Nat} {q : List Nat × Str} (h : ps[j]? = some q) : (wsOf ps)[j]? = some q.2 := by
  unfold wsOf
  rw [List.getElem?_map, h]
  rfl
theorem joinR : ∀ (w : List Nat) (r : List Str), TL.joinL [32] (w :: r.map fun z => z.cps.toList) = w ++ ((psR r).map fun q => q.1 ++ q.2.cps.toList).flatten
  | w, [] => by simp [TL.joinL, psR]
  | w, z :: r => by
    show w ++ ([32] ++ TL.joinL [32] (z.cps.toList :: r.map fun z => z.cps.toList)) = _
    rw [joinR z.cps.toList r]
    simp [psR]
theorem join_txt (ws : List Str) : (Txt.join (Str.ofString " ") ws).cps.toList = txtOf (psJ ws) [] := by
  have e : ws = (ws.map fun z => z.cps.toList).map SX.S := by
    rw [List.map_map]
    conv => lhs; rw [← List.map_id ws]
    rfl
  have h := SX.join_S [32] (ws.map fun z => z.cps.toList)
  rw [← e] at h
  rw [show (Str.ofString " ") = SX.S [32] from rfl, h]
  show (TL.joinL [32] (ws.map fun z => z.cps.toList)) = _
  unfold txtOf
  rw [List.append_nil]
  cases ws with
  | nil => rfl
  | cons w r =>
    rw [List.map_cons, joinR]
    rfl
theorem len_of {z : Str} {l : List Nat} (h : z.cps.toList = l) : z.length = l.length := by
  rw [← h]
  simp [Str.length]
theorem psR_ok : ∀ {ws : List Str}, (∀ w ∈ ws, wdOk w = true) → psOk (psR ws) []
  | [], _ => rfl
  | w :: r, h => ⟨rfl, h w List.mem_cons_self, fun q hq => by
      obtain ⟨x, _, rfl⟩ := List.mem_map.mp hq
      simp, psR_ok fun x hx => h x (List.mem_cons_of_mem _ hx)⟩
theorem psJ_ok : ∀ {ws : List Str}, (∀ w ∈ ws, wdOk w = true) → psOk (psJ ws) []
  | [], _ => rfl
  | w :: r, h => ⟨rfl, h w List.mem_cons_self, fun q hq => by
      obtain ⟨x, _, rfl⟩ := List.mem_map.mp hq
      simp, psR_ok fun x hx => h x (List.mem_cons_of_mem _ hx)⟩
abbrev DOT : Str := "."
theorem posR : ∀ (r : List Str) (i : Nat), i < r.length → (((psR (r.take i ++ [DOT])).map fun q => q.1 ++ q.2.cps.toList).flatten).length = posW (psR r) i + 1
  | [], i, h => absurd h (Nat.not_lt_zero _)
  | w :: r, 0, _ => rfl
  | w :: r, i + 1, h => by
    have ih := posR r i (by simpa using h)
    have e : posW (psR (w :: r)) (i + 1) = 1 + w.length + posW (psR r) i := rfl
    have l : w.cps.toList.length = w.length := (len_of rfl).symm
    rw [e, List.take_succ_cons, List.cons_append]
    show ((([32] ++ w.cps.toList) :: ((psR (r.take i ++ [DOT])).map fun q => q.1 ++ q.2.cps.toList)).flatten).length = _
    rw [List.flatten_cons, List.length_append, ih, List.length_append, l]
    simp only [List.length_cons, List.length_nil]
    omega
theorem posJ {ws : List Str} {i : Nat} (h : i < ws.length) : (txtOf (psJ (ws.take i ++ [DOT])) []).length = posW (psJ ws) i + 1 := by
  unfold txtOf
  rw [List.append_nil]
  match ws, i, h with
  | w :: r, 0, _ => rfl
  | w :: r, i + 1, h =>
    have ih := posR r i (by simpa using h)
    have e : posW (psJ (w :: r)) (i + 1) = 0 + w.length + posW (psR r) i := rfl
    have l : w.cps.toList.length = w.length := (len_of rfl).symm
    rw [e, List.take_succ_cons, List.cons_append]
    show ((([] ++ w.cps.toList) :: ((psR (r.take i ++ [DOT])).map fun q => q.1 ++ q.2.cps.toList)).flatten).length = _
    rw [List.flatten_cons, List.length_append, ih, List.nil_append, l]
    omega
theorem txt_len : ∀ {ps : List (List Nat × Str)} {g : List Nat}, (∀ q ∈ ps, q.1.length ≤ 3 ∧ q.2.length ≤ 10) → g.length ≤ 3 → (txtOf ps g).length ≤ 13 * ps.length + 3
  | [], g, _, hg => by simpa [txtOf] using hg
  | q :: r, g, h, hg => by
    have ih := txt_len (ps := r) (fun x hx => h x (List.mem_cons_of_mem _ hx)) hg
    have hq := h q List.mem_cons_self
    have l : q.2.cps.toList.length = q.2.length := (len_of rfl).symm
    unfold txtOf at *
    rw [List.map_cons, List.flatten_cons, List.append_assoc, List.length_append, List.length_append, l, List.length_cons]
    omega
theorem txt_ok : ∀ {ps : List (List Nat × Str)} {g : List Nat}, psOk ps g → ∀ c ∈ txtOf ps g, c < 0x110000
  | [], g, h, c, hc => by
    have hc : c ∈ g := by simpa [txtOf] using hc
    have hg : gapC g = true := h
    unfold gapC at hg
    have := List.all_eq_true.mp hg c hc
    have : c = 32 ∨ c = 10 := by simpa using this
    omega
  | (hh, w) :: r, g, ⟨h1, h2, _, h4⟩, c, hc => by
    have hc : (c ∈ hh ∨ c ∈ w.cps.toList) ∨ c ∈ txtOf r g := by
      unfold txtOf at *
      rw [List.map_cons, List.flatten_cons, List.append_assoc] at hc
      rcases List.mem_append.mp hc with h | h
      · exact .inl (List.mem_append.mp h)
      · exact .inr h
    rcases hc with (hc | hc) | hc
    · unfold gapC at h1
      have := List.all_eq_true.mp h1 c hc
      have : c = 32 ∨ c = 10 := by simpa using this
      omega
    · obtain ⟨_, _, _, _, _, _, _, h, _⟩ := wd_parts h2
      have h1 : w.cps.all (· < 0x110000) = true := h
      rw [← Array.all_toList] at h1
      simpa using List.all_eq_true.mp h1 c hc
    · exact txt_ok h4 c hc
theorem str_ok {z : Str} {ps : List (List Nat × Str)} {g : List Nat} (ok : psOk ps g) (ez : z.cps.toList = txtOf ps g) : PyData.strOk z = true := by
  show z.cps.all (· < 0x110000) = true
  rw [← Array.all_toList, List.all_eq_true]
  intro c hc
  rw [ez] at hc
  simpa using txt_ok ok c hc
/-! ### what is read of the words of a cache -/
abbrev NUMS : List Int := [0, 1, 2, 3, 4, 7, 9]
def Lv9 (d : PyData) : Prop := ∃ (s y : Int) (r w : Str), d = .tuple [.int s, .int y, .str r, .str w] ∧ s ∈ NUMS ∧ y ∈ NUMS ∧ r ∈ RUL ∧ w ∈ WRT
def numW (s : Int) : Str := Str.ofString (toString s)
theorem num_all : ∀ s ∈ NUMS, (wdOk (numW s) && (rc 2 (numW s) && decide (numVal (numW s).cps.toList = s))) = true := by decide +kernel
theorem num_w {s : Int} (h : s ∈ NUMS) : wdOk (numW s) = true ∧ rc 2 (numW s) = true ∧ numVal (numW s).cps.toList = s := by
  have := num_all s h
  rw [Bool.and_eq_true, Bool.and_eq_true, decide_eq_true_iff] at this
  exact this
theorem wr_all : ∀ w ∈ WRT, (wdOk w && rc 3 w) = true := by decide +kernel
theorem ru_all : ∀ w ∈ RUL, (wdOk w && rc 4 w) = true := by decide +kernel
theorem lv_strs {s y : Int} {r w : Str} : lvStrs (.tuple [.int s, .int y, .str r, .str w]) = ([Str.ofString "level", numW s, numW y, r, w] : List Str) := rfl
theorem lv_right : ∀ (ds : List PyData), (∀ d ∈ ds, Lv9 d) → ∀ (k j : Nat) (w : Str), k % 5 = 2 → (ds.flatMap lvStrs)[j]? = some w → rc (cls (k + j)) w = true ∧ wdOk w = true
  | [], _, k, j, w, _, h => by simp at h
  | d :: ds, hd, k, j, w, hk, h => by
    obtain ⟨s, y, r, wr, rfl, hs, hy, hr, hw⟩ := hd d List.mem_cons_self
    rw [List.flatMap_cons, lv_strs] at h
    match j, h with
    | 0, h => cases h; rw [cls_2 (by omega)]; exact ⟨rfl, by decide +kernel⟩
    | 1, h => cases h; rw [cls_3 (by omega)]; exact ⟨(num_w hs).2.1, (num_w hs).1⟩
    | 2, h => cases h; rw [cls_3 (by omega)]; exact ⟨(num_w hy).2.1, (num_w hy).1⟩
    | 3, h =>
      cases h
      rw [cls_0 (by omega) (by omega)]
      have := ru_all _ hr
      rw [Bool.and_eq_true] at this
      exact ⟨this.2, this.1⟩
    | 4, h =>
      cases h
      rw [cls_1 (by omega) (by omega)]
      have := wr_all _ hw
      rw [Bool.and_eq_true] at this
      exact ⟨this.2, this.1⟩
    | j + 5, h =>
      have := lv_right ds (fun x hx => hd x (List.mem_cons_of_mem _ hx)) (k + 5) j w (by omega) (by simpa using h)
      rwa [show k + 5 + j = k + (j + 5) by omega] at this
theorem lv_read : ∀ (ds : List PyData), (∀ d ∈ ds, Lv9 d) → ∀ (ts : List (List Nat × Nat)) (k : Nat), (∀ j w, (ds.flatMap lvStrs)[j]? = some w → tk ts (k + j) = w.cps.toList) → lvTs ts k ds.length = ds
  | [], _, ts, k, _ => rfl
  | d :: ds, hd, ts, k, h => by
    obtain ⟨s, y, r, wr, rfl, hs, hy, hr, hw⟩ := hd d List.mem_cons_self
    rw [List.flatMap_cons, lv_strs] at h
    rw [List.length_cons, lvTs_succ, lv_read ds (fun x hx => hd x (List.mem_cons_of_mem _ hx)) ts (k + 5) fun j w hj => by
      have := h (j + 5) w (by simpa using hj)
      rwa [show k + (j + 5) = k + 5 + j by omega] at this]
    have t1 : tk ts (k + 1) = (numW s).cps.toList := h 1 _ rfl
    have t2 : tk ts (k + 1 + 1) = (numW y).cps.toList := h 2 _ rfl
    have t3 : tk ts (k + 1 + 2) = r.cps.toList := h 3 _ rfl
    have t4 : tk ts (k + 1 + 3) = wr.cps.toList := h 4 _ rfl
    unfold lvT
    rw [t1, t2, t3, t4, (num_w hs).2.2, (num_w hy).2.2]
theorem lv_len : ∀ (ds : List PyData), (∀ d ∈ ds, Lv9 d) → (ds.flatMap lvStrs).length = 5 * ds.length
  | [], _ => rfl
  | d :: ds, hd => by
    obtain ⟨s, y, r, wr, rfl, _⟩ := hd d List.mem_cons_self
    rw [List.flatMap_cons, lv_strs, List.length_append, lv_len ds fun x hx => hd x (List.mem_cons_of_mem _ hx)]
    simp only [List.length_cons, List.length_nil]
    omega
theorem cw_len {ln : Int} {ds : List PyData} (hd : ∀ d ∈ ds, Lv9 d) : (cacheW ln ds).length = 5 * ds.length + 2 := by
  unfold cacheW
  rw [List.length_append, lv_len ds hd]
  simp only [List.length_cons, List.length_nil]
  omega
theorem cw_right {ln : Int} {ds : List PyData} (hl : ln ∈ NUMS) (hd : ∀ d ∈ ds, Lv9 d) {j : Nat} {w : Str} (h : (cacheW ln ds)[j]? = some w) : rc (cls j) w = true ∧ wdOk w = true := by
  unfold cacheW at h
  match j, h with
  | 0, h => cases h; exact ⟨rfl, by decide +kernel⟩
  | 1, h => cases h; exact ⟨(num_w hl).2.1, (num_w hl).1⟩
  | j + 2, h =>
    have := lv_right ds hd 2 j w rfl (by simpa using h)
    rwa [Nat.add_comm 2 j] at this
theorem cache_words {z : Str} {ps : List (List Nat × Str)} {g : List Nat} {ln : Int} {ds : List PyData} (ok : psOk ps g) (ez : z.cps.toList = txtOf ps g) (hw : wsOf ps = cacheW ln ds) (hl : ln ∈ NUMS) (hd : ∀ d ∈ ds, Lv9 d) : cacheM (tokz z) = .ok (ln, ds) ps.length := by
  have hn : ps.length = 5 * ds.length + 2 := by rw [← wsOf_len, hw, cw_len hd]
  have hs : ∀ j q, j < ps.length → ps[j]? = some q → rc (cls j) q.2 = true := fun j q _ hq => by
    have := wsOf_at hq
    rw [hw] at this
    exact (cw_right hl hd this).1
  have h := cache_good ok ez hs (by omega)
  obtain ⟨_, _, _, _, hr⟩ := read_words ok ez (Nat.le_refl _) hs
  have rd : ∀ j w, (cacheW ln ds)[j]? = some w → tk (tokz z) j = w.cps.toList := fun j w hj => by
    have hjl : j < ps.length := by
      rw [← wsOf_len, hw]
      exact (List.getElem?_eq_some_iff.mp hj).1
    have hq : ps[j]? = some ps[j] := List.getElem?_eq_getElem hjl
    have h1 := wsOf_at hq
    rw [hw, hj] at h1
    cases h1
    exact hr j _ hjl hq
  have e1 : tk (tokz z) 1 = (numW ln).cps.toList := rd 1 _ rfl
  have e2 : lvTs (tokz z) 2 ((ps.length - 2) / 5) = ds := by
    rw [show (ps.length - 2) / 5 = ds.length by omega]
    refine lv_read ds hd _ 2 fun j w hj => ?_
    rw [Nat.add_comm 2 j]
    exact rd (j + 2) w (by unfold cacheW; simpa using hj)
  rw [h, e1, e2, (num_w hl).2.2]

end K14

namespace K14
open PySem L2 SZ VR VX StX RT DE
/-! ### what is heard of them -/
theorem four_gen {a b c d : PyData} {n k : Nat} (ha : ShS n a = true) (hb : ShS n b = true) (hc : ShS n c = true) (hd : ShS n d = true) (ka : a.depth ≤ k) (kb : b.depth ≤ k) (kc : c.depth ≤ k) (kd : d.depth ≤ k) (hk : k ≤ 3) : ShS (4 * n + 8) (.tuple [a, b, c, d]) = true ∧ (PyData.tuple [a, b, c, d]).depth ≤ k + 1 := by
  obtain ⟨a1, a2, a3, a4, a5⟩ := ShS.ok ha
  obtain ⟨b1, b2, b3, b4, b5⟩ := ShS.ok hb
  obtain ⟨c1, c2, c3, c4, c5⟩ := ShS.ok hc
  obtain ⟨d1, d2, d3, d4, d5⟩ := ShS.ok hd
  have o : Sm 1 ("(" : Str) := ⟨by decide +kernel, by decide +kernel⟩
  have cl : Sm 1 (")" : Str) := ⟨by decide +kernel, by decide +kernel⟩
  have m : Sm 2 (", " : Str) := ⟨by decide +kernel, by decide +kernel⟩
  have sm : Sm (4 * n + 8) (PyData.tuple [a, b, c, d]).shown := by
    rw [PyData.shown]
    show Sm _ (("(" : Str) ++ (a.shown ++ ", " ++ (b.shown ++ ", " ++ (c.shown ++ ", " ++ d.shown))) ++ (")" : Str))
    exact ((o.app ((a4.app m).app ((b4.app m).app ((c4.app m).app d4)))).app cl).mono (by omega)
  have sml := sm.1
  have smo := sm.2
  clear sm
  have dp : (PyData.tuple [a, b, c, d]).depth ≤ k + 1 := by
    simp only [PyData.depth, PyData.depthAll]
    omega
  refine ⟨?_, dp⟩
  unfold ShS
  rw [decide_eq_true sml, smo, decide_eq_true (show (PyData.tuple [a, b, c, d]).depth ≤ 4 by omega)]
  simp [PyData.showable, PyData.showableAll, PyData.hasDict, PyData.hasDictAll, PyData.canLay0, PyData.canLayAll0, a1, a2, a5, b1, b2, b5, c1, c2, c5, d1, d2, d5]
theorem part_num : ∀ s ∈ NUMS, (ShS 10 (.int s) && decide ((PyData.int s).depth ≤ 0)) = true := by decide +kernel
theorem part_rul : ∀ r ∈ RUL, (ShS 10 (.str r) && decide ((PyData.str r).depth ≤ 0)) = true := by decide +kernel
theorem part_wrt : ∀ r ∈ WRT, (ShS 10 (.str r) && decide ((PyData.str r).depth ≤ 0)) = true := by decide +kernel
theorem Lv9.sh {d : PyData} (h : Lv9 d) : ShS 48 d = true ∧ d.depth ≤ 1 := by
  obtain ⟨s, y, r, w, rfl, hs, hy, hr, hw⟩ := h
  have n1 := part_num s hs
  have n2 := part_num y hy
  have n3 := part_rul r hr
  have n4 := part_wrt w hw
  rw [Bool.and_eq_true, decide_eq_true_iff] at n1 n2 n3 n4
  have hh := four_gen (n := 10) (k := 0) n1.1 n2.1 n3.1 n4.1 n1.2 n2.2 n3.2 n4.2 (by decide)
  have e : 4 * 10 + 8 = 48 := rfl
  rw [e] at hh
  exact hh
theorem MkL.nine {d : PyData} (h : MkL d) : Lv9 d := by
  obtain ⟨s, y, r, w, rfl, s1, s4, y1, y4, hr, hw, _⟩ := h
  refine ⟨s, y, r, w, rfl, ?_, ?_, hr, hw⟩
  · have : s = 1 ∨ s = 2 ∨ s = 3 ∨ s = 4 := by omega
    rcases this with rfl | rfl | rfl | rfl <;> decide
  · have : y = 1 ∨ y = 2 ∨ y = 3 ∨ y = 4 := by omega
    rcases this with rfl | rfl | rfl | rfl <;> decide
theorem MkL.lv {d : PyData} (h : MkL d) : LvOk d := by
  obtain ⟨s, y, r, w, rfl, s1, s4, y1, y4, hr, hw, _⟩ := h
  exact ⟨s, y, r, w, rfl, by omega, by omega, by omega, by omega⟩
theorem show_num {s : Int} (h : s ∈ NUMS) : ShowOk (.int s) := by
  simp only [List.mem_cons, List.not_mem_nil, or_false] at h
  refine show_int s ?_ ?_ <;> omega
theorem heard_syn {z : Str} {p : Nat} (h : cacheM (tokz z) = .syn p) : heardC z = [.str "syntax", .int (p : Int)] := by
  unfold heardC
  rw [h]
theorem hr_syn {z : Str} {p : Nat} (h : cacheM (tokz z) = .syn p) (hz : z.length ≤ 50000) : HrOk (.str z) := ⟨hz, fun ln ds k e => by rw [h] at e; cases e⟩
theorem hr_ok {z : Str} {ln : Int} {ds : List PyData} {k : Nat} (h : cacheM (tokz z) = .ok (ln, ds) k) (hz : z.length ≤ 50000) (h1 : ShowOk (.int ln)) (h2 : ∀ b, badL (.tuple ds) = some b → ShowOk b) : HrOk (.str z) := ⟨hz, fun ln' ds' k' e => by
  rw [h] at e
  cases e
  exact ⟨fun _ => h1, h2⟩⟩
theorem heard_head {z : Str} {ln : Int} {ds : List PyData} {k : Nat} (h : cacheM (tokz z) = .ok (ln, ds) k) : ∃ (x : Str) (r : List PyData), heardC z = .str x :: r ∧ (["text", "syntax"] : List Str).contains x = false := by
  unfold heardC
  rw [h]
  dsimp only
  split
  · split
    · exact ⟨_, _, rfl, by decide +kernel⟩
    · split
      · exact ⟨_, _, rfl, by decide +kernel⟩
      · exact ⟨_, _, rfl, by decide +kernel⟩
  · exact ⟨_, _, rfl, by decide +kernel⟩
theorem bad_lv9 {ds : List PyData} (hd : ∀ d ∈ ds, Lv9 d) (h3 : ds.length ≤ 3) : ∀ b, badL (.tuple ds) = some b → ShowOk b := fun b e => by
  by_cases h1 : 1 ≤ ds.length
  · have e' : ds.find? (fun d => !lvlD d) = some b := by
      have : badL (.tuple ds) = if 1 ≤ ds.length ∧ ds.length ≤ 3 then ds.find? (fun d => !lvlD d) else some (.tuple ds) := rfl
      rw [this, if_pos ⟨h1, h3⟩] at e
      exact e
    exact ShS.show (hd b (List.mem_of_find?_eq_some e')).sh.1 (by decide)
  · have : ds = [] := List.length_eq_zero_iff.mp (by omega)
    subst this
    cases e
    exact ⟨by decide +kernel, by decide +kernel, by decide +kernel, by decide +kernel⟩
section
variable {z : Str} {ps : List (List Nat × Str)} {g : List Nat} {ln : Int} {ds : List PyData}
theorem heard_fine (ok : psOk ps g) (ez : z.cps.toList = txtOf ps g) (hw : wsOf ps = cacheW ln ds) (hl : ln = 1 ∨ ln = 2 ∨ ln = 4) (h1 : 1 ≤ ds.length) (h3 : ds.length ≤ 3) (hd : ∀ d ∈ ds, MkL d) : heardC z = [.str "fine", .str (Txt.join (Str.ofString " ") (cacheW ln ds))] := by
  have h := cache_words ok ez hw (by rcases hl with rfl | rfl | rfl <;> decide) fun d hd' => (hd d hd').nine
  have hT := tog12' hd
  have g3 : (togN ds : Int) * ln ≤ 64 := by
    have : (togN ds : Int) * ln ≤ 12 * 4 := Int.mul_le_mul (by omega) (by omega) (by omega) (by omega)
    omega
  unfold heardC
  rw [h]
  dsimp only
  rw [if_pos (good_ln hl), bad_mk h1 h3 hd]
  exact if_neg (by omega)
theorem hr_fine (ok : psOk ps g) (ez : z.cps.toList = txtOf ps g) (hw : wsOf ps = cacheW ln ds) (hz : z.length ≤ 50000) (hl : ln ∈ NUMS) (h3 : ds.length ≤ 3) (hd : ∀ d ∈ ds, MkL d) : HrOk (.str z) :=
  hr_ok (cache_words ok ez hw hl fun d hd' => (hd d hd').nine) hz (show_num hl) (bad_lv9 (fun d hd' => (hd d hd').nine) h3)
theorem heard_nine (ok : psOk ps g) (ez : z.cps.toList = txtOf ps g) (hw : wsOf ps = cacheW 9 ds) (hd : ∀ d ∈ ds, MkL d) : heardC z = [.str "cache", .str "9"] := by
  have h := cache_words ok ez hw (by decide) fun d hd' => (hd d hd').nine
  unfold heardC
  rw [h]
  dsimp only
  rw [if_neg (by decide)]
  have : (PyData.int 9).shown = ("9" : Str) := by decide +kernel
  rw [this]
end
abbrev lvX : PyData := .tuple [.int 0, .int 1, .str "tree", .str "back"]
theorem lvX9 : Lv9 lvX := ⟨0, 1, "tree", "back", rfl, by decide, by decide, by decide, by decide⟩
theorem bad_X {ds : List PyData} (h3 : ds.length ≤ 3) (hd : ∀ d ∈ ds, MkL d) : ∃ b, badL (.tuple (ds ++ [lvX])) = some b ∧ ShowOk b := by
  have e0 : badL (.tuple (ds ++ [lvX])) = if 1 ≤ (ds ++ [lvX]).length ∧ (ds ++ [lvX]).length ≤ 3 then (ds ++ [lvX]).find? (fun d => !lvlD d) else some (.tuple (ds ++ [lvX])) := rfl
  by_cases h2 : ds.length ≤ 2
  · refine ⟨lvX, ?_, ShS.show lvX9.sh.1 (by decide)⟩
    rw [e0, if_pos (by rw [List.length_append]; simp; omega), List.find?_append]
    have : ds.find? (fun d => !lvlD d) = none := by
      rw [List.find?_eq_none]
      intro x hx
      rw [(hd x hx).lvl]
      decide
    rw [this]
    have hx : (!lvlD lvX) = true := by decide +kernel
    show [lvX].find? (fun d => !lvlD d) = some lvX
    rw [List.find?_cons, hx]
  · refine ⟨.tuple (ds ++ [lvX]), ?_, ?_⟩
    · rw [e0, if_neg (by rw [List.length_append]; simp; omega)]
    · have h3' : ds.length = 3 := by omega
      match ds, h3', hd with
      | [a, b, c], _, hd =>
        have ha := (hd a (by simp)).nine.sh
        have hb := (hd b (by simp)).nine.sh
        have hc := (hd c (by simp)).nine.sh
        have hx := lvX9.sh
        exact ShS.show (n := 4 * 48 + 8) (four_gen (n := 48) (k := 1) ha.1 hb.1 hc.1 hx.1 ha.2 hb.2 hc.2 hx.2 (by decide)).1 (by decide)

end K14

namespace K14
open PySem L2 SZ VR VX StX RT DE
/-! ### a text with one word put otherwise -/
def bentZ (ws : List Str) : Str := Txt.join (Str.ofString " ") ws
theorem bentZ_txt (ws : List Str) : (bentZ ws).cps.toList = txtOf (psJ ws) [] := join_txt ws
theorem psJ_at {ws : List Str} {j : Nat} {q : List Nat × Str} (h : (psJ ws)[j]? = some q) : ws[j]? = some q.2 := by
  have := wsOf_at h
  rwa [wsOf_psJ] at this
theorem bent_len {ws : List Str} (hw : ∀ w ∈ ws, wdOk w = true) (hn : ws.length ≤ 100) : (bentZ ws).length ≤ 2000 := by
  rw [len_of (bentZ_txt ws)]
  have := txt_len (ps := psJ ws) (g := []) (fun q hq => by
    obtain ⟨j, hj⟩ := List.getElem?_of_mem hq
    have h1 := psJ_at hj
    obtain ⟨_, _, _, _, _, _, hl, _⟩ := wd_parts (hw _ (List.mem_of_getElem? h1))
    refine ⟨?_, hl⟩
    cases ws with
    | nil => cases hq
    | cons w r =>
      rcases List.mem_cons.mp hq with rfl | hq
      · exact Nat.zero_le _
      · obtain ⟨x, _, rfl⟩ := List.mem_map.mp hq
        exact (by decide : (1 : Nat) ≤ 3)) (by decide)
  rw [psJ_len] at this
  omega
theorem bent_right {ws : List Str} {j : Nat} {q : List Nat × Str} (h : (psJ ws)[j]? = some q) (hr : rightB (j : Int) (ws.getD j "") = true) : rc (cls j) q.2 = true := by
  have h1 := psJ_at h
  rw [← right_cls, ← hr, List.getD_eq_getElem?_getD, h1]
  rfl
/-- the first word that cannot stand there, or the end -/
theorem bent_syn {ws : List Str} (hw : ∀ w ∈ ws, wdOk w = true) {i : Nat} (h : wrongN ws = some i) : i ≤ ws.length ∧ cacheM (tokz (bentZ ws)) = .syn (if i < ws.length then posW (psJ ws) i else (bentZ ws).length) := by
  have ok := psJ_ok hw
  unfold wrongN at h
  split at h
  · rename_i hf
    cases h
    rw [List.find?_range_eq_some] at hf
    obtain ⟨h1, h2, h3⟩ := hf
    have hi : i < ws.length := List.mem_range.mp h2
    have hq : (psJ ws)[i]? = some ((psJ ws)[i]'(by rw [psJ_len]; exact hi)) := List.getElem?_eq_getElem _
    refine ⟨Nat.le_of_lt hi, ?_⟩
    rw [if_pos hi]
    refine cache_wrong ok (bentZ_txt ws) hq (fun j q hj hjq => bent_right hjq ?_) ?_
    · have := h3 j hj
      simpa using this
    · rw [← right_cls]
      have e := psJ_at hq
      rw [List.getD_eq_getElem?_getD, e] at h1
      simpa using h1
  · rename_i hf
    split at h
    · cases h
    · rename_i h5
      cases h
      refine ⟨Nat.le_refl _, ?_⟩
      rw [if_neg (Nat.lt_irrefl _)]
      refine cache_short ok (bentZ_txt ws) (fun j q hj hjq => bent_right hjq ?_) (by rw [psJ_len]; exact h5)
      rw [psJ_len] at hj
      rw [List.find?_eq_none] at hf
      have := hf j (List.mem_range.mpr hj)
      simpa using this
theorem wd_num : ∀ w ∈ WD, rc 2 w = true → numVal w.cps.toList ∈ NUMS := by decide +kernel
/-- no word is wrong -/
theorem bent_ok {ws : List Str} (hw : ∀ w ∈ ws, w ∈ WD) (hn : ws.length ≤ 18) (h : wrongN ws = none) : ∃ (ln : Int) (ds : List PyData) (k : Nat), cacheM (tokz (bentZ ws)) = .ok (ln, ds) k ∧ ln ∈ NUMS ∧ ds.length ≤ 3 ∧ ∀ d ∈ ds, Lv9 d := by
  have ok := psJ_ok fun w hw' => wd_ok w (hw w hw')
  unfold wrongN at h
  split at h
  · cases h
  rename_i hf
  split at h
  · rename_i h5
    have hs : ∀ j q, j < (psJ ws).length → (psJ ws)[j]? = some q → rc (cls j) q.2 = true := fun j q hj hjq => bent_right hjq (by
      rw [psJ_len] at hj
      rw [List.find?_eq_none] at hf
      have := hf j (List.mem_range.mpr hj)
      simpa using this)
    have hc := cache_good ok (bentZ_txt ws) hs (by rw [psJ_len]; exact h5)
    obtain ⟨_, _, _, _, hr⟩ := read_words ok (bentZ_txt ws) (Nat.le_refl _) hs
    rw [psJ_len] at hc
    have rd : ∀ j, j < ws.length → ∃ w ∈ WD, tk (tokz (bentZ ws)) j = w.cps.toList ∧ rc (cls j) w = true := fun j hj => by
      have hjl : j < (psJ ws).length := by rw [psJ_len]; exact hj
      have hq : (psJ ws)[j]? = some (psJ ws)[j] := List.getElem?_eq_getElem hjl
      have h1 := psJ_at hq
      exact ⟨_, hw _ (List.mem_of_getElem? h1), hr j _ hjl hq, hs j _ hjl hq⟩
    refine ⟨_, _, _, hc, ?_, ?_, fun d hd => ?_⟩
    · obtain ⟨w, hw1, e, hr1⟩ := rd 1 (by omega)
      rw [e]
      exact wd_num w hw1 hr1
    · unfold lvTs
      rw [List.length_map, List.length_range]
      omega
    · unfold lvTs at hd
      obtain ⟨i, hi, rfl⟩ := List.mem_map.mp hd
      have hi := List.mem_range.mp hi
      obtain ⟨w1, m1, e1, r1⟩ := rd (2 + 5 * i + 1) (by omega)
      obtain ⟨w2, m2, e2, r2⟩ := rd (2 + 5 * i + 1 + 1) (by omega)
      obtain ⟨w3, m3, e3, r3⟩ := rd (2 + 5 * i + 1 + 2) (by omega)
      obtain ⟨w4, m4, e4, r4⟩ := rd (2 + 5 * i + 1 + 3) (by omega)
      rw [cls_3 (by omega)] at r1 r2
      rw [cls_0 (by omega) (by omega)] at r3
      rw [cls_1 (by omega) (by omega)] at r4
      unfold lvT
      rw [e1, e2, e3, e4]
      exact ⟨_, _, w3, w4, rfl, wd_num w1 m1 r1, wd_num w2 m2 r2, List.contains_iff_mem.mp r3, List.contains_iff_mem.mp r4⟩
  · cases h
/-! ### other gaps -/
abbrev GAPS : List Str := [" ", "\n", "  ", " \n "]
theorem gaps_all : ∀ h ∈ GAPS, (gapC h.cps.toList && (!h.cps.toList.isEmpty && decide (h.length ≤ 3))) = true := by decide +kernel
def psG (qs : List (Str × Str)) : List (List Nat × Str) := qs.map fun q => (q.1.cps.toList, q.2)
theorem gap_ok : ∀ {qs : List (Str × Str)} {g : Str}, (∀ q ∈ qs, q.1 ∈ GAPS) → (∀ q ∈ qs, wdOk q.2 = true) → g ∈ GAPS → psOk (psG qs) g.cps.toList
  | [], g, _, _, hg => by
    have := gaps_all g hg
    rw [Bool.and_eq_true] at this
    exact this.1
  | q :: r, g, h1, h2, hg => by
    have := gaps_all q.1 (h1 q List.mem_cons_self)
    rw [Bool.and_eq_true] at this
    refine ⟨this.1, h2 q List.mem_cons_self, fun x hx => ?_, gap_ok (fun x hx => h1 x (List.mem_cons_of_mem _ hx)) (fun x hx => h2 x (List.mem_cons_of_mem _ hx)) hg⟩
    obtain ⟨y, hy, rfl⟩ := List.mem_map.mp hx
    have := gaps_all y.1 (h1 y (List.mem_cons_of_mem _ hy))
    rw [Bool.and_eq_true, Bool.and_eq_true] at this
    have h3 := this.2.1
    intro e
    simp only at e
    rw [e] at h3
    cases h3
theorem joinE : ∀ L : List (List Nat), TL.joinL [] L = L.flatten
  | [] => rfl
  | [p] => by simp [TL.joinL]
  | p :: q :: r => by
    show p ++ ([] ++ TL.joinL [] (q :: r)) = _
    rw [joinE (q :: r)]
    simp
theorem gap_txt (qs : List (Str × Str)) (g : Str) : (Txt.join (Str.ofString "") (qs.map fun q => q.1 ++ q.2) ++ g).cps.toList = txtOf (psG qs) g.cps.toList := by
  have e : (qs.map fun q => q.1 ++ q.2) = (qs.map fun q => q.1.cps.toList ++ q.2.cps.toList).map SX.S := by
    rw [List.map_map]
    refine List.map_congr_left fun q _ => ?_
    show q.1 ++ q.2 = SX.S (q.1.cps.toList ++ q.2.cps.toList)
    show q.1 ++ q.2 = ⟨(q.1.cps.toList ++ q.2.cps.toList).toArray⟩
    have : (q.1 ++ q.2).cps = q.1.cps ++ q.2.cps := Str.cps_append ..
    cases hq : q.1 ++ q.2 with
    | mk c =>
      rw [hq] at this
      simp only at this
      rw [this]
      simp
  have h := SX.join_S [] (qs.map fun q => q.1.cps.toList ++ q.2.cps.toList)
  rw [← e] at h
  rw [Str.cps_append, Array.toList_append, show (Str.ofString "") = SX.S [] from rfl, h]
  show TL.joinL [] _ ++ _ = _
  rw [joinE]
  unfold txtOf psG
  rw [List.map_map]
  rfl
theorem wsOf_psG (qs : List (Str × Str)) : wsOf (psG qs) = qs.map (·.2) := by
  unfold wsOf psG
  rw [List.map_map]
  rfl
theorem gap_len {qs : List (Str × Str)} {g : Str} (h1 : ∀ q ∈ qs, q.1 ∈ GAPS) (h2 : ∀ q ∈ qs, wdOk q.2 = true) (hg : g ∈ GAPS) (hn : qs.length ≤ 100) : (Txt.join (Str.ofString "") (qs.map fun q => q.1 ++ q.2) ++ g).length ≤ 2000 := by
  have gl : ∀ x ∈ GAPS, x.cps.toList.length ≤ 3 := fun x hx => by
    have := gaps_all x hx
    rw [Bool.and_eq_true, Bool.and_eq_true, decide_eq_true_iff] at this
    rw [← len_of rfl]
    exact this.2.2
  rw [len_of (gap_txt qs g)]
  have := txt_len (ps := psG qs) (g := g.cps.toList) (fun q hq => by
    obtain ⟨y, hy, rfl⟩ := List.mem_map.mp hq
    obtain ⟨_, _, _, _, _, _, hl, _⟩ := wd_parts (h2 y hy)
    exact ⟨gl _ (h1 y hy), hl⟩) (gl _ hg)
  have e : (psG qs).length = qs.length := by unfold psG; rw [List.length_map]
  omega
/-! ### the fixed texts -/
theorem fix_ok {ws : List Str} (h : (ws.all wdOk) = true) : psOk (psJ ws) [] := psJ_ok fun w hw => List.all_eq_true.mp h w hw
theorem heard_2 : heardC "line 2" = [.str "cache", .str "()"] ∧ HrOk (.str "line 2") := by
  have h : cacheM (tokz "line 2") = .ok (2, []) 2 := cache_words (ds := []) (fix_ok (ws := ["line", "2"]) (by decide +kernel)) (by decide +kernel) (by decide +kernel) (by decide) (by simp)
  refine ⟨?_, hr_ok h (by decide +kernel) (show_num (by decide)) (bad_lv9 (by simp) (by decide))⟩
  unfold heardC
  rw [h]
  dsimp only
  rw [if_pos (by decide)]
  show [PyData.str "cache", .str (PyData.tuple []).shown] = _
  have : (PyData.tuple []).shown = ("()" : Str) := by decide +kernel
  rw [this]
theorem heard_0 : heardC "" = [.str "syntax", .int 0] ∧ HrOk (.str "") := by
  have h : cacheM (tokz "") = .syn 0 := cache_short (ps := []) (g := []) rfl rfl (fun j q hj => absurd hj (Nat.not_lt_zero _)) (by decide)
  exact ⟨heard_syn h, hr_syn h (by decide +kernel)⟩
theorem heard_12 : heardC "line 2 level" = [.str "syntax", .int 12] ∧ HrOk (.str "line 2 level") := by
  have hz : ("line 2 level" : Str).length = 12 := by decide +kernel
  have h : cacheM (tokz "line 2 level") = .syn 12 := by
    rw [← hz]
    refine cache_short (fix_ok (ws := ["line", "2", "level"]) (by decide +kernel)) (by decide +kernel) (fun j q hj hq => ?_) (by decide)
    match j, hq with
    | 0, hq => cases hq; decide +kernel
    | 1, hq => cases hq; decide +kernel
    | 2, hq => cases hq; decide +kernel
    | j + 3, hq => simp [psJ, psR] at hq
  exact ⟨heard_syn h, hr_syn h (by rw [hz]; decide)⟩

end K14

namespace K14
open PySem L2 SZ VR VX StX RT DE
/-! ### a number that is too long -/
theorem op_mul_str {X : Cx} : OpR X (binaryOp .Mult) (fun x y H Q => ∃ (i : Str) (n : Int), x = .str i ∧ y = .int n ∧ MulOk i n ∧ Q (.str (Txt.mul i n)) H) := by
  intro pins s σ H x y v u Q I rx ry h
  obtain ⟨i, n, rfl, rfl, hm, q⟩ := h
  obtain ⟨t, rfl⟩ := rx
  obtain ⟨t', rfl⟩ := ry
  exact PySem.SB.mul hm (fun t' tk => ⟨.str _, H, I.tok _, ⟨_, rfl⟩, q⟩)
theorem or_mulS {X : Cx} {b : Bs} {x : Str} {n : Int} (hm : MulOk x n) : OVr X b (binaryOp .Mult) (.d (.str x)) (.d (.int n)) (.d (.str (Txt.mul x n))) := fun _ h => ⟨_, op_mul_str, fun v1 v2 H L Q hh k => by
  have e1 := hh.isS
  subst e1
  have e2 := hh.drop.isI
  subst e2
  exact ⟨x, n, rfl, rfl, hm, k _ _ _ h (hh.drop.drop.str _)⟩⟩
theorem mul_ok : MulOk "1" 151 := ⟨by decide, fun _ _ => by decide, fun _ _ => by decide +kernel⟩
abbrev bigZ : Str := (("line " : Str) ++ Txt.mul "1" 151) ++ (" x" : Str)
theorem big_txt : bigZ.cps.toList = [108, 105, 110, 101, 32] ++ (List.replicate 151 49 ++ [32, 120]) := by
  show ((("line " : Str) ++ Txt.mul "1" 151) ++ (" x" : Str)).cps.toList = _
  rw [Str.cps_append, Array.toList_append, Str.cps_append, Array.toList_append]
  have : (Txt.mul "1" 151).cps.toList = List.replicate 151 49 := PyProof.Rows.mul_one_list 49 151
  rw [this]
  rfl
theorem big_cache : cacheM (tokz bigZ) = .big "numbers" := by
  have g : GoodIt [tLINE, [32], List.replicate 151 49, [32], [120]] := by
    refine ⟨.inr ⟨by decide, by decide +kernel, by simp; decide +kernel⟩, .inl ⟨32, rfl, by decide +kernel⟩, .inr ⟨by decide, by decide +kernel, by simp; decide +kernel⟩, .inl ⟨32, rfl, by decide +kernel⟩, .inr ⟨by decide, by decide +kernel, by simp⟩, trivial⟩
  have e := toks_items _ bigZ.cps.toList 0 g (by rw [List.drop_zero, big_txt]; decide +kernel)
  have et : tokz bigZ = itemToks [tLINE, [32], List.replicate 151 49, [32], [120]] 0 ++ [([], bigZ.length)] := by unfold tokz; rw [e]
  have h0 : (tokz bigZ)[0]? = some (tLINE, 0) := by rw [et]; rfl
  have h1 : (tokz bigZ)[1]? = some (List.replicate 151 49, 5) := by rw [et]; decide +kernel
  unfold cacheM
  rw [(tk_of h0).1, if_pos rfl]
  unfold numM
  rw [(tk_of h1).1, if_pos (by decide +kernel), if_pos (by decide +kernel)]
theorem heard_big : heardC bigZ = [.str "large", .str "numbers"] ∧ HrOk (.str bigZ) := by
  refine ⟨?_, ?_, fun ln ds k e => by rw [big_cache] at e; cases e⟩
  · unfold heardC
    rw [big_cache]
  · rw [len_of big_txt]
    decide +kernel
/-! ### words put behind, a line put otherwise -/
theorem cw_cut {ln : Int} {ds : List PyData} : (["line", "9"] : List Str) ++ (cacheW ln ds).drop 2 = cacheW 9 ds := rfl
theorem cw_more {ln : Int} {ds : List PyData} : cacheW ln (ds ++ [lvX]) = cacheW ln ds ++ (["level", "0", "1", "tree", "back"] : List Str) := by
  unfold cacheW
  rw [List.flatMap_append, List.append_assoc]
  rfl
theorem joinR_app (w : List Nat) (r t : List Str) : ((psR (r ++ t)).map fun q => q.1 ++ q.2.cps.toList).flatten = ((psR r).map fun q => q.1 ++ q.2.cps.toList).flatten ++ ((psR t).map fun q => q.1 ++ q.2.cps.toList).flatten := by
  unfold psR
  rw [List.map_append, List.map_append, List.flatten_append]
theorem more_txt {ln : Int} {ds : List PyData} : bentZ (cacheW ln ds) ++ (" level 0 1 tree back" : Str) = bentZ (cacheW ln (ds ++ [lvX])) := by
  have h : (bentZ (cacheW ln ds) ++ (" level 0 1 tree back" : Str)).cps.toList = (bentZ (cacheW ln (ds ++ [lvX]))).cps.toList := by
    rw [Str.cps_append, Array.toList_append, bentZ_txt, bentZ_txt, cw_more]
    unfold cacheW
    show txtOf (([], _) :: psR _) [] ++ _ = txtOf (([], _) :: psR _) []
    unfold txtOf
    rw [List.map_cons, List.map_cons, List.flatten_cons, List.flatten_cons, List.append_nil, List.append_nil, List.append_assoc]
    congr 1
    have e : (" level 0 1 tree back" : Str).cps.toList = ((psR (["level", "0", "1", "tree", "back"] : List Str)).map fun q => q.1 ++ q.2.cps.toList).flatten := by decide +kernel
    rw [show (Str.ofString " level 0 1 tree back").cps.toList = _ from e]
    exact (joinR_app [] _ _).symm
  cases h1 : bentZ (cacheW ln ds) ++ (" level 0 1 tree back" : Str) with
  | mk a =>
    cases h2 : bentZ (cacheW ln (ds ++ [lvX])) with
    | mk c =>
      rw [h1, h2] at h
      simp only at h
      rw [Array.toList_inj.mp h]
theorem heard_more {ln : Int} {ds : List PyData} (hl : ln = 1 ∨ ln = 2 ∨ ln = 4) (h3 : ds.length ≤ 3) (hd : ∀ d ∈ ds, MkL d) : (∃ b : PyData, heardC (bentZ (cacheW ln ds) ++ (" level 0 1 tree back" : Str)) = [.str "cache", .str b.shown]) ∧ HrOk (.str (bentZ (cacheW ln ds) ++ (" level 0 1 tree back" : Str))) := by
  rw [more_txt]
  have hn : ln ∈ NUMS := by rcases hl with rfl | rfl | rfl <;> decide
  have h9 : ∀ d ∈ ds ++ [lvX], Lv9 d := fun d h => by
    rcases List.mem_append.mp h with h | h
    · exact (hd d h).nine
    · rw [List.mem_singleton.mp h]; exact lvX9
  have wd : ∀ w ∈ cacheW ln (ds ++ [lvX]), wdOk w = true := fun w hw => by
    obtain ⟨j, hj⟩ := List.getElem?_of_mem hw
    exact (cw_right hn h9 hj).2
  have hc := cache_words (psJ_ok wd) (bentZ_txt _) (wsOf_psJ _) hn h9
  obtain ⟨b, hb, sb⟩ := bad_X h3 hd
  refine ⟨⟨b, ?_⟩, hr_ok hc ?_ (show_num hn) fun b' hb' => ?_⟩
  · unfold heardC
    rw [hc]
    dsimp only
    rw [if_pos (good_ln hl), hb]
  · have := bent_len wd (by rw [cw_len h9, List.length_append]; simp; omega)
    omega
  · rw [hb] at hb'
    cases hb'
    exact sb

end K14

namespace K14
open PySem L2 SZ VR VX StX RT DE
local macro_rules | `(tactic| walk_at "v") => `(tactic| first | exact Or.inl rfl | exact Or.inr (Or.inl rfl) | exact Or.inr (Or.inr rfl))
local macro_rules | `(tactic| walk_at "o") => `(tactic| first
  | (refine fun _ h => ov_eqInt h) | (refine fun _ h => ov_eqStr h) | (refine fun _ h => ov_add h) | (refine fun _ h => ov_sub h) | (refine fun _ h => ov_mod (by decide) h) | (refine fun _ h => ov_lt h) | (refine fun _ h => ov_le h) | (refine fun _ h => ov_gt h) | (refine fun _ h => ov_ge h)
  | (refine fun _ h => ov_neInt h) | (refine fun _ h => ov_neStr h) | (refine fun _ h => ov_isN h) | (refine fun _ h => ov_notN h)
  | exact or_inS (.inl rfl) rfl | exact or_inS (.inr rfl) rfl | exact or_inI (.inl rfl) rfl | exact or_inI (.inr rfl) rfl | exact or_notInS (.inl rfl) rfl | exact or_notInS (.inr rfl) rfl | exact or_notInC | exact or_inC
  | (refine fun _ h => ov_mul (by first | exact .inl ⟨by omega, by omega⟩ | exact .inr ⟨by omega, by omega⟩) h))
local macro_rules | `(tactic| walk_at "c") => `(tactic| first
  | (refine fun _ h => cv_int h) | (refine fun _ h => cv_intB h) | (refine fun _ h => cv_lenT h) | (refine fun _ h => cv_lenL h) | (refine fun _ h => cv_lenO h))
/-! ### rules for the law -/
section
variable {X : Cx} {b : Bs} {ρ : List Sl} {e e2 : Expr} {C CV CS CT CI : Addr}
theorem cr_max2 {i j : Int} (hc : X.calm = true) : CVr X b (.builtin "max") [.d (.int i), .d (.int j)] (.d (.int (if j > i then j else i))) := fun _ h => ⟨_, call_max2 hc, fun vs H L Q lv hh k => by
  match vs, lv with
  | [u1, u2], _ =>
    have e1 := hh.isI
    subst e1
    have e2 := hh.drop.isI
    subst e2
    exact ⟨i, j, rfl, k _ _ _ h (hh.drop.drop.int _)⟩⟩
theorem cr_min2 {i j : Int} (hc : X.calm = true) : CVr X b (.builtin "min") [.d (.int i), .d (.int j)] (.d (.int (if j < i then j else i))) := fun _ h => ⟨_, call_min2 hc, fun vs H L Q lv hh k => by
  match vs, lv with
  | [u1, u2], _ =>
    have e1 := hh.isI
    subst e1
    have e2 := hh.drop.isI
    subst e2
    exact ⟨i, j, rfl, k _ _ _ h (hh.drop.drop.int _)⟩⟩
theorem r_heard {y : PyData} {l : List PyData} {p1 cp : Pos} (D : LwD X.prog X.w X.K X.mg X.base C CV CS CT CI) (gd : X.A.guards = some []) (hr : Room 8 X.A) (h : EVr X b ρ e (.d y)) (ho : HrOk y) (hl : heardY y = l) (hg : Gl X "_law_heard" := by rfl)
    (he : starEach [e] X.env = (false, eval e X.env) :: starEach [] X.env := by rfl) (hpl : (backTo cp (starEach [] X.env)).any (·.1) = false := by rfl) : EVr X b ρ (.Call (.Name "_law_heard" p1) [e] [] cp) (.d (.list l)) := by
  subst hl
  exact r_calG D.heard gd hr pass0 (a_cons h a_nil he) rfl ⟨y, rfl, ho⟩ (fun r' h => by
    obtain ⟨y', e, rfl⟩ := h
    cases e
    rfl) (by simp) hg (by decide) he hpl
theorem two_sh {x z : Str} (hx : PyData.strOk x = true) (hz : PyData.strOk z = true) : SeqAt.shaped (.list [.str x, .str z]) = true := by
  simp [SeqAt.shaped, PyData.canLay0, PyData.canLayAll0, PyData.depth, PyData.depthAll, hx, hz]
theorem syn_sh {x : Str} {i : Int} (hx : PyData.strOk x = true) : SeqAt.shaped (.list [.str x, .int i]) = true := by
  simp [SeqAt.shaped, PyData.canLay0, PyData.canLayAll0, PyData.depth, PyData.depthAll, hx]
theorem t_hne {y : PyData} {l : List PyData} {p1 cp pos : Pos} (D : LwD X.prog X.w X.K X.mg X.base C CV CS CT CI) (gd : X.A.guards = some []) (hr : Room 8 X.A) (hu : X.A.units + 64 < cLine) (h : EVr X b ρ e (.d y)) (ho : HrOk y) (hl : heardY y = l) (sh : SeqAt.shaped (.list l) = true) (h2 : EVr X b ρ e2 (.own l)) (hg : Gl X "_law_heard" := by rfl)
    (he : starEach [e] X.env = (false, eval e X.env) :: starEach [] X.env := by rfl) (hpl : (backTo cp (starEach [] X.env)).any (·.1) = false := by rfl) (hm : behindInMarks .NotEq e2 = false := by first | exact nomark _ | rfl | with_unfolding_all rfl) : ETr X b ρ (.Compare (.Call (.Name "_law_heard" p1) [e] [] cp) [.NotEq] [e2] pos) false := by
  have := t_cmp (X := X) (b := b) (ρ := ρ) (pos := pos) (op := .NotEq) (r_heard (p1 := p1) D gd hr h ho hl hg he hpl) h2 (or_neD hu rfl rfl sh sh) hm
  have e : (!PyData.eqv (.list l) (.list l)) = false := by
    have hc : (PyData.list l).canLay0 = true := by
      unfold SeqAt.shaped at sh
      rw [Bool.and_eq_true] at sh
      exact sh.1
    rw [PySem.SeqAt.eqv_refl _ hc]
    rfl
  rwa [e] at this
theorem r_heq {y : PyData} {l : List PyData} {p1 cp pos : Pos} (D : LwD X.prog X.w X.K X.mg X.base C CV CS CT CI) (gd : X.A.guards = some []) (hr : Room 8 X.A) (hu : X.A.units + 64 < cLine) (h : EVr X b ρ e (.d y)) (ho : HrOk y) (hl : heardY y = l) (sh : SeqAt.shaped (.list l) = true) (h2 : EVr X b ρ e2 (.own l)) (hg : Gl X "_law_heard" := by rfl)
    (he : starEach [e] X.env = (false, eval e X.env) :: starEach [] X.env := by rfl) (hpl : (backTo cp (starEach [] X.env)).any (·.1) = false := by rfl) (hm : behindInMarks .Eq e2 = false := by first | exact nomark _ | rfl | with_unfolding_all rfl) : EVr X b ρ (.Compare (.Call (.Name "_law_heard" p1) [e] [] cp) [.Eq] [e2] pos) (.d (.bool true)) := by
  have := r_cmp (X := X) (b := b) (ρ := ρ) (pos := pos) (op := .Eq) (r_heard (p1 := p1) D gd hr h ho hl hg he hpl) h2 (or_eqD hu rfl rfl sh sh) hm
  have e : (PyData.eqv (.list l) (.list l)) = true := by
    have hc : (PyData.list l).canLay0 = true := by
      unfold SeqAt.shaped at sh
      rw [Bool.and_eq_true] at sh
      exact sh.1
    exact PySem.SeqAt.eqv_refl _ hc
  rwa [e] at this
end
abbrev ODDS : List PyData := [.none, .int 5, .list [.str "line"], .tuple [.str "line", .int 2], .bool true]
theorem odds_all : ∀ y ∈ ODDS, (ShS 200 y && !isS y) = true := by decide +kernel
theorem odds_ok {y : PyData} (h : y ∈ ODDS) : ShowOk y ∧ HrOk y ∧ heardY y = [.str "text", .str y.shown] ∧ PyData.strOk y.shown = true := by
  have := odds_all y h
  rw [Bool.and_eq_true, Bool.not_eq_true'] at this
  have s1 := ShS.show this.1 (by decide)
  have s2 := (ShS.ok this.1).2.2.2.1.2
  cases y with
  | str z => cases this.2
  | _ => exact ⟨s1, ⟨this.2, s1⟩, rfl, s2⟩

end K14

namespace K14
open PySem L2 SZ VR VX StX RT DE
local macro_rules | `(tactic| walk_at "v") => `(tactic| first | exact Or.inl rfl | exact Or.inr (Or.inl rfl) | exact Or.inr (Or.inr rfl))
local macro_rules | `(tactic| walk_at "o") => `(tactic| first
  | (refine fun _ h => ov_eqInt h) | (refine fun _ h => ov_eqStr h) | (refine fun _ h => ov_add h) | (refine fun _ h => ov_sub h) | (refine fun _ h => ov_mod (by decide) h) | (refine fun _ h => ov_lt h) | (refine fun _ h => ov_le h) | (refine fun _ h => ov_gt h) | (refine fun _ h => ov_ge h)
  | (refine fun _ h => ov_neInt h) | (refine fun _ h => ov_neStr h) | (refine fun _ h => ov_isN h) | (refine fun _ h => ov_notN h)
  | exact or_inS (.inl rfl) rfl | exact or_inS (.inr rfl) rfl | exact or_inI (.inl rfl) rfl | exact or_inI (.inr rfl) rfl | exact or_notInS (.inl rfl) rfl | exact or_notInS (.inr rfl) rfl | exact or_notInC | exact or_inC
  | (refine fun _ h => ov_mul (by first | exact .inl ⟨by omega, by omega⟩ | exact .inr ⟨by omega, by omega⟩) h))
local macro_rules | `(tactic| walk_at "c") => `(tactic| first
  | (refine fun _ h => cv_int h) | (refine fun _ h => cv_intB h) | (refine fun _ h => cv_lenT h) | (refine fun _ h => cv_lenL h) | (refine fun _ h => cv_lenO h))
/-! ### slices, the words that are put in -/
theorem cutA_to {α : Type} (xs : List α) (i : Nat) : (xs.drop (HT.sIx xs.length 0 none)).take (HT.sIx xs.length xs.length (some (i : Int)) - HT.sIx xs.length 0 none) = xs.take i := by
  rw [HT.sIx_nat, HT.sIx_none, List.drop_zero, Nat.sub_zero, List.take_eq_take_iff]
  omega
theorem cutA_from {α : Type} (xs : List α) (i : Nat) : (xs.drop (HT.sIx xs.length 0 (some (i : Int)))).take (HT.sIx xs.length xs.length none - HT.sIx xs.length 0 (some (i : Int))) = xs.drop i := by
  rw [HT.sIx_nat, HT.sIx_none]
  by_cases h : i ≤ xs.length
  · rw [Nat.min_eq_left h, List.take_of_length_le (by rw [List.length_drop]; omega)]
  · rw [Nat.min_eq_right (by omega), List.drop_length, List.take_nil, List.drop_eq_nil_of_le (by omega)]
theorem cut_take {r : Sl} {ys : List PyData} {i : Int} {p : Sl → Prop} (er : cool r = .d (.list ys)) (i0 : 0 ≤ i) (h : p (.own (ys.take i.toNat))) : Cut r none (some i) p := .lst er (by
  have := cutA_to ys i.toNat
  rw [Int.toNat_of_nonneg i0] at this
  rw [this]
  exact h)
theorem cut_drop {r : Sl} {ys : List PyData} {i : Int} {p : Sl → Prop} (er : cool r = .d (.list ys)) (i0 : 0 ≤ i) (h : p (.own (ys.drop i.toNat))) : Cut r (some i) none p := .lst er (by
  have := cutA_from ys i.toNat
  rw [Int.toNat_of_nonneg i0] at this
  rw [this]
  exact h)
abbrev ODW : List Str := ["", "line", "level", "used", "back", "7", "02", "x", "Used", "tree", "-1", "n", "*"]
theorem odw_wd : ∀ w ∈ ODW, w = "" ∨ w ∈ WD := by decide +kernel
theorem num_wd {s : Int} (h1 : 1 ≤ s) (h4 : s ≤ 4) : numW s ∈ WD := by
  have : s = 1 ∨ s = 2 ∨ s = 3 ∨ s = 4 := by omega
  rcases this with rfl | rfl | rfl | rfl <;> decide +kernel
theorem rul_wd : ∀ r ∈ RUL, r ∈ WD := by decide +kernel
theorem wrt_wd : ∀ r ∈ WRT, r ∈ WD := by decide +kernel
theorem cw_wd {ln : Int} {ds : List PyData} (hl : ln = 1 ∨ ln = 2 ∨ ln = 4) (hd : ∀ d ∈ ds, MkL d) : ∀ w ∈ cacheW ln ds, w ∈ WD := fun w hw => by
  unfold cacheW at hw
  rcases List.mem_append.mp hw with h | h
  · simp only [List.mem_cons, List.not_mem_nil, or_false] at h
    rcases h with rfl | rfl
    · decide +kernel
    · exact num_wd (s := ln) (by omega) (by omega)
  · obtain ⟨d, hd', hw'⟩ := List.mem_flatMap.mp h
    obtain ⟨s, y, r, x, rfl, s1, s4, y1, y4, hr, hx, _⟩ := hd d hd'
    rw [lv_strs] at hw'
    simp only [List.mem_cons, List.not_mem_nil, or_false] at hw'
    rcases hw' with rfl | rfl | rfl | rfl | rfl
    · decide +kernel
    · exact num_wd s1 s4
    · exact num_wd y1 y4
    · exact rul_wd _ hr
    · exact wrt_wd _ hx
theorem wd_len {w : Str} (h : wdOk w = true) : w.length ≤ 10 ∧ PyData.strOk w = true := by
  obtain ⟨_, _, _, _, _, _, hl, ho, _⟩ := wd_parts h
  exact ⟨hl, ho⟩
theorem sum_le : ∀ {ws : List Str}, (∀ z ∈ ws, z.length ≤ 13) → (ws.map (·.length)).sum ≤ 13 * ws.length
  | [], _ => by simp
  | z :: r, h => by
    have h1 := h z List.mem_cons_self
    have h2 := sum_le fun x hx => h x (List.mem_cons_of_mem z hx)
    rw [List.map_cons, List.sum_cons, List.length_cons]
    omega
theorem join_sz {ws : List Str} {a : Str} (h : ∀ z ∈ ws, z.length ≤ 13) (ha : a.length ≤ 1) (hn : ws.length ≤ 100) : (ws.map (·.length)).sum + ws.length * a.length ≤ 16777216 := by
  have h1 := sum_le h
  have h2 : ws.length * a.length ≤ 100 * 1 := Nat.mul_le_mul hn ha
  omega
/-- a bent row of words -/
structure BentOk (bs : List Str) : Prop where
  wd : ∀ w ∈ bs, w ∈ WD
  n : bs.length ≤ 18
theorem bent_of {ws : List Str} {o : Str} (hw : ∀ w ∈ ws, w ∈ WD) (hn : ws.length ≤ 17) (ho : o ∈ ODW) (a t n : Nat) : BentOk ((((ws.take a ++ [o]) ++ ws.drop (a + t)).filter fun w : Str => !decide (w = "")).take n) := by
  refine ⟨fun w h => ?_, ?_⟩
  · have h := List.mem_filter.mp (List.mem_of_mem_take h)
    have hne : w ≠ "" := by simpa using h.2
    rcases List.mem_append.mp h.1 with h | h
    · rcases List.mem_append.mp h with h | h
      · exact hw w (List.mem_of_mem_take h)
      · rw [List.mem_singleton.mp h] at hne ⊢
        exact (odw_wd o ho).resolve_left hne
    · exact hw w (List.mem_of_mem_drop h)
  · rw [List.length_take]
    refine Nat.le_trans (Nat.min_le_right _ _) (Nat.le_trans (List.length_filter_le _ _) ?_)
    rw [List.length_append, List.length_append, List.length_take, List.length_drop]
    simp only [List.length_cons, List.length_nil]
    omega
theorem BentOk.ok {bs : List Str} (h : BentOk bs) : ∀ w ∈ bs, wdOk w = true := fun w hw => wd_ok w (h.wd w hw)
theorem BentOk.ws {bs : List Str} (h : BentOk bs) : WsOk bs := ⟨Nat.le_trans h.n (by decide), fun z hz => by
  obtain ⟨h1, h2⟩ := wd_len (h.ok z hz)
  exact ⟨by omega, h2⟩⟩
theorem BentOk.sz {bs : List Str} (h : BentOk bs) : (bs.map (·.length)).sum + bs.length * (Str.ofString " ").length ≤ 16777216 := join_sz (fun z hz => by have := (wd_len (h.ok z hz)).1; omega) (by decide +kernel) (Nat.le_trans h.n (by decide))
theorem BentOk.sz2 {bs : List Str} (h : BentOk bs) (i : Nat) : ((bs.take i ++ [DOT]).map (·.length)).sum + (bs.take i ++ [DOT]).length * (Str.ofString " ").length ≤ 16777216 := join_sz (fun z hz => by
  rcases List.mem_append.mp hz with hz | hz
  · have := (wd_len (h.ok z (List.mem_of_mem_take hz))).1
    omega
  · rw [List.mem_singleton.mp hz]
    decide +kernel) (by decide +kernel) (by
  have := h.n
  rw [List.length_append, List.length_take]
  simp only [List.length_cons, List.length_nil]
  omega)
theorem BentOk.len {bs : List Str} (h : BentOk bs) : (bentZ bs).length ≤ 2000 := bent_len h.ok (Nat.le_trans h.n (by decide))
theorem dot_len {bs : List Str} (h : BentOk bs) (i : Nat) : (bentZ (bs.take i ++ [DOT])).length ≤ 2000 := by
  rw [len_of (bentZ_txt _)]
  have := txt_len (ps := psJ (bs.take i ++ [DOT])) (g := []) (fun q hq => by
    obtain ⟨j, hj⟩ := List.getElem?_of_mem hq
    have h1 := List.mem_of_getElem? (psJ_at hj)
    refine ⟨?_, ?_⟩
    · generalize bs.take i ++ [DOT] = l at hq
      cases l with
      | nil => cases hq
      | cons w r =>
        rcases List.mem_cons.mp hq with rfl | hq
        · exact Nat.zero_le _
        · obtain ⟨x, _, rfl⟩ := List.mem_map.mp hq
          exact (by decide : (1 : Nat) ≤ 3)
    · rcases List.mem_append.mp h1 with hz | hz
      · exact (wd_len (h.ok _ (List.mem_of_mem_take hz))).1
      · rw [List.mem_singleton.mp hz]
        decide +kernel) (by decide)
  rw [psJ_len, List.length_append, List.length_take] at this
  have := h.n
  simp only [List.length_cons, List.length_nil] at *
  omega
/-- the place that is told -/
theorem spot_of {bs : List Str} (h : BentOk bs) {i : Nat} (hw : wrongN bs = some i) : i ≤ bs.length ∧ heardC (bentZ bs) = [.str "syntax", .int (if decide ((i : Int) < (bs.length : Int)) = true then ((bentZ (bs.take i ++ [DOT])).length : Int) - 1 else ((bentZ bs).length : Int))] ∧ HrOk (.str (bentZ bs)) := by
  obtain ⟨h1, h2⟩ := bent_syn h.ok hw
  refine ⟨h1, ?_, hr_syn h2 (Nat.le_trans h.len (by decide))⟩
  rw [heard_syn h2]
  by_cases hi : i < bs.length
  · have e : decide ((i : Int) < (bs.length : Int)) = true := decide_eq_true (by omega)
    have hp := posJ hi
    rw [← len_of (bentZ_txt _)] at hp
    rw [if_pos hi, if_pos e, hp]
    have : ((posW (psJ bs) i + 1 : Nat) : Int) - 1 = (posW (psJ bs) i : Int) := by omega
    rw [this]
  · have e : ¬ decide ((i : Int) < (bs.length : Int)) = true := by simp; omega
    rw [if_neg hi, if_neg e]
theorem none_of {bs : List Str} (h : BentOk bs) (hw : wrongN bs = none) : (∃ (x : Str) (r : List PyData), heardC (bentZ bs) = .str x :: r ∧ (["text", "syntax"] : List Str).contains x = false) ∧ HrOk (.str (bentZ bs)) := by
  obtain ⟨ln, ds, k, hc, hl, h3, hd⟩ := bent_ok h.wd h.n hw
  exact ⟨heard_head hc, hr_ok hc (Nat.le_trans h.len (by decide)) (show_num hl) (bad_lv9 hd h3)⟩
theorem map_str_inj : ∀ {a b : List Str}, a.map PyData.str = b.map PyData.str → a = b
  | [], [], _ => rfl
  | [], y :: b, h => by cases h
  | x :: a, [], h => by cases h
  | x :: a, y :: b, h => by
    rw [List.map_cons, List.map_cons] at h
    injection h with h1 h2
    injection h1 with h1
    rw [h1, map_str_inj h2]

end K14

namespace K14
open PySem L2 SZ VR VX StX RT DE
local macro_rules | `(tactic| walk_at "v") => `(tactic| first | exact Or.inl rfl | exact Or.inr (Or.inl rfl) | exact Or.inr (Or.inr rfl))
local macro_rules | `(tactic| walk_at "o") => `(tactic| first
  | (refine fun _ h => ov_eqInt h) | (refine fun _ h => ov_eqStr h) | (refine fun _ h => ov_add h) | (refine fun _ h => ov_sub h) | (refine fun _ h => ov_mod (by decide) h) | (refine fun _ h => ov_lt h) | (refine fun _ h => ov_le h) | (refine fun _ h => ov_gt h) | (refine fun _ h => ov_ge h)
  | (refine fun _ h => ov_neInt h) | (refine fun _ h => ov_neStr h) | (refine fun _ h => ov_isN h) | (refine fun _ h => ov_notN h)
  | exact or_inS (.inl rfl) rfl | exact or_inS (.inr rfl) rfl | exact or_inI (.inl rfl) rfl | exact or_inI (.inr rfl) rfl | exact or_notInS (.inl rfl) rfl | exact or_notInS (.inr rfl) rfl | exact or_notInC | exact or_inC
  | (refine fun _ h => ov_mul (by first | exact .inl ⟨by omega, by omega⟩ | exact .inr ⟨by omega, by omega⟩) h))
local macro_rules | `(tactic| walk_at "c") => `(tactic| first
  | (refine fun _ h => cv_int h) | (refine fun _ h => cv_intB h) | (refine fun _ h => cv_lenT h) | (refine fun _ h => cv_lenL h) | (refine fun _ h => cv_lenO h))
abbrev PreL : List Sl → Prop := fun as => ∃ ns : List Int, as = [.d (.list (ns.map .int))] ∧ ns.length ≤ 63
abbrev ResL : List Sl → Sl → Prop := fun _ r => r = .d (.bool true)
section
variable {P : Program} {w : World} {K : PySem.W.Frag} {mg : Str → Option Value} {base : Heap} {C CV CS CT CI : Addr}
theorem run_law {f : Addr} {fd : FuncData} (F : Fun K "law" "law" S_law f fd) (D : LwD P w K mg base C CV CS CT CI) : RunG P w K mg base CX0 9 f fd ["_law_script"] (spP K PreL ResL) := by
  refine fn_PG F sc_law (fun as h => ?_) (by decide) fun cdv A outer s H E hg hr b as hp => ?_
  · obtain ⟨ns, rfl, _⟩ := h; rfl
  obtain ⟨ns, rfl, hn⟩ := hp
  have gd : (A.deeper (PyProof.Rows.envOfC "law" (defScope S_law) s.heap.objs.size f cdv)).guards = some [] := hg
  have hu := hr.units
  have hr8 : Room 8 (A.deeper (PyProof.Rows.envOfC "law" (defScope S_law) s.heap.objs.size f cdv)) := hr
  have hr1 := hr8.mono (show 1 ≤ 8 by decide)
  have hr2 := hr8.mono (show 2 ≤ 8 by decide)
  have hr6 := hr8.mono (show 6 ≤ 8 by decide)
  have hr7 := hr8.mono (show 7 ≤ 8 by decide)
  have z_len := D.len
  show XB _ _ [.d (.list (ns.map .int)), .un, .un, .un, .un, .un, .un, .un, .un, .un, .un, .un, .un, .un, .un, .un] _ _
  refine xb_cons (xs_for (ts := [1]) PassesOwn.never rfl (by intro _; rfl) ((i_list (r_lst (a_cons r_non (a_cons r_int (a_cons (r_lst (a_cons r_str a_nil) rfl) (a_cons (r_tup (a_cons r_str (a_cons r_int a_nil)) rfl) (a_cons r_bl a_nil))))) rfl) rfl) _ fun _ => ?_))
  refine ⟨fun i ρ' => ∃ s1, ρ' = [.d (.list (ns.map .int)), s1, .un, .un, .un, .un, .un, .un, .un, .un, .un, .un, .un, .un, .un, .un], ⟨_, rfl⟩, ?_, ?_⟩
  · rintro i y ρ' hy hl ⟨s1, rfl⟩
    have hy' : y ∈ ODDS := List.mem_of_getElem? hy
    obtain ⟨o1, o2, o3, o4⟩ := odds_ok hy'
    refine (g_name 1 rfl (by walk_at "v") sc_law.nd rfl) _ fun _ => ?_
    refine xb_one (x_if (t_hne D gd hr8 hu (r_var 1 rfl (by walk_at "v") rfl) o2 o3 (two_sh (by decide +kernel) o4) (r_lst (a_cons r_str (a_cons (r_repr gd hu D.rep (r_var 1 rfl (by walk_at "v") rfl) o1.1 o1.2.1 o1.2.2.1 o1.2.2.2) a_nil)) rfl)) (fun h => (nomatch h)) (fun _ => xb_nil ⟨_, rfl⟩))
  rintro ρ' ⟨s1, rfl⟩ hl
  have hk : ∃ m : Int, 1 ≤ m ∧ m ≤ 6 ∧ m = (if (if (6 : Int) < ((ns.map PyData.int).length : Int) then 6 else ((ns.map PyData.int).length : Int)) > 1 then (if (6 : Int) < ((ns.map PyData.int).length : Int) then 6 else ((ns.map PyData.int).length : Int)) else 1) := by
    refine ⟨_, ?_, ?_, rfl⟩
    · split <;> omega
    · split <;> (try split) <;> omega
  obtain ⟨m, m1, m6, em⟩ := hk
  refine xb_cons (xs_for (ts := [2]) PassesOwn.never rfl (by intro _; rfl) ((i_range D.rng (r_callB (id := "max") D.max (a_cons r_int (a_cons (r_callB (id := "min") D.min (a_cons (r_callB (id := "len") z_len (a_cons (r_var 0 rfl (by walk_at "v") rfl) a_nil) (by walk_at "c")) (a_cons r_int a_nil)) (cr_min2 rfl)) a_nil)) (cr_max2 rfl)) (by rw [← em]; omega) (by rw [← em]; omega)) _ fun _ => ?_))
  rw [← em]
  refine ⟨fun i ρ' => ∃ s1 s2 s3 s4 s5 s6 s7 s8 s9 s10 s11 s12 s13 s14, ρ' = [.d (.list (ns.map .int)), s1, s2, s3, s4, s5, s6, s7, s8, s9, s10, s11, s12, s13, s14, .un], ⟨_, _, _, _, _, _, _, _, _, _, _, _, _, _, rfl⟩, ?_, ?_⟩
  · rintro i y ρ' hy hl ⟨s1, s2, s3, s4, s5, s6, s7, s8, s9, s10, s11, s12, s13, s14, rfl⟩
    obtain ⟨hi, rfl⟩ : i < 6 ∧ y = .int (i : Int) := by
      have h := (List.getElem?_eq_some_iff.mp hy).1
      rw [rngD_len] at h
      rw [rngD_at h] at hy
      cases hy
      exact ⟨by omega, by simp⟩
    refine (g_name 2 rfl (by walk_at "v") sc_law.nd rfl) _ fun _ => ?_
    show XB _ _ [.d (.list (ns.map .int)), s1, .d (.int i), s3, s4, s5, s6, s7, s8, s9, s10, s11, s12, s13, s14, .un] _ _
    refine xb_cons (xs_set 3 sc_law.nd rfl (.inr rfl) (by simp) rfl (.inl rfl) (ev_cal D.pool hr1 rfl pass0 ((a_cons (r_var 0 rfl (by walk_at "v") rfl) (a_cons (r_var 2 rfl (by walk_at "v") rfl) a_nil)) _ ⟨[.list (ns.map .int), .int i], rfl, ⟨ns, i, rfl, by omega, hn⟩, fun r hr' => ?_⟩)))
    obtain ⟨ys, rfl, hy⟩ := hr'
    refine ⟨by simp, fun _ _ => ?_⟩
    refine xb_cons (xs_asg (ts := [4, 5]) (h := ev_calL 3 D.cache hr2 rfl pass0 rfl (by walk_at "v") (ea_nil ⟨[], rfl, _, ys, rfl, .inl rfl, ⟨hy, rfl⟩, fun r ys1 hr' => ?_⟩) ⟨_, _, rfl, .inl rfl⟩))
    obtain ⟨hy1, ln, ds, rfl, hln, d1, d3, hd⟩ := hr'
    refine ⟨by simp, fun _ => ?_⟩
    refine (g_tup rfl (gs_cons (g_name 4 rfl (by walk_at "v") sc_law.nd rfl) (gs_cons (g_name 5 rfl (by walk_at "v") sc_law.nd rfl) gs_nil))) _ fun _ _ => ?_
    show XB _ _ [.d (.list (ns.map .int)), s1, .d (.int i), .own ys1, .d (.int ln), .d (.tuple ds), s6, s7, s8, s9, s10, s11, s12, s13, s14, .un] _ _
    have g1 := good_ln hln
    have g2 := bad_mk d1 d3 hd
    have hT := tog12' hd
    have g3 : (togN ds : Int) * ln ≤ 64 := by
      have : (togN ds : Int) * ln ≤ 12 * 4 := Int.mul_le_mul (by omega) (by omega) (by omega) (by omega)
      omega
    have hn9 : ln ∈ NUMS := by rcases hln with rfl | rfl | rfl <;> decide
    have h9 : ∀ d ∈ ds, Lv9 d := fun d h => (hd d h).nine
    have hwd := cw_wd hln hd
    have hwo : ∀ w ∈ cacheW ln ds, wdOk w = true := fun w hw => wd_ok w (hwd w hw)
    have hwn : (cacheW ln ds).length ≤ 17 := by rw [cw_len h9]; omega
    have hwz : ((cacheW ln ds).map (·.length)).sum + (cacheW ln ds).length * (Str.ofString " ").length ≤ 16777216 := join_sz (fun z hz => by have := (wd_len (hwo z hz)).1; omega) (by decide +kernel) (by omega)
    refine xb_cons (xs_par 6 7 rfl sc_law.nd rfl rfl (by decide) (by simp) (by simp) rfl rfl (ea_cons (h := (r_cool (r_cal D.words hr1 pass0 (a_cons (r_var 4 rfl (by walk_at "v") rfl) (a_cons (r_var 5 rfl (by walk_at "v") rfl) a_nil)) rfl ⟨ln, ds, rfl, by omega, by omega, d3, fun d h => (hd d h).lv⟩ (fun r' h => by obtain ⟨l', d', e, rfl⟩ := h; cases e; rfl))) _ (ea_cons (h := (r_cache D hr6 (a_cons (r_var 4 rfl (by walk_at "v") rfl) (a_cons (r_var 5 rfl (by walk_at "v") rfl) a_nil)) g1 g2 g3) _ (ea_nil fun _ => ⟨_, _, rfl, fun _ => ?_⟩))))) rfl)
    show XB _ _ [.d (.list (ns.map .int)), s1, .d (.int i), .own ys1, .d (.int ln), .d (.tuple ds), .d (.list ((cacheW ln ds).map .str)), ChF K C ln ds, s8, s9, s10, s11, s12, s13, s14, .un] _ _
    have hgw := bentZ_txt (cacheW ln ds)
    have hlv : ∀ d ∈ ds, lvlD d = true := fun d h => (hd d h).lvl
    have l18 : 1 ≤ ln ∧ ln ≤ 8 := by omega
    have hco : cacheM (tokz (bentZ (cacheW ln ds))) = .ok (ln, ds) (psJ (cacheW ln ds)).length := cache_words (psJ_ok hwo) hgw (wsOf_psJ _) hn9 h9
    have hzl : (bentZ (cacheW ln ds)).length ≤ 2000 := bent_len hwo (by omega)
    obtain ⟨fS, dS, MS, bS, GS⟩ := D.show_
    obtain ⟨mc, pR, fR, cr, cm, GR⟩ := D.read
    obtain ⟨fe, de, he, ie, be, Ge⟩ := D.eq
    refine xb_cons (x_if (t_w (w_or (t_cmp (r_show 7 (pe_meth0 (pe_var rfl (by walk_at "v")) D.Z.kit.cl MS GS hr1 bS .nil pass0) rfl l18.1 l18.2 d3 hlv) (r_join r_str (r_var 6 rfl (by walk_at "v") rfl) (.inl rfl) hwz) (by walk_at "o")) fun _ => (w_or1 (t_old (c := false) (pt_cmpR (op_ownNe (C := C) D.ne D.Z.kit.hm he ie Ge hr2 be pass0) (ClX.pe_cmeth (pl := _) (pe_glob (by rfl) D.Z.mgC (v := .ref C) rfl) cr cm GR hr7 passF (pa_cons (pe_meth0 (pe_var (i := 7) rfl (by walk_at "v")) D.Z.kit.cl MS GS hr1 bS .nil pass0) pa_nil)) (pe_var (i := 7) rfl (by walk_at "v")) (nomark _)) (fun σ H L Q l hh q => ?_))))) (fun h0 => ?_) (fun _ => ?_))
    · obtain ⟨a, ha, hc0⟩ := cell_at (i := 7) l hh rfl
      obtain ⟨dx, lv, h1, h2⟩ := id hc0
      have hsh := tup_shaped d1 d3 hd
      refine ⟨rfl, .ref a, ha, a, dx, _, rfl, h1, rfl, a, ln, ds, rfl, hc0, l18.1, l18.2, d3, hlv, fun H1 sA => ?_⟩
      refine ⟨.str (bentZ (cacheW ln ds)), rfl, .inr ⟨_, rfl, Nat.le_trans hzl (by decide), ?_⟩⟩
      rw [hco]
      refine ⟨fun c => (by rw [g1] at c; cases c), fun _ => ⟨fun b' eb => (by rw [g2] at eb; cases eb), fun _ => ⟨fun h => absurd g3 (by omega), fun _ x H2 sB hx => ?_⟩⟩⟩
      refine ⟨.ref a, ha, own_go (neg := true) (c := true) D.Z hx hsh (hc0.same (sA.trans sB)) hsh ?_ ⟨_, rfl, q H2 (sA.trans sB)⟩⟩
      rw [decide_eq_true rfl, PySem.SeqAt.eqv_refl _ (lst_sh d1 d3 hd).2.1]
      rfl
    · simp at h0
    refine xb_nil (fun _ => ?_)
    refine xb_cons (xs_set 8 sc_law.nd rfl (.inr rfl) (by simp) rfl (.inl rfl) ((r_cool (r_lst (a_cons r_str (a_cons r_str (a_cons r_str (a_cons r_str a_nil)))) rfl)) _ fun _ _ => ?_))
    show XB _ _ [.d (.list (ns.map .int)), s1, .d (.int i), .own ys1, .d (.int ln), .d (.tuple ds), .d (.list ((cacheW ln ds).map .str)), ChF K C ln ds, .d (.list (GAPS.map .str)), s9, s10, s11, s12, s13, s14, .un] _ _
    refine xb_cons (xs_set 9 sc_law.nd rfl (by walk_at "v") (by simp) rfl (.inl rfl) (ev_bin (ev_join (r_str _ ⟨_, rfl, ev_lc (own := [("_law_word", 15)]) rfl sc_law.nd (blkOk_by (N := ["_law_script", "_law_odd", "_law_k", "_law_pool_here", "_law_line", "_law_levels", "_law_words_here", "_law_made", "_law_gaps", "_law_text", "_law_turn", "_law_at", "_law_bent", "_law_wrong_here", "_law_spot", "_law_word"]) (sc := defScope S_law) (by decide +kernel)) ((i_list (r_var 6 rfl (by walk_at "v") rfl) rfl) _ fun _ => ?_)⟩))))
    refine ⟨fun j acc ρ' => ∃ (qs : List (Str × Str)) (ys2 : List PyData), qs.map (·.2) = (cacheW ln ds).take j ∧ (∀ q ∈ qs, q.1 ∈ GAPS) ∧ acc = qs.map (fun q => .str (q.1 ++ q.2)) ∧ PoolD ys2 ∧ ρ' = [.d (.list (ns.map .int)), s1, .d (.int i), .own ys2, .d (.int ln), .d (.tuple ds), .d (.list ((cacheW ln ds).map .str)), ChF K C ln ds, .d (.list (GAPS.map .str)), s9, s10, s11, s12, s13, s14, .un], ⟨[], ys1, by simp, by simp, rfl, hy1, rfl⟩, ?_, ?_, ?_⟩
    · rintro j acc ρ' ⟨qs, ys2, _, _, _, _, rfl⟩ v hv
      rw [List.mem_singleton.mp hv]
      rfl
    · rintro j y acc ρ' hy2 hl2 ⟨qs, ys2, hq1, hq2, rfl, hy3, rfl⟩
      rw [List.getElem?_map] at hy2
      obtain ⟨w', hw1, rfl⟩ := Option.map_eq_some_iff.mp hy2
      have hwm : w' ∈ cacheW ln ds := List.mem_of_getElem? hw1
      have hjn : j < (cacheW ln ds).length := (List.getElem?_eq_some_iff.mp hw1).1
      have hqn : qs.length ≤ 17 := by
        have := congrArg List.length hq1
        rw [List.length_map, List.length_take] at this
        omega
      have htk : (cacheW ln ds).take (j + 1) = (cacheW ln ds).take j ++ [w'] := by rw [List.take_add_one, hw1]; rfl
      refine ⟨fun ρ2 => ρ2 = [.d (.list (ns.map .int)), s1, .d (.int i), .own ys2, .d (.int ln), .d (.tuple ds), .d (.list ((cacheW ln ds).map .str)), ChF K C ln ds, .d (.list (GAPS.map .str)), s9, s10, s11, s12, s13, s14, .d (.str w')], fun s H C2 cl fp => (g_name 15 rfl (by walk_at "v") sc_law.nd rfl) _ rfl, fun ρ2 e2 => ?_⟩
      subst e2
      refine ⟨fun c ρ3 => c = true ∧ ρ3 = [.d (.list (ns.map .int)), s1, .d (.int i), .own ys2, .d (.int ln), .d (.tuple ds), .d (.list ((cacheW ln ds).map .str)), ChF K C ln ds, .d (.list (GAPS.map .str)), s9, s10, s11, s12, s13, s14, .d (.str w')], fun s H C2 cl fp => ts_nil _ ⟨rfl, rfl⟩, fun c ρ3 e3 => ?_⟩
      obtain ⟨rfl, rfl⟩ := e3
      refine ⟨fun h => (nomatch h), fun _ => ⟨by rw [List.length_map, sizeLine_eq]; omega, fun s H C' cl fp => ev_bin (ev_menu (r_var 8 rfl (by walk_at "v") rfl) (.inl rfl) (ev_take 3 D.take hr1 rfl (by walk_at "v") pass0 rfl (.inl rfl) hy3 (wd := 4) r_int (by decide) (by decide) fun r ys4 r0 r1 hy4 => ⟨_, rfl, r0, r1, fun y hm => ?_⟩))⟩⟩
      have hyg : ∃ g : Str, y = .str g ∧ g ∈ GAPS := by
        have := List.mem_of_getElem? hm
        obtain ⟨g, hg, rfl⟩ := List.mem_map.mp this
        exact ⟨g, rfl, hg⟩
      obtain ⟨g, rfl, hgg⟩ := hyg
      have hgl : g.length ≤ 3 := by
        have := gaps_all g hgg
        rw [Bool.and_eq_true, Bool.and_eq_true, decide_eq_true_iff] at this
        exact this.2.2
      have hwl := (wd_len (hwo w' hwm)).1
      refine (r_var 15 rfl (by walk_at "v") rfl) _ (ov_addS (by rw [sizeLine_eq]; omega) ⟨_, rfl, qs ++ [(g, w')], ys4, ?_, ?_, ?_, hy4, rfl⟩)
      · rw [List.map_append, hq1, htk]
        rfl
      · intro q hq
        rcases List.mem_append.mp hq with h | h
        · exact hq2 q h
        · rw [List.mem_singleton.mp h]
          exact hgg
      · rw [List.map_append]
        rfl
    rintro acc ρ' ⟨qs, ys2, hq1, hq2, rfl, hy3, rfl⟩
    rw [List.length_map, List.take_length] at hq1
    have hq3 : ∀ q ∈ qs, wdOk q.2 = true := fun q hq => hwo _ (by rw [← hq1]; exact List.mem_map_of_mem hq)
    have hqn : qs.length ≤ 17 := by
      have := congrArg List.length hq1
      rw [List.length_map] at this
      omega
    have hql : ∀ q ∈ qs, (q.1 ++ q.2).length ≤ 13 := fun q hq => by
      have h1 := gaps_all q.1 (hq2 q hq)
      rw [Bool.and_eq_true, Bool.and_eq_true, decide_eq_true_iff] at h1
      have h2 := (wd_len (hq3 q hq)).1
      rw [Str.length_append]
      omega
    refine ⟨qs.map fun q => q.1 ++ q.2, .inl (by rw [List.map_map]; rfl), join_sz (fun z hz => ?_) (by decide +kernel) (by rw [List.length_map]; omega), ?_⟩
    · obtain ⟨q, hq, rfl⟩ := List.mem_map.mp hz
      exact hql q hq
    refine ev_menu (r_var 8 rfl (by walk_at "v") rfl) (.inl rfl) (ev_take 3 D.take hr1 rfl (by walk_at "v") pass0 rfl (.inl rfl) hy3 (wd := 4) r_int (by decide) (by decide) fun r ys4 r0 r1 hy4 => ⟨_, rfl, r0, r1, fun y hm => ?_⟩)
    have hyg : ∃ g : Str, y = .str g ∧ g ∈ GAPS := by
      have := List.mem_of_getElem? hm
      obtain ⟨g, hg, rfl⟩ := List.mem_map.mp this
      exact ⟨g, rfl, hg⟩
    obtain ⟨g, rfl, hgg⟩ := hyg
    have hpk := gap_ok hq2 hq3 hgg
    have hpt := gap_txt qs g
    have hpl := gap_len hq2 hq3 hgg (by omega)
    have hpw : wsOf (psG qs) = cacheW ln ds := by rw [wsOf_psG, hq1]
    refine ov_addS (by rw [Str.length_append] at hpl; rw [sizeLine_eq]; omega) fun _ _ => ?_
    generalize Txt.join (Str.ofString "") (qs.map fun q => q.1 ++ q.2) ++ g = tz at hpt hpl
    show XB _ _ [.d (.list (ns.map .int)), s1, .d (.int i), .own ys4, .d (.int ln), .d (.tuple ds), .d (.list ((cacheW ln ds).map .str)), ChF K C ln ds, .d (.list (GAPS.map .str)), .d (.str tz), s10, s11, s12, s13, s14, .un] _ _
    refine xb_cons (x_if (t_hne D gd hr8 hu (r_var 9 rfl (by walk_at "v") rfl) (hr_fine hpk hpt hpw (by omega) hn9 d3 hd) (heard_fine hpk hpt hpw hln d1 d3 hd) (two_sh (by decide +kernel) (str_ok (psJ_ok hwo) hgw)) (r_lst (a_cons r_str (a_cons (r_join r_str (r_var 6 rfl (by walk_at "v") rfl) (.inl rfl) hwz) a_nil)) rfl)) (fun h0 => (nomatch h0)) (fun _ => ?_))
    refine xb_nil (fun _ => ?_)
    refine xb_cons (xs_set 1 sc_law.nd rfl (by walk_at "v") (by simp) rfl (.inl rfl) ((r_cool (r_lst (a_cons r_str (a_cons r_str (a_cons r_str (a_cons r_str (a_cons r_str (a_cons r_str (a_cons r_str (a_cons r_str (a_cons r_str (a_cons r_str (a_cons r_str (a_cons r_str (a_cons r_str a_nil))))))))))))) rfl)) _ fun _ _ => ?_))
    show XB _ _ [.d (.list (ns.map .int)), .d (.list (ODW.map .str)), .d (.int i), .own ys4, .d (.int ln), .d (.tuple ds), .d (.list ((cacheW ln ds).map .str)), ChF K C ln ds, .d (.list (GAPS.map .str)), .d (.str tz), s10, s11, s12, s13, s14, .un] _ _
    have hlw : ((cacheW ln ds).map PyData.str).length = (cacheW ln ds).length := List.length_map _
    refine xb_cons (xs_for (ts := [10]) PassesOwn.never rfl (by intro _; rfl) ((i_range D.rng r_int (by decide) (by decide)) _ fun _ => ?_))
    refine ⟨fun j ρ' => ∃ ys5 t10 t11 t12 t13 t14, ρ' = [.d (.list (ns.map .int)), .d (.list (ODW.map .str)), .d (.int i), .own ys5, .d (.int ln), .d (.tuple ds), .d (.list ((cacheW ln ds).map .str)), ChF K C ln ds, .d (.list (GAPS.map .str)), .d (.str tz), t10, t11, t12, t13, t14, .un] ∧ PoolD ys5, ⟨_, _, _, _, _, _, rfl, hy4⟩, ?_, ?_⟩
    · rintro j y ρ' hyj hlj ⟨ys5, t10, t11, t12, t13, t14, rfl, hy5⟩
      refine (g_name 10 rfl (by walk_at "v") sc_law.nd rfl) _ fun _ => ?_
      refine xb_cons (xs_set 11 sc_law.nd rfl (by walk_at "v") (by simp) rfl (.inl rfl) (ev_take 3 D.take hr1 rfl (by walk_at "v") pass0 rfl (.inl rfl) hy5 (r_bin (r_callB (id := "len") z_len (a_cons (r_var 6 rfl (by walk_at "v") rfl) a_nil) (by walk_at "c")) r_int (by walk_at "o")) (by omega) (by rw [hlw]; omega) fun r ys6 r0 r1 hy6 => fun _ _ => ?_))
      obtain ⟨a, rfl⟩ : ∃ a : Nat, r = (a : Int) := ⟨r.toNat, (Int.toNat_of_nonneg r0).symm⟩
      show XB _ _ [.d (.list (ns.map .int)), .d (.list (ODW.map .str)), .d (.int i), .own ys6, .d (.int ln), .d (.tuple ds), .d (.list ((cacheW ln ds).map .str)), ChF K C ln ds, .d (.list (GAPS.map .str)), .d (.str tz), .d y, .d (.int a), t12, t13, t14, .un] _ _
      refine xb_cons (xs_set 12 sc_law.nd rfl (by walk_at "v") (by simp) rfl (.inl rfl) (ev_cool (ev_bin (ev_bin ((r_slice (r_var 6 rfl (by walk_at "v") rfl) (fun _ => o_none) (fun _ => o_some (r_var 11 rfl (by walk_at "v") rfl)) (fun _ h => cut_take rfl (by omega) h)) _ (ev_lstD (ea_cons (h := ev_menu (r_var 1 rfl (by walk_at "v") rfl) (.inl rfl) (ev_take 3 D.take hr1 rfl (by walk_at "v") pass0 rfl (.inl rfl) hy6 (wd := 13) r_int (by decide) (by decide) fun r ys7 r0 r1 hy7 => ⟨_, rfl, r0, r1, fun yo hm => ea_nil ⟨_, rfl, by simp, ?_⟩⟩)))))))))
      have hyo : ∃ g : Str, yo = .str g ∧ g ∈ ODW := by
        have := List.mem_of_getElem? hm
        obtain ⟨g, hg, rfl⟩ := List.mem_map.mp this
        exact ⟨g, rfl, hg⟩
      obtain ⟨o, rfl, ho⟩ := hyo
      refine ov_cat (by rw [sizeLine_eq, List.length_take, hlw]; simp only [List.length_cons, List.length_nil]; omega) ?_
      refine ev_slice ((r_var 6 rfl (by walk_at "v") rfl) _ ⟨by simp, ev_bin ((r_var 11 rfl (by walk_at "v") rfl) _ (ev_take 3 D.take hr1 rfl (by walk_at "v") pass0 rfl (.inl rfl) hy7 (wd := 2) r_int (by decide) (by decide) fun r ys8 q0 q1 hy8 => ov_add ⟨_, rfl, cut_drop rfl (by omega) (ov_cat ?_ fun _ _ => ?_)⟩))⟩)
      · rw [sizeLine_eq, List.length_append, List.length_take, List.length_drop, hlw]
        simp only [List.length_cons, List.length_nil]
        omega
      obtain ⟨t, rfl⟩ : ∃ t : Nat, r = (t : Int) := ⟨r.toNat, (Int.toNat_of_nonneg q0).symm⟩
      have eb : ((cacheW ln ds).map PyData.str).take (a : Int).toNat ++ [PyData.str o] ++ ((cacheW ln ds).map PyData.str).drop ((a : Int) + (t : Int)).toNat = ((cacheW ln ds).take a ++ [o] ++ (cacheW ln ds).drop (a + t)).map .str := by
        rw [List.map_append, List.map_append, List.map_take, List.map_drop, show ((a : Int) + (t : Int)).toNat = a + t by omega, Int.toNat_natCast]
        rfl
      show XB _ _ [.d (.list (ns.map .int)), .d (.list (ODW.map .str)), .d (.int i), .own ys8, .d (.int ln), .d (.tuple ds), .d (.list ((cacheW ln ds).map .str)), ChF K C ln ds, .d (.list (GAPS.map .str)), .d (.str tz), .d y, .d (.int a), .d (.list (((cacheW ln ds).map PyData.str).take (a : Int).toNat ++ [PyData.str o] ++ ((cacheW ln ds).map PyData.str).drop ((a : Int) + (t : Int)).toNat)), t13, t14, .un] _ _
      rw [eb]
      have hbo := fun n => bent_of (ws := cacheW ln ds) hwd hwn ho a t n
      have hb0 : ((cacheW ln ds).take a ++ [o] ++ (cacheW ln ds).drop (a + t)).length ≤ 18 := by
        rw [List.length_append, List.length_append, List.length_take, List.length_drop]
        simp only [List.length_cons, List.length_nil]
        omega
      generalize (cacheW ln ds).take a ++ [o] ++ (cacheW ln ds).drop (a + t) = b0 at hbo hb0
      refine xb_cons (xs_set 12 sc_law.nd rfl (by walk_at "v") (by simp) rfl (.inl rfl) (ev_cool (ev_slice ((r_lc (own := [("_law_word", 15)]) b0 .str (fun w => !decide (w = "")) .str (fun w => [.d (.list (ns.map .int)), .d (.list (ODW.map .str)), .d (.int i), .own ys8, .d (.int ln), .d (.tuple ds), .d (.list ((cacheW ln ds).map .str)), ChF K C ln ds, .d (.list (GAPS.map .str)), .d (.str tz), .d y, .d (.int a), .d (.list (b0.map .str)), t13, t14, .d (.str w)]) (i_list (r_var 12 rfl (by walk_at "v") rfl) rfl) rfl rfl sc_law.nd (blkOk_by (N := ["_law_script", "_law_odd", "_law_k", "_law_pool_here", "_law_line", "_law_levels", "_law_words_here", "_law_made", "_law_gaps", "_law_text", "_law_turn", "_law_at", "_law_bent", "_law_wrong_here", "_law_spot", "_law_word"]) (sc := defScope S_law) (by decide +kernel)) (by intro v hv; rw [List.mem_singleton.mp hv]; rfl) (by omega) ?_ ?_ ?_ ?_) _ ⟨by simp, ev_bin (r_int _ (ev_take 3 D.take hr1 rfl (by walk_at "v") pass0 rfl (.inl rfl) hy8 (wd := 30) r_int (by decide) (by decide) fun r ys9 p0 p1 hy9 => ov_add ⟨_, rfl, cut_take rfl (by omega) (fun _ _ => ?_)⟩))⟩))))
      · exact fun c hc s H C2 cl fp => g_name 15 rfl (by walk_at "v") sc_law.nd rfl
      · exact fun c hc => rfl
      · exact fun c hc s H C2 cl fp => ts_one (t_cmp (r_var 15 rfl (by walk_at "v") rfl) r_str (by walk_at "o"))
      · exact fun c hc _ => ⟨_, fun s H C2 cl fp => r_var 15 rfl (by walk_at "v") rfl, rfl⟩
      have hB := hbo (1 + r).toNat
      show XB _ _ [.d (.list (ns.map .int)), .d (.list (ODW.map .str)), .d (.int i), .own ys9, .d (.int ln), .d (.tuple ds), .d (.list ((cacheW ln ds).map .str)), ChF K C ln ds, .d (.list (GAPS.map .str)), .d (.str tz), .d y, .d (.int a), .d (.list (((b0.filter fun w : Str => !decide (w = "")).map PyData.str).take (1 + r).toNat)), t13, t14, .un] _ _
      rw [← List.map_take]
      generalize (b0.filter fun w : Str => !decide (w = "")).take (1 + r).toNat = bs at hB
      refine xb_cons (x_set 13 (r := .d (wrongD bs)) (r_cal D.wrong hr2 pass0 (a_cons (r_var 12 rfl (by walk_at "v") rfl) a_nil) rfl ⟨bs, rfl, hB.ws⟩ (fun r' h => by
        obtain ⟨w', e, rfl⟩ := h
        have e : (bs.map PyData.str) = (w'.map PyData.str) := by
          injection e with e1 _
          injection e1 with e1
          injection e1
        rw [map_str_inj e])) rfl (by walk_at "v") sc_law.nd rfl (fun _ => ?_))
      have hbl : (bs.map PyData.str).length = bs.length := List.length_map _
      have hend : ∀ t13 t14 : Sl, ∃ ys5 t10 t11 t12 u13 u14, [.d (.list (ns.map .int)), .d (.list (ODW.map .str)), .d (.int i), .own ys9, .d (.int ln), .d (.tuple ds), .d (.list ((cacheW ln ds).map .str)), ChF K C ln ds, .d (.list (GAPS.map .str)), .d (.str tz), .d y, .d (.int a), .d (.list (bs.map .str)), t13, t14, .un] = [.d (.list (ns.map .int)), .d (.list (ODW.map .str)), .d (.int i), .own ys5, .d (.int ln), .d (.tuple ds), .d (.list ((cacheW ln ds).map .str)), ChF K C ln ds, .d (.list (GAPS.map .str)), .d (.str tz), t10, t11, t12, u13, u14, .un] ∧ PoolD ys5 := fun t13 t14 => ⟨_, _, _, _, _, _, rfl, hy9⟩
      cases hw : wrongN bs with
      | none =>
        have hD : wrongD bs = .none := by unfold wrongD; rw [hw]
        rw [hD]
        obtain ⟨⟨x, rr, hx1, hx2⟩, hx3⟩ := none_of hB hw
        refine xb_one (x_if (t_cmp (r_var 13 rfl (by walk_at "v") rfl) r_non (by walk_at "o")) (fun h0 => ?_) (fun _ => ?_))
        · cases h0
        refine xb_one (x_if (t_cmp (r_ix (r_heard D gd hr8 (r_join r_str (r_var 12 rfl (by walk_at "v") rfl) (.inl rfl) hB.sz) hx3 hx1) r_int (ir_at (.inl rfl) (by exact atN (j := 0) rfl))) (r_lst (a_cons r_str (a_cons r_str a_nil)) rfl) (or_inS (.inl rfl) rfl)) (fun h0 => ?_) (fun _ => xb_nil (hend _ _)))
        rw [hx2] at h0
        cases h0
      | some i' =>
        have hD : wrongD bs = .int (i' : Int) := by unfold wrongD; rw [hw]
        rw [hD]
        obtain ⟨hx1, hx2, hx3⟩ := spot_of hB hw
        have et : (bs.map PyData.str).take ((i' : Int)).toNat ++ [PyData.str "."] = (bs.take i' ++ [DOT]).map PyData.str := by
          rw [List.map_append, List.map_take, Int.toNat_natCast]
          rfl
        refine xb_one (x_if (t_cmp (r_var 13 rfl (by walk_at "v") rfl) r_non (by walk_at "o")) (fun _ => ?_) (fun h0 => ?_))
        rotate_left
        · cases h0
        refine xb_cons (x_set 14 (r_ifI (t_cmp (r_var 13 rfl (by walk_at "v") rfl) (r_callB (id := "len") z_len (a_cons (r_var 12 rfl (by walk_at "v") rfl) a_nil) (by walk_at "c")) (by walk_at "o")) (fun _ => r_bin (r_callB (id := "len") z_len (a_cons (r_join (ys := bs.take i' ++ [DOT]) r_str (r_bin (r_slice (r_var 12 rfl (by walk_at "v") rfl) (fun _ => o_none) (fun _ => o_some (r_var 13 rfl (by walk_at "v") rfl)) (fun _ h => cut_take rfl (by omega) h)) (r_lst (a_cons r_str a_nil) rfl) (or_cat (by rw [sizeLine_eq, List.length_take, hbl]; have := hB.n; simp only [List.length_cons, List.length_nil]; omega))) (.inl (congrArg (fun l => Sl.d (.list l)) et)) (hB.sz2 i')) a_nil) (cr_lenS (Nat.le_trans (dot_len hB i') (by rw [sizeLine_eq]; decide)))) r_int (by walk_at "o"))
          (fun _ => r_callB (id := "len") z_len (a_cons (r_join r_str (r_var 12 rfl (by walk_at "v") rfl) (.inl rfl) hB.sz) a_nil) (cr_lenS (Nat.le_trans hB.len (by rw [sizeLine_eq]; decide))))) rfl (by walk_at "v") sc_law.nd rfl (fun _ => ?_))
        rw [hbl]
        refine xb_one (x_if (t_hne D gd hr8 hu (r_join r_str (r_var 12 rfl (by walk_at "v") rfl) (.inl rfl) hB.sz) hx3 hx2 (syn_sh (by decide +kernel)) (r_lst (a_cons r_str (a_cons (r_var 14 rfl (by walk_at "v") rfl) a_nil)) rfl)) (fun h0 => (nomatch h0)) (fun _ => xb_nil (hend _ _)))
    · rintro ρ' ⟨ys5, t10, t11, t12, t13, t14, rfl, hy5⟩ hl5
      have h9c : (["line", "9"] : List Str) ++ (cacheW ln ds).drop 2 = cacheW 9 ds := cw_cut
      have hw9 : ∀ w ∈ cacheW 9 ds, wdOk w = true := fun w hw => by
        obtain ⟨j, hj⟩ := List.getElem?_of_mem hw
        exact (cw_right (by decide) h9 hj).2
      have hn9' : (cacheW 9 ds).length ≤ 17 := by rw [cw_len h9]; omega
      have e9 : ([PyData.str "line", PyData.str "9"] : List PyData) ++ ((cacheW ln ds).map PyData.str).drop (2 : Int).toNat = (cacheW 9 ds).map .str := by
        rw [← h9c, List.map_append, List.map_drop]
        rfl
      have hz9 : ((cacheW 9 ds).map (·.length)).sum + (cacheW 9 ds).length * (Str.ofString " ").length ≤ 16777216 := join_sz (fun z hz => by have := (wd_len (hw9 z hz)).1; omega) (by decide +kernel) (by omega)
      have ho9 : HrOk (.str (bentZ (cacheW 9 ds))) := hr_fine (psJ_ok hw9) (bentZ_txt _) (wsOf_psJ _) (Nat.le_trans (bent_len hw9 (by omega)) (by decide)) (by decide) d3 hd
      have he9 : heardC (bentZ (cacheW 9 ds)) = [.str "cache", .str "9"] := heard_nine (psJ_ok hw9) (bentZ_txt _) (wsOf_psJ _) hd
      refine xb_cons (x_if (t_hne D gd hr8 hu (r_join (ys := cacheW 9 ds) r_str (r_bin (r_lst (a_cons r_str (a_cons r_str a_nil)) rfl) (r_slice (r_var 6 rfl (by walk_at "v") rfl) (fun _ => o_some r_int) (fun _ => o_none) (fun _ h => cut_drop rfl (by decide) h)) (or_cat (by rw [sizeLine_eq, List.length_drop, hlw]; simp only [List.length_cons, List.length_nil]; omega))) (.inl (congrArg (fun l => Sl.d (.list l)) e9)) hz9) ho9 he9 (two_sh (by decide +kernel) (by decide +kernel)) (r_lst (a_cons r_str (a_cons r_str a_nil)) rfl)) (fun h0 => (nomatch h0)) (fun _ => ?_))
      refine xb_nil (fun _ => ?_)
      obtain ⟨⟨bb, hm1⟩, hm2⟩ := heard_more hln d3 hd
      have hsz : (Txt.join (Str.ofString " ") (cacheW ln ds)).length + (Str.ofString " level 0 1 tree back").length ≤ sizeLine := by
        have h1 : (Str.ofString " level 0 1 tree back").length = 20 := by decide +kernel
        have h2 : (Txt.join (Str.ofString " ") (cacheW ln ds)).length ≤ 2000 := hzl
        rw [sizeLine_eq]
        omega
      refine xb_one (x_if (t_cmp (r_ix (r_heard D gd hr8 (r_bin (r_join r_str (r_var 6 rfl (by walk_at "v") rfl) (.inl rfl) hwz) r_str (or_addS hsz)) hm2 hm1) r_int (ir_at (.inl rfl) rfl)) r_str (by walk_at "o")) (fun h0 => ?_) (fun _ => xb_nil ⟨_, _, _, _, _, _, _, _, _, _, _, _, _, _, rfl⟩))
      simp at h0
  · rintro ρ' ⟨s1, s2, s3, s4, s5, s6, s7, s8, s9, s10, s11, s12, s13, s14, rfl⟩ hl
    refine xb_cons (x_if (t_w (w_or (t_hne D gd hr8 hu (r_bin (r_bin r_str (r_bin r_str r_int (or_mulS mul_ok)) (or_addS (by rw [sizeLine_eq]; decide +kernel))) r_str (or_addS (by rw [sizeLine_eq]; decide +kernel))) heard_big.2 heard_big.1 (two_sh (by decide +kernel) (by decide +kernel)) (r_lst (a_cons r_str (a_cons r_str a_nil)) rfl)) fun _ => (w_or1 (t_hne D gd hr8 hu r_str heard_2.2 heard_2.1 (two_sh (by decide +kernel) (by decide +kernel)) (r_lst (a_cons r_str (a_cons r_str a_nil)) rfl))))) (fun h0 => (nomatch h0)) (fun h0 => ?_))
    refine xb_nil (fun _ => ?_)
    refine xb_one (x_ret (r_and (r_heq D gd hr8 hu r_str heard_0.2 heard_0.1 (syn_sh (by decide +kernel)) (r_lst (a_cons r_str (a_cons r_int a_nil)) rfl)) fun _ => (r_one (r_heq D gd hr8 hu r_str heard_12.2 heard_12.1 (syn_sh (by decide +kernel)) (r_lst (a_cons r_str (a_cons r_int a_nil)) rfl)))) ?_)
    exact ⟨rfl, by simp⟩
end

end K14

namespace K14
open PySem L2 SZ VR VX StX RT DE
local macro_rules | `(tactic| walk_at "v") => `(tactic| first | exact Or.inl rfl | exact Or.inr (Or.inl rfl) | exact Or.inr (Or.inr rfl))
local macro_rules | `(tactic| walk_at "o") => `(tactic| first
  | (refine fun _ h => ov_eqInt h) | (refine fun _ h => ov_eqStr h) | (refine fun _ h => ov_add h) | (refine fun _ h => ov_sub h) | (refine fun _ h => ov_mod (by decide) h) | (refine fun _ h => ov_lt h) | (refine fun _ h => ov_le h) | (refine fun _ h => ov_gt h) | (refine fun _ h => ov_ge h)
  | (refine fun _ h => ov_neInt h) | (refine fun _ h => ov_neStr h) | (refine fun _ h => ov_isN h) | (refine fun _ h => ov_notN h)
  | exact or_inS (.inl rfl) rfl | exact or_inS (.inr rfl) rfl | exact or_inI (.inl rfl) rfl | exact or_inI (.inr rfl) rfl | exact or_notInS (.inl rfl) rfl | exact or_notInS (.inr rfl) rfl | exact or_notInC | exact or_inC
  | (refine fun _ h => ov_mul (by first | exact .inl ⟨by omega, by omega⟩ | exact .inr ⟨by omega, by omega⟩) h))
local macro_rules | `(tactic| walk_at "c") => `(tactic| first
  | (refine fun _ h => cv_int h) | (refine fun _ h => cv_intB h) | (refine fun _ h => cv_lenT h) | (refine fun _ h => cv_lenL h) | (refine fun _ h => cv_lenO h))
/-! ### own errors in the written part -/
abbrev veM (far : Addr) : List Value := [.ref far, .type "ValueError", .type "Exception", .type "BaseException", .type "object"]
/-- what the top says of an error class at C -/
structure ErX (K : PySem.W.Frag) (mg : Str → Option Value) (x : Str) (C far : Addr) (f : Str) : Prop where
  l : ∃ nm q N bs sn sub ab col dd k0 k1 k2 k3 k5, K.lookup C = some (excClassObj nm q C N bs (veM far) true sn sub ab col dd k0 k1 k2 k3 k5 "ValueError.__new__")
  sa : PySem.W.findIn K (.ref C) "__setattr__" = some (some (.builtin "object.__setattr__"))
  kC : PySem.W.keepIn K (.ref C) = true
  ga : PySem.W.findIn K (.ref C) "__getattribute__" = some (some (.builtin "BaseException.__getattribute__"))
  gg : PySem.W.findIn K (.ref C) "__getattr__" = some none
  ex : PySem.W.subIn K (.ref C) (.type "BaseException") = some true
  ac : PySem.W.findIn K (.ref C) "__class__" = some (some (.builtin "object.__class__"))
  an : PySem.W.specialIn K (.builtin "object.__class__") "__get__" = some (some (.builtin "getset_descriptor.__get__"))
  tk : PySem.W.takesIn K (.builtin "object.__class__") = some true
  mo : PySem.W.mroIn K C (.type "object") = some true
  no : PySem.W.findIn K (.ref C) f = some none
  m : mg x = some (.ref C)
theorem ErX.clsIn {K : PySem.W.Frag} {mg : Str → Option Value} {x : Str} {C far : Addr} {f : Str} (h : ErX K mg x C far f) : ∃ cd, PySem.W.clsIn K C = some cd ∧ cd.mro = .ref C :: veM far := by
  obtain ⟨nm, q, N, bs, sn, sub, ab, col, dd, k0, k1, k2, k3, k5, l⟩ := h.l
  have e : PySem.W.clsIn K C = some { name := nm, bases := bs, mro := .ref C :: veM far, ns := N, qualname := q, hasDict := true, slotNames := sn, subclasses := sub, abstract := ab, collection := col, hasDel := false } := by unfold PySem.W.clsIn; rw [l] <;> rfl
  exact ⟨_, e, rfl⟩
theorem ErX.sub {K : PySem.W.Frag} {mg : Str → Option Value} {x : Str} {C far : Addr} {f : Str} (h : ErX K mg x C far f) (b : Value) : PySem.W.subIn K (.ref C) b = some ((Value.ref C :: veM far).contains b) := by
  obtain ⟨cd, e, em⟩ := h.clsIn
  show ((PySem.W.clsIn K C).bind fun cd => if cd.mro.isEmpty = true then none else some (cd.mro.contains b)) = _
  rw [e]
  show (if cd.mro.isEmpty = true then none else some (cd.mro.contains b)) = _
  rw [em]
  rfl
theorem ErX.isC {K : PySem.W.Frag} {mg : Str → Option Value} {x : Str} {C far : Addr} {f : Str} (h : ErX K mg x C far f) : (PySem.W.clsIn K C).isSome = true := by
  obtain ⟨cd, e, _⟩ := h.clsIn
  rw [e]
  rfl
theorem ErX.ty {K : PySem.W.Frag} {mg : Str → Option Value} {x : Str} {C far : Addr} {f : Str} (h : ErX K mg x C far f) : PySem.W.typeIn K (.ref C) = some (.type "type") := by
  obtain ⟨nm, q, N, bs, sn, sub, ab, col, dd, k0, k1, k2, k3, k5, l⟩ := h.l
  show (K.lookup C).map (fun x => x.cls) = _
  rw [l]
  rfl
theorem ErX.oxc {K : PySem.W.Frag} {mg : Str → Option Value} {x : Str} {C far : Addr} {f : Str} (h : ErX K mg x C far f) : OxC K C := by
  obtain ⟨nm, q, N, bs, sn, sub, ab, col, dd, k0, k1, k2, k3, k5, l⟩ := h.l
  exact ⟨⟨nm, q, N, bs, veM far, sn, sub, ab, col, dd, k0, k1, k2, k3, k5, "ValueError", "ValueError.__new__", "ValueError.__init__", _, PySem.F.excBase_ValueError, l, fun Y => PySem.HandSPX.refsVE_contains Y (veM far) rfl, fun self => PySem.HandSPX.refsVE_pass self _ rfl, (PySem.HandSPX.refsVE_contains "object" (veM far) rfl).trans (by decide +kernel)⟩, h.sa, h.kC, h.ga, h.gg, h.ex, h.ac, h.an, h.tk, h.mo⟩
theorem ErX.oexc {K : PySem.W.Frag} {mg : Str → Option Value} {x : Str} {C far : Addr} {f : Str} (h : ErX K mg x C far f) : OexC K C := by
  obtain ⟨nm, q, N, bs, sn, sub, ab, col, dd, k0, k1, k2, k3, k5, l⟩ := h.l
  exact ⟨⟨nm, q, N, bs, veM far, sn, sub, ab, col, dd, k0, k1, k2, k3, k5, l, rfl⟩, h.sa, h.ex, h.ty, h.kC⟩
/-- raised by one class, named by the other -/
theorem ErX.exm {K : PySem.W.Frag} {mg : Str → Option Value} {x y : Str} {C D far : Addr} {f g : Str} (h : ErX K mg x C far f) (h2 : ErX K mg y D far g) (n : D ≠ far) : PySem.W.exmOne K (.ref C) (.ref D) = some (decide (C = D)) := by
  have e1 : (PySem.W.subIn K (.ref D) (.type "BaseException") == some true) = true := by rw [h2.ex] <;> rfl
  have e2 : ((PySem.W.clsIn K D).isSome && PySem.W.typeIn K (.ref D) == some (.type "type")) = true := by rw [h2.isC, h2.ty] <;> rfl
  show (if (PySem.W.subIn K (.ref D) (.type "BaseException") == some true) = true then (if ((PySem.W.clsIn K D).isSome && PySem.W.typeIn K (.ref D) == some (.type "type")) = true then PySem.W.subIn K (.ref C) (.ref D) else none) else none) = _
  rw [if_pos e1, if_pos e2, h.sub]
  congr 1
  rw [List.contains_cons]
  have n2 : (Value.ref D == Value.ref far) = false := beq_eq_false_iff_ne.mpr fun z => n (Value.ref.inj z)
  have e3 : (veM far).contains (.ref D) = false := by
    rw [List.contains_cons, n2]
    rfl
  rw [e3, Bool.or_false]
  by_cases e : C = D
  · subst e
    rw [decide_eq_true rfl]
    exact beq_self_eq_true _
  · rw [decide_eq_false e]
    exact beq_eq_false_iff_ne.mpr fun z => e (Value.ref.inj z).symm

def spLaw (K : PySem.W.Frag) : Sp := fun vs H Q _ => ∃ (a : Addr) (ns : List Int), vs = [.ref a] ∧ SqL K H a (ns.map V.int) ∧ ns.length ≤ 63 ∧ Only H ∧ ∀ H', Q (.bl true) H'
theorem ints_dp {K : PySem.W.Frag} {H : Hp} : ∀ ns : List Int, DpAll K H (ns.map V.int) (ns.map PyData.int)
  | [] => .nil
  | n :: ns => .cons (.int n) (ints_dp ns)
theorem law_sp {P : Program} {w : World} {K : PySem.W.Frag} {mg : Str → Option Value} {base : Heap} {k : Nat} {f : Addr} {fd : FuncData} {ps : List Str} (F : RunG P w K mg base CX0 k f fd ps (spP K PreL ResL)) : RunG P w K mg base CX0 k f fd ps (spLaw K) := F.imp fun vs H Q E z => by
  obtain ⟨a, ns, rfl, hs, hn, ho, q⟩ := z
  refine ⟨H, [.d (.list (ns.map .int))], rfl, ⟨Same.refl _, Same.refl _, fun a o e => .inl e, fun a o e _ => e, fun a ha => (nomatch ha), fun c hc => ?_, by simp [ads], fun b o e => ?_⟩, ⟨ns, rfl, hn⟩, fun r hr nb v H' hh => ?_⟩
  · rw [List.mem_singleton.mp hc]
    exact ⟨.ref a, rfl, .lst hs (ints_dp ns)⟩
  · rcases ho b with h | ⟨o', xs, h⟩
    · rw [h] at e; cases e
    · rw [h] at e
      cases e
      exact .inr (.inr rfl)
  · subst hr
    have := hh.isB
    subst this
    exact q H'
section
variable {P : Program} {w : World} {K : PySem.W.Frag} {mg : Str → Option Value} {base : Heap}
theorem sx_InvalidText {C fI : Addr} {fd : FuncData} (T : OxC K C) (no : PySem.W.findIn K (.ref C) "value" = some none) (F : Fun K "__init__" "InvalidText.__init__" S_InvalidText___init__ fI fd) : FnOk P w K mg base CX0 1 fI fd [("self" : Str), "value"] (spOx K C "value") := by
  refine F.ok sc_InvalidText___init__ (fun vs H Q E h => ?_) (fun cdv A outer s H vs Q E hr h => ?_)
  · obtain ⟨a, v, rfl, _⟩ := h; rfl
  · obtain ⟨a, v, rfl, ha, q⟩ := h
    exact ⟨_, pss_one (ps_ox (pv 0) (pv 1)), ⟨_, rfl, _, rfl, a, C, rfl, T, no, ha, fun dx h1 h2 => q dx h1 h2⟩⟩
theorem sx_InvalidSyntax {C fI : Addr} {fd : FuncData} (T : OxC K C) (no : PySem.W.findIn K (.ref C) "position" = some none) (F : Fun K "__init__" "InvalidSyntax.__init__" S_InvalidSyntax___init__ fI fd) : FnOk P w K mg base CX0 1 fI fd [("self" : Str), "position"] (spOx K C "position") := by
  refine F.ok sc_InvalidSyntax___init__ (fun vs H Q E h => ?_) (fun cdv A outer s H vs Q E hr h => ?_)
  · obtain ⟨a, v, rfl, _⟩ := h; rfl
  · obtain ⟨a, v, rfl, ha, q⟩ := h
    exact ⟨_, pss_one (ps_ox (pv 0) (pv 1)), ⟨_, rfl, _, rfl, a, C, rfl, T, no, ha, fun dx h1 h2 => q dx h1 h2⟩⟩
theorem sx_TooLarge {C fI : Addr} {fd : FuncData} (T : OxC K C) (no : PySem.W.findIn K (.ref C) "word" = some none) (F : Fun K "__init__" "TooLarge.__init__" S_TooLarge___init__ fI fd) : FnOk P w K mg base CX0 1 fI fd [("self" : Str), "word"] (spOx K C "word") := by
  refine F.ok sc_TooLarge___init__ (fun vs H Q E h => ?_) (fun cdv A outer s H vs Q E hr h => ?_)
  · obtain ⟨a, v, rfl, _⟩ := h; rfl
  · obtain ⟨a, v, rfl, ha, q⟩ := h
    exact ⟨_, pss_one (ps_ox (pv 0) (pv 1)), ⟨_, rfl, _, rfl, a, C, rfl, T, no, ha, fun dx h1 h2 => q dx h1 h2⟩⟩
theorem sx_InvalidCache {C fI : Addr} {fd : FuncData} (T : OxC K C) (no : PySem.W.findIn K (.ref C) "value" = some none) (F : Fun K "__init__" "InvalidCache.__init__" S_InvalidCache___init__ fI fd) : FnOk P w K mg base CX0 1 fI fd [("self" : Str), "value"] (spOx K C "value") := by
  refine F.ok sc_InvalidCache___init__ (fun vs H Q E h => ?_) (fun cdv A outer s H vs Q E hr h => ?_)
  · obtain ⟨a, v, rfl, _⟩ := h; rfl
  · obtain ⟨a, v, rfl, ha, q⟩ := h
    exact ⟨_, pss_one (ps_ox (pv 0) (pv 1)), ⟨_, rfl, _, rfl, a, C, rfl, T, no, ha, fun dx h1 h2 => q dx h1 h2⟩⟩
end
theorem all_mk {l : PySem.W.OpenLaw} {w : World} {K : PySem.W.Frag} {h : Heap} {mg : Str → Option Value} {fa : Addr}
    {C_FarError : Addr}
    {C_InvalidText : Addr}
    {N_InvalidText : Addr} {nm_InvalidText q_InvalidText : Str} {bs_InvalidText sb_InvalidText : List Value} {sn_InvalidText : List Str} {ab_InvalidText : Bool} {co_InvalidText : Option Bool} {dd_InvalidText : Option Addr} {x_InvalidText y_InvalidText zz_InvalidText u_InvalidText v_InvalidText : Option Value}
    {f_InvalidText___init__ : Addr} {oc_InvalidText___init__ kV_InvalidText___init__ dc_InvalidText___init__ pm_InvalidText___init__ cd_InvalidText___init__ ct_InvalidText___init__ : Value} {od_InvalidText___init__ an_InvalidText___init__ : Option Addr} {sl_InvalidText___init__ : Array (Option Value)}
    {C_InvalidSyntax : Addr}
    {N_InvalidSyntax : Addr} {nm_InvalidSyntax q_InvalidSyntax : Str} {bs_InvalidSyntax sb_InvalidSyntax : List Value} {sn_InvalidSyntax : List Str} {ab_InvalidSyntax : Bool} {co_InvalidSyntax : Option Bool} {dd_InvalidSyntax : Option Addr} {x_InvalidSyntax y_InvalidSyntax zz_InvalidSyntax u_InvalidSyntax v_InvalidSyntax : Option Value}
    {f_InvalidSyntax___init__ : Addr} {oc_InvalidSyntax___init__ kV_InvalidSyntax___init__ dc_InvalidSyntax___init__ pm_InvalidSyntax___init__ cd_InvalidSyntax___init__ ct_InvalidSyntax___init__ : Value} {od_InvalidSyntax___init__ an_InvalidSyntax___init__ : Option Addr} {sl_InvalidSyntax___init__ : Array (Option Value)}
    {C_TooLarge : Addr}
    {N_TooLarge : Addr} {nm_TooLarge q_TooLarge : Str} {bs_TooLarge sb_TooLarge : List Value} {sn_TooLarge : List Str} {ab_TooLarge : Bool} {co_TooLarge : Option Bool} {dd_TooLarge : Option Addr} {x_TooLarge y_TooLarge zz_TooLarge u_TooLarge v_TooLarge : Option Value}
    {f_TooLarge___init__ : Addr} {oc_TooLarge___init__ kV_TooLarge___init__ dc_TooLarge___init__ pm_TooLarge___init__ cd_TooLarge___init__ ct_TooLarge___init__ : Value} {od_TooLarge___init__ an_TooLarge___init__ : Option Addr} {sl_TooLarge___init__ : Array (Option Value)}
    {C_InvalidCache : Addr}
    {N_InvalidCache : Addr} {nm_InvalidCache q_InvalidCache : Str} {bs_InvalidCache sb_InvalidCache : List Value} {sn_InvalidCache : List Str} {ab_InvalidCache : Bool} {co_InvalidCache : Option Bool} {dd_InvalidCache : Option Addr} {x_InvalidCache y_InvalidCache zz_InvalidCache u_InvalidCache v_InvalidCache : Option Value}
    {f_InvalidCache___init__ : Addr} {oc_InvalidCache___init__ kV_InvalidCache___init__ dc_InvalidCache___init__ pm_InvalidCache___init__ cd_InvalidCache___init__ ct_InvalidCache___init__ : Value} {od_InvalidCache___init__ an_InvalidCache___init__ : Option Addr} {sl_InvalidCache___init__ : Array (Option Value)}
    {f_is_integer : Addr} {oc_is_integer kV_is_integer dc_is_integer pm_is_integer cd_is_integer ct_is_integer : Value} {od_is_integer an_is_integer : Option Addr} {sl_is_integer : Array (Option Value)}
    {t_LETTERS : Tok}
    {t_DIGITS : Tok}
    {t_GAPS : Tok}
    {t_MOST_DIGITS : Tok}
    {f_is_number : Addr} {oc_is_number kV_is_number dc_is_number pm_is_number cd_is_number ct_is_number : Value} {od_is_number an_is_number : Option Addr} {sl_is_number : Array (Option Value)}
    {f_end_of_run : Addr} {oc_end_of_run kV_end_of_run dc_end_of_run pm_end_of_run cd_end_of_run ct_end_of_run : Value} {od_end_of_run an_end_of_run : Option Addr} {sl_end_of_run : Array (Option Value)}
    {f_tokens_of : Addr} {oc_tokens_of kV_tokens_of dc_tokens_of pm_tokens_of cd_tokens_of ct_tokens_of : Value} {od_tokens_of an_tokens_of : Option Addr} {sl_tokens_of : Array (Option Value)}
    {C_Reader : Addr}
    {f_Reader___init__ : Addr} {oc_Reader___init__ kV_Reader___init__ dc_Reader___init__ pm_Reader___init__ cd_Reader___init__ ct_Reader___init__ : Value} {od_Reader___init__ an_Reader___init__ : Option Addr} {sl_Reader___init__ : Array (Option Value)}
    {f_Reader_token : Addr} {oc_Reader_token kV_Reader_token dc_Reader_token pm_Reader_token cd_Reader_token ct_Reader_token : Value} {od_Reader_token an_Reader_token : Option Addr} {sl_Reader_token : Array (Option Value)}
    {f_Reader_place : Addr} {oc_Reader_place kV_Reader_place dc_Reader_place pm_Reader_place cd_Reader_place ct_Reader_place : Value} {od_Reader_place an_Reader_place : Option Addr} {sl_Reader_place : Array (Option Value)}
    {f_Reader_pass_any : Addr} {oc_Reader_pass_any kV_Reader_pass_any dc_Reader_pass_any pm_Reader_pass_any cd_Reader_pass_any ct_Reader_pass_any : Value} {od_Reader_pass_any an_Reader_pass_any : Option Addr} {sl_Reader_pass_any : Array (Option Value)}
    {f_Reader_passes : Addr} {oc_Reader_passes kV_Reader_passes dc_Reader_passes pm_Reader_passes cd_Reader_passes ct_Reader_passes : Value} {od_Reader_passes an_Reader_passes : Option Addr} {sl_Reader_passes : Array (Option Value)}
    {f_Reader_pass_only : Addr} {oc_Reader_pass_only kV_Reader_pass_only dc_Reader_pass_only pm_Reader_pass_only cd_Reader_pass_only ct_Reader_pass_only : Value} {od_Reader_pass_only an_Reader_pass_only : Option Addr} {sl_Reader_pass_only : Array (Option Value)}
    {f_Reader_pass_one : Addr} {oc_Reader_pass_one kV_Reader_pass_one dc_Reader_pass_one pm_Reader_pass_one cd_Reader_pass_one ct_Reader_pass_one : Value} {od_Reader_pass_one an_Reader_pass_one : Option Addr} {sl_Reader_pass_one : Array (Option Value)}
    {f_Reader_pass_number : Addr} {oc_Reader_pass_number kV_Reader_pass_number dc_Reader_pass_number pm_Reader_pass_number cd_Reader_pass_number ct_Reader_pass_number : Value} {od_Reader_pass_number an_Reader_pass_number : Option Addr} {sl_Reader_pass_number : Array (Option Value)}
    {f_Reader_pass_end : Addr} {oc_Reader_pass_end kV_Reader_pass_end dc_Reader_pass_end pm_Reader_pass_end cd_Reader_pass_end ct_Reader_pass_end : Value} {od_Reader_pass_end an_Reader_pass_end : Option Addr} {sl_Reader_pass_end : Array (Option Value)}
    {t_RULES : Addr} {t_RULES0 t_RULES1 t_RULES2 t_RULES3 : Tok} {dd_RULES : Option Addr} {n_RULES : Nat} {ds_RULES : Array (Option Value)}
    {t_WRITES : Addr} {t_WRITES0 t_WRITES1 : Tok} {dd_WRITES : Option Addr} {n_WRITES : Nat} {ds_WRITES : Array (Option Value)}
    {t_MOST_CELLS : Tok}
    {t_MOST_LEVELS : Tok}
    {t_MOST_SETS : Tok}
    {t_MOST_WAYS : Tok}
    {t_LONGEST_PERIOD : Tok}
    {f_is_count : Addr} {oc_is_count kV_is_count dc_is_count pm_is_count cd_is_count ct_is_count : Value} {od_is_count an_is_count : Option Addr} {sl_is_count : Array (Option Value)}
    {f_is_level : Addr} {oc_is_level kV_is_level dc_is_level pm_is_level cd_is_level ct_is_level : Value} {od_is_level an_is_level : Option Addr} {sl_is_level : Array (Option Value)}
    {f_check_levels : Addr} {oc_check_levels kV_check_levels dc_check_levels pm_check_levels cd_check_levels ct_check_levels : Value} {od_check_levels an_check_levels : Option Addr} {sl_check_levels : Array (Option Value)}
    {C_Cache : Addr}
    {f_Cache___init__ : Addr} {oc_Cache___init__ kV_Cache___init__ dc_Cache___init__ pm_Cache___init__ cd_Cache___init__ ct_Cache___init__ : Value} {od_Cache___init__ an_Cache___init__ : Option Addr} {sl_Cache___init__ : Array (Option Value)}
    {p_Cache_line : Addr} {rest_Cache_line : List Value}
    {f_Cache_line : Addr} {oc_Cache_line kV_Cache_line dc_Cache_line pm_Cache_line cd_Cache_line ct_Cache_line : Value} {od_Cache_line an_Cache_line : Option Addr} {sl_Cache_line : Array (Option Value)}
    {p_Cache_levels : Addr} {rest_Cache_levels : List Value}
    {f_Cache_levels : Addr} {oc_Cache_levels kV_Cache_levels dc_Cache_levels pm_Cache_levels cd_Cache_levels ct_Cache_levels : Value} {od_Cache_levels an_Cache_levels : Option Addr} {sl_Cache_levels : Array (Option Value)}
    {p_Cache_sets_together : Addr} {rest_Cache_sets_together : List Value}
    {f_Cache_sets_together : Addr} {oc_Cache_sets_together kV_Cache_sets_together dc_Cache_sets_together pm_Cache_sets_together cd_Cache_sets_together ct_Cache_sets_together : Value} {od_Cache_sets_together an_Cache_sets_together : Option Addr} {sl_Cache_sets_together : Array (Option Value)}
    {p_Cache_period : Addr} {rest_Cache_period : List Value}
    {f_Cache_period : Addr} {oc_Cache_period kV_Cache_period dc_Cache_period pm_Cache_period cd_Cache_period ct_Cache_period : Value} {od_Cache_period an_Cache_period : Option Addr} {sl_Cache_period : Array (Option Value)}
    {f_Cache_show : Addr} {oc_Cache_show kV_Cache_show dc_Cache_show pm_Cache_show cd_Cache_show ct_Cache_show : Value} {od_Cache_show an_Cache_show : Option Addr} {sl_Cache_show : Array (Option Value)}
    {f_Cache___len__ : Addr} {oc_Cache___len__ kV_Cache___len__ dc_Cache___len__ pm_Cache___len__ cd_Cache___len__ ct_Cache___len__ : Value} {od_Cache___len__ an_Cache___len__ : Option Addr} {sl_Cache___len__ : Array (Option Value)}
    {f_Cache___eq__ : Addr} {oc_Cache___eq__ kV_Cache___eq__ dc_Cache___eq__ pm_Cache___eq__ cd_Cache___eq__ ct_Cache___eq__ : Value} {od_Cache___eq__ an_Cache___eq__ : Option Addr} {sl_Cache___eq__ : Array (Option Value)}
    {f_law_pool : Addr} {oc_law_pool kV_law_pool dc_law_pool pm_law_pool cd_law_pool ct_law_pool : Value} {od_law_pool an_law_pool : Option Addr} {sl_law_pool : Array (Option Value)}
    {f_law_take : Addr} {oc_law_take kV_law_take dc_law_take pm_law_take cd_law_take ct_law_take : Value} {od_law_take an_law_take : Option Addr} {sl_law_take : Array (Option Value)}
    {f_law_cache : Addr} {oc_law_cache kV_law_cache dc_law_cache pm_law_cache cd_law_cache ct_law_cache : Value} {od_law_cache an_law_cache : Option Addr} {sl_law_cache : Array (Option Value)}
    {f_law_words : Addr} {oc_law_words kV_law_words dc_law_words pm_law_words cd_law_words ct_law_words : Value} {od_law_words an_law_words : Option Addr} {sl_law_words : Array (Option Value)}
    {f_law_heard : Addr} {oc_law_heard kV_law_heard dc_law_heard pm_law_heard cd_law_heard ct_law_heard : Value} {od_law_heard an_law_heard : Option Addr} {sl_law_heard : Array (Option Value)}
    {f_law_is_right : Addr} {oc_law_is_right kV_law_is_right dc_law_is_right pm_law_is_right cd_law_is_right ct_law_is_right : Value} {od_law_is_right an_law_is_right : Option Addr} {sl_law_is_right : Array (Option Value)}
    {f_law_wrong : Addr} {oc_law_wrong kV_law_wrong dc_law_wrong pm_law_wrong cd_law_wrong ct_law_wrong : Value} {od_law_wrong an_law_wrong : Option Addr} {sl_law_wrong : Array (Option Value)}
    {f_law : Addr} {oc_law kV_law dc_law pm_law cd_law ct_law : Value} {od_law an_law : Option Addr} {sl_law : Array (Option Value)}
    {p_Cache_read : Addr} {rest_Cache_read : List Value}
    {f_Cache_read : Addr} {oc_Cache_read kV_Cache_read dc_Cache_read pm_Cache_read cd_Cache_read ct_Cache_read : Value} {od_Cache_read an_Cache_read : Option Addr} {sl_Cache_read : Array (Option Value)}
    (X : K.In h) (G : h.Ns mainGlobals mg) (hfa : mg "law" = some (.ref fa))
    (aC_FarError : PySem.W.nsIn K mainGlobals "FarError" = some (some (.ref C_FarError)))
    (aC_InvalidText : PySem.W.nsIn K mainGlobals "InvalidText" = some (some (.ref C_InvalidText)))
    (l_InvalidText : K.lookup C_InvalidText = some (excClassObj nm_InvalidText q_InvalidText C_InvalidText N_InvalidText bs_InvalidText (veM C_FarError) true sn_InvalidText sb_InvalidText ab_InvalidText co_InvalidText dd_InvalidText x_InvalidText y_InvalidText zz_InvalidText u_InvalidText v_InvalidText "ValueError.__new__"))
    (sa_InvalidText : PySem.W.findIn K (.ref C_InvalidText) "__setattr__" = some (some (.builtin "object.__setattr__")))
    (kC_InvalidText : PySem.W.keepIn K (.ref C_InvalidText) = true)
    (ga_InvalidText : PySem.W.findIn K (.ref C_InvalidText) "__getattribute__" = some (some (.builtin "BaseException.__getattribute__")))
    (gg_InvalidText : PySem.W.findIn K (.ref C_InvalidText) "__getattr__" = some none)
    (ex_InvalidText : PySem.W.subIn K (.ref C_InvalidText) (.type "BaseException") = some true)
    (ac_InvalidText : PySem.W.findIn K (.ref C_InvalidText) "__class__" = some (some (.builtin "object.__class__")))
    (mo_InvalidText : PySem.W.mroIn K C_InvalidText (.type "object") = some true)
    (no_InvalidText : PySem.W.findIn K (.ref C_InvalidText) "value" = some none)
    (i_InvalidText : PySem.W.findIn K (.ref C_InvalidText) "__init__" = some (some (.ref f_InvalidText___init__)))
    (t_InvalidText : PySem.W.isFn K (.ref f_InvalidText___init__) = true)
    (l_InvalidText___init__ : K.lookup f_InvalidText___init__ = some ⟨oc_InvalidText___init__, od_InvalidText___init__, .func (PySem.W.fnOf "__init__" "InvalidText.__init__" (defArgs S_InvalidText___init__) (defBody S_InvalidText___init__) (defScope S_InvalidText___init__) .none kV_InvalidText___init__ dc_InvalidText___init__ pm_InvalidText___init__ an_InvalidText___init__ cd_InvalidText___init__ ct_InvalidText___init__), sl_InvalidText___init__⟩)
    (c_InvalidText___init__ : PySem.W.codeIn K cd_InvalidText___init__ "InvalidText.__init__" = true)
    (k_InvalidText___init__ : PySem.W.keepIn K (.ref f_InvalidText___init__) = true)
    (aC_InvalidSyntax : PySem.W.nsIn K mainGlobals "InvalidSyntax" = some (some (.ref C_InvalidSyntax)))
    (l_InvalidSyntax : K.lookup C_InvalidSyntax = some (excClassObj nm_InvalidSyntax q_InvalidSyntax C_InvalidSyntax N_InvalidSyntax bs_InvalidSyntax (veM C_FarError) true sn_InvalidSyntax sb_InvalidSyntax ab_InvalidSyntax co_InvalidSyntax dd_InvalidSyntax x_InvalidSyntax y_InvalidSyntax zz_InvalidSyntax u_InvalidSyntax v_InvalidSyntax "ValueError.__new__"))
    (sa_InvalidSyntax : PySem.W.findIn K (.ref C_InvalidSyntax) "__setattr__" = some (some (.builtin "object.__setattr__")))
    (kC_InvalidSyntax : PySem.W.keepIn K (.ref C_InvalidSyntax) = true)
    (ga_InvalidSyntax : PySem.W.findIn K (.ref C_InvalidSyntax) "__getattribute__" = some (some (.builtin "BaseException.__getattribute__")))
    (gg_InvalidSyntax : PySem.W.findIn K (.ref C_InvalidSyntax) "__getattr__" = some none)
    (ex_InvalidSyntax : PySem.W.subIn K (.ref C_InvalidSyntax) (.type "BaseException") = some true)
    (ac_InvalidSyntax : PySem.W.findIn K (.ref C_InvalidSyntax) "__class__" = some (some (.builtin "object.__class__")))
    (mo_InvalidSyntax : PySem.W.mroIn K C_InvalidSyntax (.type "object") = some true)
    (no_InvalidSyntax : PySem.W.findIn K (.ref C_InvalidSyntax) "position" = some none)
    (i_InvalidSyntax : PySem.W.findIn K (.ref C_InvalidSyntax) "__init__" = some (some (.ref f_InvalidSyntax___init__)))
    (t_InvalidSyntax : PySem.W.isFn K (.ref f_InvalidSyntax___init__) = true)
    (l_InvalidSyntax___init__ : K.lookup f_InvalidSyntax___init__ = some ⟨oc_InvalidSyntax___init__, od_InvalidSyntax___init__, .func (PySem.W.fnOf "__init__" "InvalidSyntax.__init__" (defArgs S_InvalidSyntax___init__) (defBody S_InvalidSyntax___init__) (defScope S_InvalidSyntax___init__) .none kV_InvalidSyntax___init__ dc_InvalidSyntax___init__ pm_InvalidSyntax___init__ an_InvalidSyntax___init__ cd_InvalidSyntax___init__ ct_InvalidSyntax___init__), sl_InvalidSyntax___init__⟩)
    (c_InvalidSyntax___init__ : PySem.W.codeIn K cd_InvalidSyntax___init__ "InvalidSyntax.__init__" = true)
    (k_InvalidSyntax___init__ : PySem.W.keepIn K (.ref f_InvalidSyntax___init__) = true)
    (aC_TooLarge : PySem.W.nsIn K mainGlobals "TooLarge" = some (some (.ref C_TooLarge)))
    (l_TooLarge : K.lookup C_TooLarge = some (excClassObj nm_TooLarge q_TooLarge C_TooLarge N_TooLarge bs_TooLarge (veM C_FarError) true sn_TooLarge sb_TooLarge ab_TooLarge co_TooLarge dd_TooLarge x_TooLarge y_TooLarge zz_TooLarge u_TooLarge v_TooLarge "ValueError.__new__"))
    (sa_TooLarge : PySem.W.findIn K (.ref C_TooLarge) "__setattr__" = some (some (.builtin "object.__setattr__")))
    (kC_TooLarge : PySem.W.keepIn K (.ref C_TooLarge) = true)
    (ga_TooLarge : PySem.W.findIn K (.ref C_TooLarge) "__getattribute__" = some (some (.builtin "BaseException.__getattribute__")))
    (gg_TooLarge : PySem.W.findIn K (.ref C_TooLarge) "__getattr__" = some none)
    (ex_TooLarge : PySem.W.subIn K (.ref C_TooLarge) (.type "BaseException") = some true)
    (ac_TooLarge : PySem.W.findIn K (.ref C_TooLarge) "__class__" = some (some (.builtin "object.__class__")))
    (mo_TooLarge : PySem.W.mroIn K C_TooLarge (.type "object") = some true)
    (no_TooLarge : PySem.W.findIn K (.ref C_TooLarge) "word" = some none)
    (i_TooLarge : PySem.W.findIn K (.ref C_TooLarge) "__init__" = some (some (.ref f_TooLarge___init__)))
    (t_TooLarge : PySem.W.isFn K (.ref f_TooLarge___init__) = true)
    (l_TooLarge___init__ : K.lookup f_TooLarge___init__ = some ⟨oc_TooLarge___init__, od_TooLarge___init__, .func (PySem.W.fnOf "__init__" "TooLarge.__init__" (defArgs S_TooLarge___init__) (defBody S_TooLarge___init__) (defScope S_TooLarge___init__) .none kV_TooLarge___init__ dc_TooLarge___init__ pm_TooLarge___init__ an_TooLarge___init__ cd_TooLarge___init__ ct_TooLarge___init__), sl_TooLarge___init__⟩)
    (c_TooLarge___init__ : PySem.W.codeIn K cd_TooLarge___init__ "TooLarge.__init__" = true)
    (k_TooLarge___init__ : PySem.W.keepIn K (.ref f_TooLarge___init__) = true)
    (aC_InvalidCache : PySem.W.nsIn K mainGlobals "InvalidCache" = some (some (.ref C_InvalidCache)))
    (l_InvalidCache : K.lookup C_InvalidCache = some (excClassObj nm_InvalidCache q_InvalidCache C_InvalidCache N_InvalidCache bs_InvalidCache (veM C_FarError) true sn_InvalidCache sb_InvalidCache ab_InvalidCache co_InvalidCache dd_InvalidCache x_InvalidCache y_InvalidCache zz_InvalidCache u_InvalidCache v_InvalidCache "ValueError.__new__"))
    (sa_InvalidCache : PySem.W.findIn K (.ref C_InvalidCache) "__setattr__" = some (some (.builtin "object.__setattr__")))
    (kC_InvalidCache : PySem.W.keepIn K (.ref C_InvalidCache) = true)
    (ga_InvalidCache : PySem.W.findIn K (.ref C_InvalidCache) "__getattribute__" = some (some (.builtin "BaseException.__getattribute__")))
    (gg_InvalidCache : PySem.W.findIn K (.ref C_InvalidCache) "__getattr__" = some none)
    (ex_InvalidCache : PySem.W.subIn K (.ref C_InvalidCache) (.type "BaseException") = some true)
    (ac_InvalidCache : PySem.W.findIn K (.ref C_InvalidCache) "__class__" = some (some (.builtin "object.__class__")))
    (mo_InvalidCache : PySem.W.mroIn K C_InvalidCache (.type "object") = some true)
    (no_InvalidCache : PySem.W.findIn K (.ref C_InvalidCache) "value" = some none)
    (i_InvalidCache : PySem.W.findIn K (.ref C_InvalidCache) "__init__" = some (some (.ref f_InvalidCache___init__)))
    (t_InvalidCache : PySem.W.isFn K (.ref f_InvalidCache___init__) = true)
    (l_InvalidCache___init__ : K.lookup f_InvalidCache___init__ = some ⟨oc_InvalidCache___init__, od_InvalidCache___init__, .func (PySem.W.fnOf "__init__" "InvalidCache.__init__" (defArgs S_InvalidCache___init__) (defBody S_InvalidCache___init__) (defScope S_InvalidCache___init__) .none kV_InvalidCache___init__ dc_InvalidCache___init__ pm_InvalidCache___init__ an_InvalidCache___init__ cd_InvalidCache___init__ ct_InvalidCache___init__), sl_InvalidCache___init__⟩)
    (c_InvalidCache___init__ : PySem.W.codeIn K cd_InvalidCache___init__ "InvalidCache.__init__" = true)
    (k_InvalidCache___init__ : PySem.W.keepIn K (.ref f_InvalidCache___init__) = true)
    (a_is_integer : PySem.W.nsIn K mainGlobals "is_integer" = some (some (.ref f_is_integer)))
    (l_is_integer : K.lookup f_is_integer = some ⟨oc_is_integer, od_is_integer, .func (PySem.W.fnOf "is_integer" "is_integer" (defArgs S_is_integer) (defBody S_is_integer) (defScope S_is_integer) .none kV_is_integer dc_is_integer pm_is_integer an_is_integer cd_is_integer ct_is_integer), sl_is_integer⟩)
    (c_is_integer : PySem.W.codeIn K cd_is_integer "is_integer" = true)
    (k_is_integer : PySem.W.keepIn K (.ref f_is_integer) = true)
    (a_LETTERS : PySem.W.nsIn K mainGlobals "_LETTERS" = some (some (.str (Str.ofString "abcdefghijklmnopqrstuvwxyz") t_LETTERS)))
    (a_DIGITS : PySem.W.nsIn K mainGlobals "_DIGITS" = some (some (.str (Str.ofString "0123456789") t_DIGITS)))
    (a_GAPS : PySem.W.nsIn K mainGlobals "_GAPS" = some (some (.str (Str.ofString " \n") t_GAPS)))
    (a_MOST_DIGITS : PySem.W.nsIn K mainGlobals "_MOST_DIGITS" = some (some (.int 150 t_MOST_DIGITS)))
    (a_is_number : PySem.W.nsIn K mainGlobals "is_number" = some (some (.ref f_is_number)))
    (l_is_number : K.lookup f_is_number = some ⟨oc_is_number, od_is_number, .func (PySem.W.fnOf "is_number" "is_number" (defArgs S_is_number) (defBody S_is_number) (defScope S_is_number) .none kV_is_number dc_is_number pm_is_number an_is_number cd_is_number ct_is_number), sl_is_number⟩)
    (c_is_number : PySem.W.codeIn K cd_is_number "is_number" = true)
    (k_is_number : PySem.W.keepIn K (.ref f_is_number) = true)
    (a_end_of_run : PySem.W.nsIn K mainGlobals "_end_of_run" = some (some (.ref f_end_of_run)))
    (l_end_of_run : K.lookup f_end_of_run = some ⟨oc_end_of_run, od_end_of_run, .func (PySem.W.fnOf "_end_of_run" "_end_of_run" (defArgs S_end_of_run) (defBody S_end_of_run) (defScope S_end_of_run) .none kV_end_of_run dc_end_of_run pm_end_of_run an_end_of_run cd_end_of_run ct_end_of_run), sl_end_of_run⟩)
    (c_end_of_run : PySem.W.codeIn K cd_end_of_run "_end_of_run" = true)
    (k_end_of_run : PySem.W.keepIn K (.ref f_end_of_run) = true)
    (a_tokens_of : PySem.W.nsIn K mainGlobals "tokens_of" = some (some (.ref f_tokens_of)))
    (l_tokens_of : K.lookup f_tokens_of = some ⟨oc_tokens_of, od_tokens_of, .func (PySem.W.fnOf "tokens_of" "tokens_of" (defArgs S_tokens_of) (defBody S_tokens_of) (defScope S_tokens_of) .none kV_tokens_of dc_tokens_of pm_tokens_of an_tokens_of cd_tokens_of ct_tokens_of), sl_tokens_of⟩)
    (c_tokens_of : PySem.W.codeIn K cd_tokens_of "tokens_of" = true)
    (k_tokens_of : PySem.W.keepIn K (.ref f_tokens_of) = true)
    (aC_Reader : PySem.W.nsIn K mainGlobals "Reader" = some (some (.ref C_Reader)))
    (pg_Reader : PySem.W.plainGet K C_Reader Str.empty = true)
    (hd_Reader : PySem.W.hasDictIn K C_Reader = true)
    (po_Reader : PySem.W.plainOver K C_Reader = true)
    (sa_Reader : PySem.W.findIn K (.ref C_Reader) "__setattr__" = some (some (.builtin "object.__setattr__")))
    (mk_Reader : PySem.W.makesIn K C_Reader = true)
    (kc_Reader : PySem.W.keepIn K (.ref C_Reader) = true)
    (cc_Reader : PySem.W.findIn K (.ref C_Reader) "__class__" = some (some (.builtin "object.__class__")))
    (cm_Reader : PySem.W.mroIn K C_Reader (.type "object") = some true)
    (ic_Reader : PySem.W.isClsIn K C_Reader = true)
    (tc_Reader : PySem.W.typeIn K (.ref C_Reader) = some (.type "type"))
    (cgO : PySem.W.specialIn K (.builtin "object.__class__") "__get__" = some (some (.builtin "getset_descriptor.__get__")))
    (ctO : PySem.W.takesIn K (.builtin "object.__class__") = some true)
    (np_Reader_tokens : PySem.W.findIn K (.ref C_Reader) "_tokens" = some none)
    (np_Reader_at : PySem.W.findIn K (.ref C_Reader) "_at" = some none)
    (a_Reader___init__ : PySem.W.findIn K (.ref C_Reader) "__init__" = some (some (.ref f_Reader___init__)))
    (i_Reader___init__ : PySem.W.isFn K (.ref f_Reader___init__) = true)
    (l_Reader___init__ : K.lookup f_Reader___init__ = some ⟨oc_Reader___init__, od_Reader___init__, .func (PySem.W.fnOf "__init__" "Reader.__init__" (defArgs S_Reader___init__) (defBody S_Reader___init__) (defScope S_Reader___init__) .none kV_Reader___init__ dc_Reader___init__ pm_Reader___init__ an_Reader___init__ cd_Reader___init__ ct_Reader___init__), sl_Reader___init__⟩)
    (c_Reader___init__ : PySem.W.codeIn K cd_Reader___init__ "Reader.__init__" = true)
    (k_Reader___init__ : PySem.W.keepIn K (.ref f_Reader___init__) = true)
    (a_Reader_token : PySem.W.findIn K (.ref C_Reader) "token" = some (some (.ref f_Reader_token)))
    (i_Reader_token : PySem.W.isFn K (.ref f_Reader_token) = true)
    (l_Reader_token : K.lookup f_Reader_token = some ⟨oc_Reader_token, od_Reader_token, .func (PySem.W.fnOf "token" "Reader.token" (defArgs S_Reader_token) (defBody S_Reader_token) (defScope S_Reader_token) .none kV_Reader_token dc_Reader_token pm_Reader_token an_Reader_token cd_Reader_token ct_Reader_token), sl_Reader_token⟩)
    (c_Reader_token : PySem.W.codeIn K cd_Reader_token "Reader.token" = true)
    (k_Reader_token : PySem.W.keepIn K (.ref f_Reader_token) = true)
    (a_Reader_place : PySem.W.findIn K (.ref C_Reader) "place" = some (some (.ref f_Reader_place)))
    (i_Reader_place : PySem.W.isFn K (.ref f_Reader_place) = true)
    (l_Reader_place : K.lookup f_Reader_place = some ⟨oc_Reader_place, od_Reader_place, .func (PySem.W.fnOf "place" "Reader.place" (defArgs S_Reader_place) (defBody S_Reader_place) (defScope S_Reader_place) .none kV_Reader_place dc_Reader_place pm_Reader_place an_Reader_place cd_Reader_place ct_Reader_place), sl_Reader_place⟩)
    (c_Reader_place : PySem.W.codeIn K cd_Reader_place "Reader.place" = true)
    (k_Reader_place : PySem.W.keepIn K (.ref f_Reader_place) = true)
    (a_Reader_pass_any : PySem.W.findIn K (.ref C_Reader) "pass_any" = some (some (.ref f_Reader_pass_any)))
    (i_Reader_pass_any : PySem.W.isFn K (.ref f_Reader_pass_any) = true)
    (l_Reader_pass_any : K.lookup f_Reader_pass_any = some ⟨oc_Reader_pass_any, od_Reader_pass_any, .func (PySem.W.fnOf "pass_any" "Reader.pass_any" (defArgs S_Reader_pass_any) (defBody S_Reader_pass_any) (defScope S_Reader_pass_any) .none kV_Reader_pass_any dc_Reader_pass_any pm_Reader_pass_any an_Reader_pass_any cd_Reader_pass_any ct_Reader_pass_any), sl_Reader_pass_any⟩)
    (c_Reader_pass_any : PySem.W.codeIn K cd_Reader_pass_any "Reader.pass_any" = true)
    (k_Reader_pass_any : PySem.W.keepIn K (.ref f_Reader_pass_any) = true)
    (a_Reader_passes : PySem.W.findIn K (.ref C_Reader) "passes" = some (some (.ref f_Reader_passes)))
    (i_Reader_passes : PySem.W.isFn K (.ref f_Reader_passes) = true)
    (l_Reader_passes : K.lookup f_Reader_passes = some ⟨oc_Reader_passes, od_Reader_passes, .func (PySem.W.fnOf "passes" "Reader.passes" (defArgs S_Reader_passes) (defBody S_Reader_passes) (defScope S_Reader_passes) .none kV_Reader_passes dc_Reader_passes pm_Reader_passes an_Reader_passes cd_Reader_passes ct_Reader_passes), sl_Reader_passes⟩)
    (c_Reader_passes : PySem.W.codeIn K cd_Reader_passes "Reader.passes" = true)
    (k_Reader_passes : PySem.W.keepIn K (.ref f_Reader_passes) = true)
    (a_Reader_pass_only : PySem.W.findIn K (.ref C_Reader) "pass_only" = some (some (.ref f_Reader_pass_only)))
    (i_Reader_pass_only : PySem.W.isFn K (.ref f_Reader_pass_only) = true)
    (l_Reader_pass_only : K.lookup f_Reader_pass_only = some ⟨oc_Reader_pass_only, od_Reader_pass_only, .func (PySem.W.fnOf "pass_only" "Reader.pass_only" (defArgs S_Reader_pass_only) (defBody S_Reader_pass_only) (defScope S_Reader_pass_only) .none kV_Reader_pass_only dc_Reader_pass_only pm_Reader_pass_only an_Reader_pass_only cd_Reader_pass_only ct_Reader_pass_only), sl_Reader_pass_only⟩)
    (c_Reader_pass_only : PySem.W.codeIn K cd_Reader_pass_only "Reader.pass_only" = true)
    (k_Reader_pass_only : PySem.W.keepIn K (.ref f_Reader_pass_only) = true)
    (a_Reader_pass_one : PySem.W.findIn K (.ref C_Reader) "pass_one" = some (some (.ref f_Reader_pass_one)))
    (i_Reader_pass_one : PySem.W.isFn K (.ref f_Reader_pass_one) = true)
    (l_Reader_pass_one : K.lookup f_Reader_pass_one = some ⟨oc_Reader_pass_one, od_Reader_pass_one, .func (PySem.W.fnOf "pass_one" "Reader.pass_one" (defArgs S_Reader_pass_one) (defBody S_Reader_pass_one) (defScope S_Reader_pass_one) .none kV_Reader_pass_one dc_Reader_pass_one pm_Reader_pass_one an_Reader_pass_one cd_Reader_pass_one ct_Reader_pass_one), sl_Reader_pass_one⟩)
    (c_Reader_pass_one : PySem.W.codeIn K cd_Reader_pass_one "Reader.pass_one" = true)
    (k_Reader_pass_one : PySem.W.keepIn K (.ref f_Reader_pass_one) = true)
    (a_Reader_pass_number : PySem.W.findIn K (.ref C_Reader) "pass_number" = some (some (.ref f_Reader_pass_number)))
    (i_Reader_pass_number : PySem.W.isFn K (.ref f_Reader_pass_number) = true)
    (l_Reader_pass_number : K.lookup f_Reader_pass_number = some ⟨oc_Reader_pass_number, od_Reader_pass_number, .func (PySem.W.fnOf "pass_number" "Reader.pass_number" (defArgs S_Reader_pass_number) (defBody S_Reader_pass_number) (defScope S_Reader_pass_number) .none kV_Reader_pass_number dc_Reader_pass_number pm_Reader_pass_number an_Reader_pass_number cd_Reader_pass_number ct_Reader_pass_number), sl_Reader_pass_number⟩)
    (c_Reader_pass_number : PySem.W.codeIn K cd_Reader_pass_number "Reader.pass_number" = true)
    (k_Reader_pass_number : PySem.W.keepIn K (.ref f_Reader_pass_number) = true)
    (a_Reader_pass_end : PySem.W.findIn K (.ref C_Reader) "pass_end" = some (some (.ref f_Reader_pass_end)))
    (i_Reader_pass_end : PySem.W.isFn K (.ref f_Reader_pass_end) = true)
    (l_Reader_pass_end : K.lookup f_Reader_pass_end = some ⟨oc_Reader_pass_end, od_Reader_pass_end, .func (PySem.W.fnOf "pass_end" "Reader.pass_end" (defArgs S_Reader_pass_end) (defBody S_Reader_pass_end) (defScope S_Reader_pass_end) .none kV_Reader_pass_end dc_Reader_pass_end pm_Reader_pass_end an_Reader_pass_end cd_Reader_pass_end ct_Reader_pass_end), sl_Reader_pass_end⟩)
    (c_Reader_pass_end : PySem.W.codeIn K cd_Reader_pass_end "Reader.pass_end" = true)
    (k_Reader_pass_end : PySem.W.keepIn K (.ref f_Reader_pass_end) = true)
    (a_RULES : PySem.W.nsIn K mainGlobals "_RULES" = some (some (.ref t_RULES)))
    (l_RULES : K.lookup t_RULES = some ⟨.type "tuple", dd_RULES, .seq #[.str (Str.ofString "used") t_RULES0, .str (Str.ofString "brought") t_RULES1, .str (Str.ofString "second") t_RULES2, .str (Str.ofString "tree") t_RULES3] n_RULES, ds_RULES⟩)
    (a_WRITES : PySem.W.nsIn K mainGlobals "_WRITES" = some (some (.ref t_WRITES)))
    (l_WRITES : K.lookup t_WRITES = some ⟨.type "tuple", dd_WRITES, .seq #[.str (Str.ofString "back") t_WRITES0, .str (Str.ofString "through") t_WRITES1] n_WRITES, ds_WRITES⟩)
    (a_MOST_CELLS : PySem.W.nsIn K mainGlobals "_MOST_CELLS" = some (some (.int 8 t_MOST_CELLS)))
    (a_MOST_LEVELS : PySem.W.nsIn K mainGlobals "_MOST_LEVELS" = some (some (.int 3 t_MOST_LEVELS)))
    (a_MOST_SETS : PySem.W.nsIn K mainGlobals "_MOST_SETS" = some (some (.int 8 t_MOST_SETS)))
    (a_MOST_WAYS : PySem.W.nsIn K mainGlobals "_MOST_WAYS" = some (some (.int 4 t_MOST_WAYS)))
    (a_LONGEST_PERIOD : PySem.W.nsIn K mainGlobals "_LONGEST_PERIOD" = some (some (.int 64 t_LONGEST_PERIOD)))
    (a_is_count : PySem.W.nsIn K mainGlobals "_is_count" = some (some (.ref f_is_count)))
    (l_is_count : K.lookup f_is_count = some ⟨oc_is_count, od_is_count, .func (PySem.W.fnOf "_is_count" "_is_count" (defArgs S_is_count) (defBody S_is_count) (defScope S_is_count) .none kV_is_count dc_is_count pm_is_count an_is_count cd_is_count ct_is_count), sl_is_count⟩)
    (c_is_count : PySem.W.codeIn K cd_is_count "_is_count" = true)
    (k_is_count : PySem.W.keepIn K (.ref f_is_count) = true)
    (a_is_level : PySem.W.nsIn K mainGlobals "_is_level" = some (some (.ref f_is_level)))
    (l_is_level : K.lookup f_is_level = some ⟨oc_is_level, od_is_level, .func (PySem.W.fnOf "_is_level" "_is_level" (defArgs S_is_level) (defBody S_is_level) (defScope S_is_level) .none kV_is_level dc_is_level pm_is_level an_is_level cd_is_level ct_is_level), sl_is_level⟩)
    (c_is_level : PySem.W.codeIn K cd_is_level "_is_level" = true)
    (k_is_level : PySem.W.keepIn K (.ref f_is_level) = true)
    (a_check_levels : PySem.W.nsIn K mainGlobals "_check_levels" = some (some (.ref f_check_levels)))
    (l_check_levels : K.lookup f_check_levels = some ⟨oc_check_levels, od_check_levels, .func (PySem.W.fnOf "_check_levels" "_check_levels" (defArgs S_check_levels) (defBody S_check_levels) (defScope S_check_levels) .none kV_check_levels dc_check_levels pm_check_levels an_check_levels cd_check_levels ct_check_levels), sl_check_levels⟩)
    (c_check_levels : PySem.W.codeIn K cd_check_levels "_check_levels" = true)
    (k_check_levels : PySem.W.keepIn K (.ref f_check_levels) = true)
    (aC_Cache : PySem.W.nsIn K mainGlobals "Cache" = some (some (.ref C_Cache)))
    (pg_Cache : PySem.W.plainGet K C_Cache Str.empty = true)
    (hd_Cache : PySem.W.hasDictIn K C_Cache = true)
    (po_Cache : PySem.W.plainOver K C_Cache = true)
    (sa_Cache : PySem.W.findIn K (.ref C_Cache) "__setattr__" = some (some (.builtin "object.__setattr__")))
    (mk_Cache : PySem.W.makesIn K C_Cache = true)
    (kc_Cache : PySem.W.keepIn K (.ref C_Cache) = true)
    (cc_Cache : PySem.W.findIn K (.ref C_Cache) "__class__" = some (some (.builtin "object.__class__")))
    (cm_Cache : PySem.W.mroIn K C_Cache (.type "object") = some true)
    (ic_Cache : PySem.W.isClsIn K C_Cache = true)
    (tc_Cache : PySem.W.typeIn K (.ref C_Cache) = some (.type "type"))
    (np_Cache_line : PySem.W.findIn K (.ref C_Cache) "_line" = some none)
    (np_Cache_levels : PySem.W.findIn K (.ref C_Cache) "_levels" = some none)
    (np_Cache_together : PySem.W.findIn K (.ref C_Cache) "_together" = some none)
    (a_Cache___init__ : PySem.W.findIn K (.ref C_Cache) "__init__" = some (some (.ref f_Cache___init__)))
    (i_Cache___init__ : PySem.W.isFn K (.ref f_Cache___init__) = true)
    (l_Cache___init__ : K.lookup f_Cache___init__ = some ⟨oc_Cache___init__, od_Cache___init__, .func (PySem.W.fnOf "__init__" "Cache.__init__" (defArgs S_Cache___init__) (defBody S_Cache___init__) (defScope S_Cache___init__) .none kV_Cache___init__ dc_Cache___init__ pm_Cache___init__ an_Cache___init__ cd_Cache___init__ ct_Cache___init__), sl_Cache___init__⟩)
    (c_Cache___init__ : PySem.W.codeIn K cd_Cache___init__ "Cache.__init__" = true)
    (k_Cache___init__ : PySem.W.keepIn K (.ref f_Cache___init__) = true)
    (pa_Cache_line : PySem.W.findIn K (.ref C_Cache) "line" = some (some (.ref p_Cache_line)))
    (pg_Cache_line : PySem.W.specialIn K (.ref p_Cache_line) "__get__" = some (some (.builtin "property.__get__")))
    (pt_Cache_line : PySem.W.takesIn K (.ref p_Cache_line) = some true)
    (pr_Cache_line : PySem.W.recIn K p_Cache_line "property" = some (.ref f_Cache_line :: rest_Cache_line))
    (l_Cache_line : K.lookup f_Cache_line = some ⟨oc_Cache_line, od_Cache_line, .func (PySem.W.fnOf "line" "Cache.line" (defArgs S_Cache_line) (defBody S_Cache_line) (defScope S_Cache_line) .none kV_Cache_line dc_Cache_line pm_Cache_line an_Cache_line cd_Cache_line ct_Cache_line), sl_Cache_line⟩)
    (c_Cache_line : PySem.W.codeIn K cd_Cache_line "Cache.line" = true)
    (k_Cache_line : PySem.W.keepIn K (.ref f_Cache_line) = true)
    (pa_Cache_levels : PySem.W.findIn K (.ref C_Cache) "levels" = some (some (.ref p_Cache_levels)))
    (pg_Cache_levels : PySem.W.specialIn K (.ref p_Cache_levels) "__get__" = some (some (.builtin "property.__get__")))
    (pt_Cache_levels : PySem.W.takesIn K (.ref p_Cache_levels) = some true)
    (pr_Cache_levels : PySem.W.recIn K p_Cache_levels "property" = some (.ref f_Cache_levels :: rest_Cache_levels))
    (l_Cache_levels : K.lookup f_Cache_levels = some ⟨oc_Cache_levels, od_Cache_levels, .func (PySem.W.fnOf "levels" "Cache.levels" (defArgs S_Cache_levels) (defBody S_Cache_levels) (defScope S_Cache_levels) .none kV_Cache_levels dc_Cache_levels pm_Cache_levels an_Cache_levels cd_Cache_levels ct_Cache_levels), sl_Cache_levels⟩)
    (c_Cache_levels : PySem.W.codeIn K cd_Cache_levels "Cache.levels" = true)
    (k_Cache_levels : PySem.W.keepIn K (.ref f_Cache_levels) = true)
    (pa_Cache_sets_together : PySem.W.findIn K (.ref C_Cache) "sets_together" = some (some (.ref p_Cache_sets_together)))
    (pg_Cache_sets_together : PySem.W.specialIn K (.ref p_Cache_sets_together) "__get__" = some (some (.builtin "property.__get__")))
    (pt_Cache_sets_together : PySem.W.takesIn K (.ref p_Cache_sets_together) = some true)
    (pr_Cache_sets_together : PySem.W.recIn K p_Cache_sets_together "property" = some (.ref f_Cache_sets_together :: rest_Cache_sets_together))
    (l_Cache_sets_together : K.lookup f_Cache_sets_together = some ⟨oc_Cache_sets_together, od_Cache_sets_together, .func (PySem.W.fnOf "sets_together" "Cache.sets_together" (defArgs S_Cache_sets_together) (defBody S_Cache_sets_together) (defScope S_Cache_sets_together) .none kV_Cache_sets_together dc_Cache_sets_together pm_Cache_sets_together an_Cache_sets_together cd_Cache_sets_together ct_Cache_sets_together), sl_Cache_sets_together⟩)
    (c_Cache_sets_together : PySem.W.codeIn K cd_Cache_sets_together "Cache.sets_together" = true)
    (k_Cache_sets_together : PySem.W.keepIn K (.ref f_Cache_sets_together) = true)
    (pa_Cache_period : PySem.W.findIn K (.ref C_Cache) "period" = some (some (.ref p_Cache_period)))
    (pg_Cache_period : PySem.W.specialIn K (.ref p_Cache_period) "__get__" = some (some (.builtin "property.__get__")))
    (pt_Cache_period : PySem.W.takesIn K (.ref p_Cache_period) = some true)
    (pr_Cache_period : PySem.W.recIn K p_Cache_period "property" = some (.ref f_Cache_period :: rest_Cache_period))
    (l_Cache_period : K.lookup f_Cache_period = some ⟨oc_Cache_period, od_Cache_period, .func (PySem.W.fnOf "period" "Cache.period" (defArgs S_Cache_period) (defBody S_Cache_period) (defScope S_Cache_period) .none kV_Cache_period dc_Cache_period pm_Cache_period an_Cache_period cd_Cache_period ct_Cache_period), sl_Cache_period⟩)
    (c_Cache_period : PySem.W.codeIn K cd_Cache_period "Cache.period" = true)
    (k_Cache_period : PySem.W.keepIn K (.ref f_Cache_period) = true)
    (a_Cache_show : PySem.W.findIn K (.ref C_Cache) "show" = some (some (.ref f_Cache_show)))
    (i_Cache_show : PySem.W.isFn K (.ref f_Cache_show) = true)
    (l_Cache_show : K.lookup f_Cache_show = some ⟨oc_Cache_show, od_Cache_show, .func (PySem.W.fnOf "show" "Cache.show" (defArgs S_Cache_show) (defBody S_Cache_show) (defScope S_Cache_show) .none kV_Cache_show dc_Cache_show pm_Cache_show an_Cache_show cd_Cache_show ct_Cache_show), sl_Cache_show⟩)
    (c_Cache_show : PySem.W.codeIn K cd_Cache_show "Cache.show" = true)
    (k_Cache_show : PySem.W.keepIn K (.ref f_Cache_show) = true)
    (a_Cache___len__ : PySem.W.findIn K (.ref C_Cache) "__len__" = some (some (.ref f_Cache___len__)))
    (i_Cache___len__ : PySem.W.isFn K (.ref f_Cache___len__) = true)
    (l_Cache___len__ : K.lookup f_Cache___len__ = some ⟨oc_Cache___len__, od_Cache___len__, .func (PySem.W.fnOf "__len__" "Cache.__len__" (defArgs S_Cache___len__) (defBody S_Cache___len__) (defScope S_Cache___len__) .none kV_Cache___len__ dc_Cache___len__ pm_Cache___len__ an_Cache___len__ cd_Cache___len__ ct_Cache___len__), sl_Cache___len__⟩)
    (c_Cache___len__ : PySem.W.codeIn K cd_Cache___len__ "Cache.__len__" = true)
    (k_Cache___len__ : PySem.W.keepIn K (.ref f_Cache___len__) = true)
    (a_Cache___eq__ : PySem.W.findIn K (.ref C_Cache) "__eq__" = some (some (.ref f_Cache___eq__)))
    (i_Cache___eq__ : PySem.W.isFn K (.ref f_Cache___eq__) = true)
    (l_Cache___eq__ : K.lookup f_Cache___eq__ = some ⟨oc_Cache___eq__, od_Cache___eq__, .func (PySem.W.fnOf "__eq__" "Cache.__eq__" (defArgs S_Cache___eq__) (defBody S_Cache___eq__) (defScope S_Cache___eq__) .none kV_Cache___eq__ dc_Cache___eq__ pm_Cache___eq__ an_Cache___eq__ cd_Cache___eq__ ct_Cache___eq__), sl_Cache___eq__⟩)
    (c_Cache___eq__ : PySem.W.codeIn K cd_Cache___eq__ "Cache.__eq__" = true)
    (k_Cache___eq__ : PySem.W.keepIn K (.ref f_Cache___eq__) = true)
    (a_law_pool : PySem.W.nsIn K mainGlobals "_law_pool" = some (some (.ref f_law_pool)))
    (l_law_pool : K.lookup f_law_pool = some ⟨oc_law_pool, od_law_pool, .func (PySem.W.fnOf "_law_pool" "_law_pool" (defArgs S_law_pool) (defBody S_law_pool) (defScope S_law_pool) .none kV_law_pool dc_law_pool pm_law_pool an_law_pool cd_law_pool ct_law_pool), sl_law_pool⟩)
    (c_law_pool : PySem.W.codeIn K cd_law_pool "_law_pool" = true)
    (k_law_pool : PySem.W.keepIn K (.ref f_law_pool) = true)
    (a_law_take : PySem.W.nsIn K mainGlobals "_law_take" = some (some (.ref f_law_take)))
    (l_law_take : K.lookup f_law_take = some ⟨oc_law_take, od_law_take, .func (PySem.W.fnOf "_law_take" "_law_take" (defArgs S_law_take) (defBody S_law_take) (defScope S_law_take) .none kV_law_take dc_law_take pm_law_take an_law_take cd_law_take ct_law_take), sl_law_take⟩)
    (c_law_take : PySem.W.codeIn K cd_law_take "_law_take" = true)
    (k_law_take : PySem.W.keepIn K (.ref f_law_take) = true)
    (a_law_cache : PySem.W.nsIn K mainGlobals "_law_cache" = some (some (.ref f_law_cache)))
    (l_law_cache : K.lookup f_law_cache = some ⟨oc_law_cache, od_law_cache, .func (PySem.W.fnOf "_law_cache" "_law_cache" (defArgs S_law_cache) (defBody S_law_cache) (defScope S_law_cache) .none kV_law_cache dc_law_cache pm_law_cache an_law_cache cd_law_cache ct_law_cache), sl_law_cache⟩)
    (c_law_cache : PySem.W.codeIn K cd_law_cache "_law_cache" = true)
    (k_law_cache : PySem.W.keepIn K (.ref f_law_cache) = true)
    (a_law_words : PySem.W.nsIn K mainGlobals "_law_words" = some (some (.ref f_law_words)))
    (l_law_words : K.lookup f_law_words = some ⟨oc_law_words, od_law_words, .func (PySem.W.fnOf "_law_words" "_law_words" (defArgs S_law_words) (defBody S_law_words) (defScope S_law_words) .none kV_law_words dc_law_words pm_law_words an_law_words cd_law_words ct_law_words), sl_law_words⟩)
    (c_law_words : PySem.W.codeIn K cd_law_words "_law_words" = true)
    (k_law_words : PySem.W.keepIn K (.ref f_law_words) = true)
    (a_law_heard : PySem.W.nsIn K mainGlobals "_law_heard" = some (some (.ref f_law_heard)))
    (l_law_heard : K.lookup f_law_heard = some ⟨oc_law_heard, od_law_heard, .func (PySem.W.fnOf "_law_heard" "_law_heard" (defArgs S_law_heard) (defBody S_law_heard) (defScope S_law_heard) .none kV_law_heard dc_law_heard pm_law_heard an_law_heard cd_law_heard ct_law_heard), sl_law_heard⟩)
    (c_law_heard : PySem.W.codeIn K cd_law_heard "_law_heard" = true)
    (k_law_heard : PySem.W.keepIn K (.ref f_law_heard) = true)
    (a_law_is_right : PySem.W.nsIn K mainGlobals "_law_is_right" = some (some (.ref f_law_is_right)))
    (l_law_is_right : K.lookup f_law_is_right = some ⟨oc_law_is_right, od_law_is_right, .func (PySem.W.fnOf "_law_is_right" "_law_is_right" (defArgs S_law_is_right) (defBody S_law_is_right) (defScope S_law_is_right) .none kV_law_is_right dc_law_is_right pm_law_is_right an_law_is_right cd_law_is_right ct_law_is_right), sl_law_is_right⟩)
    (c_law_is_right : PySem.W.codeIn K cd_law_is_right "_law_is_right" = true)
    (k_law_is_right : PySem.W.keepIn K (.ref f_law_is_right) = true)
    (a_law_wrong : PySem.W.nsIn K mainGlobals "_law_wrong" = some (some (.ref f_law_wrong)))
    (l_law_wrong : K.lookup f_law_wrong = some ⟨oc_law_wrong, od_law_wrong, .func (PySem.W.fnOf "_law_wrong" "_law_wrong" (defArgs S_law_wrong) (defBody S_law_wrong) (defScope S_law_wrong) .none kV_law_wrong dc_law_wrong pm_law_wrong an_law_wrong cd_law_wrong ct_law_wrong), sl_law_wrong⟩)
    (c_law_wrong : PySem.W.codeIn K cd_law_wrong "_law_wrong" = true)
    (k_law_wrong : PySem.W.keepIn K (.ref f_law_wrong) = true)
    (a_law : PySem.W.nsIn K mainGlobals "law" = some (some (.ref f_law)))
    (l_law : K.lookup f_law = some ⟨oc_law, od_law, .func (PySem.W.fnOf "law" "law" (defArgs S_law) (defBody S_law) (defScope S_law) .none kV_law dc_law pm_law an_law cd_law ct_law), sl_law⟩)
    (c_law : PySem.W.codeIn K cd_law "law" = true)
    (k_law : PySem.W.keepIn K (.ref f_law) = true)
    (z_len : PySem.W.nsIn K mainGlobals "len" = some none)
    (z_tuple : PySem.W.nsIn K mainGlobals "tuple" = some none)
    (z_max : PySem.W.nsIn K mainGlobals "max" = some none)
    (z_min : PySem.W.nsIn K mainGlobals "min" = some none)
    (z_enumerate : PySem.W.nsIn K mainGlobals "enumerate" = some none)
    (z_isinstance : PySem.W.nsIn K mainGlobals "isinstance" = some none)
    (z_int : PySem.W.nsIn K mainGlobals "int" = some none)
    (z_bool : PySem.W.nsIn K mainGlobals "bool" = some none)
    (z_abs : PySem.W.nsIn K mainGlobals "abs" = some none)
    (z_range : PySem.W.nsIn K mainGlobals "range" = some none)
    (z_all : PySem.W.nsIn K mainGlobals "all" = some none)
    (z_str : PySem.W.nsIn K mainGlobals "str" = some none)
    (z_repr : PySem.W.nsIn K mainGlobals "repr" = some none)
    (anO : PySem.W.specialIn K (.builtin "object.__class__") "__get__" = some (some (.builtin "getset_descriptor.__get__")))
    (tkO : PySem.W.takesIn K (.builtin "object.__class__") = some true)
    (aLcm : PySem.W.nsIn K mainGlobals "lcm" = some (some (.builtin "math.lcm")))
    (neC : PySem.W.findIn K (.ref C_Cache) "__ne__" = some (some (.builtin "object.__ne__")))
    (rdC : PySem.W.readsIn K C_Cache (.type "type") = true)
    (gaC : PySem.W.specialIn K (.ref C_Cache) "__getattribute__" = some (some (.builtin "type.__getattribute__")))
    (fcR : PySem.W.findCls K (.ref C_Cache) (.type "type") "read" = some (.get (.builtin "classmethod.__get__") (.ref p_Cache_read) .none (.ref C_Cache)))
    (rcR : PySem.W.recIn K p_Cache_read "classmethod" = some (.ref f_Cache_read :: rest_Cache_read))
    (fiR : PySem.W.fnIn K f_Cache_read = true)
    (l_Cache_read : K.lookup f_Cache_read = some ⟨oc_Cache_read, od_Cache_read, .func (PySem.W.fnOf "read" "Cache.read" (defArgs S_Cache_read) (defBody S_Cache_read) (defScope S_Cache_read) .none kV_Cache_read dc_Cache_read pm_Cache_read an_Cache_read cd_Cache_read ct_Cache_read), sl_Cache_read⟩)
    (c_Cache_read : PySem.W.codeIn K cd_Cache_read "Cache.read" = true)
    (k_Cache_read : PySem.W.keepIn K (.ref f_Cache_read) = true)
    (nf0 : C_InvalidText ≠ C_FarError)
    (nf1 : C_InvalidSyntax ≠ C_FarError)
    (nf2 : C_TooLarge ≠ C_FarError)
    (nf3 : C_InvalidCache ≠ C_FarError)
    (ne10 : C_InvalidSyntax ≠ C_InvalidText)
    (ne20 : C_TooLarge ≠ C_InvalidText)
    (ne21 : C_TooLarge ≠ C_InvalidSyntax)
    (ne30 : C_InvalidCache ≠ C_InvalidText)
    (ne31 : C_InvalidCache ≠ C_InvalidSyntax)
    (ne32 : C_InvalidCache ≠ C_TooLarge) :
    ∃ fd : FuncData, (∀ (s : Shared) (v : Value), BindsTo s fd ⟨[v], []⟩ [("_law_script", v)]) ∧ ∀ base : Heap, K.In base → base.Ns mainGlobals mg → RunG l.prog w K mg base CX0 9 fa fd ["_law_script"] (spLaw K) := by
  have e := hfa.symm.trans (PySem.W.mg_of X G a_law)
  cases e
  have F_InvalidText___init__ := fun_mk (x := "__init__") (qual := "InvalidText.__init__") (st := S_InvalidText___init__) l_InvalidText___init__ c_InvalidText___init__ k_InvalidText___init__
  have b_InvalidText___init__ := F_InvalidText___init__.binds (ps := ["self", "value"]) fun _ _ _ _ _ _ us hl => match us, hl with | [_, _], _ => rfl
  have F_InvalidSyntax___init__ := fun_mk (x := "__init__") (qual := "InvalidSyntax.__init__") (st := S_InvalidSyntax___init__) l_InvalidSyntax___init__ c_InvalidSyntax___init__ k_InvalidSyntax___init__
  have b_InvalidSyntax___init__ := F_InvalidSyntax___init__.binds (ps := ["self", "position"]) fun _ _ _ _ _ _ us hl => match us, hl with | [_, _], _ => rfl
  have F_TooLarge___init__ := fun_mk (x := "__init__") (qual := "TooLarge.__init__") (st := S_TooLarge___init__) l_TooLarge___init__ c_TooLarge___init__ k_TooLarge___init__
  have b_TooLarge___init__ := F_TooLarge___init__.binds (ps := ["self", "word"]) fun _ _ _ _ _ _ us hl => match us, hl with | [_, _], _ => rfl
  have F_InvalidCache___init__ := fun_mk (x := "__init__") (qual := "InvalidCache.__init__") (st := S_InvalidCache___init__) l_InvalidCache___init__ c_InvalidCache___init__ k_InvalidCache___init__
  have b_InvalidCache___init__ := F_InvalidCache___init__.binds (ps := ["self", "value"]) fun _ _ _ _ _ _ us hl => match us, hl with | [_, _], _ => rfl
  have F_is_integer := fun_mk (x := "is_integer") (qual := "is_integer") (st := S_is_integer) l_is_integer c_is_integer k_is_integer
  have b_is_integer := F_is_integer.binds (ps := ["value"]) fun _ _ _ _ _ _ us hl => match us, hl with | [_], _ => rfl
  have g_is_integer := PySem.W.mg_of X G a_is_integer
  have g_LETTERS := PySem.W.mg_of X G a_LETTERS
  have g_DIGITS := PySem.W.mg_of X G a_DIGITS
  have g_GAPS := PySem.W.mg_of X G a_GAPS
  have g_MOST_DIGITS := PySem.W.mg_of X G a_MOST_DIGITS
  have F_is_number := fun_mk (x := "is_number") (qual := "is_number") (st := S_is_number) l_is_number c_is_number k_is_number
  have b_is_number := F_is_number.binds (ps := ["text"]) fun _ _ _ _ _ _ us hl => match us, hl with | [_], _ => rfl
  have g_is_number := PySem.W.mg_of X G a_is_number
  have F_end_of_run := fun_mk (x := "_end_of_run") (qual := "_end_of_run") (st := S_end_of_run) l_end_of_run c_end_of_run k_end_of_run
  have b_end_of_run := F_end_of_run.binds (ps := ["text", "begin"]) fun _ _ _ _ _ _ us hl => match us, hl with | [_, _], _ => rfl
  have g_end_of_run := PySem.W.mg_of X G a_end_of_run
  have F_tokens_of := fun_mk (x := "tokens_of") (qual := "tokens_of") (st := S_tokens_of) l_tokens_of c_tokens_of k_tokens_of
  have b_tokens_of := F_tokens_of.binds (ps := ["text"]) fun _ _ _ _ _ _ us hl => match us, hl with | [_], _ => rfl
  have g_tokens_of := PySem.W.mg_of X G a_tokens_of
  have kit_Reader : InsKit K C_Reader := ⟨⟨pg_Reader, hd_Reader, po_Reader, sa_Reader⟩, cc_Reader, cgO, ctO, cm_Reader⟩
  have mC_Reader := PySem.W.mg_of X G aC_Reader
  have F_Reader___init__ := fun_mk (x := "__init__") (qual := "Reader.__init__") (st := S_Reader___init__) l_Reader___init__ c_Reader___init__ k_Reader___init__
  have b_Reader___init__ := F_Reader___init__.binds (ps := ["self", "text"]) fun _ _ _ _ _ _ us hl => match us, hl with | [_, _], _ => rfl
  have M_Reader___init__ : Meth K C_Reader "__init__" f_Reader___init__ := ⟨a_Reader___init__, i_Reader___init__, k_Reader___init__⟩
  have MK_Reader : Mk K C_Reader f_Reader___init__ := ⟨mk_Reader, a_Reader___init__, i_Reader___init__, kc_Reader⟩
  have F_Reader_token := fun_mk (x := "token") (qual := "Reader.token") (st := S_Reader_token) l_Reader_token c_Reader_token k_Reader_token
  have b_Reader_token := F_Reader_token.binds (ps := ["self"]) fun _ _ _ _ _ _ us hl => match us, hl with | [_], _ => rfl
  have M_Reader_token : Meth K C_Reader "token" f_Reader_token := ⟨a_Reader_token, i_Reader_token, k_Reader_token⟩
  have F_Reader_place := fun_mk (x := "place") (qual := "Reader.place") (st := S_Reader_place) l_Reader_place c_Reader_place k_Reader_place
  have b_Reader_place := F_Reader_place.binds (ps := ["self"]) fun _ _ _ _ _ _ us hl => match us, hl with | [_], _ => rfl
  have M_Reader_place : Meth K C_Reader "place" f_Reader_place := ⟨a_Reader_place, i_Reader_place, k_Reader_place⟩
  have F_Reader_pass_any := fun_mk (x := "pass_any") (qual := "Reader.pass_any") (st := S_Reader_pass_any) l_Reader_pass_any c_Reader_pass_any k_Reader_pass_any
  have b_Reader_pass_any := F_Reader_pass_any.binds (ps := ["self"]) fun _ _ _ _ _ _ us hl => match us, hl with | [_], _ => rfl
  have M_Reader_pass_any : Meth K C_Reader "pass_any" f_Reader_pass_any := ⟨a_Reader_pass_any, i_Reader_pass_any, k_Reader_pass_any⟩
  have F_Reader_passes := fun_mk (x := "passes") (qual := "Reader.passes") (st := S_Reader_passes) l_Reader_passes c_Reader_passes k_Reader_passes
  have b_Reader_passes := F_Reader_passes.binds (ps := ["self", "token"]) fun _ _ _ _ _ _ us hl => match us, hl with | [_, _], _ => rfl
  have M_Reader_passes : Meth K C_Reader "passes" f_Reader_passes := ⟨a_Reader_passes, i_Reader_passes, k_Reader_passes⟩
  have F_Reader_pass_only := fun_mk (x := "pass_only") (qual := "Reader.pass_only") (st := S_Reader_pass_only) l_Reader_pass_only c_Reader_pass_only k_Reader_pass_only
  have b_Reader_pass_only := F_Reader_pass_only.binds (ps := ["self", "token"]) fun _ _ _ _ _ _ us hl => match us, hl with | [_, _], _ => rfl
  have M_Reader_pass_only : Meth K C_Reader "pass_only" f_Reader_pass_only := ⟨a_Reader_pass_only, i_Reader_pass_only, k_Reader_pass_only⟩
  have F_Reader_pass_one := fun_mk (x := "pass_one") (qual := "Reader.pass_one") (st := S_Reader_pass_one) l_Reader_pass_one c_Reader_pass_one k_Reader_pass_one
  have b_Reader_pass_one := F_Reader_pass_one.binds (ps := ["self", "tokens"]) fun _ _ _ _ _ _ us hl => match us, hl with | [_, _], _ => rfl
  have M_Reader_pass_one : Meth K C_Reader "pass_one" f_Reader_pass_one := ⟨a_Reader_pass_one, i_Reader_pass_one, k_Reader_pass_one⟩
  have F_Reader_pass_number := fun_mk (x := "pass_number") (qual := "Reader.pass_number") (st := S_Reader_pass_number) l_Reader_pass_number c_Reader_pass_number k_Reader_pass_number
  have b_Reader_pass_number := F_Reader_pass_number.binds (ps := ["self"]) fun _ _ _ _ _ _ us hl => match us, hl with | [_], _ => rfl
  have M_Reader_pass_number : Meth K C_Reader "pass_number" f_Reader_pass_number := ⟨a_Reader_pass_number, i_Reader_pass_number, k_Reader_pass_number⟩
  have F_Reader_pass_end := fun_mk (x := "pass_end") (qual := "Reader.pass_end") (st := S_Reader_pass_end) l_Reader_pass_end c_Reader_pass_end k_Reader_pass_end
  have b_Reader_pass_end := F_Reader_pass_end.binds (ps := ["self"]) fun _ _ _ _ _ _ us hl => match us, hl with | [_], _ => rfl
  have M_Reader_pass_end : Meth K C_Reader "pass_end" f_Reader_pass_end := ⟨a_Reader_pass_end, i_Reader_pass_end, k_Reader_pass_end⟩
  have g_RULES := PySem.W.mg_of X G a_RULES
  have q_RULES : ∀ H, SqT K H t_RULES ((["used", "brought", "second", "tree"] : List Str).map V.str) := fun H => .inr ⟨_, _, _, l_RULES, rfl, rfl, (by show 4 ≤ sizeLine; decide), (.cons ⟨_, rfl⟩ (.cons ⟨_, rfl⟩ (.cons ⟨_, rfl⟩ (.cons ⟨_, rfl⟩ .nil))))⟩
  have g_WRITES := PySem.W.mg_of X G a_WRITES
  have q_WRITES : ∀ H, SqT K H t_WRITES ((["back", "through"] : List Str).map V.str) := fun H => .inr ⟨_, _, _, l_WRITES, rfl, rfl, (by show 2 ≤ sizeLine; decide), (.cons ⟨_, rfl⟩ (.cons ⟨_, rfl⟩ .nil))⟩
  have g_MOST_CELLS := PySem.W.mg_of X G a_MOST_CELLS
  have g_MOST_LEVELS := PySem.W.mg_of X G a_MOST_LEVELS
  have g_MOST_SETS := PySem.W.mg_of X G a_MOST_SETS
  have g_MOST_WAYS := PySem.W.mg_of X G a_MOST_WAYS
  have g_LONGEST_PERIOD := PySem.W.mg_of X G a_LONGEST_PERIOD
  have F_is_count := fun_mk (x := "_is_count") (qual := "_is_count") (st := S_is_count) l_is_count c_is_count k_is_count
  have b_is_count := F_is_count.binds (ps := ["value", "most"]) fun _ _ _ _ _ _ us hl => match us, hl with | [_, _], _ => rfl
  have g_is_count := PySem.W.mg_of X G a_is_count
  have F_is_level := fun_mk (x := "_is_level") (qual := "_is_level") (st := S_is_level) l_is_level c_is_level k_is_level
  have b_is_level := F_is_level.binds (ps := ["value"]) fun _ _ _ _ _ _ us hl => match us, hl with | [_], _ => rfl
  have g_is_level := PySem.W.mg_of X G a_is_level
  have F_check_levels := fun_mk (x := "_check_levels") (qual := "_check_levels") (st := S_check_levels) l_check_levels c_check_levels k_check_levels
  have b_check_levels := F_check_levels.binds (ps := ["levels"]) fun _ _ _ _ _ _ us hl => match us, hl with | [_], _ => rfl
  have g_check_levels := PySem.W.mg_of X G a_check_levels
  have kit_Cache : InsKit K C_Cache := ⟨⟨pg_Cache, hd_Cache, po_Cache, sa_Cache⟩, cc_Cache, cgO, ctO, cm_Cache⟩
  have mC_Cache := PySem.W.mg_of X G aC_Cache
  have F_Cache___init__ := fun_mk (x := "__init__") (qual := "Cache.__init__") (st := S_Cache___init__) l_Cache___init__ c_Cache___init__ k_Cache___init__
  have b_Cache___init__ := F_Cache___init__.binds (ps := ["self", "line", "levels"]) fun _ _ _ _ _ _ us hl => match us, hl with | [_, _, _], _ => rfl
  have M_Cache___init__ : Meth K C_Cache "__init__" f_Cache___init__ := ⟨a_Cache___init__, i_Cache___init__, k_Cache___init__⟩
  have MK_Cache : Mk K C_Cache f_Cache___init__ := ⟨mk_Cache, a_Cache___init__, i_Cache___init__, kc_Cache⟩
  have F_Cache_line := fun_mk (x := "line") (qual := "Cache.line") (st := S_Cache_line) l_Cache_line c_Cache_line k_Cache_line
  have b_Cache_line := F_Cache_line.binds (ps := ["self"]) fun _ _ _ _ _ _ us hl => match us, hl with | [_], _ => rfl
  have P_Cache_line : PropOf K C_Cache "line" p_Cache_line f_Cache_line := ⟨pa_Cache_line, pg_Cache_line, pt_Cache_line, ⟨_, pr_Cache_line⟩⟩
  have F_Cache_levels := fun_mk (x := "levels") (qual := "Cache.levels") (st := S_Cache_levels) l_Cache_levels c_Cache_levels k_Cache_levels
  have b_Cache_levels := F_Cache_levels.binds (ps := ["self"]) fun _ _ _ _ _ _ us hl => match us, hl with | [_], _ => rfl
  have P_Cache_levels : PropOf K C_Cache "levels" p_Cache_levels f_Cache_levels := ⟨pa_Cache_levels, pg_Cache_levels, pt_Cache_levels, ⟨_, pr_Cache_levels⟩⟩
  have F_Cache_sets_together := fun_mk (x := "sets_together") (qual := "Cache.sets_together") (st := S_Cache_sets_together) l_Cache_sets_together c_Cache_sets_together k_Cache_sets_together
  have b_Cache_sets_together := F_Cache_sets_together.binds (ps := ["self"]) fun _ _ _ _ _ _ us hl => match us, hl with | [_], _ => rfl
  have P_Cache_sets_together : PropOf K C_Cache "sets_together" p_Cache_sets_together f_Cache_sets_together := ⟨pa_Cache_sets_together, pg_Cache_sets_together, pt_Cache_sets_together, ⟨_, pr_Cache_sets_together⟩⟩
  have F_Cache_period := fun_mk (x := "period") (qual := "Cache.period") (st := S_Cache_period) l_Cache_period c_Cache_period k_Cache_period
  have b_Cache_period := F_Cache_period.binds (ps := ["self"]) fun _ _ _ _ _ _ us hl => match us, hl with | [_], _ => rfl
  have P_Cache_period : PropOf K C_Cache "period" p_Cache_period f_Cache_period := ⟨pa_Cache_period, pg_Cache_period, pt_Cache_period, ⟨_, pr_Cache_period⟩⟩
  have F_Cache_show := fun_mk (x := "show") (qual := "Cache.show") (st := S_Cache_show) l_Cache_show c_Cache_show k_Cache_show
  have b_Cache_show := F_Cache_show.binds (ps := ["self"]) fun _ _ _ _ _ _ us hl => match us, hl with | [_], _ => rfl
  have M_Cache_show : Meth K C_Cache "show" f_Cache_show := ⟨a_Cache_show, i_Cache_show, k_Cache_show⟩
  have F_Cache___len__ := fun_mk (x := "__len__") (qual := "Cache.__len__") (st := S_Cache___len__) l_Cache___len__ c_Cache___len__ k_Cache___len__
  have b_Cache___len__ := F_Cache___len__.binds (ps := ["self"]) fun _ _ _ _ _ _ us hl => match us, hl with | [_], _ => rfl
  have M_Cache___len__ : Meth K C_Cache "__len__" f_Cache___len__ := ⟨a_Cache___len__, i_Cache___len__, k_Cache___len__⟩
  have F_Cache___eq__ := fun_mk (x := "__eq__") (qual := "Cache.__eq__") (st := S_Cache___eq__) l_Cache___eq__ c_Cache___eq__ k_Cache___eq__
  have b_Cache___eq__ := F_Cache___eq__.binds (ps := ["self", "other"]) fun _ _ _ _ _ _ us hl => match us, hl with | [_, _], _ => rfl
  have M_Cache___eq__ : Meth K C_Cache "__eq__" f_Cache___eq__ := ⟨a_Cache___eq__, i_Cache___eq__, k_Cache___eq__⟩
  have F_law_pool := fun_mk (x := "_law_pool") (qual := "_law_pool") (st := S_law_pool) l_law_pool c_law_pool k_law_pool
  have b_law_pool := F_law_pool.binds (ps := ["_law_script", "_law_k"]) fun _ _ _ _ _ _ us hl => match us, hl with | [_, _], _ => rfl
  have g_law_pool := PySem.W.mg_of X G a_law_pool
  have F_law_take := fun_mk (x := "_law_take") (qual := "_law_take") (st := S_law_take) l_law_take c_law_take k_law_take
  have b_law_take := F_law_take.binds (ps := ["_law_pool_here", "_law_wide"]) fun _ _ _ _ _ _ us hl => match us, hl with | [_, _], _ => rfl
  have g_law_take := PySem.W.mg_of X G a_law_take
  have F_law_cache := fun_mk (x := "_law_cache") (qual := "_law_cache") (st := S_law_cache) l_law_cache c_law_cache k_law_cache
  have b_law_cache := F_law_cache.binds (ps := ["_law_pool_here"]) fun _ _ _ _ _ _ us hl => match us, hl with | [_], _ => rfl
  have g_law_cache := PySem.W.mg_of X G a_law_cache
  have F_law_words := fun_mk (x := "_law_words") (qual := "_law_words") (st := S_law_words) l_law_words c_law_words k_law_words
  have b_law_words := F_law_words.binds (ps := ["_law_line", "_law_levels"]) fun _ _ _ _ _ _ us hl => match us, hl with | [_, _], _ => rfl
  have g_law_words := PySem.W.mg_of X G a_law_words
  have F_law_heard := fun_mk (x := "_law_heard") (qual := "_law_heard") (st := S_law_heard) l_law_heard c_law_heard k_law_heard
  have b_law_heard := F_law_heard.binds (ps := ["_law_text"]) fun _ _ _ _ _ _ us hl => match us, hl with | [_], _ => rfl
  have g_law_heard := PySem.W.mg_of X G a_law_heard
  have F_law_is_right := fun_mk (x := "_law_is_right") (qual := "_law_is_right") (st := S_law_is_right) l_law_is_right c_law_is_right k_law_is_right
  have b_law_is_right := F_law_is_right.binds (ps := ["_law_at", "_law_word"]) fun _ _ _ _ _ _ us hl => match us, hl with | [_, _], _ => rfl
  have g_law_is_right := PySem.W.mg_of X G a_law_is_right
  have F_law_wrong := fun_mk (x := "_law_wrong") (qual := "_law_wrong") (st := S_law_wrong) l_law_wrong c_law_wrong k_law_wrong
  have b_law_wrong := F_law_wrong.binds (ps := ["_law_words_here"]) fun _ _ _ _ _ _ us hl => match us, hl with | [_], _ => rfl
  have g_law_wrong := PySem.W.mg_of X G a_law_wrong
  have F_law := fun_mk (x := "law") (qual := "law") (st := S_law) l_law c_law k_law
  have b_law := F_law.binds (ps := ["_law_script"]) fun _ _ _ _ _ _ us hl => match us, hl with | [_], _ => rfl
  have g_law := PySem.W.mg_of X G a_law
  have X_InvalidText : ErX K mg "InvalidText" C_InvalidText C_FarError "value" := ⟨⟨_, _, _, _, _, _, _, _, _, _, _, _, _, _, l_InvalidText⟩, sa_InvalidText, kC_InvalidText, ga_InvalidText, gg_InvalidText, ex_InvalidText, ac_InvalidText, anO, tkO, mo_InvalidText, no_InvalidText, PySem.W.mg_of X G aC_InvalidText⟩
  have SX_InvalidText : ∀ base : Heap, SxC l.prog w K mg base "InvalidText" C_InvalidText "value" := fun base => ⟨X_InvalidText.oexc, X_InvalidText.m, _, _, i_InvalidText, beq_iff_eq.mp t_InvalidText, sx_InvalidText X_InvalidText.oxc X_InvalidText.no F_InvalidText___init__, b_InvalidText___init__⟩
  have X_InvalidSyntax : ErX K mg "InvalidSyntax" C_InvalidSyntax C_FarError "position" := ⟨⟨_, _, _, _, _, _, _, _, _, _, _, _, _, _, l_InvalidSyntax⟩, sa_InvalidSyntax, kC_InvalidSyntax, ga_InvalidSyntax, gg_InvalidSyntax, ex_InvalidSyntax, ac_InvalidSyntax, anO, tkO, mo_InvalidSyntax, no_InvalidSyntax, PySem.W.mg_of X G aC_InvalidSyntax⟩
  have SX_InvalidSyntax : ∀ base : Heap, SxC l.prog w K mg base "InvalidSyntax" C_InvalidSyntax "position" := fun base => ⟨X_InvalidSyntax.oexc, X_InvalidSyntax.m, _, _, i_InvalidSyntax, beq_iff_eq.mp t_InvalidSyntax, sx_InvalidSyntax X_InvalidSyntax.oxc X_InvalidSyntax.no F_InvalidSyntax___init__, b_InvalidSyntax___init__⟩
  have X_TooLarge : ErX K mg "TooLarge" C_TooLarge C_FarError "word" := ⟨⟨_, _, _, _, _, _, _, _, _, _, _, _, _, _, l_TooLarge⟩, sa_TooLarge, kC_TooLarge, ga_TooLarge, gg_TooLarge, ex_TooLarge, ac_TooLarge, anO, tkO, mo_TooLarge, no_TooLarge, PySem.W.mg_of X G aC_TooLarge⟩
  have SX_TooLarge : ∀ base : Heap, SxC l.prog w K mg base "TooLarge" C_TooLarge "word" := fun base => ⟨X_TooLarge.oexc, X_TooLarge.m, _, _, i_TooLarge, beq_iff_eq.mp t_TooLarge, sx_TooLarge X_TooLarge.oxc X_TooLarge.no F_TooLarge___init__, b_TooLarge___init__⟩
  have X_InvalidCache : ErX K mg "InvalidCache" C_InvalidCache C_FarError "value" := ⟨⟨_, _, _, _, _, _, _, _, _, _, _, _, _, _, l_InvalidCache⟩, sa_InvalidCache, kC_InvalidCache, ga_InvalidCache, gg_InvalidCache, ex_InvalidCache, ac_InvalidCache, anO, tkO, mo_InvalidCache, no_InvalidCache, PySem.W.mg_of X G aC_InvalidCache⟩
  have SX_InvalidCache : ∀ base : Heap, SxC l.prog w K mg base "InvalidCache" C_InvalidCache "value" := fun base => ⟨X_InvalidCache.oexc, X_InvalidCache.m, _, _, i_InvalidCache, beq_iff_eq.mp t_InvalidCache, sx_InvalidCache X_InvalidCache.oxc X_InvalidCache.no F_InvalidCache___init__, b_InvalidCache___init__⟩
  have F_Cache_read := fun_mk (x := "read") (qual := "Cache.read") (st := S_Cache_read) l_Cache_read c_Cache_read k_Cache_read
  have b_Cache_read := F_Cache_read.binds (ps := ["cls", "text"]) fun _ _ _ _ _ _ us hl => match us, hl with | [_, _], _ => rfl
  have B2 : Bn2 mg := ⟨PySem.W.mg_none_of X G z_len, PySem.W.mg_none_of X G z_int, PySem.W.mg_none_of X G z_abs⟩
  have tb : TkB mg := ⟨⟨_, g_LETTERS⟩, ⟨_, g_DIGITS⟩, ⟨_, g_GAPS⟩, PySem.W.mg_none_of X G z_len, PySem.W.mg_none_of X G z_max, PySem.W.mg_none_of X G z_all⟩
  have CB : ChB mg := ⟨PySem.W.mg_none_of X G z_isinstance, PySem.W.mg_none_of X G z_int, PySem.W.mg_none_of X G z_bool, PySem.W.mg_none_of X G z_tuple, PySem.W.mg_none_of X G z_str, PySem.W.mg_none_of X G z_len⟩
  have CK : ChK K mg := ⟨⟨_, g_RULES, q_RULES⟩, ⟨_, g_WRITES, q_WRITES⟩, ⟨_, g_MOST_CELLS⟩, ⟨_, g_MOST_LEVELS⟩, ⟨_, g_MOST_SETS⟩, ⟨_, g_MOST_WAYS⟩, ⟨_, g_LONGEST_PERIOD⟩⟩
  have Z : ChC K mg C_Cache := ⟨kit_Cache, np_Cache_line, np_Cache_levels, np_Cache_together, ic_Cache, tc_Cache, mC_Cache⟩
  have Zr : RdC K mg C_Reader := ⟨kit_Reader, np_Reader_tokens, np_Reader_at⟩
  have gL := PySem.W.mg_of X G aLcm
  have x00 : PySem.W.exmOne K (.ref C_InvalidText) (.ref C_InvalidText) = some true := by rw [X_InvalidText.exm X_InvalidText nf0, decide_eq_true rfl]
  have x01 : PySem.W.exmOne K (.ref C_InvalidText) (.ref C_InvalidSyntax) = some false := by rw [X_InvalidText.exm X_InvalidSyntax nf1, decide_eq_false (Ne.symm ne10)]
  have x02 : PySem.W.exmOne K (.ref C_InvalidText) (.ref C_TooLarge) = some false := by rw [X_InvalidText.exm X_TooLarge nf2, decide_eq_false (Ne.symm ne20)]
  have x03 : PySem.W.exmOne K (.ref C_InvalidText) (.ref C_InvalidCache) = some false := by rw [X_InvalidText.exm X_InvalidCache nf3, decide_eq_false (Ne.symm ne30)]
  have x10 : PySem.W.exmOne K (.ref C_InvalidSyntax) (.ref C_InvalidText) = some false := by rw [X_InvalidSyntax.exm X_InvalidText nf0, decide_eq_false ne10]
  have x11 : PySem.W.exmOne K (.ref C_InvalidSyntax) (.ref C_InvalidSyntax) = some true := by rw [X_InvalidSyntax.exm X_InvalidSyntax nf1, decide_eq_true rfl]
  have x12 : PySem.W.exmOne K (.ref C_InvalidSyntax) (.ref C_TooLarge) = some false := by rw [X_InvalidSyntax.exm X_TooLarge nf2, decide_eq_false (Ne.symm ne21)]
  have x13 : PySem.W.exmOne K (.ref C_InvalidSyntax) (.ref C_InvalidCache) = some false := by rw [X_InvalidSyntax.exm X_InvalidCache nf3, decide_eq_false (Ne.symm ne31)]
  have x20 : PySem.W.exmOne K (.ref C_TooLarge) (.ref C_InvalidText) = some false := by rw [X_TooLarge.exm X_InvalidText nf0, decide_eq_false ne20]
  have x21 : PySem.W.exmOne K (.ref C_TooLarge) (.ref C_InvalidSyntax) = some false := by rw [X_TooLarge.exm X_InvalidSyntax nf1, decide_eq_false ne21]
  have x22 : PySem.W.exmOne K (.ref C_TooLarge) (.ref C_TooLarge) = some true := by rw [X_TooLarge.exm X_TooLarge nf2, decide_eq_true rfl]
  have x23 : PySem.W.exmOne K (.ref C_TooLarge) (.ref C_InvalidCache) = some false := by rw [X_TooLarge.exm X_InvalidCache nf3, decide_eq_false (Ne.symm ne32)]
  have x30 : PySem.W.exmOne K (.ref C_InvalidCache) (.ref C_InvalidText) = some false := by rw [X_InvalidCache.exm X_InvalidText nf0, decide_eq_false ne30]
  have x31 : PySem.W.exmOne K (.ref C_InvalidCache) (.ref C_InvalidSyntax) = some false := by rw [X_InvalidCache.exm X_InvalidSyntax nf1, decide_eq_false ne31]
  have x32 : PySem.W.exmOne K (.ref C_InvalidCache) (.ref C_TooLarge) = some false := by rw [X_InvalidCache.exm X_TooLarge nf2, decide_eq_false ne32]
  have x33 : PySem.W.exmOne K (.ref C_InvalidCache) (.ref C_InvalidCache) = some true := by rw [X_InvalidCache.exm X_InvalidCache nf3, decide_eq_true rfl]
  have ex : ∀ i j : Nat, i < 4 → j < 4 → PySem.W.exmOne K (.ref (([C_InvalidText, C_InvalidSyntax, C_TooLarge, C_InvalidCache] : List Addr).getD i C_InvalidText)) (.ref (([C_InvalidText, C_InvalidSyntax, C_TooLarge, C_InvalidCache] : List Addr).getD j C_InvalidText)) = some (decide (i = j)) := fun i j hi hj => by
    match i, j, hi, hj with
    | 0, 0, _, _ => exact x00
    | 0, 1, _, _ => exact x01
    | 0, 2, _, _ => exact x02
    | 0, 3, _, _ => exact x03
    | 1, 0, _, _ => exact x10
    | 1, 1, _, _ => exact x11
    | 1, 2, _, _ => exact x12
    | 1, 3, _, _ => exact x13
    | 2, 0, _, _ => exact x20
    | 2, 1, _, _ => exact x21
    | 2, 2, _, _ => exact x22
    | 2, 3, _, _ => exact x23
    | 3, 0, _, _ => exact x30
    | 3, 1, _, _ => exact x31
    | 3, 2, _, _ => exact x32
    | 3, 3, _, _ => exact x33
  refine ⟨PySem.W.fnOf "law" "law" (defArgs S_law) (defBody S_law) (defScope S_law) .none kV_law dc_law pm_law an_law cd_law ct_law, fun s v => .of_eq rfl, fun base _ _ => ?_⟩
  have GI := SX_InvalidCache base
  have GT := SX_TooLarge base
  have GS := SX_InvalidSyntax base
  have GV := SX_InvalidText base
  have GN := ok_count (P := l.prog) (w := w) (base := base) F_is_count F_is_integer b_is_integer g_is_integer CB
  have GLv := ok_level (P := l.prog) (w := w) (base := base) F_is_level F_is_count b_is_count g_is_count F_is_integer b_is_integer g_is_integer CB CK
  have GK := ok_check F_check_levels GLv F_is_level.kp b_is_level g_is_level CB CK GI
  have GC := ok_cinit F_Cache___init__ GN F_is_count.kp b_is_count g_is_count GK F_check_levels.kp b_check_levels g_check_levels gL CK Z GI GT
  have CRD : CrD l.prog w K mg base C_Reader C_Cache C_InvalidText C_InvalidSyntax C_TooLarge C_InvalidCache := {
    Zr := Zr
    Z := Z
    is := PySem.W.mg_none_of X G z_isinstance
    str := PySem.W.mg_none_of X G z_str
    tup := PySem.W.mg_none_of X G z_tuple
    mR := mC_Reader
    GV := GV
    rul := ⟨_, g_RULES, q_RULES⟩
    wrt := ⟨_, g_WRITES, q_WRITES⟩
    rd := ⟨_, _, MK_Reader, b_Reader___init__, ok_rd_init F_Reader___init__ F_tokens_of b_tokens_of g_tokens_of F_end_of_run b_end_of_run g_end_of_run tb Zr⟩
    passes := ⟨_, _, M_Reader_passes, b_Reader_passes, ok_passes F_Reader_passes F_Reader_token b_Reader_token M_Reader_token Zr⟩
    only := ⟨_, _, M_Reader_pass_only, b_Reader_pass_only, ok_pass_only F_Reader_pass_only F_Reader_passes b_Reader_passes M_Reader_passes F_Reader_token b_Reader_token M_Reader_token F_Reader_place b_Reader_place M_Reader_place Zr GS⟩
    num := ⟨_, _, M_Reader_pass_number, b_Reader_pass_number, ok_number F_Reader_pass_number F_Reader_pass_any b_Reader_pass_any M_Reader_pass_any F_Reader_token b_Reader_token M_Reader_token F_Reader_place b_Reader_place M_Reader_place F_is_number b_is_number g_is_number tb (PySem.W.mg_none_of X G z_len) (PySem.W.mg_none_of X G z_int) ⟨_, g_MOST_DIGITS⟩ Zr GS GT⟩
    one := ⟨_, _, M_Reader_pass_one, b_Reader_pass_one, ok_pass_one F_Reader_pass_one F_Reader_pass_any b_Reader_pass_any M_Reader_pass_any F_Reader_token b_Reader_token M_Reader_token F_Reader_place b_Reader_place M_Reader_place Zr GS⟩
    fin := ⟨_, _, M_Reader_pass_end, b_Reader_pass_end, ok_pass_end F_Reader_pass_end F_Reader_token b_Reader_token M_Reader_token F_Reader_place b_Reader_place M_Reader_place Zr GS⟩
    make := ⟨_, _, MK_Cache, b_Cache___init__, GC⟩ }
  have GR : FnR l.prog w K mg base (L2.CX l.prog w) 7 f_Cache_read (spRead K C_Cache C_InvalidText C_InvalidSyntax C_TooLarge C_InvalidCache) := ((ok_read F_Cache_read CRD).raw b_Cache_read .nil).imp fun vs H Q E h => by rw [List.append_nil]; exact h
  have cr : ClX.CRead K C_Cache (.type "type") := ⟨rdC, gaC⟩
  have cm : ClX.CMet K C_Cache (.type "type") "read" p_Cache_read f_Cache_read := ⟨fcR, ⟨_, rcR⟩, fiR⟩
  have GSh := ok_show (P := l.prog) (w := w) (base := base) F_Cache_show Z CB
  have TAKE : CalB l.prog w K mg base CX0 "_law_take" 1 PreT ResT := ⟨⟨_, _, _, take_B (ok_take F_law_take B2), g_law_take, F_law_take.kp, b_law_take⟩⟩
  have GH := run_heard (P := l.prog) (w := w) (base := base) F_law_heard cr cm GR M_Cache_show GSh b_Cache_show Z (PySem.W.mg_none_of X G z_repr) X_InvalidText.m X_InvalidSyntax.m X_TooLarge.m X_InvalidCache.m X_InvalidText.oxc X_InvalidSyntax.oxc X_TooLarge.oxc X_InvalidCache.oxc no_InvalidText no_InvalidSyntax no_TooLarge no_InvalidCache ex
  exact law_sp (run_law F_law { Z := Z, len := PySem.W.mg_none_of X G z_len, rng := PySem.W.mg_none_of X G z_range, rep := PySem.W.mg_none_of X G z_repr, max := PySem.W.mg_none_of X G z_max, min := PySem.W.mg_none_of X G z_min, take := TAKE, pool := ⟨⟨_, _, _, pool_P (ok_pool F_law_pool B2), g_law_pool, F_law_pool.kp, b_law_pool⟩⟩, cache := ⟨⟨_, _, _, cache_B F_law_cache TAKE (PySem.W.mg_none_of X G z_range) (PySem.W.mg_none_of X G z_tuple), g_law_cache, F_law_cache.kp, b_law_cache⟩⟩, words := ⟨⟨_, _, _, t_words F_law_words (PySem.W.mg_none_of X G z_str), g_law_words, F_law_words.kp, b_law_words⟩⟩, wrong := ⟨⟨_, _, _, t_wrong F_law_wrong (PySem.W.mg_none_of X G z_enumerate) (PySem.W.mg_none_of X G z_len) ⟨⟨_, _, _, t_right F_law_is_right (PySem.W.mg_none_of X G z_int), g_law_is_right, F_law_is_right.kp, b_law_is_right⟩⟩, g_law_wrong, F_law_wrong.kp, b_law_wrong⟩⟩, heard := ⟨⟨_, _, _, heard_P GH, fun as h => by obtain ⟨y, rfl, _⟩ := h; rfl, g_law_heard, F_law_heard.kp, b_law_heard⟩⟩, make := ⟨_, _, MK_Cache, b_Cache___init__, GC⟩, show_ := ⟨_, _, M_Cache_show, b_Cache_show, GSh⟩, read := ⟨_, _, _, cr, cm, GR⟩, eq := ⟨_, _, a_Cache___eq__, i_Cache___eq__, b_Cache___eq__, ok_ceq F_Cache___eq__ Z CB⟩, ne := neC })


end K14

namespace K14
end K14
open PySem PySem.W PyProof.Rows
set_option maxRecDepth 100000 in
set_option maxHeartbeats 0 in
theorem PySem.Challenge.cw_farmisses_k14_texts_of_caches_holds : PySem.Challenge.rw_farmisses_k14_texts_of_caches.Holds := by
  w_on; o_law; k_head; (case hw => w_witness2)
  k_fill
  refine VX.walk_G (l := PySem.Challenge.rw_farmisses_k14_texts_of_caches) (n := 63) (k := 9) (x := "_law_script") (CX := L2.CX0) (sp := K14.spLaw) rfl (by decide) rfl ⟨rfl, by decide, by decide⟩ (fun w h Y => PySem.W.kIn_of Y) ?F (fun _ _ a ns hl hO hS => ⟨a, ns, rfl, hS, hl, hO, fun _ => rfl⟩) (fun _ _ _ _ z => z)
  case F =>
    intro w mg fa h KX G hmg
    refine' K14.all_mk KX G hmg ?aC_FarError ?aC_InvalidText ?l_InvalidText ?sa_InvalidText ?kC_InvalidText ?ga_InvalidText ?gg_InvalidText ?ex_InvalidText ?ac_InvalidText ?mo_InvalidText ?no_InvalidText ?i_InvalidText ?t_InvalidText ?l_InvalidText___init__ ?c_InvalidText___init__ ?k_InvalidText___init__ ?aC_InvalidSyntax ?l_InvalidSyntax ?sa_InvalidSyntax ?kC_InvalidSyntax ?ga_InvalidSyntax ?gg_InvalidSyntax ?ex_InvalidSyntax ?ac_InvalidSyntax ?mo_InvalidSyntax ?no_InvalidSyntax ?i_InvalidSyntax ?t_InvalidSyntax ?l_InvalidSyntax___init__ ?c_InvalidSyntax___init__ ?k_InvalidSyntax___init__ ?aC_TooLarge ?l_TooLarge ?sa_TooLarge ?kC_TooLarge ?ga_TooLarge ?gg_TooLarge ?ex_TooLarge ?ac_TooLarge ?mo_TooLarge ?no_TooLarge ?i_TooLarge ?t_TooLarge ?l_TooLarge___init__ ?c_TooLarge___init__ ?k_TooLarge___init__ ?aC_InvalidCache ?l_InvalidCache ?sa_InvalidCache ?kC_InvalidCache ?ga_InvalidCache ?gg_InvalidCache ?ex_InvalidCache ?ac_InvalidCache ?mo_InvalidCache ?no_InvalidCache ?i_InvalidCache ?t_InvalidCache ?l_InvalidCache___init__ ?c_InvalidCache___init__ ?k_InvalidCache___init__ ?a_is_integer ?l_is_integer ?c_is_integer ?k_is_integer ?a_LETTERS ?a_DIGITS ?a_GAPS ?a_MOST_DIGITS ?a_is_number ?l_is_number ?c_is_number ?k_is_number ?a_end_of_run ?l_end_of_run ?c_end_of_run ?k_end_of_run ?a_tokens_of ?l_tokens_of ?c_tokens_of ?k_tokens_of ?aC_Reader ?pg_Reader ?hd_Reader ?po_Reader ?sa_Reader ?mk_Reader ?kc_Reader ?cc_Reader ?cm_Reader ?ic_Reader ?tc_Reader ?cgO ?ctO ?np_Reader_tokens ?np_Reader_at ?a_Reader___init__ ?i_Reader___init__ ?l_Reader___init__ ?c_Reader___init__ ?k_Reader___init__ ?a_Reader_token ?i_Reader_token ?l_Reader_token ?c_Reader_token ?k_Reader_token ?a_Reader_place ?i_Reader_place ?l_Reader_place ?c_Reader_place ?k_Reader_place ?a_Reader_pass_any ?i_Reader_pass_any ?l_Reader_pass_any ?c_Reader_pass_any ?k_Reader_pass_any ?a_Reader_passes ?i_Reader_passes ?l_Reader_passes ?c_Reader_passes ?k_Reader_passes ?a_Reader_pass_only ?i_Reader_pass_only ?l_Reader_pass_only ?c_Reader_pass_only ?k_Reader_pass_only ?a_Reader_pass_one ?i_Reader_pass_one ?l_Reader_pass_one ?c_Reader_pass_one ?k_Reader_pass_one ?a_Reader_pass_number ?i_Reader_pass_number ?l_Reader_pass_number ?c_Reader_pass_number ?k_Reader_pass_number ?a_Reader_pass_end ?i_Reader_pass_end ?l_Reader_pass_end ?c_Reader_pass_end ?k_Reader_pass_end ?a_RULES ?l_RULES ?a_WRITES ?l_WRITES ?a_MOST_CELLS ?a_MOST_LEVELS ?a_MOST_SETS ?a_MOST_WAYS ?a_LONGEST_PERIOD ?a_is_count ?l_is_count ?c_is_count ?k_is_count ?a_is_level ?l_is_level ?c_is_level ?k_is_level ?a_check_levels ?l_check_levels ?c_check_levels ?k_check_levels ?aC_Cache ?pg_Cache ?hd_Cache ?po_Cache ?sa_Cache ?mk_Cache ?kc_Cache ?cc_Cache ?cm_Cache ?ic_Cache ?tc_Cache ?np_Cache_line ?np_Cache_levels ?np_Cache_together ?a_Cache___init__ ?i_Cache___init__ ?l_Cache___init__ ?c_Cache___init__ ?k_Cache___init__ ?pa_Cache_line ?pg_Cache_line ?pt_Cache_line ?pr_Cache_line ?l_Cache_line ?c_Cache_line ?k_Cache_line ?pa_Cache_levels ?pg_Cache_levels ?pt_Cache_levels ?pr_Cache_levels ?l_Cache_levels ?c_Cache_levels ?k_Cache_levels ?pa_Cache_sets_together ?pg_Cache_sets_together ?pt_Cache_sets_together ?pr_Cache_sets_together ?l_Cache_sets_together ?c_Cache_sets_together ?k_Cache_sets_together ?pa_Cache_period ?pg_Cache_period ?pt_Cache_period ?pr_Cache_period ?l_Cache_period ?c_Cache_period ?k_Cache_period ?a_Cache_show ?i_Cache_show ?l_Cache_show ?c_Cache_show ?k_Cache_show ?a_Cache___len__ ?i_Cache___len__ ?l_Cache___len__ ?c_Cache___len__ ?k_Cache___len__ ?a_Cache___eq__ ?i_Cache___eq__ ?l_Cache___eq__ ?c_Cache___eq__ ?k_Cache___eq__ ?a_law_pool ?l_law_pool ?c_law_pool ?k_law_pool ?a_law_take ?l_law_take ?c_law_take ?k_law_take ?a_law_cache ?l_law_cache ?c_law_cache ?k_law_cache ?a_law_words ?l_law_words ?c_law_words ?k_law_words ?a_law_heard ?l_law_heard ?c_law_heard ?k_law_heard ?a_law_is_right ?l_law_is_right ?c_law_is_right ?k_law_is_right ?a_law_wrong ?l_law_wrong ?c_law_wrong ?k_law_wrong ?a_law ?l_law ?c_law ?k_law ?z_len ?z_tuple ?z_max ?z_min ?z_enumerate ?z_isinstance ?z_int ?z_bool ?z_abs ?z_range ?z_all ?z_str ?z_repr ?anO ?tkO ?aLcm ?neC ?rdC ?gaC ?fcR ?rcR ?fiR ?l_Cache_read ?c_Cache_read ?k_Cache_read ?nf0 ?nf1 ?nf2 ?nf3 ?ne10 ?ne20 ?ne21 ?ne30 ?ne31 ?ne32
    (case aC_FarError => k_is)
    (case aC_InvalidText => k_is)
    (case l_InvalidText => k_is)
    (case sa_InvalidText => k_is)
    (case kC_InvalidText => k_is)
    (case ga_InvalidText => k_is)
    (case gg_InvalidText => k_is)
    (case ex_InvalidText => k_is)
    (case ac_InvalidText => k_is)
    (case mo_InvalidText => k_is)
    (case no_InvalidText => k_is)
    (case i_InvalidText => k_is)
    (case t_InvalidText => k_is)
    (case l_InvalidText___init__ => k_is)
    (case c_InvalidText___init__ => k_is)
    (case k_InvalidText___init__ => k_is)
    (case aC_InvalidSyntax => k_is)
    (case l_InvalidSyntax => k_is)
    (case sa_InvalidSyntax => k_is)
    (case kC_InvalidSyntax => k_is)
    (case ga_InvalidSyntax => k_is)
    (case gg_InvalidSyntax => k_is)
    (case ex_InvalidSyntax => k_is)
    (case ac_InvalidSyntax => k_is)
    (case mo_InvalidSyntax => k_is)
    (case no_InvalidSyntax => k_is)
    (case i_InvalidSyntax => k_is)
    (case t_InvalidSyntax => k_is)
    (case l_InvalidSyntax___init__ => k_is)
    (case c_InvalidSyntax___init__ => k_is)
    (case k_InvalidSyntax___init__ => k_is)
    (case aC_TooLarge => k_is)
    (case l_TooLarge => k_is)
    (case sa_TooLarge => k_is)
    (case kC_TooLarge => k_is)
    (case ga_TooLarge => k_is)
    (case gg_TooLarge => k_is)
    (case ex_TooLarge => k_is)
    (case ac_TooLarge => k_is)
    (case mo_TooLarge => k_is)
    (case no_TooLarge => k_is)
    (case i_TooLarge => k_is)
    (case t_TooLarge => k_is)
    (case l_TooLarge___init__ => k_is)
    (case c_TooLarge___init__ => k_is)
    (case k_TooLarge___init__ => k_is)
    (case aC_InvalidCache => k_is)
    (case l_InvalidCache => k_is)
    (case sa_InvalidCache => k_is)
    (case kC_InvalidCache => k_is)
    (case ga_InvalidCache => k_is)
    (case gg_InvalidCache => k_is)
    (case ex_InvalidCache => k_is)
    (case ac_InvalidCache => k_is)
    (case mo_InvalidCache => k_is)
    (case no_InvalidCache => k_is)
    (case i_InvalidCache => k_is)
    (case t_InvalidCache => k_is)
    (case l_InvalidCache___init__ => k_is)
    (case c_InvalidCache___init__ => k_is)
    (case k_InvalidCache___init__ => k_is)
    (case a_is_integer => k_is)
    (case l_is_integer => k_is)
    (case c_is_integer => k_is)
    (case k_is_integer => k_is)
    (case a_LETTERS => k_is)
    (case a_DIGITS => k_is)
    (case a_GAPS => k_is)
    (case a_MOST_DIGITS => k_is)
    (case a_is_number => k_is)
    (case l_is_number => k_is)
    (case c_is_number => k_is)
    (case k_is_number => k_is)
    (case a_end_of_run => k_is)
    (case l_end_of_run => k_is)
    (case c_end_of_run => k_is)
    (case k_end_of_run => k_is)
    (case a_tokens_of => k_is)
    (case l_tokens_of => k_is)
    (case c_tokens_of => k_is)
    (case k_tokens_of => k_is)
    (case aC_Reader => k_is)
    (case pg_Reader => k_is)
    (case hd_Reader => k_is)
    (case po_Reader => k_is)
    (case sa_Reader => k_is)
    (case mk_Reader => k_is)
    (case kc_Reader => k_is)
    (case cc_Reader => k_is)
    (case cm_Reader => k_is)
    (case ic_Reader => k_is)
    (case tc_Reader => k_is)
    (case cgO => k_is)
    (case ctO => k_is)
    (case np_Reader_tokens => k_is)
    (case np_Reader_at => k_is)
    (case a_Reader___init__ => k_is)
    (case i_Reader___init__ => k_is)
    (case l_Reader___init__ => k_is)
    (case c_Reader___init__ => k_is)
    (case k_Reader___init__ => k_is)
    (case a_Reader_token => k_is)
    (case i_Reader_token => k_is)
    (case l_Reader_token => k_is)
    (case c_Reader_token => k_is)
    (case k_Reader_token => k_is)
    (case a_Reader_place => k_is)
    (case i_Reader_place => k_is)
    (case l_Reader_place => k_is)
    (case c_Reader_place => k_is)
    (case k_Reader_place => k_is)
    (case a_Reader_pass_any => k_is)
    (case i_Reader_pass_any => k_is)
    (case l_Reader_pass_any => k_is)
    (case c_Reader_pass_any => k_is)
    (case k_Reader_pass_any => k_is)
    (case a_Reader_passes => k_is)
    (case i_Reader_passes => k_is)
    (case l_Reader_passes => k_is)
    (case c_Reader_passes => k_is)
    (case k_Reader_passes => k_is)
    (case a_Reader_pass_only => k_is)
    (case i_Reader_pass_only => k_is)
    (case l_Reader_pass_only => k_is)
    (case c_Reader_pass_only => k_is)
    (case k_Reader_pass_only => k_is)
    (case a_Reader_pass_one => k_is)
    (case i_Reader_pass_one => k_is)
    (case l_Reader_pass_one => k_is)
    (case c_Reader_pass_one => k_is)
    (case k_Reader_pass_one => k_is)
    (case a_Reader_pass_number => k_is)
    (case i_Reader_pass_number => k_is)
    (case l_Reader_pass_number => k_is)
    (case c_Reader_pass_number => k_is)
    (case k_Reader_pass_number => k_is)
    (case a_Reader_pass_end => k_is)
    (case i_Reader_pass_end => k_is)
    (case l_Reader_pass_end => k_is)
    (case c_Reader_pass_end => k_is)
    (case k_Reader_pass_end => k_is)
    (case a_RULES => k_is)
    (case l_RULES => k_is)
    (case a_WRITES => k_is)
    (case l_WRITES => k_is)
    (case a_MOST_CELLS => k_is)
    (case a_MOST_LEVELS => k_is)
    (case a_MOST_SETS => k_is)
    (case a_MOST_WAYS => k_is)
    (case a_LONGEST_PERIOD => k_is)
    (case a_is_count => k_is)
    (case l_is_count => k_is)
    (case c_is_count => k_is)
    (case k_is_count => k_is)
    (case a_is_level => k_is)
    (case l_is_level => k_is)
    (case c_is_level => k_is)
    (case k_is_level => k_is)
    (case a_check_levels => k_is)
    (case l_check_levels => k_is)
    (case c_check_levels => k_is)
    (case k_check_levels => k_is)
    (case aC_Cache => k_is)
    (case pg_Cache => k_is)
    (case hd_Cache => k_is)
    (case po_Cache => k_is)
    (case sa_Cache => k_is)
    (case mk_Cache => k_is)
    (case kc_Cache => k_is)
    (case cc_Cache => k_is)
    (case cm_Cache => k_is)
    (case ic_Cache => k_is)
    (case tc_Cache => k_is)
    (case np_Cache_line => k_is)
    (case np_Cache_levels => k_is)
    (case np_Cache_together => k_is)
    (case a_Cache___init__ => k_is)
    (case i_Cache___init__ => k_is)
    (case l_Cache___init__ => k_is)
    (case c_Cache___init__ => k_is)
    (case k_Cache___init__ => k_is)
    (case pa_Cache_line => k_is)
    (case pg_Cache_line => k_is)
    (case pt_Cache_line => k_is)
    (case pr_Cache_line => k_is)
    (case l_Cache_line => k_is)
    (case c_Cache_line => k_is)
    (case k_Cache_line => k_is)
    (case pa_Cache_levels => k_is)
    (case pg_Cache_levels => k_is)
    (case pt_Cache_levels => k_is)
    (case pr_Cache_levels => k_is)
    (case l_Cache_levels => k_is)
    (case c_Cache_levels => k_is)
    (case k_Cache_levels => k_is)
    (case pa_Cache_sets_together => k_is)
    (case pg_Cache_sets_together => k_is)
    (case pt_Cache_sets_together => k_is)
    (case pr_Cache_sets_together => k_is)
    (case l_Cache_sets_together => k_is)
    (case c_Cache_sets_together => k_is)
    (case k_Cache_sets_together => k_is)
    (case pa_Cache_period => k_is)
    (case pg_Cache_period => k_is)
    (case pt_Cache_period => k_is)
    (case pr_Cache_period => k_is)
    (case l_Cache_period => k_is)
    (case c_Cache_period => k_is)
    (case k_Cache_period => k_is)
    (case a_Cache_show => k_is)
    (case i_Cache_show => k_is)
    (case l_Cache_show => k_is)
    (case c_Cache_show => k_is)
    (case k_Cache_show => k_is)
    (case a_Cache___len__ => k_is)
    (case i_Cache___len__ => k_is)
    (case l_Cache___len__ => k_is)
    (case c_Cache___len__ => k_is)
    (case k_Cache___len__ => k_is)
    (case a_Cache___eq__ => k_is)
    (case i_Cache___eq__ => k_is)
    (case l_Cache___eq__ => k_is)
    (case c_Cache___eq__ => k_is)
    (case k_Cache___eq__ => k_is)
    (case a_law_pool => k_is)
    (case l_law_pool => k_is)
    (case c_law_pool => k_is)
    (case k_law_pool => k_is)
    (case a_law_take => k_is)
    (case l_law_take => k_is)
    (case c_law_take => k_is)
    (case k_law_take => k_is)
    (case a_law_cache => k_is)
    (case l_law_cache => k_is)
    (case c_law_cache => k_is)
    (case k_law_cache => k_is)
    (case a_law_words => k_is)
    (case l_law_words => k_is)
    (case c_law_words => k_is)
    (case k_law_words => k_is)
    (case a_law_heard => k_is)
    (case l_law_heard => k_is)
    (case c_law_heard => k_is)
    (case k_law_heard => k_is)
    (case a_law_is_right => k_is)
    (case l_law_is_right => k_is)
    (case c_law_is_right => k_is)
    (case k_law_is_right => k_is)
    (case a_law_wrong => k_is)
    (case l_law_wrong => k_is)
    (case c_law_wrong => k_is)
    (case k_law_wrong => k_is)
    (case a_law => k_is)
    (case l_law => k_is)
    (case c_law => k_is)
    (case k_law => k_is)
    (case z_len => k_is)
    (case z_tuple => k_is)
    (case z_max => k_is)
    (case z_min => k_is)
    (case z_enumerate => k_is)
    (case z_isinstance => k_is)
    (case z_int => k_is)
    (case z_bool => k_is)
    (case z_abs => k_is)
    (case z_range => k_is)
    (case z_all => k_is)
    (case z_str => k_is)
    (case z_repr => k_is)
    (case anO => k_is)
    (case tkO => k_is)
    (case aLcm => k_is)
    (case neC => k_is)
    (case rdC => k_is)
    (case gaC => k_is)
    (case fcR => k_is)
    (case rcR => k_is)
    (case fiR => k_is)
    (case l_Cache_read => k_is)
    (case c_Cache_read => k_is)
    (case k_Cache_read => k_is)
    (case nf0 => decide +kernel)
    (case nf1 => decide +kernel)
    (case nf2 => decide +kernel)
    (case nf3 => decide +kernel)
    (case ne10 => decide +kernel)
    (case ne20 => decide +kernel)
    (case ne21 => decide +kernel)
    (case ne30 => decide +kernel)
    (case ne31 => decide +kernel)
    (case ne32 => decide +kernel)

