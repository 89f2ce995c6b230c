import PyProof.Rows.All
import Wide.All
import OpenK.AllK
import Wide.FinOn
import PyProof.EqAt
import PyProof.EqKinds
import PyProof.TupleCall
import PyProof.InstNe
import KE.KOpsOwn
import HandS.Base
import HandS.Call
import HandS.List
import HandS.More
import PyProof.TwoTypesSub
import PyProof.AutoIntOps
import PyProof.StrReplace2
import HandS.Words
import HandS.Star
import HandS.IsInst
import HandS.Defaults
import HandS.Property
import HandS.OwnEq
import HandS.ForMost
import HandS.Wide
import PySem.Challenge.RW_heldfloods_k03_places_moved_and_mirrored
set_option Elab.async false
set_option linter.all false
set_option maxRecDepth 100000
section
set_option maxHeartbeats 4000000
/-! Operators that an own class defines, over instances that are tracked. -/
namespace Ow
open PySem PySem.Spec PyProof.Rows L2

/-- an instance of the class at C stands at a -/
def InsAt (H : Hp) (a C : Addr) : Prop := ∃ dx fs, H a = some (.ins C dx fs)

section
variable {X : Cx} {CX : CXT} {n : Nat} {C g : Addr} {sp : Sp} {E : XK}

theorem inst_of {pins : List (Addr × Obj)} {σ : L2.St} {H : Hp} {s : Shared} {a : Addr} (I : Inv X pins σ H s) (h : InsAt H a C) : ∃ ox od, PySem.W.InstAt s.heap a ox C od := by
  obtain ⟨dx, fs, ea⟩ := h
  obtain ⟨mA, O, _⟩ := ins_get I.hok ea
  obtain ⟨od, J, _⟩ := O.look
  exact ⟨_, _, J⟩

theorem cmpbackR {Q : Value → Shared → Prop} {v : V} {u : Value} {s : Shared} (r : RelV v u) (q : Q u s) : PySem.W.CmpBack Q u s := by
  cases v <;> first
    | (cases r; exact q)
    | (obtain ⟨t, rfl⟩ := r; exact q)

/-- x op y, both instances of C -/
def rBin (C : Addr) (sp : Sp) (E : XK) : R2 := fun x y H Q => ∃ a b, x = .ref a ∧ y = .ref b ∧ InsAt H a C ∧ InsAt H b C ∧ sp [x, y] H Q E
theorem op_bin {op : Operator} (hc : PySem.W.selfFirst X.K C = true) (hs : PySem.W.findIn X.K (.ref C) (PySem.dunder op.info.2) = some (some (.ref g))) (hf : PySem.W.isFn X.K (.ref g) = true)
    (F : FnR X.prog X.w X.K X.mg X.base CX n g sp) (hr : Room n X.A) (hx : Passes CX X E) : OpR X (binaryOp op) (rBin C sp E) := by
  intro pins s σ H x y v u Q I rx ry h
  obtain ⟨a, b, rfl, rfl, ha, hb, q⟩ := h
  cases (show v = Value.ref a from rx)
  cases (show u = Value.ref b from ry)
  obtain ⟨ox, od, J⟩ := inst_of I ha
  obtain ⟨oy, od', J'⟩ := inst_of I hb
  obtain ⟨m, hF⟩ := I.fr
  refine PySem.W.binop_K (op := op) hF I.ok.mod.kin J J'.type hc hs hf ?_
  refine wpAny_mono (wpAny_call (run_fnR (us := [.ref a, .ref b]) (vs := [.ref a, .ref b]) F hr hx I (.cons rfl (.cons rfl .nil)) q)) (fun w s' z => ?_) fun _ _ x => x
  obtain ⟨z', H', I', rz, qz⟩ := z
  exact cmpbackR rz ⟨z', H', I', rz, qz⟩

/-- x op n, an instance of C and an int -/
def rBinI (C : Addr) (sp : Sp) (E : XK) : R2 := fun x y H Q => ∃ a i, x = .ref a ∧ y = .int i ∧ InsAt H a C ∧ sp [x, y] H Q E
theorem op_binI {op : Operator} {fo ro rc : Option Value} (hc : PySem.W.selfFirst X.K C = true) (hs : PySem.W.findIn X.K (.ref C) (PySem.dunder op.info.2) = some (some (.ref g))) (hf : PySem.W.isFn X.K (.ref g) = true)
    (hrr : PySem.W.findIn X.K (.ref C) (dunderR op.info.2) = some rc) (hp : rc = none ∨ ∃ g : Addr, rc = some (.ref g))
    (h1 : PySem.W.findIn X.K (.type "int") (PySem.dunder op.info.2) = some fo) (h2 : PySem.W.findIn X.K (.type "int") (dunderR op.info.2) = some ro) (hsub : PySem.W.subIn X.K (.type "int") (.ref C) = some false)
    (F : FnR X.prog X.w X.K X.mg X.base CX n g sp) (hr : Room n X.A) (hx : Passes CX X E) : OpR X (binaryOp op) (rBinI C sp E) := by
  intro pins s σ H x y v u Q I rx ry h
  obtain ⟨a, i, rfl, rfl, ha, q⟩ := h
  cases (show v = Value.ref a from rx)
  obtain ⟨t, rfl⟩ := ry
  obtain ⟨ox, od, J⟩ := inst_of I ha
  obtain ⟨m, hF⟩ := I.fr
  refine PySem.W.ksp_binT (op := op) (T := "int") hF I.ok.mod.kin J rfl hc hs hf hrr hp h1 h2 hsub ?_
  refine wpAny_mono (wpAny_call (run_fnR (us := [.ref a, .int i t]) (vs := [.ref a, .int i]) F hr hx I (.cons rfl (.cons ⟨t, rfl⟩ .nil)) q)) (fun w s' z => ?_) fun _ _ x => x
  obtain ⟨z', H', I', rz, qz⟩ := z
  exact cmpbackR rz ⟨z', H', I', rz, qz⟩

/-- ~x -/
def rUn (C : Addr) (sp : Sp) (E : XK) : V → Hp → VK → Prop := fun x H Q => ∃ a, x = .ref a ∧ InsAt H a C ∧ sp [x] H Q E
theorem un_inv_own (hs : PySem.W.findIn X.K (.ref C) "__invert__" = some (some (.ref g))) (hf : PySem.W.isFn X.K (.ref g) = true)
    (F : FnR X.prog X.w X.K X.mg X.base CX n g sp) (hr : Room n X.A) (hx : Passes CX X E) : UnR X (unaryOp .Invert) (rUn C sp E) := by
  intro pins s σ H x v Q I rx h
  obtain ⟨a, rfl, ha, q⟩ := h
  cases (show v = Value.ref a from rx)
  obtain ⟨ox, od, J⟩ := inst_of I ha
  obtain ⟨m, hF⟩ := I.fr
  refine PySem.W.ksp_inv hF I.ok.mod.kin J hs hf ?_
  exact wpAny_call (run_fnR (us := [.ref a]) (vs := [.ref a]) F hr hx I (.cons rfl .nil) q)

/-- x op y, a comparison whose def stands at g; y an instance of C too -/
theorem op_cmp {op : CmpOp} (hop : ∀ a b, compareOp op a b = richCompare op a b) (hs : PySem.W.findIn X.K (.ref C) (cmpInfo op).2.1 = some (some (.ref g))) (hf : PySem.W.isFn X.K (.ref g) = true) (hn : PySem.W.notFirst X.K C (.ref C) = true)
    (F : FnR X.prog X.w X.K X.mg X.base CX n g sp) (hr : Room n X.A) (hx : Passes CX X E) : OpR X (compareOp op) (rBin C sp E) := by
  intro pins s σ H x y v u Q I rx ry h
  obtain ⟨a, b, rfl, rfl, ha, hb, q⟩ := h
  cases (show v = Value.ref a from rx)
  cases (show u = Value.ref b from ry)
  obtain ⟨ox, od, J⟩ := inst_of I ha
  obtain ⟨oy, od', J'⟩ := inst_of I hb
  obtain ⟨m, hF⟩ := I.fr
  rw [hop]
  refine PySem.W.cmp_K (op := op) (tb := .ref C) hr.units0 hF I.ok.mod.kin J J'.type hn hs hf ?_
  refine wpAny_mono (wpAny_call (run_fnR (us := [.ref a, .ref b]) (vs := [.ref a, .ref b]) F hr hx I (.cons rfl (.cons rfl .nil)) q)) (fun w s' z => ?_) fun _ _ x => x
  obtain ⟨z', H', I', rz, qz⟩ := z
  exact cmpbackR rz ⟨z', H', I', rz, qz⟩
end
end Ow
end
section
set_option maxHeartbeats 4000000
namespace Ow
open PySem PySem.Spec PyProof.Rows L2 PySem.W

section
variable {prog : Program} {w : World} {M : Model} {A : Around} {E : Value → Shared → Prop} {s : Shared} {K : Frag} {x C L f : Addr} {h₀ : Heap} {m : Str → Option Value} {ox : Obj} {od : Option Obj} {nm : String}

theorem add_ref_at {i : Int} {t : Tok} {x C dx : Addr} : GivesAt (fun s => s.heap.get? x = some (instObj C dx)) (Builtin.«int.__add__» ⟨[.int i t, .ref x], []⟩) (.val Value.notImplemented) := by
  intro prog w A R s hx h
  obtain ⟨hp, g, d, tk, os⟩ := s
  have hl : ∀ {M : Model} {A : Around} {E : Value → Shared → Prop} {Q : Option Int → Shared → Prop}, Q none ⟨hp, g, d, tk, os⟩ → wpAny M A (asInt? (.ref x)) Q E ⟨hp, g, d, tk, os⟩ := by
    intro M A E Q q
    unfold asInt?
    exact wpAny_bind (wpAny_load hx (wpAny_pure q))
  unfold Builtin.«int.__add__»
  wp_walk using hl
  exact h
theorem int_add_ref {i : Int} {t : Tok} {x C dx : Addr} {s : Shared} {Q : Value → Shared → Prop} (hx : s.heap.get? x = some (instObj C dx)) (h : Q .notImplemented s) :
    wpAny (model prog w) A (call (.builtin "int.__add__") [.int i t, .ref x]) Q E s :=
  call_givesAt F.slot_int_add (typeIs_int s i t) F.entry_int_add (F.args_int_add_2 _ _) add_ref_at hx h
theorem int_add_own {i : Int} {t : Tok} {x C dx f fa : Addr} {cd : ClassData} {rest : List Value} {Q : Value → Shared → Prop} (X : K.In s.heap) (hx : s.heap.get? x = some (instObj C dx)) (I : InstAt s.heap x ox C od) (hcd : clsIn K C = some cd) (hm : cd.mro = .ref C :: rest)
    (ha : findIn K (.ref C) (PySem.dunder "add") = some (some (.ref fa))) (hs : findIn K (.ref C) (dunderR "add") = some (some (.ref f))) (hf : isFn K (.ref f) = true) (hsub : subIn K (.ref C) (.type "int") = some false)
    (h : wpAny (model prog w) A (call (.ref f) [.ref x, .int i t]) (PySem.W.CmpBack Q) E s) : wpAny (model prog w) A (binaryOp .Add (.int i t) (.ref x)) Q E s := by
  have one := ksp_try X I hs hf h
  have two : ∀ {Q' : Option Value → Shared → Prop}, Q' none s → wpAny (model prog w) A (tryMethod (.int i t) (PySem.dunder "add") (.ref x)) Q' E s := by
    intro Q' q
    unfold tryMethod
    exact wpAny_bind (wpAny_callSpecial?_slot (typeIs_int s i t) F.slot_int_add (int_add_ref hx (wpAny_pure q)))
  obtain ⟨hh, g, d, tt, os⟩ := s
  have L1 : Looks (model prog w) hh (typeOf (.int i t)) (.type "int") := Looks.of_pure rfl
  have L2 : Looks (model prog w) hh (typeOf (.ref x)) (.ref C) := I.type
  have L3 : Looks (model prog w) hh (fillsNumberSlot (.type "int") "add") true := Looks.of_pure F.fills_int_add
  have L4 : Looks (model prog w) hh (fillsNumberSlot (.ref C) "add") true := fills_K X hcd hm ha
  have L5 : Looks (model prog w) hh (isSubtype (.ref C) (.type "int")) false := looks_subIn X hsub
  have L7 : Looks (model prog w) hh (numberSlotInPython (.type "int") "add") false := Looks.of_pure rfl
  have hne : (Value.type "int" == Value.ref C) = false := Bool.eq_false_iff.mpr fun q => by cases beq_iff_eq.mp q
  show wpAny (model prog w) A (binaryOp .Add (.int i t) (.ref x)) Q E _
  have hi : Operator.info .Add = ("+", "add") := rfl
  simp only [binaryOp, hi]
  refine wpAny_holding (wpAny_bind ?_)
  unfold binaryOp1
  refine wpAny_bind (L1.at (wpAny_bind (L2.at (wpAny_bind (L3.at ?_)))))
  simp only [hne, Bool.false_eq_true, if_false]
  ksp_lk
  refine two ?_
  ksp_lk
  refine wpAny_mono one (fun r s' hr' => ?_) fun _ _ e => e
  obtain ⟨v, rfl, hq⟩ := hr'
  ksp_lk
  exact hq
end
end Ow
end
section
set_option maxHeartbeats 4000000
namespace Ow
open PySem PySem.Spec PyProof.Rows L2 PySem.W

section
variable {prog : Program} {w : World} {M : Model} {A : Around} {E : Value → Shared → Prop} {s : Shared} {K : Frag} {x C L f : Addr} {h₀ : Heap} {m : Str → Option Value} {ox : Obj} {od : Option Obj} {nm T : String}
/-- no += of one's own: C over object alone -/
theorem noI_own {h : Heap} {cd : ClassData} {add : Bool} (X : K.In h) (hc : clsIn K C = some cd) (hm : cd.mro = [.ref C, .type "object"]) (hs : findIn K (.ref C) (dunderI nm) = some none)
    (ho : typeLookup (.type "object") (dunderI nm) = pure none) : Looks M h (fillsInplaceSlot (.ref C) nm add) false := by
  intro A Q E s k q
  have Lm : Looks M h (mroOf (.ref C)) cd.mro := (looks_clsIn X hc).andThen (f := fun cd => pure cd.mro) .now
  have Lm' := Lm.keeps k
  obtain ⟨hh, g, d, tt, os⟩ := s
  have X' : K.In hh := X.keeps k
  have L1 : Looks M hh (typeLookup (.ref C) (dunderI nm)) none := looks_findIn X' hs
  have L2 : Looks M hh (typeLookup (.type "object") (dunderI nm)) none := Looks.of_pure ho
  unfold fillsInplaceSlot
  refine wpAny_bind (Lm'.at ?_)
  rw [hm, List.anyM_cons]
  refine wpAny_bind (wpAny_bind (L1.at ?_))
  refine wpAny_pure ?_
  simp only [Bool.false_eq_true, if_false]
  rw [List.anyM_cons]
  refine wpAny_bind (wpAny_bind (L2.at ?_))
  refine wpAny_pure ?_
  simp only [Bool.false_eq_true, if_false]
  exact wpAny_pure q

theorem iadd_own {op : Operator} {b : Value} {cd : ClassData} {fo ro rc : Option Value} {Q : Value → Shared → Prop} (X : K.In s.heap) (I : InstAt s.heap x ox C od) (hb : typeOf b = pure (.type T)) (hcd : clsIn K C = some cd) (hm : cd.mro = [.ref C, .type "object"])
    (hni : findIn K (.ref C) (dunderI op.info.2) = some none) (hno : typeLookup (.type "object") (dunderI op.info.2) = pure none)
    (hs : findIn K (.ref C) (PySem.dunder op.info.2) = some (some (.ref f))) (hf : isFn K (.ref f) = true) (hr : findIn K (.ref C) (dunderR op.info.2) = some rc) (hp : rc = none ∨ ∃ g : Addr, rc = some (.ref g))
    (h1 : findIn K (.type T) (PySem.dunder op.info.2) = some fo) (h2 : findIn K (.type T) (dunderR op.info.2) = some ro) (hsub : subIn K (.type T) (.ref C) = some false)
    (h : wpAny (model prog w) A (call (.ref f) [.ref x, b]) (PySem.W.CmpBack Q) E s) : wpAny (model prog w) A (inplaceOp op (.ref x) b) Q E s := by
  rcases hi : op.info with ⟨sym, nm'⟩
  rw [hi] at hs hr h1 h2 hni hno
  dsimp only at hs hr h1 h2 hni hno
  have one := ksp_try X I hs hf h
  obtain ⟨hh, g, d, tt, os⟩ := s
  have L0 : Looks (model prog w) hh (fillsInplaceSlot (.ref C) nm' (op == .Add)) false := noI_own X hcd hm hni hno
  have L1 : Looks (model prog w) hh (typeOf (.ref x)) (.ref C) := I.type
  have L2 : Looks (model prog w) hh (typeOf b) (.type T) := Looks.of_pure hb
  have L3 : Looks (model prog w) hh (fillsNumberSlot (.ref C) nm') true := fills_K X hcd hm hs
  have L4 : Looks (model prog w) hh (fillsNumberSlot (.type T) nm') ((fo.isSome && !isSeqSlot fo) || (ro.isSome && !isSeqSlot ro)) := ksp_fillsT X h1 h2
  have L5 : Looks (model prog w) hh (isSubtype (.type T) (.ref C)) false := looks_subIn X hsub
  have L6 : Looks (model prog w) hh (numberSlotInPython (.ref C) nm') true := ksp_inPy X hs hr hp
  have L7 : Looks (model prog w) hh (numberSlotInPython (.type T) nm') false := Looks.of_pure rfl
  have L8 : Looks (model prog w) hh (typeLookup (.type T) (dunderR nm')) ro := looks_findIn X h2
  generalize ((fo.isSome && !isSeqSlot fo) || (ro.isSome && !isSeqSlot ro)) = right at L4
  have hne : (Value.ref C == Value.type T) = false := Bool.eq_false_iff.mpr fun q => by cases beq_iff_eq.mp q
  unfold inplaceOp
  simp only [hi]
  refine wpAny_holding (wpAny_bind (L1.at (wpAny_bind (L0.at ?_))))
  simp only [Bool.false_eq_true, if_false]
  refine wpAny_bind ?_
  unfold binaryOp1
  refine wpAny_bind (L1.at (wpAny_bind (L2.at (wpAny_bind (L3.at ?_)))))
  simp only [hne, Bool.false_eq_true, if_false]
  cases right with
  | false =>
    ksp_lk
    refine wpAny_mono one (fun r s' hr' => ?_) fun _ _ e => e
    obtain ⟨v, rfl, hq⟩ := hr'
    ksp_lk
    exact hq
  | true =>
    ksp_lk
    refine wpAny_mono one (fun r s' hr' => ?_) fun _ _ e => e
    obtain ⟨v, rfl, hq⟩ := hr'
    ksp_lk
    exact hq
end
end Ow
end
section
set_option maxHeartbeats 4000000
namespace Ow
open PySem PySem.Spec PyProof.Rows L2 PySem.W

section
variable {prog : Program} {w : World} {M : Model} {A : Around} {E : Value → Shared → Prop} {s : Shared} {K : Frag} {x y C L f : Addr} {ox oy : Obj} {od od' : Option Obj}

theorem objNe_K {Q : PySem.Fin → Shared → Prop} (X : K.In s.heap) (I : InstAt s.heap x ox C od) (hs : findIn K (.ref C) "__eq__" = some (some (.ref f))) (hf : isFn K (.ref f) = true) (hu : A.units < cLine)
    (hcall : wpAny (model prog w) A (call (.ref f) [.ref x, .ref y]) (fun v s' => ∃ b, v = .bool b ∧ Q (.done (.ret (.bool (!b)))) s') E s) :
    wpAny (model prog w) A (Builtin.«object.__ne__» ⟨[.ref x, .ref y], []⟩) Q E s := by
  unfold Builtin.«object.__ne__»
  repeat (first
    | with_reducible refine wpAny_cRoomFor hu ?_
    | (refine wpAny_bind (m := callSpecialIfBound? (.ref x) (Str.ofString "__eq__") [.ref y])
        (ifBound_K X I hs hf (wpAny_mono hcall (fun r s' hr => by
          obtain ⟨b, rfl, hq⟩ := hr
          repeat (first | exact hq | exact wpAny_pure hq | exact wpAny_truthy_bool hq | (refine wpAny_bind (m := truthy (.bool _)) (wpAny_truthy_bool ?_)) | wp_step)) fun _ _ e => e)))
    | wp_step)

theorem check_K {id owner n : String} {rest : List Value} {Q : Unit → Shared → Prop} (X : K.In s.heap) (I : InstAt s.heap x ox C od) (hk : builtinKind id = some .slot) (hs : splitId id = some (owner, n))
    (ha : argsOk id ⟨.ref x :: rest, []⟩) (hob : subIn K (.ref C) (.type owner) = some true) (hq : Q () s) :
    wpAny M A (checkBuiltinCall id ⟨.ref x :: rest, []⟩) Q E s := by
  obtain ⟨h, g, d, t, os⟩ := s
  have Ls : Looks M h (isSubtype (.ref C) (.type owner)) true := looks_subIn X hob
  have hx := I.at_
  have hc := I.cls
  have X0 := X
  simp only [checkBuiltinCall, hk, hs]
  refine wpAny_bind ?_
  unfold isInstance
  repeat (first | (with_reducible refine wpAny_loadPart_at hx ?_; rw [hc]) | (with_reducible refine Ls.here ?_) | wp_step)
  cases hsig : Manifest.signature? id with
  | none => exact wpAny_pure hq
  | some sig =>
    simp only [argsOk, hsig] at ha
    have h2 : Bind.checkArgs id sig ⟨.ref x :: rest, []⟩ = pure () := ha
    show wpAny M A (Bind.checkArgs id sig ⟨.ref x :: rest, []⟩) Q E _
    rw [h2]; exact wpAny_pure hq

theorem ne_own {Q : Value → Shared → Prop} (hu : A.units + 1 < cLine) (X : K.In s.heap) (I : InstAt s.heap x ox C od) (J : InstAt s.heap y oy C od') (hne : findIn K (.ref C) "__ne__" = some (some (.builtin "object.__ne__")))
    (hs : findIn K (.ref C) "__eq__" = some (some (.ref f))) (hf : isFn K (.ref f) = true) (hob : subIn K (.ref C) (.type "object") = some true)
    (hcall : wpAny (model prog w) A.in1 (call (.ref f) [.ref x, .ref y]) (fun v s' => ∃ b, v = .bool b ∧ Q (.bool (!b)) s') E s) :
    wpAny (model prog w) A (compareOp .NotEq (.ref x) (.ref y)) Q E s := by
  have S := F.cmp_object.ne
  have one : wpAny (model prog w) A (tryCompare (.ref x) "__ne__" (.ref y)) (fun r s' => ∃ v, r = some v ∧ Q v s') E s := by
    unfold tryCompare
    refine wpAny_bind ?_
    simp only [callSpecialIfBound?, bindSpecialIfBound?]
    refine wpAny_holding (wpAny_bind (wpAny_bind (wpAny_bind (I.type.here ((looks_findIn X hne).here ?_)))))
    simp only [S.bind]
    have fin : ∀ {R : Option Value → Shared → Prop}, (∀ b s', Q (.bool (!b)) s' → R (some (.bool (!b))) s') → wpAny (model prog w) A (call (.builtin "object.__ne__") ([.ref x] ++ [.ref y]) >>= fun v => pure (some v)) R E s := by
      intro R hR
      refine wpAny_bind (wpAny_call (codeAny_call_builtin S.plain F.cmpEntry_ne (check_K X I F.cmpKind_ne F.cmpSplit_ne (F.cmpArgs_ne _ _) hob (objNe_K (A := A.in1) X I hs hf hu (wpAny_mono hcall (fun v s' hv => ?_) fun _ _ e => e)))))
      obtain ⟨b, rfl, hq⟩ := hv
      exact ⟨b, rfl, wpAny_pure (hR b _ hq)⟩
    refine wpAny_bind (wpAny_askSetting (wpAny_ite ?_))
    split
    · exact wpAny_bind (wpAny_pure (wpAny_pure (fin fun b s' hq => wpAny_pure ⟨_, rfl, hq⟩)))
    · exact wpAny_tryCatch (wpAny_bind (wpAny_pure (wpAny_pure (fin fun b s' hq => wpAny_pure ⟨_, rfl, hq⟩))))
  show wpAny (model prog w) A (richCompare .NotEq (.ref x) (.ref y)) Q E s
  unfold richCompare
  simp only [oneThing_ref]
  refine wpAny_holding (wpAny_bind (wpAny_cRoomFor (Nat.lt_of_succ_lt hu) ?_))
  refine wpAny_bind (I.type.here (wpAny_bind (J.type.here ?_)))
  rw [show (Value.ref C != Value.ref C) = false from by simp]
  simp only [Bool.false_eq_true, if_false]
  refine wpAny_bind (wpAny_pure ?_)
  simp only [Bool.false_eq_true, if_false]
  refine wpAny_bind (wpAny_mono one (fun r s' z => ?_) fun _ _ e => e)
  obtain ⟨v, rfl, hq⟩ := z
  exact wpAny_pure hq
end

section
variable {X : Cx} {CX : CXT} {n : Nat} {C g : Addr} {sp : Sp} {E : XK}
/-- x != y, both instances of C, which has == alone -/
def rNeOwn (C : Addr) (sp : Sp) (E : XK) : R2 := fun x y H Q => ∃ a b, x = .ref a ∧ y = .ref b ∧ InsAt H a C ∧ InsAt H b C ∧ sp [x, y] H (fun v H' => ∃ k, v = .bl k ∧ Q (.bl (!k)) H') E
theorem op_ne_own (hne : PySem.W.findIn X.K (.ref C) "__ne__" = some (some (.builtin "object.__ne__"))) (hs : PySem.W.findIn X.K (.ref C) "__eq__" = some (some (.ref g))) (hf : PySem.W.isFn X.K (.ref g) = true) (hob : PySem.W.subIn X.K (.ref C) (.type "object") = some true)
    (F : FnR X.prog X.w X.K X.mg X.base CX n g sp) (hr : Room (n + 1) X.A) (hx : Passes CX X E) : OpR X (compareOp .NotEq) (rNeOwn C sp E) := by
  intro pins s σ H x y v u Q I rx ry h
  obtain ⟨a, b, rfl, rfl, ha, hb, q⟩ := h
  cases (show v = Value.ref a from rx)
  cases (show u = Value.ref b from ry)
  obtain ⟨ox, od, J⟩ := inst_of I ha
  obtain ⟨oy, od', J'⟩ := inst_of I hb
  have hu : X.A.units + 1 < cLine := hu_of hr
  refine ne_own hu I.kIn J J' hne hs hf hob ?_
  refine wpAny_call ?_
  refine codeAny_mono (F X.A.in1 X.stack s H [.ref a, .ref b] [.ref a, .ref b] _ E hr.in1 I.env0.in1 (.cons rfl (.cons rfl .nil)) q) fun r s' hq => ?_
  cases r with
  | error e => exact hx pins σ H s e s' I hq
  | ok fl =>
    cases fl with
    | ret u =>
      obtain ⟨v, H', I2, rv, k, ev, qq⟩ := I.after hq
      subst ev
      cases (show u = Value.bool k from rv)
      exact ⟨k, rfl, .bl (!k), H', I2, rfl, qq⟩
    | next => exact False.elim hq
    | brk => exact False.elim hq
    | cont => exact False.elim hq
end
end Ow
end
section
set_option maxHeartbeats 4000000
namespace Ow
open PySem PySem.Spec PyProof.Rows L2 StX

section
variable {X : Cx} {CX : CXT} {n : Nat} {C g fa : Addr} {sp : Sp} {E : XK}

theorem inst_of2 {pins : List (Addr × Obj)} {σ : L2.St} {H : Hp} {s : Shared} {a : Addr} (I : Inv X pins σ H s) (h : InsAt H a C) : ∃ dx od, s.heap.get? a = some (PySem.W.instObj C dx) ∧ PySem.W.InstAt s.heap a (PySem.W.instObj C dx) C od := by
  obtain ⟨dx, fs, ea⟩ := h
  obtain ⟨mA, O, _⟩ := ins_get I.hok ea
  obtain ⟨od, J, _⟩ := O.look
  exact ⟨dx, _, J.at_, J⟩

/-- n + x: the instance's __radd__ -/
def rBinR (C : Addr) (sp : Sp) (E : XK) : R2 := fun x y H Q => ∃ a i, x = .int i ∧ y = .ref a ∧ InsAt H a C ∧ sp [y, x] H Q E
theorem op_radd (hc : PySem.W.selfFirst X.K C = true) (ha : PySem.W.findIn X.K (.ref C) (PySem.dunder "add") = some (some (.ref fa))) (hs : PySem.W.findIn X.K (.ref C) (dunderR "add") = some (some (.ref g))) (hf : PySem.W.isFn X.K (.ref g) = true)
    (hsub : PySem.W.subIn X.K (.ref C) (.type "int") = some false)
    (F : FnR X.prog X.w X.K X.mg X.base CX n g sp) (hr : Room n X.A) (hx : Passes CX X E) : OpR X (binaryOp .Add) (rBinR C sp E) := by
  intro pins s σ H x y v u Q I rx ry h
  obtain ⟨a, i, rfl, rfl, hia, q⟩ := h
  obtain ⟨t, rfl⟩ := rx
  cases (show u = Value.ref a from ry)
  obtain ⟨dx, od, hx', J⟩ := inst_of2 I hia
  obtain ⟨cd, rest, hcd, hm⟩ := PySem.W.ksp_first hc
  refine int_add_own I.kIn hx' J hcd hm ha hs hf hsub ?_
  refine wpAny_mono (wpAny_call (run_fnR (us := [.ref a, .int i t]) (vs := [.ref a, .int i]) F hr hx I (.cons rfl (.cons ⟨t, rfl⟩ .nil)) q)) (fun w s' z => ?_) fun _ _ x => x
  obtain ⟨z', H', I', rz, qz⟩ := z
  exact cmpbackR rz ⟨z', H', I', rz, qz⟩

def mro2 (K : PySem.W.Frag) (C : Addr) : Bool := (PySem.W.clsIn K C).any fun cd => cd.mro == [.ref C, .type "object"]
theorem mro2_of {K : PySem.W.Frag} {C : Addr} (h : mro2 K C = true) : ∃ cd, PySem.W.clsIn K C = some cd ∧ cd.mro = [.ref C, .type "object"] := by
  obtain ⟨cd, hcd, hm⟩ := PySem.W.any_some h
  exact ⟨cd, hcd, beq_iff_eq.mp hm⟩
theorem noI_obj_add : typeLookup (.type "object") (dunderI "add") = pure none := by rw [typeLookup_type, builtinLookup_eq_fast]; kernel_rfl
/-- x += n, the class has no __iadd__ -/
theorem iop_addI {fo ro rc : Option Value} (hc : mro2 X.K C = true) (hni : PySem.W.findIn X.K (.ref C) (dunderI "add") = some none) (hs : PySem.W.findIn X.K (.ref C) (PySem.dunder "add") = some (some (.ref g))) (hf : PySem.W.isFn X.K (.ref g) = true)
    (hrr : PySem.W.findIn X.K (.ref C) (dunderR "add") = some rc) (hp : rc = none ∨ ∃ g : Addr, rc = some (.ref g))
    (h1 : PySem.W.findIn X.K (.type "int") (PySem.dunder "add") = some fo) (h2 : PySem.W.findIn X.K (.type "int") (dunderR "add") = some ro) (hsub : PySem.W.subIn X.K (.type "int") (.ref C) = some false)
    (F : FnR X.prog X.w X.K X.mg X.base CX n g sp) (hr : Room n X.A) (hx : Passes CX X E) : OpR X (inplaceOp .Add) (rBinI C sp E) := by
  intro pins s σ H x y v u Q I rx ry h
  obtain ⟨a, i, rfl, rfl, hia, q⟩ := h
  cases (show v = Value.ref a from rx)
  obtain ⟨t, rfl⟩ := ry
  obtain ⟨ox, od, J⟩ := inst_of I hia
  obtain ⟨cd, hcd, hm⟩ := mro2_of hc
  refine iadd_own (op := .Add) (T := "int") I.kIn J rfl hcd hm hni noI_obj_add hs hf hrr hp h1 h2 hsub ?_
  refine wpAny_mono (wpAny_call (run_fnR (us := [.ref a, .int i t]) (vs := [.ref a, .int i]) F hr hx I (.cons rfl (.cons ⟨t, rfl⟩ .nil)) q)) (fun w s' z => ?_) fun _ _ x => x
  obtain ⟨z', H', I', rz, qz⟩ := z
  exact cmpbackR rz ⟨z', H', I', rz, qz⟩

/-- f(e, ..), a def of the module, by its positional promise -/
def tCallR (sp : Sp) (E : XK) (t : TA) : TE := fun σ H Q => t σ H fun vs H1 => sp vs H1 Q E
theorem pe_callR {x : Str} {f : Addr} {e : Expr} {es : List Expr} {t : TA} {p pos : Pos} (F : FnR X.prog X.w X.K X.mg X.base CX n f sp) (hr : Room n X.A) (hm : X.mg x = some (.ref f)) (hk : PySem.W.keepIn X.K (.ref f) = true) (hx : Passes CX X E)
    (ha : PA X (e :: es) t) (hg : Gl X x := by rfl) (hdb : (x == ("__debug__" : Str)) = false := by decide) (he : starEach (e :: es) X.env = (false, eval e X.env) :: starEach es X.env := by rfl) (hpl : (backTo pos (starEach es X.env)).any (·.1) = false := by rfl) :
    PE X (.Call (.Name x p) (e :: es) [] pos) (tCallR sp E t) := by
  refine ⟨fun pins s σ H Q I h => ?_⟩
  refine wpAny_Call_Name_kw (ld_glob I hg hm ?_ hdb)
  refine PySem.W.callWith_K (h₀ := X.base) I.ok.mod.kin hk (thn (ha.run pos pins s σ H _ I h) fun us s1 ⟨vs, H1, I1, r, q⟩ => ⟨I1.kIn, ?_⟩) he hpl
  exact wpAny_call (run_fnR F hr hx I1 r q)

/-- C(e, ..): a new instance, by the positional promise of __init__ -/
theorem pe_makeRR {x : Str} {e : Expr} {es : List Expr} {t : TA} {p pos : Pos} (M : Mk X.K C g) (F : FnR X.prog X.w X.K X.mg X.base CX n g sp) (hr : Room (n + 1) X.A) (hm : X.mg x = some (.ref C)) (hx : Passes CX X E) (ha : PA X (e :: es) t) (hg : Gl X x := by rfl) (hdb : (x == ("__debug__" : Str)) = false := by decide)
    (he : starEach (e :: es) X.env = (false, eval e X.env) :: starEach es X.env := by rfl) (hpl : (backTo pos (starEach es X.env)).any (·.1) = false := by rfl) : PE X (.Call (.Name x p) (e :: es) [] pos) (tMakeR C sp E t) :=
  pe_makeR M F hr hg hm hx ha hdb he hpl
end
end Ow
end
section
set_option maxHeartbeats 4000000
namespace Ow
open PySem PySem.Spec PyProof.Rows L2 StX

/-- what the walk asks of an own class -/
structure ClsF (K : PySem.W.Frag) (C : Addr) : Prop where
  cl : Cls K C
  ca : PySem.W.findIn K (.ref C) "__class__" = some (some (.builtin "object.__class__"))
  cn : PySem.W.specialIn K (.builtin "object.__class__") "__get__" = some (some (.builtin "getset_descriptor.__get__"))
  ct : PySem.W.takesIn K (.builtin "object.__class__") = some true
  cm : PySem.W.mroIn K C (.type "object") = some true
  ic : PySem.W.isClsIn K C = true
  ty : PySem.W.typeIn K (.ref C) = some (.type "type")
theorem ClsF.tyOf {K : PySem.W.Frag} {C p dx : Addr} {H : Hp} {fs : List (Str × V)} (c : ClsF K C) (h : H p = some (.ins C dx fs)) : TyX K H (.ref p) (.ref C) := .base (.ins h c.cl c.ca c.cn c.ct c.cm)
theorem kit_self {K : PySem.W.Frag} {t : Value} : PySem.W.kitOne K t t = some true := by
  unfold PySem.W.kitOne
  rw [if_pos (beq_self_eq_true t)]
/-- t is not below the own class at C -/
theorem kit_own {K : PySem.W.Frag} {C : Addr} {t : Value} {b : Bool} (c : ClsF K C) (h : PySem.W.subIn K t (.ref C) = some b) (hb : (t == Value.ref C) = false) : PySem.W.kitOne K t (.ref C) = some b := by
  unfold PySem.W.kitOne
  rw [if_neg (by rw [hb]; exact Bool.false_ne_true)]
  show (if ((PySem.W.clsIn K C).isSome && PySem.W.typeIn K (.ref C) == some (.type "type")) = true then PySem.W.subIn K t (.ref C) else none) = some b
  have h1 : (PySem.W.clsIn K C).isSome = true := c.ic
  rw [h1, c.ty]
  rw [if_pos (by rfl)]
  exact h
/-- an instance of C against a built-in type -/
theorem kit_bty {K : PySem.W.Frag} {C : Addr} {T : String} {b : Bool} (hm : PySem.W.kitMeta T = true) (h : PySem.W.subIn K (.ref C) (.type T) = some b) : PySem.W.kitOne K (.ref C) (.type T) = some b := by
  unfold PySem.W.kitOne
  rw [if_neg (by intro z; cases beq_iff_eq.mp z)]
  show (if PySem.W.kitMeta T = true then PySem.W.subIn K (.ref C) (.type T) else none) = some b
  rw [if_pos hm]
  exact h
theorem kit_int_int {K : PySem.W.Frag} : PySem.W.kitOne K (.type "int") (.type "int") = some true := kit_self
theorem kit_int_bool {K : PySem.W.Frag} : PySem.W.kitOne K (.type "int") (.type "bool") = some false := kit_ty (by decide +kernel)

section
variable {X : Cx} {CX : CXT} {k : Nat} {C p g a dx : Addr} {fs : List (Str × V)} {f : Str} {sp : Sp} {E : XK} {e : Expr} {pos : Pos} {ta : TE}
structure PropR (K : PySem.W.Frag) (C : Addr) (f : Str) (p g : Addr) : Prop where
  at_ : PySem.W.findIn K (.ref C) f = some (some (.ref p))
  get : PySem.W.specialIn K (.ref p) "__get__" = some (some (.builtin "property.__get__"))
  tak : PySem.W.takesIn K (.ref p) = some true
  rec_ : ∃ rest, PySem.W.recIn K p "property" = some (.ref g :: rest)
theorem getprop_R {pins : List (Addr × Obj)} {σ : L2.St} {H : Hp} {s : Shared} {Q : VK} {b : Bool} (I : Inv X pins σ H s) (ea : H a = some (.ins C dx fs)) (c : Cls X.K C) (hp : PropR X.K C f p g)
    (F : FnR X.prog X.w X.K X.mg X.base CX k g sp) (hr : Room (k + 1) X.A) (hx : Passes CX X.nox E) (h : sp [.ref a] H Q E) :
    wpAny (model X.prog X.w) X.A (getAttr (.ref a) f b) (EP X pins σ Q) X.xe s := by
  obtain ⟨mA, O, _, _, _, _⟩ := ins_get I.hok ea
  obtain ⟨od, J, _⟩ := O.look
  obtain ⟨rest, hrec⟩ := hp.rec_
  have I1 := I.tok (s.toks + 1)
  have hc : (PySem.W.clsIn X.K C).isSome = true := by
    obtain ⟨cd, hc, _⟩ := PySem.W.any_some c.hd
    rw [hc]
    rfl
  refine PySem.W.get_bind I.kIn J (PySem.W.plainGet_of (c.get f)).1 (PySem.W.findObj_data hc hp.at_ hp.get hp.tak) (PySem.W.plainGet_of (c.get f)).2 (wpAny_call (PySem.W.prop_get (s := { s with toks := s.toks + 1 }) I.kIn hrec ?_))
  refine codeAny_mono (F X.A.in1 X.stack { s with toks := s.toks + 1 } H [.ref a] [.ref a] Q E hr.in1 I1.env0.in1 (.cons rfl .nil) h) fun r s' hq => ?_
  cases r with
  | error er => exact False.elim (hx pins σ H { s with toks := s.toks + 1 } er s' (I1.wish _) hq)
  | ok fl =>
    cases fl with
    | ret u =>
      obtain ⟨v, H', I3, rv, q3⟩ := I1.after hq
      show wpAny _ _ (handedOut u) _ _ _
      rw [PySem.W.handedOut_of (handed_of rv)]
      exact wpAny_pure ⟨v, H', I3, rv, q3⟩
    | next => exact False.elim hq
    | brk => exact False.elim hq
    | cont => exact False.elim hq
def tPropR (C : Addr) (sp : Sp) (E : XK) (ta : TE) : TE := fun σ H Q => ta σ H fun x H1 => ∃ a dx fs, x = .ref a ∧ H1 a = some (.ins C dx fs) ∧ sp [.ref a] H1 Q E
/-- e.f, f a property -/
theorem pe_propR (he : PE X e ta) (c : Cls X.K C) (hp : PropR X.K C f p g) (F : FnR X.prog X.w X.K X.mg X.base CX k g sp) (hr : Room (k + 1) X.A) (hx : Passes CX X.nox E)
    (hab : attributeBase e f X.env (eval e X.env) = eval e X.env := by rfl) : PE X (.Attribute e f pos) (tPropR C sp E ta) := by
  refine ⟨fun pins s σ H Q I h => ?_⟩
  refine attr_of hab (thn (he.run pins s σ H _ I h) fun u s1 ⟨x, H1, I1, rx, a, dx, fs, ex, ea, q⟩ => ?_)
  subst ex
  obtain rfl : u = Value.ref a := rx
  exact getprop_R I1 ea c hp F hr hx q
end

/-- a def of the text, as the top left it: dvs its defaults -/
def FnT (K : PySem.W.Frag) (x qual : Str) (st : Stmt) (dvs : List V) (f : Addr) : Prop := ∃ fd, FunD K x qual (defArgs st) (defBody st) (defScope st) dvs [] f fd
section
variable {P : Program} {w : World} {K : PySem.W.Frag} {mg : Str → Option Value} {base : Heap} {x qual : Str} {st : Stmt} {dvs : List V} {f : Addr}
theorem FnT.kp (F : FnT K x qual st dvs f) : PySem.W.keepIn K (.ref f) = true := F.elim fun _ z => z.kp
/-- a def without defaults that lets nothing out -/
theorem FnT.ok {N ps : List Str} {k : Nat} {sp : Sp} (F : FnT K x qual st [] f) (S : FnScope N ps (defScope st))
    (hb : ∀ (kV doc pm : Value) (an : Option Addr) (cdv ct : Value) (us : List Value), us.length = ps.length → bindArgs (PySem.W.fnOf x qual (defArgs st) (defBody st) (defScope st) .none kV doc pm an cdv ct) ⟨us, []⟩ = pure (ps.zip us))
    (len : ∀ vs H Q E, sp vs H Q E → vs.length = ps.length)
    (hbody : ∀ (cdv : Value) (A : Around) (outer : List Env) (s : Shared) (H : Hp) (vs : List V) (Q : VK) (E : XK), Room k (A.deeper (envOfC qual (defScope st) s.heap.objs.size f cdv)) → sp vs H Q E →
      ∃ t, PSs (cxOf CX0 P w K mg base N qual (defScope st) f cdv A outer s H E).nox (defBody st) t ∧ t { nx := fun _ H' => Q .non H', rt := Q } (start N vs) H) : FnR P w K mg base CX0 (k + 1) f sp := by
  obtain ⟨fd, F⟩ := F
  have ok : FnOk P w K mg base CX0 (k + 1) f fd ps sp := F.ok S len fun cdv A outer s H vs Q E hr hsp => by
    obtain ⟨t, h, q⟩ := hbody cdv A outer s H vs Q E hr hsp
    exact ⟨t, h.nox, q⟩
  have b : Binds K fd ps [] := F.bindsN hb
  have r := ok.raw b .nil
  exact r.imp fun vs H Q E h => by rw [List.append_nil]; exact h
/-- .. with defaults, all of its arguments told; or the last ones filled up: j of the defaults are not used -/
theorem FnT.okD {N ps : List Str} {k n j : Nat} {sp : Sp} (F : FnT K x qual st dvs f) (S : FnScope N ps (defScope st)) (hd : dvs ≠ []) (hn : n + (dvs.length - j) = ps.length)
    (hb : ∀ (T : Addr) (kV doc pm : Value) (an : Option Addr) (cdv ct : Value) (us its : List Value), us.length = n → its.length = dvs.length →
      ∃ k, bindArgs (PySem.W.fnOf x qual (defArgs st) (defBody st) (defScope st) (.ref T) kV doc pm an cdv ct) ⟨us, []⟩ = seqItems? (.ref T) >>= k ∧ k (some its.toArray) = pure (ps.zip (us ++ its.drop j)))
    (len : ∀ vs H Q E, sp vs H Q E → vs.length = ps.length)
    (hbody : ∀ (cdv : Value) (A : Around) (outer : List Env) (s : Shared) (H : Hp) (vs : List V) (Q : VK) (E : XK), Room k (A.deeper (envOfC qual (defScope st) s.heap.objs.size f cdv)) → sp vs H Q E →
      ∃ t, PSs (cxOf CX0 P w K mg base N qual (defScope st) f cdv A outer s H E).nox (defBody st) t ∧ t { nx := fun _ H' => Q .non H', rt := Q } (start N vs) H) : FnR P w K mg base CX0 (k + 1) f (fun vs H Q E => sp (vs ++ dvs.drop j) H Q E) := by
  obtain ⟨fd, F⟩ := F
  have ok : FnOk P w K mg base CX0 (k + 1) f fd ps sp := F.ok S len fun cdv A outer s H vs Q E hr hsp => by
    obtain ⟨t, h, q⟩ := hbody cdv A outer s H vs Q E hr hsp
    exact ⟨t, h.nox, q⟩
  obtain ⟨ds, hds, b⟩ := F.binds1 n j hd hn hb
  exact ok.raw b hds
end
end Ow
end
section
set_option maxHeartbeats 4000000
namespace Ow
open PySem PySem.SeqAt
open AutoSeq1 (wpAny_loadPart')
open MeetsSeq MeetsSeq2 MeetsSeq3 SeqRoads2

section
variable {prog : Program} {w : World} {A : Around} {R : Result → Shared → Prop}
theorem ne_loopG (l b : Addr) (N : Nat) (I : Nat → Shared → Prop) (hl : GQ.ListI prog w A (fun e s' => R (.error e) s') l b N I)
    (fin : ∀ s, I N s → R (.ok (.ret (.bool false))) s) (k : Nat) :
    ∀ i : Nat, N - i = k → i ≤ N → ∀ s, I i s →
      wpAny (model prog w) A.in1 (Builtin.«list.__eq__.loop» ⟨[.ref l, .ref b, rawInt i, rawInt 3], []⟩) (GQ.FinOf prog w A R) (fun e s' => R (.error e) s') s := by
  induction k with
  | zero =>
    intro i hk hi s h
    obtain ⟨items, items2, n, n2, hl1, hb1, hs1, hs2, _⟩ := hl _ _ h
    have hi' : i = N := by omega
    have hR : R (.ok (.ret (.bool false))) s := fin s (hi' ▸ h)
    obtain ⟨hp, g, d, tk, os⟩ := s
    wp_walk using wpAny_loadPart' hl1, wpAny_loadPart' hb1
    have hi1 : items[((i : Nat) : Int).toNat]? = none := by simp; omega
    have hi2 : items2[((i : Nat) : Int).toNat]? = none := by simp; omega
    rw [hi1, hi2]
    wp_walk using wpAny_loadPart' hl1, wpAny_loadPart' hb1
    show R (.ok (.ret (.bool (items.size != items2.size)))) _
    rw [hs1, hs2]
    simpa using hR
  | succ k ih =>
    intro i hk hi s h
    obtain ⟨items, items2, n, n2, hl1, hb1, hs1, hs2, turn⟩ := hl _ _ h
    have hlt : i < items.size := by omega
    have hlt2 : i < items2.size := by omega
    have ht := turn hlt hlt2
    obtain ⟨hp, g, d, tk, os⟩ := s
    wp_walk using wpAny_loadPart' hl1, wpAny_loadPart' hb1
    have hi1 : items[((i : Nat) : Int).toNat]? = some items[i] := by simp [hlt]
    have hi2 : items2[((i : Nat) : Int).toNat]? = some items2[i] := by simp [hlt2]
    have hc : ((i : Int) + 1) = ((i + 1 : Nat) : Int) := by omega
    rw [hi1, hi2]
    refine wpAny_bind (wpAny_mono ht (fun r s2 h2 => ?_) fun _ _ x => x)
    obtain ⟨hr, h2⟩ := h2
    subst hr
    have hrec := ih (i + 1) (by omega) (by omega) s2 h2
    obtain ⟨hp2, g2, d2, tk2, os2⟩ := s2
    wp_walk
    rw [hc]
    exact ⟨plainId_quiet plain_eq_loop _, codeAny_builtin entry_eq_loop (by
      rw [Around.under_plainId plain_eq_loop _]
      exact hrec)⟩

theorem list_neG (l b : Addr) (N : Nat) (I : Nat → Shared → Prop) (hl : GQ.ListI prog w A (fun e s' => R (.error e) s') l b N I)
    (fin : ∀ s, I N s → R (.ok (.ret (.bool false))) s) {s : Shared} (h : I 0 s) :
    wpAny (model prog w) A.in1 (Builtin.«list.__ne__» ⟨[.ref l, .ref b], []⟩) (GQ.FinOf prog w A R) (fun e s' => R (.error e) s') s := by
  obtain ⟨items, items2, n, n2, hl1, hb1, hs1, hs2, _⟩ := hl _ _ h
  have hrec := ne_loopG (A := A) (R := R) l b N I hl fin _ 0 rfl (Nat.zero_le _) s h
  obtain ⟨hp, g, d, tk, os⟩ := s
  have f3 := AutoSeq1.sub_list_list
  have hne : ¬ (items.size != items2.size) = true := by simp [hs1, hs2]
  wp_walk using wpAny_loadPart' hl1, wpAny_loadPart' hb1
  exact ⟨plainId_quiet plain_eq_loop _, codeAny_builtin entry_eq_loop (by
    rw [Around.under_plainId plain_eq_loop _]
    exact hrec)⟩
theorem rn_listG {E : Value → Shared → Prop} {s : Shared} {l b : Addr} {N : Nat} {Q : Value → Shared → Prop} (hu : A.units < cLine) (I : Nat → Shared → Prop) (hl : GQ.ListI prog w A E l b N I)
    (fin : ∀ s, I N s → Q (.bool false) s) (h : I 0 s) : wpAny (model prog w) A (richCompare .NotEq (.ref l) (.ref b)) Q E s := by
  obtain ⟨items, items2, n, n2, hl1, hb1, _, _, _⟩ := hl _ _ h
  refine wpAny_richCompare_same_room (op := .NotEq) ⟨_, hl1, rfl⟩ ⟨_, hb1, rfl⟩ F.slot_list_ne (GQ.call_here F.slot_list_ne ⟨_, hl1, rfl⟩ F.entry_list_ne (F.args_list_ne_2 _ _) ?_) hu
  exact list_neG (R := wants (fun v s' => v ≠ .notImplemented ∧ Q v s') E) l b N I hl (fun s' q => ⟨(fun x => nomatch x), fin s' q⟩) h
end
end Ow
namespace Ow
open PySem PySem.Spec PyProof.Rows L2 StX
section
variable {X : Cx} {n m : Nat} {D D' : Eqv}
/-- two lists, equal item by item: != gives False -/
def rNeL (D : Eqv) : R2 := fun x y H Q => DList D x y H ∧ ∀ H', Ext H H' → Q (.bl false) H'
theorem op_neL (hD : Mon D) (h : EqG X n D) (hr : Room (n + 1) X.A) : OpR X (compareOp .NotEq) (rNeL D) := by
  intro pins s σ H x y v u Q I rx ry hq
  obtain ⟨⟨a, b, xs, ys, rfl, rfl, ha, hb, p⟩, q⟩ := hq
  cases rx
  cases ry
  show wpAny (model X.prog X.w) X.A (richCompare .NotEq (.ref a) (.ref b)) (EP X pins σ Q) X.xe s
  have sb : Sub X (n + 1) X.A := ⟨hr, rfl⟩
  refine rn_listG (N := xs.length) hr.units0 (fun _ s' => LoopI X pins σ H s') (fun i s' q => ?_) (fun s' q' => ?_) ⟨H, I, Ext.rfl'⟩
  · obtain ⟨H1, I1, e1⟩ := id q
    obtain ⟨z, its, k, r, e⟩ := I1.hok a _ (e1 _ _ ha)
    obtain ⟨z2, its2, k2, r2, e2⟩ := I1.hok b _ (e1 _ _ hb)
    refine ⟨its.toArray, its2.toArray, k, k2, e, e2, by rw [List.size_toArray, ← r.length], by rw [List.size_toArray, ← r2.length, ← p.1], fun h1 h2 => ?_⟩
    exact turnG hD h sb p r r2 i h1 h2 s' q
  · obtain ⟨H1, I1, e1⟩ := q'
    exact ⟨.bl false, H1, I1, rfl, q H1 e1⟩
/-- instances of C by their own ==, a positional promise -/
theorem eqG_insR {CX : CXT} {C f : Addr} {R : Addr → Addr → Hp → Prop} {E : XK} (F : FnR X.prog X.w X.K X.mg X.base CX n f (spEq R))
    (hs : PySem.W.findIn X.K (.ref C) "__eq__" = some (some (.ref f))) (hf : PySem.W.isFn X.K (.ref f) = true) (hx : Passes CX X E) : EqG X n (DIns C R) := by
  have rc : RcG X n (DIns C R) := by
    intro A pins s σ H x y u v sb I rx ry d
    obtain ⟨a, b, dx, dy, fs, gs, rfl, rfl, ha, hb', hr⟩ := d
    cases rx
    cases ry
    obtain ⟨mA, J, _⟩ := ins_get I.hok ha
    obtain ⟨mB, J', _⟩ := ins_get I.hok hb'
    obtain ⟨od, J, _⟩ := J.look
    obtain ⟨od', J', _⟩ := J'.look
    obtain ⟨m, hF⟩ := I.fr
    refine PySem.W.cmp_K (op := .Eq) (tb := .ref C) sb.room.units0 hF I.ok.mod.kin J J'.type (by simp [PySem.W.notFirst]) hs hf ?_
    have hsp : spEq R [.ref a, .ref b] H (fun v H' => v = .bl true ∧ Ext H H') E := ⟨a, b, rfl, hr, fun H' e => ⟨rfl, e⟩⟩
    have e0 : Env0 X.prog X.w X.K X.mg X.base A X.stack s H := by
      have e := I.env0
      exact ⟨by rw [sb.fr]; exact e.frames, e.mod, e.bs, e.bsz, e.funs, e.frf, e.hok, e.bare⟩
    have r2 : Vals [V.ref a, V.ref b] [Value.ref a, Value.ref b] := .cons rfl (.cons rfl .nil)
    refine wpAny_call (codeAny_mono (F A X.stack s H [.ref a, .ref b] [.ref a, .ref b] _ E sb.room e0 r2 hsp) fun r s' hq => ?_)
    cases r with
    | error e => exact hx pins σ H s e s' I hq
    | ok fl =>
      cases fl with
      | ret w =>
        obtain ⟨z, H', I', rz, ez, ex⟩ := I.after hq
        subst ez
        cases rz
        exact ⟨rfl, H', I', ex⟩
      | next => exact False.elim hq
      | brk => exact False.elim hq
      | cont => exact False.elim hq
  exact rc.eqG fun _ _ _ d => let ⟨a, b, _, _, _, _, hx, hy, _⟩ := d; ⟨a, b, hx, hy⟩
end
end Ow
end
section
namespace Pf
open PySem PySem.Spec PyProof.Rows L2 Ow
def topS (i : Nat) : Stmt := PySem.Challenge.pw_heldfloods_k03_places_moved_and_mirrored.main.body.getD i (.Pass ⟨0, 0, 0, 0⟩)
abbrev s_is_int : Stmt := topS 6
theorem sc_is_int : FnScope ["value"] ["value"] (defScope s_is_int) := ⟨rfl, rfl, rfl, by decide +kernel, rfl, by decide +kernel, by decide +kernel⟩
abbrev s_check_size : Stmt := topS 7
theorem sc_check_size : FnScope ["value", "part"] ["value", "part"] (defScope s_check_size) := ⟨rfl, rfl, rfl, by decide +kernel, rfl, by decide +kernel, by decide +kernel⟩
abbrev s_Place_init : Stmt := inClass (topS 11) 0
theorem sc_Place_init : FnScope ["self", "slope", "offset", "odd"] ["self", "slope", "offset", "odd"] (defScope s_Place_init) := ⟨rfl, rfl, rfl, by decide +kernel, rfl, by decide +kernel, by decide +kernel⟩
abbrev s_Place_slope : Stmt := inClass (topS 11) 1
theorem sc_Place_slope : FnScope ["self"] ["self"] (defScope s_Place_slope) := ⟨rfl, rfl, rfl, by decide +kernel, rfl, by decide +kernel, by decide +kernel⟩
abbrev s_Place_offset : Stmt := inClass (topS 11) 2
theorem sc_Place_offset : FnScope ["self"] ["self"] (defScope s_Place_offset) := ⟨rfl, rfl, rfl, by decide +kernel, rfl, by decide +kernel, by decide +kernel⟩
abbrev s_Place_odd : Stmt := inClass (topS 11) 3
theorem sc_Place_odd : FnScope ["self"] ["self"] (defScope s_Place_odd) := ⟨rfl, rfl, rfl, by decide +kernel, rfl, by decide +kernel, by decide +kernel⟩
abbrev s_Place_call : Stmt := inClass (topS 11) 4
theorem sc_Place_call : FnScope ["self", "size"] ["self", "size"] (defScope s_Place_call) := ⟨rfl, rfl, rfl, by decide +kernel, rfl, by decide +kernel, by decide +kernel⟩
abbrev s_parts_of : Stmt := topS 16
theorem sc_parts_of : FnScope ["place"] ["place"] (defScope s_parts_of) := ⟨rfl, rfl, rfl, by decide +kernel, rfl, by decide +kernel, by decide +kernel⟩
abbrev s_mirrored_parts : Stmt := topS 17
theorem sc_mirrored_parts : FnScope ["parts", "slope", "offset", "odd"] ["parts"] (defScope s_mirrored_parts) := ⟨rfl, rfl, rfl, by decide +kernel, rfl, by decide +kernel, by decide +kernel⟩
abbrev s_Place_add : Stmt := inClass (topS 11) 5
theorem sc_Place_add : FnScope ["self", "other"] ["self", "other"] (defScope s_Place_add) := ⟨rfl, rfl, rfl, by decide +kernel, rfl, by decide +kernel, by decide +kernel⟩
abbrev s_Place_radd : Stmt := inClass (topS 11) 6
theorem sc_Place_radd : FnScope ["self", "other"] ["self", "other"] (defScope s_Place_radd) := ⟨rfl, rfl, rfl, by decide +kernel, rfl, by decide +kernel, by decide +kernel⟩
abbrev s_Place_sub : Stmt := inClass (topS 11) 7
theorem sc_Place_sub : FnScope ["self", "other"] ["self", "other"] (defScope s_Place_sub) := ⟨rfl, rfl, rfl, by decide +kernel, rfl, by decide +kernel, by decide +kernel⟩
abbrev s_Place_invert : Stmt := inClass (topS 11) 8
theorem sc_Place_invert : FnScope ["self", "slope", "offset", "odd"] ["self"] (defScope s_Place_invert) := ⟨rfl, rfl, rfl, by decide +kernel, rfl, by decide +kernel, by decide +kernel⟩
abbrev s_Place_eq : Stmt := inClass (topS 11) 9
theorem sc_Place_eq : FnScope ["self", "other"] ["self", "other"] (defScope s_Place_eq) := ⟨rfl, rfl, rfl, by decide +kernel, rfl, by decide +kernel, by decide +kernel⟩
abbrev s_from_left : Stmt := topS 12
theorem sc_from_left : FnScope ["k"] ["k"] (defScope s_from_left) := ⟨rfl, rfl, rfl, by decide +kernel, rfl, by decide +kernel, by decide +kernel⟩
abbrev s_from_right : Stmt := topS 13
theorem sc_from_right : FnScope ["k"] ["k"] (defScope s_from_right) := ⟨rfl, rfl, rfl, by decide +kernel, rfl, by decide +kernel, by decide +kernel⟩
abbrev s_from_middle : Stmt := topS 14
theorem sc_from_middle : FnScope ["k"] ["k"] (defScope s_from_middle) := ⟨rfl, rfl, rfl, by decide +kernel, rfl, by decide +kernel, by decide +kernel⟩
abbrev s__law_bag : Stmt := topS 23
theorem sc__law_bag : FnScope ["_law_script", "_law_state", "_law_cell"] ["_law_script"] (defScope s__law_bag) := ⟨rfl, rfl, rfl, by decide +kernel, rfl, by decide +kernel, by decide +kernel⟩
abbrev s__law_draw : Stmt := topS 24
theorem sc__law_draw : FnScope ["_law_bag_here", "_law_limit", "_law_cell", "_law_mixed", "_law_found"] ["_law_bag_here", "_law_limit"] (defScope s__law_draw) := ⟨rfl, rfl, rfl, by decide +kernel, rfl, by decide +kernel, by decide +kernel⟩
abbrev s__law_at : Stmt := topS 26
theorem sc__law_at : FnScope ["_law_parts_here", "_law_wide", "_law_half"] ["_law_parts_here", "_law_wide"] (defScope s__law_at) := ⟨rfl, rfl, rfl, by decide +kernel, rfl, by decide +kernel, by decide +kernel⟩
abbrev s__law_place : Stmt := topS 27
theorem sc__law_place : FnScope ["_law_parts_here"] ["_law_parts_here"] (defScope s__law_place) := ⟨rfl, rfl, rfl, by decide +kernel, rfl, by decide +kernel, by decide +kernel⟩
abbrev s__law_drawn : Stmt := topS 28
theorem sc__law_drawn : FnScope ["_law_bag_here", "_law_far"] ["_law_bag_here"] (defScope s__law_drawn) := ⟨rfl, rfl, rfl, by decide +kernel, rfl, by decide +kernel, by decide +kernel⟩
abbrev s_law : Stmt := topS 29
theorem sc_law : FnScope ["_law_script", "_law_bag_here", "_law_turn", "_law_parts_here", "_law_others", "_law_k", "_law_one", "_law_other", "_law_n", "_law_here", "_law_there", "_law_mirrored", "_law_moved", "_law_turned"] ["_law_script"] (defScope s_law) := ⟨rfl, rfl, rfl, by decide +kernel, rfl, by decide +kernel, by decide +kernel⟩
structure Adr where
  is_int : Addr
  check_size : Addr
  Place_init : Addr
  Place_slope : Addr
  Place_offset : Addr
  Place_odd : Addr
  Place_call : Addr
  parts_of : Addr
  mirrored_parts : Addr
  Place_add : Addr
  Place_radd : Addr
  Place_sub : Addr
  Place_invert : Addr
  Place_eq : Addr
  from_left : Addr
  from_right : Addr
  from_middle : Addr
  _law_bag : Addr
  _law_draw : Addr
  _law_at : Addr
  _law_place : Addr
  _law_drawn : Addr
  law : Addr
  Place : Addr
  pr_Place_slope : Addr
  pr_Place_offset : Addr
  pr_Place_odd : Addr
structure Txt (K : PySem.W.Frag) (mg : Str → Option Value) (a : Adr) : Prop where
  n_len : mg "len" = none
  n_int : mg "int" = none
  n_abs : mg "abs" = none
  n_list : mg "list" = none
  n_isinstance : mg "isinstance" = none
  n_bool : mg "bool" = none
  n_range : mg "range" = none
  d_is_int : FnT K "is_int" "is_int" s_is_int [] a.is_int
  m_is_int : mg "is_int" = some (.ref a.is_int)
  k_is_int : PySem.W.keepIn K (.ref a.is_int) = true
  d_check_size : FnT K "check_size" "check_size" s_check_size [] a.check_size
  m_check_size : mg "check_size" = some (.ref a.check_size)
  k_check_size : PySem.W.keepIn K (.ref a.check_size) = true
  d_Place_init : FnT K "__init__" "Place.__init__" s_Place_init [.int 0] a.Place_init
  d_Place_slope : FnT K "slope" "Place.slope" s_Place_slope [] a.Place_slope
  d_Place_offset : FnT K "offset" "Place.offset" s_Place_offset [] a.Place_offset
  d_Place_odd : FnT K "odd" "Place.odd" s_Place_odd [] a.Place_odd
  d_Place_call : FnT K "__call__" "Place.__call__" s_Place_call [] a.Place_call
  d_parts_of : FnT K "parts_of" "parts_of" s_parts_of [] a.parts_of
  m_parts_of : mg "parts_of" = some (.ref a.parts_of)
  k_parts_of : PySem.W.keepIn K (.ref a.parts_of) = true
  d_mirrored_parts : FnT K "mirrored_parts" "mirrored_parts" s_mirrored_parts [] a.mirrored_parts
  m_mirrored_parts : mg "mirrored_parts" = some (.ref a.mirrored_parts)
  k_mirrored_parts : PySem.W.keepIn K (.ref a.mirrored_parts) = true
  d_Place_add : FnT K "__add__" "Place.__add__" s_Place_add [] a.Place_add
  d_Place_radd : FnT K "__radd__" "Place.__radd__" s_Place_radd [] a.Place_radd
  d_Place_sub : FnT K "__sub__" "Place.__sub__" s_Place_sub [] a.Place_sub
  d_Place_invert : FnT K "__invert__" "Place.__invert__" s_Place_invert [] a.Place_invert
  d_Place_eq : FnT K "__eq__" "Place.__eq__" s_Place_eq [] a.Place_eq
  d_from_left : FnT K "from_left" "from_left" s_from_left [.int 0] a.from_left
  m_from_left : mg "from_left" = some (.ref a.from_left)
  k_from_left : PySem.W.keepIn K (.ref a.from_left) = true
  d_from_right : FnT K "from_right" "from_right" s_from_right [.int 0] a.from_right
  m_from_right : mg "from_right" = some (.ref a.from_right)
  k_from_right : PySem.W.keepIn K (.ref a.from_right) = true
  d_from_middle : FnT K "from_middle" "from_middle" s_from_middle [.int 0] a.from_middle
  m_from_middle : mg "from_middle" = some (.ref a.from_middle)
  k_from_middle : PySem.W.keepIn K (.ref a.from_middle) = true
  d__law_bag : FnT K "_law_bag" "_law_bag" s__law_bag [] a._law_bag
  m__law_bag : mg "_law_bag" = some (.ref a._law_bag)
  k__law_bag : PySem.W.keepIn K (.ref a._law_bag) = true
  d__law_draw : FnT K "_law_draw" "_law_draw" s__law_draw [] a._law_draw
  m__law_draw : mg "_law_draw" = some (.ref a._law_draw)
  k__law_draw : PySem.W.keepIn K (.ref a._law_draw) = true
  d__law_at : FnT K "_law_at" "_law_at" s__law_at [] a._law_at
  m__law_at : mg "_law_at" = some (.ref a._law_at)
  k__law_at : PySem.W.keepIn K (.ref a._law_at) = true
  d__law_place : FnT K "_law_place" "_law_place" s__law_place [] a._law_place
  m__law_place : mg "_law_place" = some (.ref a._law_place)
  k__law_place : PySem.W.keepIn K (.ref a._law_place) = true
  d__law_drawn : FnT K "_law_drawn" "_law_drawn" s__law_drawn [] a._law_drawn
  m__law_drawn : mg "_law_drawn" = some (.ref a._law_drawn)
  k__law_drawn : PySem.W.keepIn K (.ref a._law_drawn) = true
  d_law : FnT K "law" "law" s_law [] a.law
  m_law : mg "law" = some (.ref a.law)
  k_law : PySem.W.keepIn K (.ref a.law) = true
  m_Place : mg "Place" = some (.ref a.Place)
  c_Place : ClsF K a.Place
  M_Place : Mk K a.Place a.Place_init
  a_Place__slope : NoAttr K a.Place "_slope"
  a_Place__offset : NoAttr K a.Place "_offset"
  a_Place__odd : NoAttr K a.Place "_odd"
  p_Place_slope : PropR K a.Place "slope" a.pr_Place_slope a.Place_slope
  p_Place_offset : PropR K a.Place "offset" a.pr_Place_offset a.Place_offset
  p_Place_odd : PropR K a.Place "odd" a.pr_Place_odd a.Place_odd
  o_Place_add : PySem.W.findIn K (.ref a.Place) "__add__" = some (some (.ref a.Place_add))
  f_Place_add : PySem.W.isFn K (.ref a.Place_add) = true
  o_Place_radd : PySem.W.findIn K (.ref a.Place) "__radd__" = some (some (.ref a.Place_radd))
  f_Place_radd : PySem.W.isFn K (.ref a.Place_radd) = true
  o_Place_sub : PySem.W.findIn K (.ref a.Place) "__sub__" = some (some (.ref a.Place_sub))
  f_Place_sub : PySem.W.isFn K (.ref a.Place_sub) = true
  o_Place_invert : PySem.W.findIn K (.ref a.Place) "__invert__" = some (some (.ref a.Place_invert))
  f_Place_invert : PySem.W.isFn K (.ref a.Place_invert) = true
  o_Place_eq : PySem.W.findIn K (.ref a.Place) "__eq__" = some (some (.ref a.Place_eq))
  f_Place_eq : PySem.W.isFn K (.ref a.Place_eq) = true
  o_Place_call : PySem.W.findIn K (.ref a.Place) "__call__" = some (some (.ref a.Place_call))
  f_Place_call : PySem.W.isFn K (.ref a.Place_call) = true
  s_Place_first : PySem.W.selfFirst K a.Place = true
  s_Place_int : PySem.W.subIn K (.type "int") (.ref a.Place) = some false
  s_Place_isint : PySem.W.subIn K (.ref a.Place) (.type "int") = some false
  o_add : PySem.W.findIn K (.ref a.Place) (PySem.dunder "add") = some (some (.ref a.Place_add))
  o_sub : PySem.W.findIn K (.ref a.Place) (PySem.dunder "sub") = some (some (.ref a.Place_sub))
  o_radd : PySem.W.findIn K (.ref a.Place) (dunderR "add") = some (some (.ref a.Place_radd))
  o_rsub : PySem.W.findIn K (.ref a.Place) (dunderR "sub") = some none
  o_iadd : PySem.W.findIn K (.ref a.Place) (dunderI "add") = some none
  o_ne : PySem.W.findIn K (.ref a.Place) "__ne__" = some (some (.builtin "object.__ne__"))
  i_add : PySem.W.findIn K (.type "int") (PySem.dunder "add") = some (some (.builtin "int.__add__"))
  i_radd : PySem.W.findIn K (.type "int") (dunderR "add") = some (some (.builtin "int.__radd__"))
  i_sub : PySem.W.findIn K (.type "int") (PySem.dunder "sub") = some (some (.builtin "int.__sub__"))
  i_rsub : PySem.W.findIn K (.type "int") (dunderR "sub") = some (some (.builtin "int.__rsub__"))
  s_Place_mro : mro2 K a.Place = true
  s_Place_obj : PySem.W.subIn K (.ref a.Place) (.type "object") = some true
  fi_Place_call : PySem.W.fnIn K a.Place_call = true
/-! ### the bag of draws -/
/-- the pairs of a bag: its cells' list at c, where it stands, what rests, its state -/
def bagK (c : Addr) (i r st : Int) : List (Key × V) := [(Sum.inr "cells", V.ref c), (Sum.inr "at", V.int i), (Sum.inr "rest", V.int r), (Sum.inr "state", V.int st)]
theorem bagK_len (c : Addr) (i r st : Int) : (bagK c i r st).length < sizeLine := Nat.lt_of_le_of_lt (show 4 ≤ 4 from Nat.le_refl 4) (by decide +kernel)
theorem kAC : ¬ (("cells" : Str) = "at") := by decide +kernel
theorem kRC : ¬ (("cells" : Str) = "rest") := by decide +kernel
theorem kSC : ¬ (("cells" : Str) = "state") := by decide +kernel
theorem kAR : ¬ (("at" : Str) = "rest") := by decide +kernel
theorem kAS : ¬ (("at" : Str) = "state") := by decide +kernel
theorem kRS : ¬ (("rest" : Str) = "state") := by decide +kernel
theorem inr_ne {x y : Str} (h : ¬ x = y) : ¬ ((Sum.inr x : Key) = Sum.inr y) := fun e => h (Sum.inr.inj e)
theorem bag_cells (c : Addr) (i r st : Int) : valV (bagK c i r st) (Sum.inr "cells") = some (V.ref c) := valV_pos rfl
theorem bag_at (c : Addr) (i r st : Int) : valV (bagK c i r st) (Sum.inr "at") = some (V.int i) := (valV_neg (inr_ne kAC)).trans (valV_pos rfl)
theorem bag_rest (c : Addr) (i r st : Int) : valV (bagK c i r st) (Sum.inr "rest") = some (V.int r) := (valV_neg (inr_ne kRC)).trans ((valV_neg (inr_ne kAR)).trans (valV_pos rfl))
theorem bag_state (c : Addr) (i r st : Int) : valV (bagK c i r st) (Sum.inr "state") = some (V.int st) := (valV_neg (inr_ne kSC)).trans ((valV_neg (inr_ne kAS)).trans ((valV_neg (inr_ne kRS)).trans (valV_pos rfl)))
theorem put_at (c : Addr) (i r st j : Int) : putK (bagK c i r st) (Sum.inr "at") (V.int j) = bagK c j r st := by
  have e1 : ¬ ((Sum.inr ("cells" : Str) : Key) = Sum.inr ("at" : Str)) := inr_ne kAC
  have e2 : ¬ ((Sum.inr ("rest" : Str) : Key) = Sum.inr ("at" : Str)) := inr_ne fun z => kAR z.symm
  have e3 : ¬ ((Sum.inr ("state" : Str) : Key) = Sum.inr ("at" : Str)) := inr_ne fun z => kAS z.symm
  unfold putK bagK
  simp [e1, e2, e3]
theorem put_rest (c : Addr) (i r st j : Int) : putK (bagK c i r st) (Sum.inr "rest") (V.int j) = bagK c i j st := by
  have e1 : ¬ ((Sum.inr ("cells" : Str) : Key) = Sum.inr ("rest" : Str)) := inr_ne kRC
  have e2 : ¬ ((Sum.inr ("at" : Str) : Key) = Sum.inr ("rest" : Str)) := inr_ne kAR
  have e3 : ¬ ((Sum.inr ("state" : Str) : Key) = Sum.inr ("rest" : Str)) := inr_ne fun z => kRS z.symm
  unfold putK bagK
  simp [e1, e2, e3]
theorem put_state (c : Addr) (i r st j : Int) : putK (bagK c i r st) (Sum.inr "state") (V.int j) = bagK c i r j := by
  have e1 : ¬ ((Sum.inr ("cells" : Str) : Key) = Sum.inr ("state" : Str)) := inr_ne kSC
  have e2 : ¬ ((Sum.inr ("at" : Str) : Key) = Sum.inr ("state" : Str)) := inr_ne kAS
  have e3 : ¬ ((Sum.inr ("rest" : Str) : Key) = Sum.inr ("state" : Str)) := inr_ne kRS
  unfold putK bagK
  simp [e1, e2, e3]
theorem merge_bag (c : Addr) (i r st : Int) : mergeK [] (bagK c i r st) = bagK c i r st := by
  have e1 : ¬ ((Sum.inr ("cells" : Str) : Key) = Sum.inr ("at" : Str)) := inr_ne kAC
  have e2 : ¬ ((Sum.inr ("cells" : Str) : Key) = Sum.inr ("rest" : Str)) := inr_ne kRC
  have e3 : ¬ ((Sum.inr ("cells" : Str) : Key) = Sum.inr ("state" : Str)) := inr_ne kSC
  have e4 : ¬ ((Sum.inr ("at" : Str) : Key) = Sum.inr ("rest" : Str)) := inr_ne kAR
  have e5 : ¬ ((Sum.inr ("at" : Str) : Key) = Sum.inr ("state" : Str)) := inr_ne kAS
  have e6 : ¬ ((Sum.inr ("rest" : Str) : Key) = Sum.inr ("state" : Str)) := inr_ne kRS
  unfold mergeK bagK putK
  simp [e1, e2, e3, e4, e5, e6]
/-- what holds of a bag at d whose cells stand at c -/
structure BagN (c : Addr) (ns : List Int) (i : Nat) (r st : Int) : Prop where
  hi : i ≤ ns.length
  r0 : 0 ≤ r
  s0 : 0 ≤ st
  s1 : st < 2147483647
def BagIs (o : HO) (c : Addr) (ns : List Int) : Prop := ∃ (i : Nat) (r st : Int), o = .dK (bagK c i r st) ∧ BagN c ns i r st
/-- a bag stands at d -/
def Bag (H : Hp) (d : Addr) : Prop := ∃ (c : Addr) (ns : List Int) (o : HO), H d = some o ∧ BagIs o c ns ∧ H c = some (.lst (ns.map V.int)) ∧ ns.length ≤ 63
theorem Bag.ne {H : Hp} {d b : Addr} {o : HO} (B : Bag H d) (h : H b = some o) (n : ∀ kvs, o ≠ .dK kvs) : b ≠ d := by
  obtain ⟨c, ns, o', hd, ⟨i, r, st, e, _⟩, _⟩ := B
  subst e
  exact ne_of h hd (n _)
theorem Bag.same {H H' : Hp} {d : Addr} (B : Bag H d) (s : Same H H') : Bag H' d := by
  obtain ⟨c, ns, o, hd, bi, hc, hl⟩ := B
  exact ⟨c, ns, o, s _ _ hd, bi, s _ _ hc, hl⟩
theorem Bag.there {H : Hp} {d : Addr} (B : Bag H d) : ∃ o, H d = some o := by
  obtain ⟨c, ns, o, hd, _⟩ := B
  exact ⟨o, hd⟩
theorem upd_self {H : Hp} {a : Addr} {o : HO} (h : H a = some o) : upd H a o = H := by
  funext b
  by_cases e : b = a
  · subst e; rw [upd_same, h]
  · rw [upd_ne e]
/-- draw: an int below the limit, the bag goes on, nothing else is touched -/
def spDraw : Sp := fun vs H Q _ => ∃ (d : Addr) (n : Int), vs = [.ref d, .int n] ∧ Bag H d ∧ 0 < n ∧ n < 1073741824 ∧
  ∀ (z : Int) (o : HO), 0 ≤ z → z < n → Bag (upd H d o) d → Q (.int z) (upd H d o)
theorem dg_cells {H : Hp} {d c : Addr} {i r st : Int} (h : H d = some (.dK (bagK c i r st))) : DGet H d (.str "cells") (some (.ref c)) := .inl ⟨_, Sum.inr "cells", .inl h, rfl, (bag_cells c i r st).symm⟩
theorem dg_at {H : Hp} {d c : Addr} {i r st : Int} (h : H d = some (.dK (bagK c i r st))) : DGet H d (.str "at") (some (.int i)) := .inl ⟨_, Sum.inr "at", .inl h, rfl, (bag_at c i r st).symm⟩
theorem dg_rest {H : Hp} {d c : Addr} {i r st : Int} (h : H d = some (.dK (bagK c i r st))) : DGet H d (.str "rest") (some (.int r)) := .inl ⟨_, Sum.inr "rest", .inl h, rfl, (bag_rest c i r st).symm⟩
theorem dg_state {H : Hp} {d c : Addr} {i r st : Int} (h : H d = some (.dK (bagK c i r st))) : DGet H d (.str "state") (some (.int st)) := .inl ⟨_, Sum.inr "state", .inl h, rfl, (bag_state c i r st).symm⟩
theorem dp_at {H : Hp} {d c : Addr} {i r st : Int} (j : Int) (h : H d = some (.dK (bagK c i r st))) : DPut H d (.str "at") (.int j) (upd H d (.dK (bagK c j r st))) := by
  have := DPut.k (k := Sum.inr "at") (v := V.int j) h (bagK_len c i r st)
  rw [put_at] at this
  exact this
theorem dp_rest {H : Hp} {d c : Addr} {i r st : Int} (j : Int) (h : H d = some (.dK (bagK c i r st))) : DPut H d (.str "rest") (.int j) (upd H d (.dK (bagK c i j st))) := by
  have := DPut.k (k := Sum.inr "rest") (v := V.int j) h (bagK_len c i r st)
  rw [put_rest] at this
  exact this
theorem dp_state {H : Hp} {d c : Addr} {i r st : Int} (j : Int) (h : H d = some (.dK (bagK c i r st))) : DPut H d (.str "state") (.int j) (upd H d (.dK (bagK c i r j))) := by
  have := DPut.k (k := Sum.inr "state") (v := V.int j) h (bagK_len c i r st)
  rw [put_state] at this
  exact this
theorem while_inv {c : TT} {tb : TS} {D : Ends} {σ : L2.St} {H : Hp} (W : Nat → L2.St → Hp → Prop) (h0 : ∃ m, W m σ H) (hexit : ∀ m σ H, W m σ H → D.nx σ H)
    (hturn : (∀ m σ H, W m σ H → D.nx σ H) → ∀ m σ H, W m σ H → c σ H fun b H1 => if b = true then ∃ N : L2.St → Hp → Prop, (∀ σ' H', N σ' H' → ∃ m', m' < m ∧ W m' σ' H') ∧ tb { D with nx := N, ct := N, bk := D.nx } σ H1 else D.nx σ H1) : tWhile c tb D σ H :=
  ⟨W, h0, hturn hexit⟩
section
variable {P : Program} {w : World} {K : PySem.W.Frag} {mg : Str → Option Value} {base : Heap} {a : Adr}
set_option maxHeartbeats 4000000
theorem ok_draw (T : Txt K mg a) : FnR P w K mg base CX0 1 a._law_draw spDraw := by
  refine T.d__law_draw.ok sc__law_draw (fun _ _ _ _ _ _ us hl => match us, hl with | [_, _], _ => rfl) (fun vs H Q E h => ?_) (fun cdv A outer s H vs Q E hr h => ?_)
  · obtain ⟨d, n, rfl, _⟩ := h
    rfl
  · obtain ⟨d, n, rfl, B, hn, hn2, k⟩ := h
    have hu := hu_of hr
    have pos1 : (0 : Int) < 2147483647 := by decide
    have pos2 : (0 : Int) < 2147483629 := by decide
    refine ⟨_, (pss_cons (ps_while PassesOwn.never (PW.pt (pw_and (pt_cmpR op_lt (pe_dget hu (pv 0) pe_str (fun _ _ => rfl)) pe_int (nomark _)) (pw_and1 (pt_cmpR op_lt (pe_dget hu (pv 0) pe_str (fun _ _ => rfl)) (pe_callB call_len_seq (by rfl) T.n_len (by decide +kernel) (pa_cons (pe_dget hu (pv 0) pe_str (fun _ _ => rfl)) pa_nil)) (nomark _)))))
          (pss_cons (ps_set (i := 2) sc__law_draw.nd rfl (Or.inl rfl) (pe_callB call_abs (by rfl) T.n_abs (by decide +kernel) (pa_cons (pe_ix ix_list (pe_dget hu (pv 0) pe_str (fun _ _ => rfl)) (pe_dget hu (pv 0) pe_str (fun _ _ => rfl)) (fun _ _ => rfl)) pa_nil)))
          (pss_cons (ps_dput hu (pv 0) pe_str (pe_op op_add (pe_dget hu (pv 0) pe_str (fun _ _ => rfl)) pe_int) rfl)
          (pss_cons (ps_if (pt_cmpR op_lt (pv 2) (pe_op op_pow pe_int pe_int) (nomark _))
              (pss_cons (ps_set (i := 3) sc__law_draw.nd rfl (Or.inl rfl) (pe_op op_mod (pe_callTy call_int1 (by rfl) T.n_int (by decide +kernel) (pa_cons (pe_op op_add (pe_op op_pow (pe_op op_add (pv 2) pe_int) pe_int) (pe_op op_mul (pe_dget hu (pv 0) pe_str (fun _ _ => rfl)) (pe_op op_add (pe_dget hu (pv 0) pe_str (fun _ _ => rfl)) pe_int))) pa_nil)) pe_int))
              (pss_one (ps_ret (pe_op op_mod (pv 3) (pv 1)))))
              pss_nil)
          (pss_one (ps_dput hu (pv 0) pe_str (pv 2) rfl))))))
      (pss_cons (ps_if (pt_cmpR op_ge (pe_dget hu (pv 0) pe_str (fun _ _ => rfl)) pe_int (nomark _))
          (pss_cons (ps_set (i := 4) sc__law_draw.nd rfl (Or.inl rfl) (pe_op op_mod (pe_callTy call_int1 (by rfl) T.n_int (by decide +kernel) (pa_cons (pe_dget hu (pv 0) pe_str (fun _ _ => rfl)) pa_nil)) (pv 1)))
          (pss_cons (ps_dput hu (pv 0) pe_str (pe_op op_fdiv (pe_dget hu (pv 0) pe_str (fun _ _ => rfl)) (pv 1)) rfl)
          (pss_one (ps_ret (pv 4)))))
          pss_nil)
      (pss_cons (ps_dput hu (pv 0) pe_str (pe_op op_mod (pe_callTy call_int1 (by rfl) T.n_int (by decide +kernel) (pa_cons (pe_op op_add (pe_op op_mul (pe_dget hu (pv 0) pe_str (fun _ _ => rfl)) pe_int) pe_int) pa_nil)) pe_int) rfl)
      (pss_one (ps_ret (pe_op op_mod (pe_op op_mod (pe_callTy call_int1 (by rfl) T.n_int (by decide +kernel) (pa_cons (pe_op op_pow (pe_dget hu (pv 0) pe_str (fun _ _ => rfl)) pe_int) pa_nil)) pe_int) (pv 1))))))), ?_⟩
    obtain ⟨c, ns, o, hd, ⟨i0, r0, st0, eo, N0⟩, hc, hns⟩ := B
    subst eo
    have hcd : c ≠ d := ne_of hc hd (fun z => by cases z)
    have bagU : ∀ (i : Nat) (r st : Int), BagN c ns i r st → Bag (upd H d (.dK (bagK c i r st))) d := fun i r st N =>
      ⟨c, ns, _, upd_same, ⟨i, r, st, rfl, N⟩, by rw [upd_ne hcd]; exact hc, hns⟩
    have kk : ∀ (z : Int) (i : Nat) (r st : Int), 0 ≤ z → z < n → BagN c ns i r st → Q (.int z) (upd H d (.dK (bagK c i r st))) := fun z i r st h0 h1 N => k z _ h0 h1 (bagU i r st N)
    refine while_inv (fun m σ H' => ∃ (i : Nat) (r st : Int) (v2 v3 v4 : Option V), m = ns.length - i ∧ σ = [some (.ref d), some (.int n), v2, v3, v4] ∧ H' = upd H d (.dK (bagK c i r st)) ∧ BagN c ns i r st)
      ⟨_, i0, r0, st0, _, _, _, rfl, rfl, (upd_self hd).symm, N0⟩ ?_ ?_
    · -- behind the loop
      rintro m σ H' ⟨i, r, st, v2, v3, v4, _, rfl, rfl, N⟩
      refine ⟨_, rfl, d, _, rfl, dg_rest upd_same, _, _, rfl, rfl, _, rfl, ?_⟩
      refine ite2 (fun hb => ?_) (fun hb => ?_)
      · have h2 : 2 ≤ r := of_decide_eq_true hb
        refine ⟨_, rfl, d, _, rfl, dg_rest upd_same, .inl ⟨_, rfl, _, rfl, _, _, rfl, rfl, hn, ?_⟩⟩
        refine ⟨_, rfl, d, _, rfl, dg_rest upd_same, _, rfl, _, _, rfl, rfl, ⟨hn, hn2⟩, _, rfl, d, _, rfl, dp_rest _ upd_same, ?_⟩
        rw [upd_upd]
        refine ⟨_, rfl, kk _ i _ st (Int.emod_nonneg _ (by omega)) (Int.emod_lt_of_pos _ hn) ⟨N.hi, Int.ediv_nonneg N.r0 (by omega), N.s0, N.s1⟩⟩
      · have s64 : (-(2 ^ 64) < st ∧ st < 2 ^ 64) := ⟨by have := N.s0; omega, by have := N.s1; omega⟩
        refine ⟨_, rfl, d, _, rfl, dg_state upd_same, _, _, rfl, rfl, .inl s64, _, _, rfl, rfl, .inl ⟨_, rfl, _, _, rfl, rfl, pos1, _, rfl, d, _, rfl, dp_state _ upd_same, ?_⟩⟩
        rw [upd_upd]
        have t0 : 0 ≤ (st * 48271 + 13) % 2147483647 := Int.emod_nonneg _ (by decide)
        have t1 : (st * 48271 + 13) % 2147483647 < 2147483647 := Int.emod_lt_of_pos _ (by decide)
        refine ⟨_, rfl, d, _, rfl, dg_state upd_same, _, _, rfl, rfl, ⟨by decide, by decide, by omega⟩, .inl ⟨_, rfl, _, _, rfl, rfl, pos2, _, rfl, _, _, rfl, rfl, hn, ?_⟩⟩
        exact kk _ i _ _ (Int.emod_nonneg _ (by omega)) (Int.emod_lt_of_pos _ hn) ⟨N.hi, N.r0, t0, t1⟩
    · rintro ex m σ H' ⟨i, r, st, v2, v3, v4, rfl, rfl, rfl, N⟩
      have hc' : ∀ o, (upd H d o) c = some (.lst (ns.map V.int)) := fun o => by rw [upd_ne hcd]; exact hc
      refine ⟨_, rfl, d, _, rfl, dg_rest upd_same, _, _, rfl, rfl, _, rfl, ?_⟩
      refine ite2 (fun hb => ?_) (fun hb => iteF (ex _ _ _ ⟨i, r, st, v2, v3, v4, rfl, rfl, rfl, N⟩))
      refine ⟨_, rfl, d, _, rfl, dg_at upd_same, _, rfl, d, _, rfl, dg_cells upd_same, c, _, rfl, .inl (SqL.of (hc' _)), _, _, rfl, rfl, _, rfl, ?_⟩
      refine ite2 (fun hb2 => ?_) (fun hb2 => ex _ _ _ ⟨i, r, st, v2, v3, v4, rfl, rfl, rfl, N⟩)
      have hil : i < ns.length := by
        have := of_decide_eq_true hb2
        rw [List.length_map] at this
        omega
      refine ⟨fun σ' H' => ∃ m', m' < ns.length - i ∧ ∃ (i : Nat) (r st : Int) (v2 v3 v4 : Option V), m' = ns.length - i ∧ σ' = [some (.ref d), some (.int n), v2, v3, v4] ∧ H' = upd H d (.dK (bagK c i r st)) ∧ BagN c ns i r st, fun _ _ h => h, ?_⟩
      -- cell = abs(cells[at]); at = at + 1
      have ei : (ns.map V.int)[i]? = some (V.int ns[i]) := by simp [hil]
      have s64 : (-(2 ^ 64) < st ∧ st < 2 ^ 64) := ⟨by have := N.s0; omega, by have := N.s1; omega⟩
      have ea : (i : Int) + 1 = ((i + 1 : Nat) : Int) := by omega
      refine ⟨_, rfl, d, _, rfl, dg_cells upd_same, _, rfl, d, _, rfl, dg_at upd_same, c, _, _, _, rfl, rfl, SqL.of (hc' _), atI_nat ei, _, rfl, ?_⟩
      have hc0 : 0 ≤ (if ns[i] < 0 then -ns[i] else ns[i]) := by split <;> omega
      generalize (if ns[i] < 0 then -ns[i] else ns[i]) = cell at hc0
      refine ⟨_, rfl, d, _, rfl, dg_at upd_same, _, _, rfl, rfl, _, rfl, d, _, rfl, dp_at _ upd_same, ?_⟩
      rw [upd_upd, ea]
      refine ⟨_, rfl, _, _, rfl, rfl, ⟨by decide, by decide, by decide⟩, _, _, rfl, rfl, _, rfl, ?_⟩
      refine ite2 (fun h18 => ?_) (fun h18 => ?_)
      · have h18' : cell < 10 ^ 18 := of_decide_eq_true h18
        have hq : (10 : Int) ^ 18 = 1000000000000000000 := by decide
        rw [hq] at h18'
        refine ⟨_, rfl, _, _, rfl, rfl, _, _, rfl, rfl, ⟨by decide, by decide, by omega⟩, _, rfl, d, _, rfl, dg_state upd_same, _, rfl, d, _, rfl, dg_at upd_same, _, _, rfl, rfl, _, _, rfl, rfl, .inl s64, _, _, rfl, rfl, .inl ⟨_, rfl, _, _, rfl, rfl, pos2, ?_⟩⟩
        refine ⟨_, rfl, _, rfl, _, _, rfl, rfl, hn, ?_⟩
        exact kk _ (i + 1) _ _ (Int.emod_nonneg _ (by omega)) (Int.emod_lt_of_pos _ hn) ⟨hil, N.r0, N.s0, N.s1⟩
      · refine ⟨_, rfl, _, rfl, d, _, rfl, dp_rest _ upd_same, ?_⟩
        rw [upd_upd]
        exact ⟨_, Nat.sub_lt_sub_left hil (Nat.lt_succ_self i), i + 1, cell, st, _, _, _, rfl, rfl, rfl, ⟨hil, hc0, N.s0, N.s1⟩⟩
/-- bag: a new bag of the script -/
def spBag (K : PySem.W.Frag) : Sp := fun vs H Q _ => ∃ (sa : Addr) (ns : List Int), vs = [.ref sa] ∧ SqL K H sa (ns.map V.int) ∧ ns.length ≤ 63 ∧
  ∀ (d : Addr) (H' : Hp), Same H H' → H d = none → Bag H' d → Q (.ref d) H'
theorem cut63 {ns : List Int} (h : ns.length ≤ 63) : cutV (ns.map V.int) none (some 63) = ns.map V.int := by
  have e1 : HT.sIx (ns.map V.int).length 0 none = 0 := rfl
  have e2 : (ns.map V.int).length ≤ HT.sIx (ns.map V.int).length (ns.map V.int).length (some 63) := by
    rw [List.length_map]
    unfold HT.sIx
    simp
    omega
  unfold cutV
  rw [e1, List.drop_zero, Nat.sub_zero]
  exact List.take_of_length_le e2
theorem ok_bag (T : Txt K mg a) : FnR P w K mg base CX0 1 a._law_bag (spBag K) := by
  refine T.d__law_bag.ok sc__law_bag (fun _ _ _ _ _ _ us hl => match us, hl with | [_], _ => rfl) (fun vs H Q E h => ?_) (fun cdv A outer s H vs Q E hr h => ?_)
  · obtain ⟨sa, ns, rfl, _⟩ := h
    rfl
  · obtain ⟨sa, ns, rfl, hS, hns, k⟩ := h
    have hu := hu_of hr
    have pos1 : (0 : Int) < 2147483647 := by decide
    have pos2 : (0 : Int) < 2147483629 := by decide
    refine ⟨_, (pss_cons (ps_set (i := 1) sc__law_bag.nd rfl (Or.inl rfl) pe_int)
      (pss_cons (ps_for PassesOwn.never rfl (pi_list (pe_slice sl_list (pv 0) po_none (po_some pe_int))) (pg_name (i := 2) sc__law_bag.nd rfl (Or.inl rfl))
          (pss_one (ps_set (i := 1) sc__law_bag.nd rfl (Or.inl rfl) (pe_op op_mod (pe_callTy call_int1 (by rfl) T.n_int (by decide +kernel) (pa_cons (pe_op op_add (pe_op op_add (pe_op op_mul (pv 1) pe_int) (pe_op op_mod (pe_callB call_abs (by rfl) T.n_abs (by decide +kernel) (pa_cons (pv 2) pa_nil)) pe_int)) pe_int) pa_nil)) pe_int))))
      (pss_one (ps_ret (pe_disp (pps_cons pe_str (pe_callTy call_list_of (by rfl) T.n_list (by decide +kernel) (pa_cons (pe_slice sl_list (pv 0) po_none (po_some pe_int)) pa_nil)) (pps_cons pe_str pe_int (pps_cons pe_str pe_int (pps_cons pe_str (pv 1) pps_nil)))) (by rfl) (by rfl) (fun z => by cases z) (by decide)))))), ?_⟩
    refine ⟨_, rfl, _, rfl, sa, _, rfl, hS, fun p hp => ?_⟩
    rw [cut63 hns]
    refine ⟨p, rfl, ⟨_, SqL.of upd_same⟩, for_list (K := K) (a := p) (xs := ns.map V.int) (fun i σ H' => ∃ (st : Int) (v : Option V), σ = [some (.ref sa), some (.int st), v] ∧ H' = upd H p (.lst (ns.map V.int)) ∧ 0 ≤ st ∧ st < 2147483647)
      ⟨7, none, rfl, rfl, by decide, by decide⟩ (fun i σ H' _ ⟨_, _, _, e, _⟩ => by rw [e]; exact SqL.of upd_same) ?_ ?_⟩
    · rintro i y σ H' hi ⟨st, v, rfl, rfl, s0, s1⟩
      obtain ⟨z, rfl⟩ : ∃ z, y = V.int z := by
        rw [List.getElem?_map] at hi
        cases e : ns[i]? with
        | none =>
          rw [e] at hi
          cases hi
        | some z =>
          rw [e] at hi
          exact ⟨z, (Option.some.inj hi).symm⟩
      have s64 : (-(2 ^ 64) < st ∧ st < 2 ^ 64) := ⟨by omega, by omega⟩
      refine ⟨_, rfl, _, _, rfl, rfl, .inl s64, _, rfl, _, rfl, _, _, rfl, rfl, pos2, _, _, rfl, rfl, _, _, rfl, rfl, .inl ⟨_, rfl, _, _, rfl, rfl, pos1, ?_⟩⟩
      exact ⟨_, _, rfl, rfl, Int.emod_nonneg _ (by decide), Int.emod_lt_of_pos _ pos1⟩
    · rintro σ H' ⟨st, v, rfl, rfl, s0, s1⟩
      have s1' : Same H (upd H p (.lst (ns.map V.int))) := fun b o e => by rw [upd_ne (ne_of_none e hp)]; exact e
      intro d hd
      have hdp : p ≠ d := ne_of_none (upd_same (H := H) (o := .lst (ns.map V.int))) hd
      have hd0 : H d = none := s1'.free hd
      have hS2 : SqL K (upd (upd H p (.lst (ns.map V.int))) d (.dK [])) sa (ns.map V.int) := by
        refine Same.seq (fun b o e => ?_) (s1'.seq hS)
        rw [upd_ne (ne_of_none e hd)]
        exact e
      refine ⟨_, rfl, _, rfl, sa, _, rfl, hS2, fun p2 hp2 => ?_⟩
      rw [cut63 hns]
      refine ⟨p2, _, rfl, .inl (SqL.of upd_same), fun l hl => ?_⟩
      have hpd : p2 ≠ d := fun e => by rw [e, upd_same] at hp2; cases hp2
      have hld : l ≠ d := fun e => by rw [e, upd_ne (fun z => hpd z.symm), upd_same] at hl; cases hl
      refine ⟨_, rfl, by rw [upd_ne (fun z => hld z.symm), upd_ne (fun z => hpd z.symm), upd_same], bagK l 0 0 st, rfl, (by show 4 ≤ 15; decide), ?_⟩
      rw [merge_bag]
      refine k d _ (fun b o e => ?_) hd0 ⟨l, ns, _, upd_same, ⟨0, 0, st, rfl, ⟨Nat.zero_le _, Int.le_refl _, s0, s1⟩⟩, by rw [upd_ne hld, upd_same], hns⟩
      have e1 := s1' _ _ e
      have nb : b ≠ d := ne_of_none e1 hd
      have e2 : (upd (upd H p (.lst (ns.map V.int))) d (.dK [])) b = some o := by rw [upd_ne nb]; exact e1
      have e3 : (upd (upd (upd H p (.lst (ns.map V.int))) d (.dK [])) p2 (.lst (ns.map V.int))) b = some o := by rw [upd_ne (ne_of_none e2 hp2)]; exact e2
      rw [upd_ne nb, upd_ne (ne_of_none e3 hl)]
      exact e3
end
/-! ### places -/
theorem kSO : ¬ (("_slope" : Str) = "_offset") := by decide +kernel
theorem kSD : ¬ (("_slope" : Str) = "_odd") := by decide +kernel
theorem kOD : ¬ (("_offset" : Str) = "_odd") := by decide +kernel
def plF (s o d : Int) : List (Str × V) := putF "_odd" (.int d) (putF "_offset" (.int o) (putF "_slope" (.int s) []))
theorem plF_slope (s o d : Int) : (plF s o d).lookup ("_slope" : Str) = some (.int s) := by
  unfold plF
  rw [lookup_putF, if_neg kSD, lookup_putF, if_neg kSO, lookup_putF, if_pos rfl]
theorem plF_offset (s o d : Int) : (plF s o d).lookup ("_offset" : Str) = some (.int o) := by
  unfold plF
  rw [lookup_putF, if_neg kOD, lookup_putF, if_pos rfl]
theorem plF_odd (s o d : Int) : (plF s o d).lookup ("_odd" : Str) = some (.int d) := by
  unfold plF
  rw [lookup_putF, if_pos rfl]
theorem putF_le (f : Str) (v : V) : ∀ fs : List (Str × V), (putF f v fs).length ≤ fs.length + 1
  | [] => Nat.le_refl 1
  | p :: r => by
    show (if p.1 = f then (p.1, v) :: r else p :: putF f v r).length ≤ r.length + 1 + 1
    split
    · exact Nat.le_succ _
    · exact Nat.succ_le_succ (putF_le f v r)
theorem len2 (s o : Int) : (putF "_offset" (.int o) (putF "_slope" (.int s) [])).length ≤ 2 := Nat.le_trans (putF_le _ _ _) (Nat.succ_le_succ (putF_le _ _ _))
/-- the place s, o, d stands at p -/
def PlaceAt (H : Hp) (C p : Addr) (s o d : Int) : Prop := ∃ dx, H p = some (.ins C dx (plF s o d))
theorem PlaceAt.same {H H' : Hp} {C p : Addr} {s o d : Int} (h : PlaceAt H C p s o d) (e : Same H H') : PlaceAt H' C p s o d := h.elim fun dx z => ⟨dx, e _ _ z⟩
theorem PlaceAt.ins {H : Hp} {C p : Addr} {s o d : Int} (h : PlaceAt H C p s o d) : InsAt H p C := h.elim fun dx z => ⟨dx, _, z⟩
theorem PlaceAt.insC {X : Cx} {H : Hp} {C p : Addr} {s o d : Int} (h : PlaceAt H C p s o d) : StX.InsC X H p C := .inr (h.elim fun dx z => ⟨dx, _, z⟩)
/-- what follows a new place -/
def NewP (C : Addr) (H : Hp) (s o d : Int) (Q : VK) : Prop := ∀ x H', Same H H' → H x = none → PlaceAt H' C x s o d → Q (.ref x) H'
def spIntI : Sp := fun vs H Q _ => ∃ i : Int, vs = [.int i] ∧ Q (.bl true) H
def spSizeI : Sp := fun vs H Q _ => ∃ (i : Int) (part : Str), vs = [.int i, .str part] ∧ 1 ≤ i ∧ Q .non H
def spPInit (C : Addr) : Sp := fun vs H Q _ => ∃ (p dx : Addr) (s o d : Int), vs = [.ref p, .int s, .int o, .int d] ∧ H p = some (.ins C dx []) ∧ Q .non (upd H p (.ins C dx (plF s o d)))
def spPSlope (C : Addr) : Sp := fun vs H Q _ => ∃ (p : Addr) (s o d : Int), vs = [.ref p] ∧ PlaceAt H C p s o d ∧ Q (.int s) H
def spPOffset (C : Addr) : Sp := fun vs H Q _ => ∃ (p : Addr) (s o d : Int), vs = [.ref p] ∧ PlaceAt H C p s o d ∧ Q (.int o) H
def spPOdd (C : Addr) : Sp := fun vs H Q _ => ∃ (p : Addr) (s o d : Int), vs = [.ref p] ∧ PlaceAt H C p s o d ∧ Q (.int d) H
def valP (s o d n : Int) : Int := s * (n / 2) + o + d * (n % 2)
def spPCall (C : Addr) : Sp := fun vs H Q _ => ∃ (p : Addr) (s o d n : Int), vs = [.ref p, .int n] ∧ PlaceAt H C p s o d ∧ 1 ≤ n ∧ CMulW s (n / 2) ∧ CMulW d (n % 2) ∧ Q (.int (valP s o d n)) H
def spPParts (C : Addr) : Sp := fun vs H Q _ => ∃ (p : Addr) (s o d : Int), vs = [.ref p] ∧ PlaceAt H C p s o d ∧ ∀ t, H t = none → Q (.ref t) (upd H t (.tup [.int s, .int o, .int d]))
def spPAddP (C : Addr) (f : Int → Int → Int) : Sp := fun vs H Q _ => ∃ (p q : Addr) (s o d s' o' d' : Int), vs = [.ref p, .ref q] ∧ PlaceAt H C p s o d ∧ PlaceAt H C q s' o' d' ∧ NewP C H (f s s') (f o o') (f d d') Q
def spPAddI (C : Addr) (f : Int → Int → Int) : Sp := fun vs H Q _ => ∃ (p : Addr) (s o d i : Int), vs = [.ref p, .int i] ∧ PlaceAt H C p s o d ∧ NewP C H s (f o i) d Q
def spPInv (C : Addr) : Sp := fun vs H Q _ => ∃ (p : Addr) (s o d : Int), vs = [.ref p] ∧ PlaceAt H C p s o d ∧ NewP C H (2 - s) (-o) (1 - d) Q
def spPEq (C : Addr) : Sp := fun vs H Q _ => ∃ (p q : Addr) (s o d s' o' d' : Int), vs = [.ref p, .ref q] ∧ PlaceAt H C p s o d ∧ PlaceAt H C q s' o' d' ∧ ∀ H', Same H H' → Q (.bl (decide (s = s' ∧ o = o' ∧ d = d'))) H'
def spPOfI (C : Addr) (f : Int → Int × Int × Int) : Sp := fun vs H Q _ => ∃ i : Int, vs = [.int i] ∧ NewP C H (f i).1 (f i).2.1 (f i).2.2 Q
/-- a place made of three ints: what the making asks -/
theorem newP_make {C : Addr} {H : Hp} {s o d : Int} {Q : VK} {E : XK} (k : NewP C H s o d Q) : ∀ x dx, H x = none → H dx = none → dx ≠ x →
    spPInit C [.ref x, .int s, .int o, .int d] (upd (upd H dx (.own x)) x (.ins C dx [])) (fun v H2 => v = .non ∧ Q (.ref x) H2) E := by
  intro x dx nx ndx ne
  refine ⟨x, dx, s, o, d, rfl, upd_same, rfl, ?_⟩
  rw [upd_upd]
  refine k x _ (fun b u e => ?_) nx ⟨dx, upd_same⟩
  rw [upd_ne (ne_of_none e nx), upd_ne (ne_of_none e ndx)]
  exact e
section
variable {P : Program} {w : World} {K : PySem.W.Frag} {mg : Str → Option Value} {base : Heap} {a : Adr}
set_option maxHeartbeats 4000000
theorem ok_is_int (T : Txt K mg a) : FnR P w K mg base CX0 1 a.is_int spIntI := by
  refine T.d_is_int.ok sc_is_int (fun _ _ _ _ _ _ us hl => match us, hl with | [_], _ => rfl) (fun vs H Q E h => ?_) (fun cdv A outer s H vs Q E hr h => ?_)
  · obtain ⟨i, rfl, _⟩ := h
    rfl
  · obtain ⟨i, rfl, k⟩ := h
    refine ⟨_, (pss_one (ps_ret (pe_and (pe_callB call_isi (by rfl) T.n_isinstance (by decide +kernel) (pa_cons (pv 0) (pa_cons (pe_bltn (v := .ty "int") (by rfl) T.n_int (by decide +kernel) rfl) pa_nil))) (pe_one (pe_not (pe_callB call_isi (by rfl) T.n_isinstance (by decide +kernel) (pa_cons (pv 0) (pa_cons (pe_bltn (v := .ty "bool") (by rfl) T.n_bool (by decide +kernel) rfl) pa_nil)))))))), ?_⟩
    exact ⟨_, rfl, _, _, _, _, _, rfl, .ty _, .base (.int _), kit_int_int, true, rfl, _, rfl, _, _, _, _, _, rfl, .ty _, .base (.int _), kit_int_bool, false, rfl, k⟩
theorem ok_check_size (T : Txt K mg a) : FnR P w K mg base CX0 2 a.check_size spSizeI := by
  have G_is_int : FnR P w K mg base CX0 1 a.is_int spIntI := ok_is_int T
  refine T.d_check_size.ok sc_check_size (fun _ _ _ _ _ _ us hl => match us, hl with | [_, _], _ => rfl) (fun vs H Q E h => ?_) (fun cdv A outer s H vs Q E hr h => ?_)
  · obtain ⟨i, part, rfl, _⟩ := h
    rfl
  · obtain ⟨i, part, rfl, h1, k⟩ := h
    refine ⟨_, (pss_one (ps_if (PW.pt (pw_or (pt_not (pt_val (pe_callR G_is_int (hr.mono (by decide)) T.m_is_int T.k_is_int pass0 (pa_cons (pv 0) pa_nil)))) (pw_or1 (pt_cmpR op_lt (pv 0) pe_int (nomark _)))))
          (pss_one ps_never)
          pss_nil)), ?_⟩
    refine ⟨_, rfl, i, rfl, true, rfl, iteF ⟨_, rfl, _, _, rfl, rfl, _, rfl, ?_⟩⟩
    exact ite2 (fun z => by have := of_decide_eq_true z; omega) fun _ => k
theorem ok_p_init (T : Txt K mg a) : FnR P w K mg base CX0 2 a.Place_init (spPInit a.Place) := by
  have G_is_int : FnR P w K mg base CX0 1 a.is_int spIntI := ok_is_int T
  have F := T.d_Place_init.okD (P := P) (w := w) (mg := mg) (base := base) (k := 1) (n := 4) (j := 1) (sp := spPInit a.Place) sc_Place_init (by simp) rfl (fun T kV doc pm an cdv ct us its hu hi => match us, its, hu, hi with | [_, _, _, _], [_], _, _ => ⟨_, rfl, rfl⟩) (fun vs H Q E h => by obtain ⟨p, dx, s, o, d, rfl, _⟩ := h; rfl) (fun cdv A outer s H vs Q E hr h => ?_)
  · exact F.imp fun vs H Q E h => by
      show spPInit a.Place (vs ++ []) H Q E
      rw [List.append_nil]
      exact h
  · obtain ⟨p, dx, s, o, d, rfl, hp, k⟩ := h
    refine ⟨_, (pss_cons (ps_if (pt_not (pt_val (pe_callR G_is_int (hr.mono (by decide)) T.m_is_int T.k_is_int pass0 (pa_cons (pv 1) pa_nil))))
          (pss_one ps_never)
          pss_nil)
      (pss_cons (ps_if (pt_not (pt_val (pe_callR G_is_int (hr.mono (by decide)) T.m_is_int T.k_is_int pass0 (pa_cons (pv 2) pa_nil))))
          (pss_one ps_never)
          pss_nil)
      (pss_cons (ps_if (pt_not (pt_val (pe_callR G_is_int (hr.mono (by decide)) T.m_is_int T.k_is_int pass0 (pa_cons (pv 3) pa_nil))))
          (pss_one ps_never)
          pss_nil)
      (pss_cons (ps_fld (pv 0) (pv 1) rfl)
      (pss_cons (ps_fld (pv 0) (pv 2) rfl)
      (pss_one (ps_fld (pv 0) (pv 3) rfl))))))), ?_⟩
    refine ⟨_, rfl, s, rfl, true, rfl, iteF ⟨_, rfl, o, rfl, true, rfl, iteF ⟨_, rfl, d, rfl, true, rfl, iteF ?_⟩⟩⟩
    refine ⟨_, rfl, _, rfl, p, _, dx, [], rfl, hp, T.c_Place.cl, T.a_Place__slope, (by show 0 < 1000; decide), ?_⟩
    refine ⟨_, rfl, _, rfl, p, _, dx, _, rfl, upd_same, T.c_Place.cl, T.a_Place__offset, (by show 1 < 1000; decide), ?_⟩
    rw [upd_upd]
    refine ⟨_, rfl, _, rfl, p, _, dx, _, rfl, upd_same, T.c_Place.cl, T.a_Place__odd, Nat.lt_of_le_of_lt (len2 s o) (by decide), ?_⟩
    rw [upd_upd]
    exact k
end
end Pf
end
section
namespace Pf
open PySem PySem.Spec PyProof.Rows L2 Ow
theorem kit_ty_own {K : PySem.W.Frag} {C : Addr} {T : String} {b : Bool} (c : ClsF K C) (h : PySem.W.subIn K (.type T) (.ref C) = some b) : PySem.W.kitOne K (.type T) (.ref C) = some b :=
  kit_own c h (Bool.eq_false_iff.mpr fun q => by cases beq_iff_eq.mp q)
theorem eqv3 (s o d s' o' d' : Int) : PyData.eqv (.tuple [.int s, .int o, .int d]) (.tuple [.int s', .int o', .int d']) = decide (s = s' ∧ o = o' ∧ d = d') := by
  rw [Bool.eq_iff_iff]
  simp [PyData.eqv, PyData.eqvAll]
section
variable {P : Program} {w : World} {K : PySem.W.Frag} {mg : Str → Option Value} {base : Heap} {a : Adr}
set_option maxHeartbeats 4000000
theorem ok_p_slope (T : Txt K mg a) : FnR P w K mg base CX0 1 a.Place_slope (spPSlope a.Place) := by
  refine T.d_Place_slope.ok sc_Place_slope (fun _ _ _ _ _ _ us hl => match us, hl with | [_], _ => rfl) (fun vs H Q E h => by obtain ⟨p, s, o, d, rfl, _⟩ := h; rfl) (fun cdv A outer s H vs Q E hr h => ?_)
  obtain ⟨p, s, o, d, rfl, ⟨dx, hp⟩, k⟩ := h
  exact ⟨_, (pss_one (ps_ret (pe_fld (pv 0) rfl))), _, rfl, p, _, dx, _, _, rfl, hp, T.c_Place.cl, T.a_Place__slope, plF_slope _ _ _, k⟩
theorem ok_p_offset (T : Txt K mg a) : FnR P w K mg base CX0 1 a.Place_offset (spPOffset a.Place) := by
  refine T.d_Place_offset.ok sc_Place_offset (fun _ _ _ _ _ _ us hl => match us, hl with | [_], _ => rfl) (fun vs H Q E h => by obtain ⟨p, s, o, d, rfl, _⟩ := h; rfl) (fun cdv A outer s H vs Q E hr h => ?_)
  obtain ⟨p, s, o, d, rfl, ⟨dx, hp⟩, k⟩ := h
  exact ⟨_, (pss_one (ps_ret (pe_fld (pv 0) rfl))), _, rfl, p, _, dx, _, _, rfl, hp, T.c_Place.cl, T.a_Place__offset, plF_offset _ _ _, k⟩
theorem ok_p_odd (T : Txt K mg a) : FnR P w K mg base CX0 1 a.Place_odd (spPOdd a.Place) := by
  refine T.d_Place_odd.ok sc_Place_odd (fun _ _ _ _ _ _ us hl => match us, hl with | [_], _ => rfl) (fun vs H Q E h => by obtain ⟨p, s, o, d, rfl, _⟩ := h; rfl) (fun cdv A outer s H vs Q E hr h => ?_)
  obtain ⟨p, s, o, d, rfl, ⟨dx, hp⟩, k⟩ := h
  exact ⟨_, (pss_one (ps_ret (pe_fld (pv 0) rfl))), _, rfl, p, _, dx, _, _, rfl, hp, T.c_Place.cl, T.a_Place__odd, plF_odd _ _ _, k⟩
theorem ok_p_call (T : Txt K mg a) : FnR P w K mg base CX0 3 a.Place_call (spPCall a.Place) := by
  have G_check_size : FnR P w K mg base CX0 2 a.check_size spSizeI := ok_check_size T
  refine T.d_Place_call.ok sc_Place_call (fun _ _ _ _ _ _ us hl => match us, hl with | [_, _], _ => rfl) (fun vs H Q E h => by obtain ⟨p, s, o, d, n, rfl, _⟩ := h; rfl) (fun cdv A outer s H vs Q E hr h => ?_)
  obtain ⟨p, s, o, d, n, rfl, ⟨dx, hp⟩, h1, hm1, hm2, k⟩ := h
  refine ⟨_, (pss_cons (ps_expr (pe_callR G_check_size (hr.mono (by decide)) T.m_check_size T.k_check_size pass0 (pa_cons (pv 1) (pa_cons pe_str pa_nil))))
      (pss_one (ps_ret (pe_op op_add (pe_op op_add (pe_op op_mulW (pe_fld (pv 0) rfl) (pe_op op_fdiv (pv 1) pe_int)) (pe_fld (pv 0) rfl)) (pe_op op_mulW (pe_fld (pv 0) rfl) (pe_op op_mod (pv 1) pe_int)))))), ?_⟩
  refine ⟨_, rfl, n, _, rfl, h1, ?_⟩
  exact ⟨_, rfl, p, _, dx, _, _, rfl, hp, T.c_Place.cl, T.a_Place__slope, plF_slope _ _ _, _, rfl, _, _, rfl, rfl, ⟨by decide, by decide⟩, _, _, rfl, rfl, hm1,
    _, rfl, p, _, dx, _, _, rfl, hp, T.c_Place.cl, T.a_Place__offset, plF_offset _ _ _, _, _, rfl, rfl,
    _, rfl, p, _, dx, _, _, rfl, hp, T.c_Place.cl, T.a_Place__odd, plF_odd _ _ _, _, rfl, _, _, rfl, rfl, (by show (0 : Int) < 2; decide), _, _, rfl, rfl, hm2, _, _, rfl, rfl, k⟩
theorem ok_parts (T : Txt K mg a) : FnR P w K mg base CX0 3 a.parts_of (spPParts a.Place) := by
  have G_Place_slope : FnR P w K mg base CX0 1 a.Place_slope (spPSlope a.Place) := ok_p_slope T
  have G_Place_offset : FnR P w K mg base CX0 1 a.Place_offset (spPOffset a.Place) := ok_p_offset T
  have G_Place_odd : FnR P w K mg base CX0 1 a.Place_odd (spPOdd a.Place) := ok_p_odd T
  refine T.d_parts_of.ok sc_parts_of (fun _ _ _ _ _ _ us hl => match us, hl with | [_], _ => rfl) (fun vs H Q E h => by obtain ⟨p, s, o, d, rfl, _⟩ := h; rfl) (fun cdv A outer s H vs Q E hr h => ?_)
  obtain ⟨p, s, o, d, rfl, ⟨dx, hp⟩, k⟩ := h
  refine ⟨_, (pss_one (ps_ret (pe_tup (pa_cons (pe_propR (pv 0) T.c_Place.cl T.p_Place_slope G_Place_slope (hr.mono (by decide)) pass0) (pa_cons (pe_propR (pv 0) T.c_Place.cl T.p_Place_offset G_Place_offset (hr.mono (by decide)) pass0) (pa_cons (pe_propR (pv 0) T.c_Place.cl T.p_Place_odd G_Place_odd (hr.mono (by decide)) pass0) pa_nil)))))), ?_⟩
  exact ⟨_, rfl, p, dx, _, rfl, hp, p, s, o, d, rfl, ⟨dx, hp⟩, _, rfl, p, dx, _, rfl, hp, p, s, o, d, rfl, ⟨dx, hp⟩, _, rfl, p, dx, _, rfl, hp, p, s, o, d, rfl, ⟨dx, hp⟩, (by show 3 ≤ sizeLine; decide), k⟩
theorem ok_p_addP (T : Txt K mg a) : FnR P w K mg base CX0 4 a.Place_add (spPAddP a.Place fun x y => x + y) := by
  have G_is_int : FnR P w K mg base CX0 1 a.is_int spIntI := ok_is_int T
  have G_Place_init : FnR P w K mg base CX0 2 a.Place_init (spPInit a.Place) := ok_p_init T
  have G_Place_slope : FnR P w K mg base CX0 1 a.Place_slope (spPSlope a.Place) := ok_p_slope T
  have G_Place_offset : FnR P w K mg base CX0 1 a.Place_offset (spPOffset a.Place) := ok_p_offset T
  have G_Place_odd : FnR P w K mg base CX0 1 a.Place_odd (spPOdd a.Place) := ok_p_odd T
  refine T.d_Place_add.ok sc_Place_add (fun _ _ _ _ _ _ us hl => match us, hl with | [_, _], _ => rfl) (fun vs H Q E h => by obtain ⟨p, q, s, o, d, s', o', d', rfl, _⟩ := h; rfl) (fun cdv A outer s H vs Q E hr h => ?_)
  obtain ⟨p, q, s, o, d, s', o', d', rfl, ⟨dx, hp⟩, ⟨dy, hq⟩, k⟩ := h
  refine ⟨_, (pss_cons (ps_if (pt_val (pe_callB call_isi (by rfl) T.n_isinstance (by decide +kernel) (pa_cons (pv 1) (pa_cons (pe_glob (v := .ref a.Place) rfl T.m_Place rfl) pa_nil))))
          (pss_one (ps_ret (pe_makeRR T.M_Place G_Place_init (hr.mono (by decide)) T.m_Place pass0 (pa_cons (pe_op op_add (pe_fld (pv 0) rfl) (pe_propR (pv 1) T.c_Place.cl T.p_Place_slope G_Place_slope (hr.mono (by decide)) pass0)) (pa_cons (pe_op op_add (pe_fld (pv 0) rfl) (pe_propR (pv 1) T.c_Place.cl T.p_Place_offset G_Place_offset (hr.mono (by decide)) pass0)) (pa_cons (pe_op op_add (pe_fld (pv 0) rfl) (pe_propR (pv 1) T.c_Place.cl T.p_Place_odd G_Place_odd (hr.mono (by decide)) pass0)) pa_nil))))))
          pss_nil)
      (pss_cons (ps_if (pt_val (pe_callR G_is_int (hr.mono (by decide)) T.m_is_int T.k_is_int pass0 (pa_cons (pv 1) pa_nil)))
          (pss_one (ps_ret (pe_makeRR T.M_Place G_Place_init (hr.mono (by decide)) T.m_Place pass0 (pa_cons (pe_fld (pv 0) rfl) (pa_cons (pe_op op_add (pe_fld (pv 0) rfl) (pv 1)) (pa_cons (pe_fld (pv 0) rfl) pa_nil))))))
          pss_nil)
      (pss_one ps_never))), ?_⟩
  refine ⟨_, rfl, _, _, _, _, _, rfl, .own _, T.c_Place.tyOf hq, kit_self, true, rfl, iteT ?_⟩
  exact ⟨_, rfl, p, _, dx, _, _, rfl, hp, T.c_Place.cl, T.a_Place__slope, plF_slope _ _ _, _, rfl, q, dy, _, rfl, hq, q, s', o', d', rfl, ⟨dy, hq⟩, _, _, rfl, rfl,
    _, rfl, p, _, dx, _, _, rfl, hp, T.c_Place.cl, T.a_Place__offset, plF_offset _ _ _, _, rfl, q, dy, _, rfl, hq, q, s', o', d', rfl, ⟨dy, hq⟩, _, _, rfl, rfl,
    _, rfl, p, _, dx, _, _, rfl, hp, T.c_Place.cl, T.a_Place__odd, plF_odd _ _ _, _, rfl, q, dy, _, rfl, hq, q, s', o', d', rfl, ⟨dy, hq⟩, _, _, rfl, rfl, newP_make k⟩
theorem ok_p_subP (T : Txt K mg a) : FnR P w K mg base CX0 4 a.Place_sub (spPAddP a.Place fun x y => x - y) := by
  have G_is_int : FnR P w K mg base CX0 1 a.is_int spIntI := ok_is_int T
  have G_Place_init : FnR P w K mg base CX0 2 a.Place_init (spPInit a.Place) := ok_p_init T
  have G_Place_slope : FnR P w K mg base CX0 1 a.Place_slope (spPSlope a.Place) := ok_p_slope T
  have G_Place_offset : FnR P w K mg base CX0 1 a.Place_offset (spPOffset a.Place) := ok_p_offset T
  have G_Place_odd : FnR P w K mg base CX0 1 a.Place_odd (spPOdd a.Place) := ok_p_odd T
  refine T.d_Place_sub.ok sc_Place_sub (fun _ _ _ _ _ _ us hl => match us, hl with | [_, _], _ => rfl) (fun vs H Q E h => by obtain ⟨p, q, s, o, d, s', o', d', rfl, _⟩ := h; rfl) (fun cdv A outer s H vs Q E hr h => ?_)
  obtain ⟨p, q, s, o, d, s', o', d', rfl, ⟨dx, hp⟩, ⟨dy, hq⟩, k⟩ := h
  refine ⟨_, (pss_cons (ps_if (pt_val (pe_callB call_isi (by rfl) T.n_isinstance (by decide +kernel) (pa_cons (pv 1) (pa_cons (pe_glob (v := .ref a.Place) rfl T.m_Place rfl) pa_nil))))
          (pss_one (ps_ret (pe_makeRR T.M_Place G_Place_init (hr.mono (by decide)) T.m_Place pass0 (pa_cons (pe_op op_sub (pe_fld (pv 0) rfl) (pe_propR (pv 1) T.c_Place.cl T.p_Place_slope G_Place_slope (hr.mono (by decide)) pass0)) (pa_cons (pe_op op_sub (pe_fld (pv 0) rfl) (pe_propR (pv 1) T.c_Place.cl T.p_Place_offset G_Place_offset (hr.mono (by decide)) pass0)) (pa_cons (pe_op op_sub (pe_fld (pv 0) rfl) (pe_propR (pv 1) T.c_Place.cl T.p_Place_odd G_Place_odd (hr.mono (by decide)) pass0)) pa_nil))))))
          pss_nil)
      (pss_cons (ps_if (pt_val (pe_callR G_is_int (hr.mono (by decide)) T.m_is_int T.k_is_int pass0 (pa_cons (pv 1) pa_nil)))
          (pss_one (ps_ret (pe_makeRR T.M_Place G_Place_init (hr.mono (by decide)) T.m_Place pass0 (pa_cons (pe_fld (pv 0) rfl) (pa_cons (pe_op op_sub (pe_fld (pv 0) rfl) (pv 1)) (pa_cons (pe_fld (pv 0) rfl) pa_nil))))))
          pss_nil)
      (pss_one ps_never))), ?_⟩
  refine ⟨_, rfl, _, _, _, _, _, rfl, .own _, T.c_Place.tyOf hq, kit_self, true, rfl, iteT ?_⟩
  exact ⟨_, rfl, p, _, dx, _, _, rfl, hp, T.c_Place.cl, T.a_Place__slope, plF_slope _ _ _, _, rfl, q, dy, _, rfl, hq, q, s', o', d', rfl, ⟨dy, hq⟩, _, _, rfl, rfl,
    _, rfl, p, _, dx, _, _, rfl, hp, T.c_Place.cl, T.a_Place__offset, plF_offset _ _ _, _, rfl, q, dy, _, rfl, hq, q, s', o', d', rfl, ⟨dy, hq⟩, _, _, rfl, rfl,
    _, rfl, p, _, dx, _, _, rfl, hp, T.c_Place.cl, T.a_Place__odd, plF_odd _ _ _, _, rfl, q, dy, _, rfl, hq, q, s', o', d', rfl, ⟨dy, hq⟩, _, _, rfl, rfl, newP_make k⟩
theorem ok_p_addI (T : Txt K mg a) : FnR P w K mg base CX0 4 a.Place_add (spPAddI a.Place fun x y => x + y) := by
  have G_is_int : FnR P w K mg base CX0 1 a.is_int spIntI := ok_is_int T
  have G_Place_init : FnR P w K mg base CX0 2 a.Place_init (spPInit a.Place) := ok_p_init T
  have G_Place_slope : FnR P w K mg base CX0 1 a.Place_slope (spPSlope a.Place) := ok_p_slope T
  have G_Place_offset : FnR P w K mg base CX0 1 a.Place_offset (spPOffset a.Place) := ok_p_offset T
  have G_Place_odd : FnR P w K mg base CX0 1 a.Place_odd (spPOdd a.Place) := ok_p_odd T
  refine T.d_Place_add.ok sc_Place_add (fun _ _ _ _ _ _ us hl => match us, hl with | [_, _], _ => rfl) (fun vs H Q E h => by obtain ⟨p, s, o, d, i, rfl, _⟩ := h; rfl) (fun cdv A outer s H vs Q E hr h => ?_)
  obtain ⟨p, s, o, d, i, rfl, ⟨dx, hp⟩, k⟩ := h
  refine ⟨_, (pss_cons (ps_if (pt_val (pe_callB call_isi (by rfl) T.n_isinstance (by decide +kernel) (pa_cons (pv 1) (pa_cons (pe_glob (v := .ref a.Place) rfl T.m_Place rfl) pa_nil))))
          (pss_one (ps_ret (pe_makeRR T.M_Place G_Place_init (hr.mono (by decide)) T.m_Place pass0 (pa_cons (pe_op op_add (pe_fld (pv 0) rfl) (pe_propR (pv 1) T.c_Place.cl T.p_Place_slope G_Place_slope (hr.mono (by decide)) pass0)) (pa_cons (pe_op op_add (pe_fld (pv 0) rfl) (pe_propR (pv 1) T.c_Place.cl T.p_Place_offset G_Place_offset (hr.mono (by decide)) pass0)) (pa_cons (pe_op op_add (pe_fld (pv 0) rfl) (pe_propR (pv 1) T.c_Place.cl T.p_Place_odd G_Place_odd (hr.mono (by decide)) pass0)) pa_nil))))))
          pss_nil)
      (pss_cons (ps_if (pt_val (pe_callR G_is_int (hr.mono (by decide)) T.m_is_int T.k_is_int pass0 (pa_cons (pv 1) pa_nil)))
          (pss_one (ps_ret (pe_makeRR T.M_Place G_Place_init (hr.mono (by decide)) T.m_Place pass0 (pa_cons (pe_fld (pv 0) rfl) (pa_cons (pe_op op_add (pe_fld (pv 0) rfl) (pv 1)) (pa_cons (pe_fld (pv 0) rfl) pa_nil))))))
          pss_nil)
      (pss_one ps_never))), ?_⟩
  refine ⟨_, rfl, _, _, _, _, _, rfl, .own _, .base (.int _), kit_ty_own T.c_Place T.s_Place_int, false, rfl, iteF ⟨_, rfl, i, rfl, true, rfl, iteT ?_⟩⟩
  exact ⟨_, rfl, p, _, dx, _, _, rfl, hp, T.c_Place.cl, T.a_Place__slope, plF_slope _ _ _, _, rfl, p, _, dx, _, _, rfl, hp, T.c_Place.cl, T.a_Place__offset, plF_offset _ _ _, _, rfl, _, _, rfl, rfl,
    _, rfl, p, _, dx, _, _, rfl, hp, T.c_Place.cl, T.a_Place__odd, plF_odd _ _ _, newP_make k⟩
theorem ok_p_subI (T : Txt K mg a) : FnR P w K mg base CX0 4 a.Place_sub (spPAddI a.Place fun x y => x - y) := by
  have G_is_int : FnR P w K mg base CX0 1 a.is_int spIntI := ok_is_int T
  have G_Place_init : FnR P w K mg base CX0 2 a.Place_init (spPInit a.Place) := ok_p_init T
  have G_Place_slope : FnR P w K mg base CX0 1 a.Place_slope (spPSlope a.Place) := ok_p_slope T
  have G_Place_offset : FnR P w K mg base CX0 1 a.Place_offset (spPOffset a.Place) := ok_p_offset T
  have G_Place_odd : FnR P w K mg base CX0 1 a.Place_odd (spPOdd a.Place) := ok_p_odd T
  refine T.d_Place_sub.ok sc_Place_sub (fun _ _ _ _ _ _ us hl => match us, hl with | [_, _], _ => rfl) (fun vs H Q E h => by obtain ⟨p, s, o, d, i, rfl, _⟩ := h; rfl) (fun cdv A outer s H vs Q E hr h => ?_)
  obtain ⟨p, s, o, d, i, rfl, ⟨dx, hp⟩, k⟩ := h
  refine ⟨_, (pss_cons (ps_if (pt_val (pe_callB call_isi (by rfl) T.n_isinstance (by decide +kernel) (pa_cons (pv 1) (pa_cons (pe_glob (v := .ref a.Place) rfl T.m_Place rfl) pa_nil))))
          (pss_one (ps_ret (pe_makeRR T.M_Place G_Place_init (hr.mono (by decide)) T.m_Place pass0 (pa_cons (pe_op op_sub (pe_fld (pv 0) rfl) (pe_propR (pv 1) T.c_Place.cl T.p_Place_slope G_Place_slope (hr.mono (by decide)) pass0)) (pa_cons (pe_op op_sub (pe_fld (pv 0) rfl) (pe_propR (pv 1) T.c_Place.cl T.p_Place_offset G_Place_offset (hr.mono (by decide)) pass0)) (pa_cons (pe_op op_sub (pe_fld (pv 0) rfl) (pe_propR (pv 1) T.c_Place.cl T.p_Place_odd G_Place_odd (hr.mono (by decide)) pass0)) pa_nil))))))
          pss_nil)
      (pss_cons (ps_if (pt_val (pe_callR G_is_int (hr.mono (by decide)) T.m_is_int T.k_is_int pass0 (pa_cons (pv 1) pa_nil)))
          (pss_one (ps_ret (pe_makeRR T.M_Place G_Place_init (hr.mono (by decide)) T.m_Place pass0 (pa_cons (pe_fld (pv 0) rfl) (pa_cons (pe_op op_sub (pe_fld (pv 0) rfl) (pv 1)) (pa_cons (pe_fld (pv 0) rfl) pa_nil))))))
          pss_nil)
      (pss_one ps_never))), ?_⟩
  refine ⟨_, rfl, _, _, _, _, _, rfl, .own _, .base (.int _), kit_ty_own T.c_Place T.s_Place_int, false, rfl, iteF ⟨_, rfl, i, rfl, true, rfl, iteT ?_⟩⟩
  exact ⟨_, rfl, p, _, dx, _, _, rfl, hp, T.c_Place.cl, T.a_Place__slope, plF_slope _ _ _, _, rfl, p, _, dx, _, _, rfl, hp, T.c_Place.cl, T.a_Place__offset, plF_offset _ _ _, _, rfl, _, _, rfl, rfl,
    _, rfl, p, _, dx, _, _, rfl, hp, T.c_Place.cl, T.a_Place__odd, plF_odd _ _ _, newP_make k⟩
theorem ok_p_radd (T : Txt K mg a) : FnR P w K mg base CX0 4 a.Place_radd (spPAddI a.Place fun x y => x + y) := by
  have G_is_int : FnR P w K mg base CX0 1 a.is_int spIntI := ok_is_int T
  have G_Place_init : FnR P w K mg base CX0 2 a.Place_init (spPInit a.Place) := ok_p_init T
  refine T.d_Place_radd.ok sc_Place_radd (fun _ _ _ _ _ _ us hl => match us, hl with | [_, _], _ => rfl) (fun vs H Q E h => by obtain ⟨p, s, o, d, i, rfl, _⟩ := h; rfl) (fun cdv A outer s H vs Q E hr h => ?_)
  obtain ⟨p, s, o, d, i, rfl, ⟨dx, hp⟩, k⟩ := h
  refine ⟨_, (pss_cons (ps_if (pt_val (pe_callR G_is_int (hr.mono (by decide)) T.m_is_int T.k_is_int pass0 (pa_cons (pv 1) pa_nil)))
          (pss_one (ps_ret (pe_makeRR T.M_Place G_Place_init (hr.mono (by decide)) T.m_Place pass0 (pa_cons (pe_fld (pv 0) rfl) (pa_cons (pe_op op_add (pe_fld (pv 0) rfl) (pv 1)) (pa_cons (pe_fld (pv 0) rfl) pa_nil))))))
          pss_nil)
      (pss_one ps_never)), ?_⟩
  refine ⟨_, rfl, i, rfl, true, rfl, iteT ?_⟩
  exact ⟨_, rfl, p, _, dx, _, _, rfl, hp, T.c_Place.cl, T.a_Place__slope, plF_slope _ _ _, _, rfl, p, _, dx, _, _, rfl, hp, T.c_Place.cl, T.a_Place__offset, plF_offset _ _ _, _, rfl, _, _, rfl, rfl,
    _, rfl, p, _, dx, _, _, rfl, hp, T.c_Place.cl, T.a_Place__odd, plF_odd _ _ _, newP_make k⟩
theorem same_new0 {H : Hp} {p : Addr} {o : HO} (h : H p = none) : Same H (upd H p o) := fun b u e => by rw [upd_ne (ne_of_none e h)]; exact e
theorem NewP.grow {C : Addr} {H H' : Hp} {s o d : Int} {Q : VK} (k : NewP C H s o d Q) (e : Same H H') : NewP C H' s o d Q := fun x H2 s2 nx px => k x H2 (e.trans s2) (e.free nx) px
def spMir : Sp := fun vs H Q _ => ∃ (t : Addr) (s o d : Int), vs = [.ref t] ∧ H t = some (.tup [.int s, .int o, .int d]) ∧ ∀ p, H p = none → Q (.ref p) (upd H p (.tup [.int (2 - s), .int (-o), .int (1 - d)]))
theorem ok_mir (T : Txt K mg a) : FnR P w K mg base CX0 1 a.mirrored_parts spMir := by
  refine T.d_mirrored_parts.ok sc_mirrored_parts (fun _ _ _ _ _ _ us hl => match us, hl with | [_], _ => rfl) (fun vs H Q E h => by obtain ⟨t, s, o, d, rfl, _⟩ := h; rfl) (fun cdv A outer s H vs Q E hr h => ?_)
  obtain ⟨t, s, o, d, rfl, ht, k⟩ := h
  refine ⟨_, (pss_cons (ps_asg (pv 0) (pg_tup rfl (pgs_cons (pg_name (i := 1) sc_mirrored_parts.nd rfl (Or.inl rfl)) (pgs_cons (pg_name (i := 2) sc_mirrored_parts.nd rfl (Or.inl rfl)) (pgs_cons (pg_name (i := 3) sc_mirrored_parts.nd rfl (Or.inl rfl)) pgs_nil)))))
      (pss_one (ps_ret (pe_tup (pa_cons (pe_op op_sub pe_int (pv 1)) (pa_cons (pe_un un_neg (pv 2)) (pa_cons (pe_op op_sub pe_int (pv 3)) pa_nil))))))), ?_⟩
  refine ⟨_, rfl, t, _, rfl, SqT.of ht, rfl, ?_⟩
  refine ⟨_, _, rfl, _, _, rfl, _, _, rfl, rfl, ?_⟩
  exact ⟨_, rfl, _, _, rfl, rfl, _, rfl, _, rfl, _, rfl, _, _, rfl, rfl, (by show 3 ≤ sizeLine; decide), k⟩
theorem ok_p_inv (T : Txt K mg a) : FnR P w K mg base CX0 4 a.Place_invert (spPInv a.Place) := by
  have G_Place_init : FnR P w K mg base CX0 2 a.Place_init (spPInit a.Place) := ok_p_init T
  have G_parts_of : FnR P w K mg base CX0 3 a.parts_of (spPParts a.Place) := ok_parts T
  have G_mirrored_parts : FnR P w K mg base CX0 1 a.mirrored_parts spMir := ok_mir T
  refine T.d_Place_invert.ok sc_Place_invert (fun _ _ _ _ _ _ us hl => match us, hl with | [_], _ => rfl) (fun vs H Q E h => by obtain ⟨p, s, o, d, rfl, _⟩ := h; rfl) (fun cdv A outer s H vs Q E hr h => ?_)
  obtain ⟨p, s, o, d, rfl, hp, k⟩ := h
  refine ⟨_, (pss_cons (ps_asg (pe_callR G_mirrored_parts (hr.mono (by decide)) T.m_mirrored_parts T.k_mirrored_parts pass0 (pa_cons (pe_callR G_parts_of (hr.mono (by decide)) T.m_parts_of T.k_parts_of pass0 (pa_cons (pv 0) pa_nil)) pa_nil)) (pg_tup rfl (pgs_cons (pg_name (i := 1) sc_Place_invert.nd rfl (Or.inl rfl)) (pgs_cons (pg_name (i := 2) sc_Place_invert.nd rfl (Or.inl rfl)) (pgs_cons (pg_name (i := 3) sc_Place_invert.nd rfl (Or.inl rfl)) pgs_nil)))))
      (pss_one (ps_ret (pe_makeRR T.M_Place G_Place_init (hr.mono (by decide)) T.m_Place pass0 (pa_cons (pv 1) (pa_cons (pv 2) (pa_cons (pv 3) pa_nil))))))), ?_⟩
  refine ⟨_, rfl, p, s, o, d, rfl, hp, fun t ht => ?_⟩
  refine ⟨t, s, o, d, rfl, upd_same, fun t' ht' => ?_⟩
  refine ⟨t', _, rfl, SqT.of upd_same, rfl, ?_⟩
  refine ⟨_, _, rfl, _, _, rfl, _, _, rfl, rfl, ?_⟩
  refine ⟨_, rfl, _, rfl, _, rfl, newP_make ?_⟩
  exact k.grow ((same_new0 ht).trans (same_new0 ht'))
theorem ok_p_eq (T : Txt K mg a) : FnR P w K mg base CX0 4 a.Place_eq (spPEq a.Place) := by
  have G_parts_of : FnR P w K mg base CX0 3 a.parts_of (spPParts a.Place) := ok_parts T
  refine T.d_Place_eq.ok sc_Place_eq (fun _ _ _ _ _ _ us hl => match us, hl with | [_, _], _ => rfl) (fun vs H Q E h => by obtain ⟨p, q, s, o, d, s', o', d', rfl, _⟩ := h; rfl) (fun cdv A outer s H vs Q E hr h => ?_)
  obtain ⟨p, q, s, o, d, s', o', d', rfl, ⟨dx, hp⟩, ⟨dy, hq⟩, k⟩ := h
  refine ⟨_, (pss_one (ps_ret (pe_and (pe_callB call_isi (by rfl) T.n_isinstance (by decide +kernel) (pa_cons (pv 1) (pa_cons (pe_glob (v := .ref a.Place) rfl T.m_Place rfl) pa_nil))) (pe_one (pe_cmpR (op_eqD hr.units) (pe_callR G_parts_of (hr.mono (by decide)) T.m_parts_of T.k_parts_of pass0 (pa_cons (pv 0) pa_nil)) (pe_callR G_parts_of (hr.mono (by decide)) T.m_parts_of T.k_parts_of pass0 (pa_cons (pv 1) pa_nil)) (nomark _)))))), ?_⟩
  refine ⟨_, rfl, _, _, _, _, _, rfl, .own _, T.c_Place.tyOf hq, kit_self, true, rfl, iteT ?_⟩
  refine ⟨_, rfl, p, s, o, d, rfl, ⟨dx, hp⟩, fun t1 ht1 => ?_⟩
  have hq1 : (upd H t1 (.tup [.int s, .int o, .int d])) q = some (.ins a.Place dy (plF s' o' d')) := by rw [upd_ne (ne_of_none hq ht1)]; exact hq
  refine ⟨_, rfl, q, s', o', d', rfl, ⟨dy, hq1⟩, fun t2 ht2 => ?_⟩
  have h12 : t1 ≠ t2 := ne_of_none (upd_same (H := H) (o := .tup [.int s, .int o, .int d])) ht2
  refine ⟨.tuple [.int s, .int o, .int d], .tuple [.int s', .int o', .int d'], .tup (SqT.of (by rw [upd_ne h12]; exact upd_same)) (.cons (.int _) (.cons (.int _) (.cons (.int _) .nil))),
    .tup (SqT.of upd_same) (.cons (.int _) (.cons (.int _) (.cons (.int _) .nil))), rfl, rfl, ?_⟩
  rw [eqv3]
  refine k _ fun b u e => ?_
  have nb : b ≠ t1 := ne_of_none e ht1
  have e1 : (upd H t1 (.tup [.int s, .int o, .int d])) b = some u := by rw [upd_ne nb]; exact e
  rw [upd_ne (ne_of_none e1 ht2)]
  exact e1
theorem ok_left (T : Txt K mg a) : FnR P w K mg base CX0 4 a.from_left (spPOfI a.Place fun i => (0, i, 0)) := by
  have G_Place_init : FnR P w K mg base CX0 2 a.Place_init (spPInit a.Place) := ok_p_init T
  have F := T.d_from_left.okD (P := P) (w := w) (mg := mg) (base := base) (k := 3) (n := 1) (j := 1) (sp := spPOfI a.Place fun i => (0, i, 0)) sc_from_left (by simp) rfl (fun T kV doc pm an cdv ct us its hu hi => match us, its, hu, hi with | [_], [_], _, _ => ⟨_, rfl, rfl⟩) (fun vs H Q E h => by obtain ⟨i, rfl, _⟩ := h; rfl) (fun cdv A outer s H vs Q E hr h => ?_)
  · exact F.imp fun vs H Q E h => by
      show spPOfI _ _ (vs ++ []) H Q E
      rw [List.append_nil]
      exact h
  · obtain ⟨i, rfl, k⟩ := h
    exact ⟨_, (pss_one (ps_ret (pe_makeRR T.M_Place G_Place_init (hr.mono (by decide)) T.m_Place pass0 (pa_cons pe_int (pa_cons (pv 0) (pa_cons pe_int pa_nil)))))), _, rfl, newP_make k⟩
theorem ok_right (T : Txt K mg a) : FnR P w K mg base CX0 4 a.from_right (spPOfI a.Place fun i => (2, -i, 1)) := by
  have G_is_int : FnR P w K mg base CX0 1 a.is_int spIntI := ok_is_int T
  have G_Place_init : FnR P w K mg base CX0 2 a.Place_init (spPInit a.Place) := ok_p_init T
  have F := T.d_from_right.okD (P := P) (w := w) (mg := mg) (base := base) (k := 3) (n := 1) (j := 1) (sp := spPOfI a.Place fun i => (2, -i, 1)) sc_from_right (by simp) rfl (fun T kV doc pm an cdv ct us its hu hi => match us, its, hu, hi with | [_], [_], _, _ => ⟨_, rfl, rfl⟩) (fun vs H Q E h => by obtain ⟨i, rfl, _⟩ := h; rfl) (fun cdv A outer s H vs Q E hr h => ?_)
  · exact F.imp fun vs H Q E h => by
      show spPOfI _ _ (vs ++ []) H Q E
      rw [List.append_nil]
      exact h
  · obtain ⟨i, rfl, k⟩ := h
    exact ⟨_, (pss_cons (ps_if (pt_not (pt_val (pe_callR G_is_int (hr.mono (by decide)) T.m_is_int T.k_is_int pass0 (pa_cons (pv 0) pa_nil))))
          (pss_one ps_never)
          pss_nil)
      (pss_one (ps_ret (pe_makeRR T.M_Place G_Place_init (hr.mono (by decide)) T.m_Place pass0 (pa_cons pe_int (pa_cons (pe_un un_neg (pv 0)) (pa_cons pe_int pa_nil))))))), _, rfl, i, rfl, true, rfl, iteF ⟨_, rfl, _, rfl, newP_make k⟩⟩
theorem ok_middle (T : Txt K mg a) : FnR P w K mg base CX0 4 a.from_middle (spPOfI a.Place fun i => (1, i, 0)) := by
  have G_Place_init : FnR P w K mg base CX0 2 a.Place_init (spPInit a.Place) := ok_p_init T
  have F := T.d_from_middle.okD (P := P) (w := w) (mg := mg) (base := base) (k := 3) (n := 1) (j := 1) (sp := spPOfI a.Place fun i => (1, i, 0)) sc_from_middle (by simp) rfl (fun T kV doc pm an cdv ct us its hu hi => match us, its, hu, hi with | [_], [_], _, _ => ⟨_, rfl, rfl⟩) (fun vs H Q E h => by obtain ⟨i, rfl, _⟩ := h; rfl) (fun cdv A outer s H vs Q E hr h => ?_)
  · exact F.imp fun vs H Q E h => by
      show spPOfI _ _ (vs ++ []) H Q E
      rw [List.append_nil]
      exact h
  · obtain ⟨i, rfl, k⟩ := h
    exact ⟨_, (pss_one (ps_ret (pe_makeRR T.M_Place G_Place_init (hr.mono (by decide)) T.m_Place pass0 (pa_cons pe_int (pa_cons (pv 0) (pa_cons pe_int pa_nil)))))), _, rfl, newP_make k⟩
end
end Pf
end
section
namespace Pf
open PySem PySem.Spec PyProof.Rows L2 Ow StX
/-! ### the law's own defs -/
/-- all but the object at d is as it was -/
def SameBut (d : Addr) (H H' : Hp) : Prop := ∀ b o, b ≠ d → H b = some o → H' b = some o
theorem SameBut.of {d : Addr} {H H' : Hp} (s : Same H H') : SameBut d H H' := fun b o _ e => s b o e
theorem SameBut.trans {d : Addr} {H H1 H2 : Hp} (x : SameBut d H H1) (y : SameBut d H1 H2) : SameBut d H H2 := fun b o n e => y b o n (x b o n e)
theorem SameBut.upd {d : Addr} {H : Hp} {o : HO} : SameBut d H (upd H d o) := fun b u n e => by rw [upd_ne n]; exact e
theorem same_new {H : Hp} {p : Addr} {o : HO} (h : H p = none) : Same H (upd H p o) := fun b u e => by rw [upd_ne (ne_of_none e h)]; exact e
theorem Same.free' {H H' : Hp} (e : Same H H') {l : Addr} (h : H' l = none) : H l = none := e.free h
/-- sizes and slopes as they are drawn -/
def OkN (n : Int) : Prop := 1 ≤ n ∧ n ≤ 10 ^ 26
def Sm (s : Int) : Prop := s.natAbs < 2 ^ 10
theorem okn_mul {s n : Int} (hs : Sm s) (hn : OkN n) : CMulW s (n / 2) := by
  obtain ⟨h1, h2⟩ := hn
  refine wide_mul (a := 10) (b := 100) hs ?_ (by decide) (by decide) (by decide)
  have e : (10 : Int) ^ 26 = 100000000000000000000000000 := by decide
  have e2 : (2 : Nat) ^ 100 = 1267650600228229401496703205376 := by decide
  rw [e] at h2
  rw [e2]
  omega
theorem okn_mod {s n : Int} (hs : Sm s) : CMulW s (n % 2) := by
  refine wide_mul (a := 10) (b := 2) hs ?_ (by decide) (by decide) (by decide)
  omega
def spAt (K : PySem.W.Frag) : Sp := fun vs H Q _ => ∃ (l : Addr) (s o d n : Int), vs = [.ref l, .int n] ∧ SqL K H l [.int s, .int o, .int d] ∧ CMulW s (n / 2) ∧ CMulW d (n % 2) ∧ Q (.int (valP s o d n)) H
def spPlaceOf (K : PySem.W.Frag) (C : Addr) : Sp := fun vs H Q _ => ∃ (l : Addr) (s o d : Int), vs = [.ref l] ∧ SqL K H l [.int s, .int o, .int d] ∧ NewP C H s o d Q
def spDrawn : Sp := fun vs H Q _ => ∃ (d : Addr), vs = [.ref d] ∧ Bag H d ∧ ∀ (l : Addr) (H' : Hp) (s o e : Int), SameBut d H H' → Bag H' d → H' l = some (.lst [.int s, .int o, .int e]) → s.natAbs ≤ 100 → e.natAbs ≤ 100 → Q (.ref l) H'
def PlR (C : Addr) : Addr → Addr → Hp → Prop := fun x y H => ∃ s o d, PlaceAt H C x s o d ∧ PlaceAt H C y s o d
theorem plMon (C : Addr) : ∀ a b H H', Ext H H' → PlR C a b H → PlR C a b H' := fun a b H H' e ⟨s, o, d, h1, h2⟩ => ⟨s, o, d, h1.same e, h2.same e⟩
section
variable {P : Program} {w : World} {K : PySem.W.Frag} {mg : Str → Option Value} {base : Heap} {a : Adr}
set_option maxHeartbeats 4000000
theorem ok_eqR (T : Txt K mg a) : FnR P w K mg base CX0 4 a.Place_eq (spEq (PlR a.Place)) := (ok_p_eq T).imp fun vs H Q E h => by
  obtain ⟨x, y, rfl, ⟨s, o, d, h1, h2⟩, k⟩ := h
  refine ⟨x, y, s, o, d, s, o, d, rfl, h1, h2, fun H' e => ?_⟩
  have q : decide (s = s ∧ o = o ∧ d = d) = true := by simp
  rw [q]
  exact k H' e
theorem ok_at (T : Txt K mg a) : FnR P w K mg base CX0 1 a._law_at (spAt K) := by
  refine T.d__law_at.ok sc__law_at (fun _ _ _ _ _ _ us hl => match us, hl with | [_, _], _ => rfl) (fun vs H Q E h => by obtain ⟨l, s, o, d, n, rfl, _⟩ := h; rfl) (fun cdv A outer s H vs Q E hr h => ?_)
  obtain ⟨l, s, o, d, n, rfl, hl, hm1, hm2, k⟩ := h
  refine ⟨_, (pss_cons (ps_set (i := 2) sc__law_at.nd rfl (Or.inl rfl) (pe_op op_fdiv (pv 1) pe_int))
      (pss_one (ps_ret (pe_op op_add (pe_op op_add (pe_op op_mulW (pe_ix ix_list (pv 0) pe_int (fun _ _ => rfl)) (pv 2)) (pe_ix ix_list (pv 0) pe_int (fun _ _ => rfl))) (pe_op op_mulW (pe_ix ix_list (pv 0) pe_int (fun _ _ => rfl)) (pe_op op_sub (pv 1) (pe_op op_mul pe_int (pv 2)))))))), ?_⟩
  have en : n - 2 * (n / 2) = n % 2 := by omega
  refine ⟨_, rfl, _, _, rfl, rfl, ⟨by decide, by decide⟩, ?_⟩
  refine ⟨_, rfl, l, _, _, _, rfl, rfl, hl, atI_nat (j := 0) rfl, _, rfl, _, _, rfl, rfl, hm1, _, rfl, l, _, _, _, rfl, rfl, hl, atI_nat (j := 1) rfl, _, _, rfl, rfl,
    _, rfl, l, _, _, _, rfl, rfl, hl, atI_nat (j := 2) rfl, _, rfl, _, rfl, _, _, rfl, rfl, .inl ⟨by decide, by decide⟩, _, _, rfl, rfl, ?_⟩
  refine ⟨_, _, rfl, rfl, (by show CMulW d (n - 2 * (n / 2)); rw [en]; exact hm2), _, _, rfl, rfl, ?_⟩
  show Q (.int (s * (n / 2) + o + d * (n - 2 * (n / 2)))) H
  rw [en]
  exact k
theorem ok_placeOf (T : Txt K mg a) : FnR P w K mg base CX0 4 a._law_place (spPlaceOf K a.Place) := by
  have G_Place_init : FnR P w K mg base CX0 2 a.Place_init (spPInit a.Place) := ok_p_init T
  refine T.d__law_place.ok sc__law_place (fun _ _ _ _ _ _ us hl => match us, hl with | [_], _ => rfl) (fun vs H Q E h => by obtain ⟨l, s, o, d, rfl, _⟩ := h; rfl) (fun cdv A outer s H vs Q E hr h => ?_)
  obtain ⟨l, s, o, d, rfl, hl, k⟩ := h
  exact ⟨_, (pss_one (ps_ret (pe_makeRR T.M_Place G_Place_init (hr.mono (by decide)) T.m_Place pass0 (pa_cons (pe_ix ix_list (pv 0) pe_int (fun _ _ => rfl)) (pa_cons (pe_ix ix_list (pv 0) pe_int (fun _ _ => rfl)) (pa_cons (pe_ix ix_list (pv 0) pe_int (fun _ _ => rfl)) pa_nil)))))), _, rfl, l, _, _, _, rfl, rfl, hl, atI_nat (j := 0) rfl, _, rfl, l, _, _, _, rfl, rfl, hl, atI_nat (j := 1) rfl, _, rfl, l, _, _, _, rfl, rfl, hl, atI_nat (j := 2) rfl, newP_make k⟩
theorem far_at {z : Int} (h0 : 0 ≤ z) (h1 : z < 4) : ∃ f : Int, atI [.int 1, .int 1, .int 1, .int (10 ^ 39)] z = some (V.int f) := by
  obtain ⟨k, rfl⟩ : ∃ k : Nat, z = (k : Int) := ⟨z.toNat, by omega⟩
  have hk : k < 4 := by omega
  match k, hk with
  | 0, _ => exact ⟨_, atI_nat rfl⟩
  | 1, _ => exact ⟨_, atI_nat rfl⟩
  | 2, _ => exact ⟨_, atI_nat rfl⟩
  | 3, _ => exact ⟨_, atI_nat rfl⟩
theorem ok_drawn (T : Txt K mg a) : FnR P w K mg base CX0 2 a._law_drawn spDrawn := by
  have G__law_draw : FnR P w K mg base CX0 1 a._law_draw spDraw := ok_draw T
  refine T.d__law_drawn.ok sc__law_drawn (fun _ _ _ _ _ _ us hl => match us, hl with | [_], _ => rfl) (fun vs H Q E h => by obtain ⟨d, rfl, _⟩ := h; rfl) (fun cdv A outer s H vs Q E hr h => ?_)
  obtain ⟨d, rfl, B, k⟩ := h
  refine ⟨_, (pss_cons (ps_set (i := 1) sc__law_drawn.nd rfl (Or.inl rfl) (pe_ix ix_list (pe_lst (pa_cons pe_int (pa_cons pe_int (pa_cons pe_int (pa_cons (pe_op op_pow pe_int pe_int) pa_nil))))) (pe_callR G__law_draw (hr.mono (by decide)) T.m__law_draw T.k__law_draw pass0 (pa_cons (pv 0) (pa_cons pe_int pa_nil))) (fun _ _ => rfl)))
      (pss_one (ps_ret (pe_lst (pa_cons (pe_op op_sub (pe_callR G__law_draw (hr.mono (by decide)) T.m__law_draw T.k__law_draw pass0 (pa_cons (pv 0) (pa_cons pe_int pa_nil))) pe_int) (pa_cons (pe_op op_mul (pe_op op_sub (pe_callR G__law_draw (hr.mono (by decide)) T.m__law_draw T.k__law_draw pass0 (pa_cons (pv 0) (pa_cons pe_int pa_nil))) pe_int) (pv 1)) (pa_cons (pe_op op_sub (pe_callR G__law_draw (hr.mono (by decide)) T.m__law_draw T.k__law_draw pass0 (pa_cons (pv 0) (pa_cons pe_int pa_nil))) pe_int) pa_nil))))))), ?_⟩
  refine ⟨_, _, rfl, rfl, ⟨by decide, by decide, by decide⟩, (by show 4 ≤ sizeLine; decide), fun p hp => ?_⟩
  have s0 := same_new (o := .lst [.int 1, .int 1, .int 1, .int (10 ^ 39)]) hp
  have B0 := B.same s0
  refine ⟨_, rfl, d, 4, rfl, B0, by decide, by decide, fun z o0 z0 z1 B1 => ?_⟩
  obtain ⟨f, hf⟩ := far_at z0 z1
  have hpd : p ≠ d := fun e => by obtain ⟨o, ho⟩ := B.there; rw [e, ho] at hp; cases hp
  refine ⟨p, _, _, _, rfl, rfl, SqL.of (by rw [upd_ne hpd]; exact upd_same), hf, ?_⟩
  refine ⟨_, rfl, d, 7, rfl, B1, by decide, by decide, fun z1 o1 a0 a1 B2 => ?_⟩
  refine ⟨_, _, rfl, rfl, _, rfl, d, 21, rfl, B2, by decide, by decide, fun z2 o2 b0 b1 B3 => ?_⟩
  refine ⟨_, _, rfl, rfl, _, rfl, _, _, rfl, rfl, .inl ⟨by omega, by omega⟩, _, rfl, d, 5, rfl, B3, by decide, by decide, fun z3 o3 c0 c1 B4 => ?_⟩
  refine ⟨_, _, rfl, rfl, (by show 3 ≤ sizeLine; decide), fun l hl => ?_⟩
  exact k l _ _ _ _ ((((SameBut.of s0).trans SameBut.upd).trans SameBut.upd).trans (SameBut.upd.trans (SameBut.upd.trans (SameBut.of (same_new hl))))) (B4.same (same_new hl)) upd_same (by omega) (by omega)
end
end Pf
end
section
namespace Pf
open PySem PySem.Spec PyProof.Rows L2 Ow StX
/-! ### the law -/
/-- what stands in a turn -/
structure Here (C : Addr) (H : Hp) (d l1 l2 x1 x2 : Addr) (s o e s' o' e' : Int) : Prop where
  bag : Bag H d
  h1 : H l1 = some (.lst [.int s, .int o, .int e])
  h2 : H l2 = some (.lst [.int s', .int o', .int e'])
  p1 : PlaceAt H C x1 s o e
  p2 : PlaceAt H C x2 s' o' e'
theorem Here.same {C : Addr} {H H' : Hp} {d l1 l2 x1 x2 : Addr} {s o e s' o' e' : Int} (h : Here C H d l1 l2 x1 x2 s o e s' o' e') (m : Same H H') : Here C H' d l1 l2 x1 x2 s o e s' o' e' :=
  ⟨h.bag.same m, m _ _ h.h1, m _ _ h.h2, h.p1.same m, h.p2.same m⟩
theorem Here.but {C : Addr} {H : Hp} {d l1 l2 x1 x2 : Addr} {s o e s' o' e' : Int} {u : HO} (h : Here C H d l1 l2 x1 x2 s o e s' o' e') (b : Bag (upd H d u) d) : Here C (upd H d u) d l1 l2 x1 x2 s o e s' o' e' := by
  refine ⟨b, ?_, ?_, ?_, ?_⟩
  · rw [upd_ne (h.bag.ne h.h1 (fun _ z => by cases z))]; exact h.h1
  · rw [upd_ne (h.bag.ne h.h2 (fun _ z => by cases z))]; exact h.h2
  · obtain ⟨dx, q⟩ := h.p1
    exact ⟨dx, by rw [upd_ne (h.bag.ne q (fun _ z => by cases z))]; exact q⟩
  · obtain ⟨dx, q⟩ := h.p2
    exact ⟨dx, by rw [upd_ne (h.bag.ne q (fun _ z => by cases z))]; exact q⟩
/-- two lists of ints, equal by reckoning -/
theorem eqvAll_ints : ∀ ns : List Int, PyData.eqvAll (ns.map PyData.int) (ns.map PyData.int) = true
  | [] => rfl
  | n :: r => by
    show PyData.eqvAll (PyData.int n :: r.map PyData.int) (PyData.int n :: r.map PyData.int) = true
    simp [PyData.eqvAll, PyData.eqv, eqvAll_ints r]
theorem eqv_of {ns ms : List Int} (h : ns = ms) : PyData.eqv (.list (ns.map PyData.int)) (.list (ms.map PyData.int)) = true := by
  rw [h]
  show PyData.eqvAll (ms.map PyData.int) (ms.map PyData.int) = true
  exact eqvAll_ints ms
theorem val_add (s o d s' o' d' n : Int) : valP (s + s') (o + o') (d + d') n = valP s o d n + valP s' o' d' n := by
  unfold valP
  rw [Int.add_mul, Int.add_mul]
  omega
theorem val_sub (s o d s' o' d' n : Int) : valP (s - s') (o - o') (d - d') n = valP s o d n - valP s' o' d' n := by
  unfold valP
  rw [Int.sub_mul, Int.sub_mul]
  omega
theorem val_addI (s o d k n : Int) : valP s (o + k) d n = valP s o d n + k := by unfold valP; omega
theorem val_subI (s o d k n : Int) : valP s (o - k) d n = valP s o d n - k := by unfold valP; omega
theorem val_inv (s o d n : Int) : valP (2 - s) (-o) (1 - d) n = n - valP s o d n := by
  unfold valP
  rw [Int.sub_mul, Int.sub_mul]
  omega
theorem ifNot {b : Bool} {A B : Prop} (h : b = true) (q : B) : if (!b) = true then A else B := by rw [h]; exact iteF q
theorem dins {C x y : Addr} {H : Hp} {s o d : Int} (h1 : PlaceAt H C x s o d) (h2 : PlaceAt H C y s o d) : DIns C (PlR C) (.ref x) (.ref y) H := by
  obtain ⟨dx, e1⟩ := h1
  obtain ⟨dy, e2⟩ := h2
  exact ⟨x, y, dx, dy, _, _, rfl, rfl, e1, e2, s, o, d, ⟨dx, e1⟩, ⟨dy, e2⟩⟩
theorem made_same {H : Hp} {C x dx : Addr} {f : List (Str × V)} (nx : H x = none) (nd : H dx = none) : Same H (upd (upd (upd H dx (.own x)) x (.ins C dx [])) x (.ins C dx f)) := fun b u e => by
  rw [upd_ne (ne_of_none e nx), upd_ne (ne_of_none e nx), upd_ne (ne_of_none e nd)]
  exact e
def spLaw (K : PySem.W.Frag) : Sp := fun vs H Q _ => ∃ (sa : Addr) (ns : List Int), vs = [.ref sa] ∧ SqL K H sa (ns.map V.int) ∧ ns.length ≤ 63 ∧ ∀ H', Q (.bl true) H'
section
variable {P : Program} {w : World} {K : PySem.W.Frag} {mg : Str → Option Value} {base : Heap} {a : Adr}
set_option maxHeartbeats 16000000
theorem okLaw {x qual : Str} {st : Stmt} {f : Addr} {fd : FuncData} {N ps : List Str} {k : Nat} {sp : Sp} (F : FunD K x qual (defArgs st) (defBody st) (defScope st) [] [] f fd) (S : FnScope N ps (defScope st)) (len : ∀ vs H Q E, sp vs H Q E → vs.length = ps.length)
    (hbody : ∀ (cdv : Value) (A : Around) (outer : List Env) (s : Shared) (H : Hp) (vs : List V) (Q : VK) (E : XK), Room k (A.deeper (envOfC qual (defScope st) s.heap.objs.size f cdv)) → sp vs H Q E →
      ∃ t, PSs (cxOf CX0 P w K mg base N qual (defScope st) f cdv A outer s H E).nox (defBody st) t ∧ t { nx := fun _ H' => Q .non H', rt := Q } (start N vs) H) : FnOk P w K mg base CX0 (k + 1) f fd ps sp :=
  F.ok S len fun cdv A outer s H vs Q E hr hsp => by
    obtain ⟨t, h, q⟩ := hbody cdv A outer s H vs Q E hr hsp
    exact ⟨t, h.nox, q⟩
theorem ok_law {fd : FuncData} (T : Txt K mg a) (F : FunD K "law" "law" (defArgs s_law) (defBody s_law) (defScope s_law) [] [] a.law fd) : FnOk P w K mg base CX0 6 a.law fd ["_law_script"] (spLaw K) := by
  have G__law_draw : FnR P w K mg base CX0 1 a._law_draw spDraw := ok_draw T
  have G__law_bag : FnR P w K mg base CX0 1 a._law_bag (spBag K) := ok_bag T
  have G__law_drawn : FnR P w K mg base CX0 2 a._law_drawn spDrawn := ok_drawn T
  have G__law_at : FnR P w K mg base CX0 1 a._law_at (spAt K) := ok_at T
  have G__law_place : FnR P w K mg base CX0 4 a._law_place (spPlaceOf K a.Place) := ok_placeOf T
  have G_Place_init : FnR P w K mg base CX0 2 a.Place_init (spPInit a.Place) := ok_p_init T
  have G_addP : FnR P w K mg base CX0 4 a.Place_add (spPAddP a.Place fun x y => x + y) := ok_p_addP T
  have G_subP : FnR P w K mg base CX0 4 a.Place_sub (spPAddP a.Place fun x y => x - y) := ok_p_subP T
  have G_addI : FnR P w K mg base CX0 4 a.Place_add (spPAddI a.Place fun x y => x + y) := ok_p_addI T
  have G_subI : FnR P w K mg base CX0 4 a.Place_sub (spPAddI a.Place fun x y => x - y) := ok_p_subI T
  have G_radd : FnR P w K mg base CX0 4 a.Place_radd (spPAddI a.Place fun x y => x + y) := ok_p_radd T
  have G_inv : FnR P w K mg base CX0 4 a.Place_invert (spPInv a.Place) := ok_p_inv T
  have G_eqR : FnR P w K mg base CX0 4 a.Place_eq (spEq (PlR a.Place)) := ok_eqR T
  have G_call : FnR P w K mg base CX0 3 a.Place_call (spPCall a.Place) := ok_p_call T
  have G_from_left : FnR P w K mg base CX0 4 a.from_left (spPOfI a.Place fun i => (0, i, 0)) := ok_left T
  have G_from_right : FnR P w K mg base CX0 4 a.from_right (spPOfI a.Place fun i => (2, -i, 1)) := ok_right T
  have G_from_middle : FnR P w K mg base CX0 4 a.from_middle (spPOfI a.Place fun i => (1, i, 0)) := ok_middle T
  refine okLaw F sc_law (fun vs H Q E h => by obtain ⟨sa, ns, rfl, _⟩ := h; rfl) (fun cdv A outer s H vs Q E hr h => ?_)
  obtain ⟨sa, ns, rfl, hS, hns, k⟩ := h
  refine ⟨_, (pss_cons (ps_set (i := 1) sc_law.nd rfl (Or.inl rfl) (pe_callR G__law_bag (hr.mono (by decide)) T.m__law_bag T.k__law_bag pass0 (pa_cons (pv 0) pa_nil)))
      (pss_cons (ps_for PassesOwn.never rfl (pi_range1 rfl T.n_range (pa_cons pe_int pa_nil)) (pg_name (i := 2) sc_law.nd rfl (Or.inl rfl))
          (pss_cons (ps_set (i := 3) sc_law.nd rfl (Or.inl rfl) (pe_callR G__law_drawn (hr.mono (by decide)) T.m__law_drawn T.k__law_drawn pass0 (pa_cons (pv 1) pa_nil)))
          (pss_cons (ps_set (i := 4) sc_law.nd rfl (Or.inl rfl) (pe_callR G__law_drawn (hr.mono (by decide)) T.m__law_drawn T.k__law_drawn pass0 (pa_cons (pv 1) pa_nil)))
          (pss_cons (ps_set (i := 5) sc_law.nd rfl (Or.inl rfl) (pe_op op_sub (pe_callR G__law_draw (hr.mono (by decide)) T.m__law_draw T.k__law_draw pass0 (pa_cons (pv 1) (pa_cons pe_int pa_nil))) pe_int))
          (pss_cons (ps_set (i := 6) sc_law.nd rfl (Or.inl rfl) (pe_callR G__law_place (hr.mono (by decide)) T.m__law_place T.k__law_place pass0 (pa_cons (pv 3) pa_nil)))
          (pss_cons (ps_set (i := 7) sc_law.nd rfl (Or.inl rfl) (pe_callR G__law_place (hr.mono (by decide)) T.m__law_place T.k__law_place pass0 (pa_cons (pv 4) pa_nil)))
          (pss_cons (ps_for PassesOwn.never rfl (pi_list (pe_lst (pa_cons pe_int (pa_cons pe_int (pa_cons pe_int (pa_cons pe_int (pa_cons (pe_op op_add pe_int (pe_callR G__law_draw (hr.mono (by decide)) T.m__law_draw T.k__law_draw pass0 (pa_cons (pv 1) (pa_cons pe_int pa_nil)))) (pa_cons (pe_op op_add (pe_op op_pow pe_int pe_int) (pv 2)) pa_nil)))))))) (pg_name (i := 8) sc_law.nd rfl (Or.inl rfl))
              (pss_cons (ps_set (i := 9) sc_law.nd rfl (Or.inl rfl) (pe_callR G__law_at (hr.mono (by decide)) T.m__law_at T.k__law_at pass0 (pa_cons (pv 3) (pa_cons (pv 8) pa_nil))))
              (pss_cons (ps_set (i := 10) sc_law.nd rfl (Or.inl rfl) (pe_callR G__law_at (hr.mono (by decide)) T.m__law_at T.k__law_at pass0 (pa_cons (pv 4) (pa_cons (pv 8) pa_nil))))
              (pss_cons (ps_if (pt_cmpR (op_neD hr.units) (pe_lst (pa_cons (pe_callO (pe_op (op_bin (op := .Add) T.s_Place_first T.o_add T.f_Place_add G_addP (hr.mono (by decide)) pass0) (pv 6) (pv 7)) ⟨T.o_Place_call, T.f_Place_call, T.fi_Place_call⟩ G_call (hr.mono (by decide)) pass0 (pa_cons (pv 8) pa_nil)) (pa_cons (pe_callO (pe_op (op_bin (op := .Sub) T.s_Place_first T.o_sub T.f_Place_sub G_subP (hr.mono (by decide)) pass0) (pv 6) (pv 7)) ⟨T.o_Place_call, T.f_Place_call, T.fi_Place_call⟩ G_call (hr.mono (by decide)) pass0 (pa_cons (pv 8) pa_nil)) pa_nil))) (pe_lst (pa_cons (pe_op op_add (pv 9) (pv 10)) (pa_cons (pe_op op_sub (pv 9) (pv 10)) pa_nil))) (nomark _))
                  (pss_one (ps_ret pe_bl))
                  pss_nil)
              (pss_cons (ps_if (pt_cmpR (op_neD hr.units) (pe_lst (pa_cons (pe_callO (pe_op (op_binI (op := .Add) T.s_Place_first T.o_add T.f_Place_add T.o_radd (.inr ⟨_, rfl⟩) T.i_add T.i_radd T.s_Place_int G_addI (hr.mono (by decide)) pass0) (pv 6) (pv 5)) ⟨T.o_Place_call, T.f_Place_call, T.fi_Place_call⟩ G_call (hr.mono (by decide)) pass0 (pa_cons (pv 8) pa_nil)) (pa_cons (pe_callO (pe_op (op_radd T.s_Place_first T.o_add T.o_radd T.f_Place_radd T.s_Place_isint G_radd (hr.mono (by decide)) pass0) (pv 5) (pv 6)) ⟨T.o_Place_call, T.f_Place_call, T.fi_Place_call⟩ G_call (hr.mono (by decide)) pass0 (pa_cons (pv 8) pa_nil)) (pa_cons (pe_callO (pe_op (op_binI (op := .Sub) T.s_Place_first T.o_sub T.f_Place_sub T.o_rsub (.inl rfl) T.i_sub T.i_rsub T.s_Place_int G_subI (hr.mono (by decide)) pass0) (pv 6) (pv 5)) ⟨T.o_Place_call, T.f_Place_call, T.fi_Place_call⟩ G_call (hr.mono (by decide)) pass0 (pa_cons (pv 8) pa_nil)) pa_nil)))) (pe_lst (pa_cons (pe_op op_add (pv 9) (pv 5)) (pa_cons (pe_op op_add (pv 9) (pv 5)) (pa_cons (pe_op op_sub (pv 9) (pv 5)) pa_nil)))) (nomark _))
                  (pss_one (ps_ret pe_bl))
                  pss_nil)
              (pss_cons (ps_set (i := 11) sc_law.nd rfl (Or.inl rfl) (pe_lst (pa_cons (pe_callO (pe_un (un_inv_own T.o_Place_invert T.f_Place_invert G_inv (hr.mono (by decide)) pass0) (pv 6)) ⟨T.o_Place_call, T.f_Place_call, T.fi_Place_call⟩ G_call (hr.mono (by decide)) pass0 (pa_cons (pv 8) pa_nil)) (pa_cons (pe_callO (pe_un (un_inv_own T.o_Place_invert T.f_Place_invert G_inv (hr.mono (by decide)) pass0) (pe_un (un_inv_own T.o_Place_invert T.f_Place_invert G_inv (hr.mono (by decide)) pass0) (pv 6))) ⟨T.o_Place_call, T.f_Place_call, T.fi_Place_call⟩ G_call (hr.mono (by decide)) pass0 (pa_cons (pv 8) pa_nil)) (pa_cons (pe_callO (pe_un (un_inv_own T.o_Place_invert T.f_Place_invert G_inv (hr.mono (by decide)) pass0) (pe_op (op_binI (op := .Add) T.s_Place_first T.o_add T.f_Place_add T.o_radd (.inr ⟨_, rfl⟩) T.i_add T.i_radd T.s_Place_int G_addI (hr.mono (by decide)) pass0) (pv 6) (pv 5))) ⟨T.o_Place_call, T.f_Place_call, T.fi_Place_call⟩ G_call (hr.mono (by decide)) pass0 (pa_cons (pv 8) pa_nil)) pa_nil)))))
              (pss_one (ps_if (pt_cmpR (op_neD hr.units) (pv 11) (pe_lst (pa_cons (pe_op op_sub (pv 8) (pv 9)) (pa_cons (pv 9) (pa_cons (pe_op op_sub (pe_op op_sub (pv 8) (pv 9)) (pv 5)) pa_nil)))) (nomark _))
                  (pss_one (ps_ret pe_bl))
                  pss_nil))))))))
          (pss_cons (ps_if (PW.pt (pw_or (pt_cmpR (op_ne_own T.o_ne T.o_Place_eq T.f_Place_eq T.s_Place_obj G_eqR (hr.mono (by decide)) pass0) (pv 6) (pe_callR G__law_place (hr.mono (by decide)) T.m__law_place T.k__law_place pass0 (pa_cons (pv 3) pa_nil)) (nomark _)) (pw_or1 (pt_cmpR (op_ne_own T.o_ne T.o_Place_eq T.f_Place_eq T.s_Place_obj G_eqR (hr.mono (by decide)) pass0) (pv 7) (pe_callR G__law_place (hr.mono (by decide)) T.m__law_place T.k__law_place pass0 (pa_cons (pv 4) pa_nil)) (nomark _)))))
              (pss_one (ps_ret pe_bl))
              pss_nil)
          (pss_cons (ps_if (PW.pt (pw_or (pt_cmpR (op_ne_own T.o_ne T.o_Place_eq T.f_Place_eq T.s_Place_obj G_eqR (hr.mono (by decide)) pass0) (pe_un (un_inv_own T.o_Place_invert T.f_Place_invert G_inv (hr.mono (by decide)) pass0) (pe_un (un_inv_own T.o_Place_invert T.f_Place_invert G_inv (hr.mono (by decide)) pass0) (pv 6))) (pv 6) (nomark _)) (pw_or1 (pt_cmpR (op_ne_own T.o_ne T.o_Place_eq T.f_Place_eq T.s_Place_obj G_eqR (hr.mono (by decide)) pass0) (pe_op (op_binI (op := .Add) T.s_Place_first T.o_add T.f_Place_add T.o_radd (.inr ⟨_, rfl⟩) T.i_add T.i_radd T.s_Place_int G_addI (hr.mono (by decide)) pass0) (pv 6) pe_int) (pv 6) (nomark _)))))
              (pss_one (ps_ret pe_bl))
              pss_nil)
          (pss_cons (ps_set (i := 12) sc_law.nd rfl (Or.inl rfl) (pv 6))
          (pss_cons (ps_aug (i := 12) sc_law.nd rfl (Or.inl rfl) (pv 5) (iop_addI T.s_Place_mro T.o_iadd T.o_add T.f_Place_add T.o_radd (.inr ⟨_, rfl⟩) T.i_add T.i_radd T.s_Place_int G_addI (hr.mono (by decide)) pass0))
          (pss_cons (ps_if (PW.pt (pw_or (pt_cmpR (op_ne_own T.o_ne T.o_Place_eq T.f_Place_eq T.s_Place_obj G_eqR (hr.mono (by decide)) pass0) (pv 12) (pe_op (op_binI (op := .Add) T.s_Place_first T.o_add T.f_Place_add T.o_radd (.inr ⟨_, rfl⟩) T.i_add T.i_radd T.s_Place_int G_addI (hr.mono (by decide)) pass0) (pv 6) (pv 5)) (nomark _)) (pw_or1 (pt_cmpR (op_ne_own T.o_ne T.o_Place_eq T.f_Place_eq T.s_Place_obj G_eqR (hr.mono (by decide)) pass0) (pv 6) (pe_callR G__law_place (hr.mono (by decide)) T.m__law_place T.k__law_place pass0 (pa_cons (pv 3) pa_nil)) (nomark _)))))
              (pss_one (ps_ret pe_bl))
              pss_nil)
          (pss_cons (ps_set (i := 13) sc_law.nd rfl (Or.inl rfl) (pe_lst (pa_cons (pe_un (un_inv_own T.o_Place_invert T.f_Place_invert G_inv (hr.mono (by decide)) pass0) (pe_callR G_from_left (hr.mono (by decide)) T.m_from_left T.k_from_left pass0 (pa_cons (pv 5) pa_nil))) (pa_cons (pe_un (un_inv_own T.o_Place_invert T.f_Place_invert G_inv (hr.mono (by decide)) pass0) (pe_callR G_from_right (hr.mono (by decide)) T.m_from_right T.k_from_right pass0 (pa_cons (pv 5) pa_nil))) (pa_cons (pe_un (un_inv_own T.o_Place_invert T.f_Place_invert G_inv (hr.mono (by decide)) pass0) (pe_callR G_from_middle (hr.mono (by decide)) T.m_from_middle T.k_from_middle pass0 (pa_cons (pv 5) pa_nil))) pa_nil)))))
          (pss_one (ps_if (pt_cmpR (op_neL (mon_ins (plMon a.Place)) (eqG_insR G_eqR T.o_Place_eq T.f_Place_eq pass0) (hr.mono (by decide))) (pv 13) (pe_lst (pa_cons (pe_callR G_from_right (hr.mono (by decide)) T.m_from_right T.k_from_right pass0 (pa_cons (pv 5) pa_nil)) (pa_cons (pe_callR G_from_left (hr.mono (by decide)) T.m_from_left T.k_from_left pass0 (pa_cons (pv 5) pa_nil)) (pa_cons (pe_makeRR T.M_Place G_Place_init (hr.mono (by decide)) T.m_Place pass0 (pa_cons pe_int (pa_cons (pe_op op_sub pe_int (pv 5)) (pa_cons pe_int pa_nil)))) pa_nil)))) (nomark _))
              (pss_one (ps_ret pe_bl))
              pss_nil)))))))))))))))
      (pss_one (ps_ret pe_bl)))), ?_⟩
  refine ⟨_, rfl, sa, ns, rfl, hS, hns, fun d H0 sm0 hd0 B0 => ?_⟩
  refine ⟨6, rfl, by decide, by decide, for_range (n := 6) (fun i σ H' => ∃ v2 v3 v4 v5 v6 v7 v8 v9 v10 v11 v12 v13 : Option V, σ = [some (.ref sa), some (.ref d), v2, v3, v4, v5, v6, v7, v8, v9, v10, v11, v12, v13] ∧ Bag H' d)
    ⟨_, _, _, _, _, _, _, _, _, _, _, _, rfl, B0⟩ ?_ (fun σ H' _ => k H')⟩
  rintro i σ H1 hi ⟨v2, v3, v4, v5, v6, v7, v8, v9, v10, v11, v12, v13, rfl, B1⟩
  -- the draws
  refine ⟨_, rfl, d, rfl, B1, fun l1 H2 s o e sb2 B2 hl1 hs he => ?_⟩
  refine ⟨_, rfl, d, rfl, B2, fun l2 H3 s' o' e' sb3 B3 hl2 hs' he' => ?_⟩
  have hl1' : H3 l1 = some (.lst [.int s, .int o, .int e]) := sb3 _ _ (B2.ne hl1 (fun _ z => by cases z)) hl1
  refine ⟨_, rfl, d, 40, rfl, B3, by decide, by decide, fun z o4 z0 z1 B4 => ?_⟩
  have hl1'' : (upd H3 d o4) l1 = some (.lst [.int s, .int o, .int e]) := by rw [upd_ne (B3.ne hl1' (fun _ z => by cases z))]; exact hl1'
  have hl2'' : (upd H3 d o4) l2 = some (.lst [.int s', .int o', .int e']) := by rw [upd_ne (B3.ne hl2 (fun _ z => by cases z))]; exact hl2
  refine ⟨_, _, rfl, rfl, ?_⟩
  generalize upd H3 d o4 = H4 at *
  -- the two places
  refine ⟨_, rfl, l1, s, o, e, rfl, SqL.of hl1'', fun x1 H5 sm5 _ p1 => ?_⟩
  refine ⟨_, rfl, l2, s', o', e', rfl, SqL.of (sm5 _ _ hl2''), fun x2 H6 sm6 _ p2 => ?_⟩
  have E6 : Here a.Place H6 d l1 l2 x1 x2 s o e s' o' e' := ⟨(B4.same sm5).same sm6, sm6 _ _ (sm5 _ _ hl1''), sm6 _ _ (sm5 _ _ hl2''), p1.same sm6, p2⟩
  -- the sizes
  refine ⟨_, rfl, d, 50, rfl, E6.bag, by decide, by decide, fun n5 o7 n50 n51 B7 => ?_⟩
  have E7 := E6.but B7
  generalize upd H6 d o7 = H7 at *
  refine ⟨_, _, rfl, rfl, _, _, rfl, rfl, ⟨by decide, by decide, by decide⟩, _, rfl, _, _, rfl, rfl, (by show 6 ≤ sizeLine; decide), fun L hL => ?_⟩
  have smL := same_new (o := .lst [.int 1, .int 2, .int 3, .int 4, .int (1 + n5), .int (10 ^ Int.toNat 25 + (0 + (i : Int)))]) hL
  have E8 := E7.same smL
  refine ⟨L, rfl, ⟨_, SqL.of upd_same⟩, for_list (K := K) (a := L) (xs := [.int 1, .int 2, .int 3, .int 4, .int (1 + n5), .int (10 ^ Int.toNat 25 + (0 + (i : Int)))])
    (fun j σ H' => ∃ v8 v9 v10 v11 v12 v13 : Option V, σ = [some (.ref sa), some (.ref d), some (.int (0 + (i : Int))), some (.ref l1), some (.ref l2), some (.int (z - 20)), some (.ref x1), some (.ref x2), v8, v9, v10, v11, v12, v13] ∧
      Here a.Place H' d l1 l2 x1 x2 s o e s' o' e' ∧ H' L = some (.lst [.int 1, .int 2, .int 3, .int 4, .int (1 + n5), .int (10 ^ Int.toNat 25 + (0 + (i : Int)))]))
    ⟨_, _, _, _, _, _, rfl, E8, upd_same⟩ (fun j σ H' _ ⟨_, _, _, _, _, _, _, _, q⟩ => SqL.of q) ?_ ?_⟩
  · rintro j y σ H9 hj ⟨v8, v9, v10, v11, v12, v13, rfl, E, hLs⟩
    obtain ⟨n, rfl, hn⟩ : ∃ n, y = V.int n ∧ OkN n := by
      have hm := List.mem_of_getElem? hj
      have e25 : (10 : Int) ^ Int.toNat 25 = 10000000000000000000000000 := by decide
      have e26 : (10 : Int) ^ 26 = 100000000000000000000000000 := by decide
      simp only [List.mem_cons, List.not_mem_nil, or_false, e25] at hm
      unfold OkN
      rw [e26]
      rcases hm with h | h | h | h | h | h <;> exact ⟨_, h, by omega, by omega⟩
    have c1 : ∀ t : Int, Sm t → CMulW t (n / 2) := fun t h => okn_mul h hn
    have c2 : ∀ t : Int, Sm t → CMulW t (n % 2) := fun t h => okn_mod h
    have sm : ∀ t : Int, t.natAbs < 1024 → Sm t := fun t h => h
    -- here, there
    refine ⟨_, rfl, _, rfl, l1, s, o, e, n, rfl, SqL.of E.h1, c1 _ (sm _ (by omega)), c2 _ (sm _ (by omega)), ?_⟩
    refine ⟨_, rfl, _, rfl, l2, s', o', e', n, rfl, SqL.of E.h2, c1 _ (sm _ (by omega)), c2 _ (sm _ (by omega)), ?_⟩
    -- [(one + other)(n), (one - other)(n)] != ..
    refine ⟨_, rfl, _, rfl, x1, x2, rfl, rfl, E.p1.ins, E.p2.ins, x1, x2, _, _, _, _, _, _, rfl, E.p1, E.p2, fun y1 Ha sa1 _ q1 => ?_⟩
    refine ⟨y1, rfl, _, rfl, q1.insC, y1, _, _, _, n, rfl, q1, hn.1, c1 _ (sm _ (by show (s + s').natAbs < 1024; omega)), c2 _ (sm _ (by show (e + e').natAbs < 1024; omega)), ?_⟩
    have Ea := E.same sa1
    refine ⟨_, rfl, _, rfl, x1, x2, rfl, rfl, Ea.p1.ins, Ea.p2.ins, x1, x2, _, _, _, _, _, _, rfl, Ea.p1, Ea.p2, fun y2 Hb sb1 _ q2 => ?_⟩
    refine ⟨y2, rfl, _, rfl, q2.insC, y2, _, _, _, n, rfl, q2, hn.1, c1 _ (sm _ (by show (s - s').natAbs < 1024; omega)), c2 _ (sm _ (by show (e - e').natAbs < 1024; omega)), ?_⟩
    have Eb := Ea.same sb1
    refine ⟨(by show 2 ≤ sizeLine; decide), fun L1 hL1 => ?_⟩
    refine ⟨_, rfl, _, rfl, _, _, rfl, rfl, _, rfl, _, rfl, _, _, rfl, rfl, (by show 2 ≤ sizeLine; decide), fun L2 hL2 => ?_⟩
    have h12 : L1 ≠ L2 := ne_of_none upd_same hL2
    refine ⟨_, _, .lst (SqL.of (by rw [upd_ne h12]; exact upd_same)) (.cons (.int _) (.cons (.int _) .nil)), .lst (SqL.of upd_same) (.cons (.int _) (.cons (.int _) .nil)), rfl, rfl, _, rfl, ?_⟩
    refine ifNot ?_ ?_
    · refine eqv_of (ns := [_, _]) (ms := [_, _]) ?_
      show [valP (s + s') (o + o') (e + e') n, valP (s - s') (o - o') (e - e') n] = [valP s o e n + valP s' o' e' n, valP s o e n - valP s' o' e' n]
      rw [val_add, val_sub]
    -- [(one + k)(n), (k + one)(n), (one - k)(n)] != ..
    refine ⟨_, rfl, _, rfl, x1, _, rfl, rfl, ((Eb.same (same_new hL1)).same (same_new hL2)).p1.ins, x1, _, _, _, _, rfl, ((Eb.same (same_new hL1)).same (same_new hL2)).p1, fun y3 Hc sc1 _ q3 => ?_⟩
    refine ⟨y3, rfl, _, rfl, q3.insC, y3, _, _, _, n, rfl, q3, hn.1, c1 _ (sm _ (by omega)), c2 _ (sm _ (by omega)), ?_⟩
    have Ed := ((Eb.same (same_new hL1)).same (same_new hL2)).same sc1
    have Lc : Same H9 Hc := (((sa1.trans sb1).trans (same_new hL1)).trans (same_new hL2)).trans sc1
    refine ⟨_, rfl, _, rfl, x1, _, rfl, rfl, Ed.p1.ins, x1, _, _, _, _, rfl, Ed.p1, fun y4 Hd sd1 _ q4 => ?_⟩
    refine ⟨y4, rfl, _, rfl, q4.insC, y4, _, _, _, n, rfl, q4, hn.1, c1 _ (sm _ (by omega)), c2 _ (sm _ (by omega)), ?_⟩
    have Ee := Ed.same sd1
    refine ⟨_, rfl, _, rfl, x1, _, rfl, rfl, Ee.p1.ins, x1, _, _, _, _, rfl, Ee.p1, fun y5 He se1 _ q5 => ?_⟩
    refine ⟨y5, rfl, _, rfl, q5.insC, y5, _, _, _, n, rfl, q5, hn.1, c1 _ (sm _ (by omega)), c2 _ (sm _ (by omega)), ?_⟩
    have Ef := Ee.same se1
    refine ⟨(by show 3 ≤ sizeLine; decide), fun L3 hL3 => ?_⟩
    refine ⟨_, rfl, _, rfl, _, _, rfl, rfl, _, rfl, _, rfl, _, _, rfl, rfl, _, rfl, _, rfl, _, _, rfl, rfl, (by show 3 ≤ sizeLine; decide), fun L4 hL4 => ?_⟩
    have h34 : L3 ≠ L4 := ne_of_none upd_same hL4
    refine ⟨_, _, .lst (SqL.of (by rw [upd_ne h34]; exact upd_same)) (.cons (.int _) (.cons (.int _) (.cons (.int _) .nil))), .lst (SqL.of upd_same) (.cons (.int _) (.cons (.int _) (.cons (.int _) .nil))), rfl, rfl, _, rfl, ?_⟩
    refine ifNot ?_ ?_
    · refine eqv_of (ns := [_, _, _]) (ms := [_, _, _]) ?_
      show [valP s (o + (z - 20)) e n, valP s (o + (z - 20)) e n, valP s (o - (z - 20)) e n] = [valP s o e n + (z - 20), valP s o e n + (z - 20), valP s o e n - (z - 20)]
      rw [val_addI, val_subI]
    -- mirrored = [(~one)(n), (~~one)(n), (~(one + k))(n)]
    refine ⟨_, rfl, x1, rfl, ((Ef.same (same_new hL3)).same (same_new hL4)).p1.ins, x1, _, _, _, rfl, ((Ef.same (same_new hL3)).same (same_new hL4)).p1, fun y6 Hf sf1 _ q6 => ?_⟩
    refine ⟨y6, rfl, _, rfl, q6.insC, y6, _, _, _, n, rfl, q6, hn.1, c1 _ (sm _ (by omega)), c2 _ (sm _ (by omega)), ?_⟩
    have Eh := ((Ef.same (same_new hL3)).same (same_new hL4)).same sf1
    have Lg : Same H9 Hf := (((Lc.trans (sd1.trans se1)).trans (same_new hL3)).trans (same_new hL4)).trans sf1
    refine ⟨_, rfl, x1, rfl, Eh.p1.ins, x1, _, _, _, rfl, Eh.p1, fun y7 Hg sg1 _ q7 => ?_⟩
    refine ⟨y7, rfl, q7.ins, y7, _, _, _, rfl, q7, fun y8 Hh sh1 _ q8 => ?_⟩
    refine ⟨y8, rfl, _, rfl, q8.insC, y8, _, _, _, n, rfl, q8, hn.1, c1 _ (sm _ (by omega)), c2 _ (sm _ (by omega)), ?_⟩
    have Ei := (Eh.same sg1).same sh1
    refine ⟨_, rfl, _, rfl, x1, _, rfl, rfl, Ei.p1.ins, x1, _, _, _, _, rfl, Ei.p1, fun y9 Hi si1 _ q9 => ?_⟩
    refine ⟨y9, rfl, q9.ins, y9, _, _, _, rfl, q9, fun y10 Hj sj1 _ q10 => ?_⟩
    refine ⟨y10, rfl, _, rfl, q10.insC, y10, _, _, _, n, rfl, q10, hn.1, c1 _ (sm _ (by omega)), c2 _ (sm _ (by omega)), ?_⟩
    have Ej := (Ei.same si1).same sj1
    refine ⟨(by show 3 ≤ sizeLine; decide), fun L5 hL5 => ?_⟩
    -- if mirrored != ..
    refine ⟨_, rfl, _, rfl, _, rfl, _, _, rfl, rfl, _, rfl, _, rfl, _, rfl, _, _, rfl, rfl, _, rfl, _, _, rfl, rfl, (by show 3 ≤ sizeLine; decide), fun L6 hL6 => ?_⟩
    have h56 : L5 ≠ L6 := ne_of_none upd_same hL6
    refine ⟨_, _, .lst (SqL.of (by rw [upd_ne h56]; exact upd_same)) (.cons (.int _) (.cons (.int _) (.cons (.int _) .nil))), .lst (SqL.of upd_same) (.cons (.int _) (.cons (.int _) (.cons (.int _) .nil))), rfl, rfl, _, rfl, ?_⟩
    refine ifNot ?_ ?_
    · refine eqv_of (ns := [_, _, _]) (ms := [_, _, _]) ?_
      show [valP (2 - s) (-o) (1 - e) n, valP (2 - (2 - s)) (-(-o)) (1 - (1 - e)) n, valP (2 - s) (-(o + (z - 20))) (1 - e) n] = [n - valP s o e n, valP s o e n, n - valP s o e n - (z - 20)]
      rw [val_inv, val_inv, val_inv, val_inv, val_addI]
      congr 1
      congr 1
      · omega
      · congr 1
        omega
    exact ⟨_, _, _, _, _, _, rfl, (Ej.same (same_new hL5)).same (same_new hL6), ((((Lg.trans (sg1.trans sh1)).trans (si1.trans sj1)).trans (same_new hL5)).trans (same_new hL6)) _ _ hLs⟩
  · rintro σ H9 ⟨v8, v9, v10, v11, v12, v13, rfl, E, _⟩
    -- one != place(parts) or other != place(others)
    refine ⟨_, rfl, _, rfl, l1, s, o, e, rfl, SqL.of E.h1, fun y1 Ha sa1 _ q1 => ?_⟩
    have Ea := E.same sa1
    refine ⟨x1, y1, rfl, rfl, Ea.p1.ins, q1.ins, x1, y1, rfl, ⟨s, o, e, Ea.p1, q1⟩, fun Hb eb => ⟨true, rfl, _, rfl, ifNot rfl ?_⟩⟩
    have Eb := Ea.same eb
    refine ⟨_, rfl, _, rfl, l2, s', o', e', rfl, SqL.of Eb.h2, fun y2 Hc sc1 _ q2 => ?_⟩
    have Ec := Eb.same sc1
    refine ⟨x2, y2, rfl, rfl, Ec.p2.ins, q2.ins, x2, y2, rfl, ⟨s', o', e', Ec.p2, q2⟩, fun Hd ed => ⟨true, rfl, _, rfl, ifNot rfl ?_⟩⟩
    have Ed := Ec.same ed
    -- ~~one != one or one + 0 != one
    refine ⟨_, rfl, x1, rfl, Ed.p1.ins, x1, _, _, _, rfl, Ed.p1, fun y3 He se1 _ q3 => ?_⟩
    refine ⟨y3, rfl, q3.ins, y3, _, _, _, rfl, q3, fun y4 Hf sf1 _ q4 => ?_⟩
    have Ef := (Ed.same se1).same sf1
    have q4' : PlaceAt Hf a.Place y4 s o e := by
      have e1 : 2 - (2 - s) = s := by omega
      have e2 : - -o = o := by omega
      have e3 : 1 - (1 - e) = e := by omega
      rw [e1, e2, e3] at q4
      exact q4
    refine ⟨_, rfl, y4, x1, rfl, rfl, q4'.ins, Ef.p1.ins, y4, x1, rfl, ⟨s, o, e, q4', Ef.p1⟩, fun Hg eg => ⟨true, rfl, _, rfl, ifNot rfl ?_⟩⟩
    have Eg := Ef.same eg
    refine ⟨_, rfl, x1, _, rfl, rfl, Eg.p1.ins, x1, _, _, _, _, rfl, Eg.p1, fun y5 Hh sh1 _ q5 => ?_⟩
    have Eh := Eg.same sh1
    have q5' : PlaceAt Hh a.Place y5 s o e := by
      have q5 : PlaceAt Hh a.Place y5 s (o + 0) e := q5
      rw [Int.add_zero] at q5
      exact q5
    refine ⟨_, rfl, y5, x1, rfl, rfl, q5'.ins, Eh.p1.ins, y5, x1, rfl, ⟨s, o, e, q5', Eh.p1⟩, fun Hi ei => ⟨true, rfl, _, rfl, ifNot rfl ?_⟩⟩
    have Ei := Eh.same ei
    -- moved = one; moved += k
    refine ⟨_, rfl, _, rfl, _, rfl, x1, _, rfl, rfl, Ei.p1.ins, x1, _, _, _, _, rfl, Ei.p1, fun x3 Hj sj1 _ q6 => ?_⟩
    have Ej := Ei.same sj1
    -- moved != one + k or one != place(parts)
    refine ⟨_, rfl, _, rfl, _, rfl, x1, _, rfl, rfl, Ej.p1.ins, x1, _, _, _, _, rfl, Ej.p1, fun y6 Hk sk1 _ q7 => ?_⟩
    have Ek := Ej.same sk1
    refine ⟨x3, y6, rfl, rfl, (q6.same sk1).ins, q7.ins, x3, y6, rfl, ⟨_, _, _, q6.same sk1, q7⟩, fun Hl el => ⟨true, rfl, _, rfl, ifNot rfl ?_⟩⟩
    have El := Ek.same el
    refine ⟨_, rfl, _, rfl, l1, s, o, e, rfl, SqL.of El.h1, fun y7 Hm sm1 _ q8 => ?_⟩
    have Em := El.same sm1
    refine ⟨x1, y7, rfl, rfl, Em.p1.ins, q8.ins, x1, y7, rfl, ⟨s, o, e, Em.p1, q8⟩, fun Hn en => ⟨true, rfl, _, rfl, ifNot rfl ?_⟩⟩
    have En := Em.same en
    -- turned = [~left, ~right, ~middle]
    refine ⟨_, rfl, _, rfl, fun t1 Ho so1 _ r1 => ⟨t1, rfl, r1.ins, t1, _, _, _, rfl, r1, fun u1 Hp sp1 _ w1 => ?_⟩⟩
    refine ⟨_, rfl, _, rfl, fun t2 Hq sq1 _ r2 => ⟨t2, rfl, r2.ins, t2, _, _, _, rfl, r2, fun u2 Hr sr1 _ w2 => ?_⟩⟩
    refine ⟨_, rfl, _, rfl, fun t3 Hs ss1 _ r3 => ⟨t3, rfl, r3.ins, t3, _, _, _, rfl, r3, fun u3 Ht st1 _ w3 => ?_⟩⟩
    refine ⟨(by show 3 ≤ sizeLine; decide), fun L1 hL1 => ?_⟩
    -- turned != [right, left, Place]
    refine ⟨_, rfl, _, rfl, _, rfl, fun u4 Hu su1 _ w4 => ?_⟩
    refine ⟨_, rfl, _, rfl, fun u5 Hv sv1 _ w5 => ?_⟩
    refine ⟨_, rfl, _, _, rfl, rfl, fun u6 dx6 nu nd ne => ?_⟩
    refine ⟨u6, dx6, 1, 0 - (z - 20), 1, rfl, upd_same, rfl, ?_⟩
    have sw1 := made_same (C := a.Place) (f := plF 1 (0 - (z - 20)) 1) nu nd
    have w6 : PlaceAt (upd (upd (upd Hv dx6 (.own u6)) u6 (.ins a.Place dx6 [])) u6 (.ins a.Place dx6 (plF 1 (0 - (z - 20)) 1))) a.Place u6 1 (0 - (z - 20)) 1 := ⟨dx6, upd_same⟩
    refine ⟨(by show 3 ≤ sizeLine; decide), fun L2 hL2 => ?_⟩
    have w1' : PlaceAt Hp a.Place u1 2 (-(z - 20)) 1 := w1
    have w2' : PlaceAt Hr a.Place u2 0 (z - 20) 0 := by
      have e1 : - -(z - 20) = z - 20 := by omega
      have q : PlaceAt Hr a.Place u2 0 (- -(z - 20)) 0 := w2
      rw [e1] at q
      exact q
    have w3' : PlaceAt Ht a.Place u3 1 (0 - (z - 20)) 1 := by
      have e1 : 0 - (z - 20) = -(z - 20) := by omega
      rw [e1]
      exact w3
    have w4' : PlaceAt Hu a.Place u4 2 (-(z - 20)) 1 := w4
    have w5' : PlaceAt Hv a.Place u5 0 (z - 20) 0 := w5
    have sA := su1.trans (sv1.trans sw1)
    refine ⟨⟨L1, L2, _, _, rfl, rfl, (sA.trans (same_new hL2)) _ _ upd_same, upd_same, ?_⟩, fun Hx ex => ⟨_, rfl, ?_⟩⟩
    · refine Prs.cons (dins (w1'.same ((((sq1.trans sr1).trans (ss1.trans st1)).trans (same_new hL1)).trans (sA.trans (same_new hL2)))) (w4'.same ((sv1.trans sw1).trans (same_new hL2)))) ?_
      refine Prs.cons (dins (w2'.same (((ss1.trans st1).trans (same_new hL1)).trans (sA.trans (same_new hL2)))) (w5'.same (sw1.trans (same_new hL2)))) ?_
      refine Prs.cons (dins (w3'.same ((same_new hL1).trans (sA.trans (same_new hL2)))) (w6.same (same_new hL2))) ?_
      exact Prs.nil
    · refine iteF ⟨_, _, _, _, _, _, _, _, _, _, _, _, rfl, ?_⟩
      exact ((((((En.bag.same so1).same (sp1.trans sq1)).same (sr1.trans ss1)).same (st1.trans (same_new hL1))).same sA).same (same_new hL2)).same ex
end
end Pf
end
section
namespace Pf
open PySem PySem.Spec PyProof.Rows L2 Ow StX

theorem fnt_mk {K : PySem.W.Frag} {x qual : Str} {st : Stmt} {f : Addr} {oc : Value} {od an : Option Addr} {osl : Array (Option Value)} {kV doc pm cdv ct : Value}
    (l : K.lookup f = some ⟨oc, od, .func (PySem.W.fnOf x qual (defArgs st) (defBody st) (defScope st) .none kV doc pm an cdv ct), osl⟩) (c : PySem.W.codeIn K cdv qual = true) (k : PySem.W.keepIn K (.ref f) = true) : FnT K x qual st [] f :=
  ⟨_, ⟨⟨oc, od, .none, kV, doc, pm, an, cdv, ct, osl, rfl, l, c, .inl ⟨rfl, rfl⟩, .inl rfl⟩, k⟩⟩
theorem fntD_mk {K : PySem.W.Frag} {x qual : Str} {st : Stmt} {f D : Addr} {oc : Value} {od an : Option Addr} {osl : Array (Option Value)} {kV doc pm cdv ct tc : Value} {td : Option Addr} {tn : Nat} {ts : Array (Option Value)} {its : List Value} {dvs : List V}
    (l : K.lookup f = some ⟨oc, od, .func (PySem.W.fnOf x qual (defArgs st) (defBody st) (defScope st) (.ref D) kV doc pm an cdv ct), osl⟩) (c : PySem.W.codeIn K cdv qual = true) (k : PySem.W.keepIn K (.ref f) = true)
    (t : K.lookup D = some ⟨tc, td, .seq its.toArray tn, ts⟩) (hd : dvs ≠ []) (v : Vals dvs its) : FnT K x qual st dvs f :=
  ⟨_, ⟨⟨oc, od, .ref D, kV, doc, pm, an, cdv, ct, osl, rfl, l, c, .inr ⟨hd, D, _, its, tn, rfl, t, rfl, v⟩, .inl rfl⟩, k⟩⟩
theorem fntD1_mk {K : PySem.W.Frag} {x qual : Str} {st : Stmt} {f D : Addr} {oc : Value} {od an : Option Addr} {osl : Array (Option Value)} {kV doc pm cdv ct tc u : Value} {td : Option Addr} {tn : Nat} {ts : Array (Option Value)} {dv : V}
    (l : K.lookup f = some ⟨oc, od, .func (PySem.W.fnOf x qual (defArgs st) (defBody st) (defScope st) (.ref D) kV doc pm an cdv ct), osl⟩) (c : PySem.W.codeIn K cdv qual = true) (k : PySem.W.keepIn K (.ref f) = true)
    (t : K.lookup D = some ⟨tc, td, .seq #[u] tn, ts⟩) (v : RelV dv u) : FnT K x qual st [dv] f := fntD_mk (its := [u]) l c k t (by simp) (.cons v .nil)
theorem propR_mk {K : PySem.W.Frag} {C p g : Addr} {f : Str} {rest : List Value} (h1 : PySem.W.findIn K (.ref C) f = some (some (.ref p))) (h2 : PySem.W.specialIn K (.ref p) "__get__" = some (some (.builtin "property.__get__")))
    (h3 : PySem.W.takesIn K (.ref p) = some true) (h4 : PySem.W.recIn K p "property" = some (.ref g :: rest)) : PropR K C f p g := ⟨h1, h2, h3, rest, h4⟩
theorem mro2_mk {K : PySem.W.Frag} {C : Addr} {cd : PySem.ClassData} (h : PySem.W.clsIn K C = some cd) (m : (cd.mro == [.ref C, .type "object"]) = true) : mro2 K C = true := by
  unfold mro2
  rw [h]
  exact m
theorem all_mk {l : PySem.W.OpenLaw} {w : World} {K : PySem.W.Frag} {h : Heap} {mg : Str → Option Value} {fa : Addr} (X : K.In h) (G : h.Ns mainGlobals mg) (hfa : mg "law" = some (.ref fa))
    {x_is_int x_check_size x_Place_init x_Place_slope x_Place_offset x_Place_odd x_Place_call x_parts_of x_mirrored_parts x_Place_add x_Place_radd x_Place_sub x_Place_invert x_Place_eq x_from_left x_from_right x_from_middle x__law_bag x__law_draw x__law_at x__law_place x__law_drawn x_law x_Place x_pr_Place_slope x_pr_Place_offset x_pr_Place_odd : Addr}
    (n_len : PySem.W.nsIn K mainGlobals "len" = some none)
    (n_int : PySem.W.nsIn K mainGlobals "int" = some none)
    (n_abs : PySem.W.nsIn K mainGlobals "abs" = some none)
    (n_list : PySem.W.nsIn K mainGlobals "list" = some none)
    (n_isinstance : PySem.W.nsIn K mainGlobals "isinstance" = some none)
    (n_bool : PySem.W.nsIn K mainGlobals "bool" = some none)
    (n_range : PySem.W.nsIn K mainGlobals "range" = some none)
    (m_is_int : PySem.W.nsIn K mainGlobals "is_int" = some (some (.ref x_is_int)))
    (m_check_size : PySem.W.nsIn K mainGlobals "check_size" = some (some (.ref x_check_size)))
    (m_parts_of : PySem.W.nsIn K mainGlobals "parts_of" = some (some (.ref x_parts_of)))
    (m_mirrored_parts : PySem.W.nsIn K mainGlobals "mirrored_parts" = some (some (.ref x_mirrored_parts)))
    (m_from_left : PySem.W.nsIn K mainGlobals "from_left" = some (some (.ref x_from_left)))
    (m_from_right : PySem.W.nsIn K mainGlobals "from_right" = some (some (.ref x_from_right)))
    (m_from_middle : PySem.W.nsIn K mainGlobals "from_middle" = some (some (.ref x_from_middle)))
    (m__law_bag : PySem.W.nsIn K mainGlobals "_law_bag" = some (some (.ref x__law_bag)))
    (m__law_draw : PySem.W.nsIn K mainGlobals "_law_draw" = some (some (.ref x__law_draw)))
    (m__law_at : PySem.W.nsIn K mainGlobals "_law_at" = some (some (.ref x__law_at)))
    (m__law_place : PySem.W.nsIn K mainGlobals "_law_place" = some (some (.ref x__law_place)))
    (m__law_drawn : PySem.W.nsIn K mainGlobals "_law_drawn" = some (some (.ref x__law_drawn)))
    (m_law : PySem.W.nsIn K mainGlobals "law" = some (some (.ref x_law)))
    (m_Place : PySem.W.nsIn K mainGlobals "Place" = some (some (.ref x_Place)))
    (c_Place : ClsF K x_Place)
    (M_Place : Mk K x_Place x_Place_init)
    (a_Place__slope : PySem.W.findIn K (.ref x_Place) "_slope" = some none)
    (a_Place__offset : PySem.W.findIn K (.ref x_Place) "_offset" = some none)
    (a_Place__odd : PySem.W.findIn K (.ref x_Place) "_odd" = some none)
    (p_Place_slope : PropR K x_Place "slope" x_pr_Place_slope x_Place_slope)
    (p_Place_offset : PropR K x_Place "offset" x_pr_Place_offset x_Place_offset)
    (p_Place_odd : PropR K x_Place "odd" x_pr_Place_odd x_Place_odd)
    (o_Place_add : PySem.W.findIn K (.ref x_Place) "__add__" = some (some (.ref x_Place_add)))
    (f_Place_add : PySem.W.isFn K (.ref x_Place_add) = true)
    (o_Place_radd : PySem.W.findIn K (.ref x_Place) "__radd__" = some (some (.ref x_Place_radd)))
    (f_Place_radd : PySem.W.isFn K (.ref x_Place_radd) = true)
    (o_Place_sub : PySem.W.findIn K (.ref x_Place) "__sub__" = some (some (.ref x_Place_sub)))
    (f_Place_sub : PySem.W.isFn K (.ref x_Place_sub) = true)
    (o_Place_invert : PySem.W.findIn K (.ref x_Place) "__invert__" = some (some (.ref x_Place_invert)))
    (f_Place_invert : PySem.W.isFn K (.ref x_Place_invert) = true)
    (o_Place_eq : PySem.W.findIn K (.ref x_Place) "__eq__" = some (some (.ref x_Place_eq)))
    (f_Place_eq : PySem.W.isFn K (.ref x_Place_eq) = true)
    (o_Place_call : PySem.W.findIn K (.ref x_Place) "__call__" = some (some (.ref x_Place_call)))
    (f_Place_call : PySem.W.isFn K (.ref x_Place_call) = true)
    (s_Place_first : PySem.W.selfFirst K x_Place = true)
    (s_Place_int : PySem.W.subIn K (.type "int") (.ref x_Place) = some false)
    (s_Place_isint : PySem.W.subIn K (.ref x_Place) (.type "int") = some false)
    (o_add : PySem.W.findIn K (.ref x_Place) (PySem.dunder "add") = some (some (.ref x_Place_add)))
    (o_sub : PySem.W.findIn K (.ref x_Place) (PySem.dunder "sub") = some (some (.ref x_Place_sub)))
    (o_radd : PySem.W.findIn K (.ref x_Place) (dunderR "add") = some (some (.ref x_Place_radd)))
    (o_rsub : PySem.W.findIn K (.ref x_Place) (dunderR "sub") = some none)
    (o_iadd : PySem.W.findIn K (.ref x_Place) (dunderI "add") = some none)
    (o_ne : PySem.W.findIn K (.ref x_Place) "__ne__" = some (some (.builtin "object.__ne__")))
    (i_add : PySem.W.findIn K (.type "int") (PySem.dunder "add") = some (some (.builtin "int.__add__")))
    (i_radd : PySem.W.findIn K (.type "int") (dunderR "add") = some (some (.builtin "int.__radd__")))
    (i_sub : PySem.W.findIn K (.type "int") (PySem.dunder "sub") = some (some (.builtin "int.__sub__")))
    (i_rsub : PySem.W.findIn K (.type "int") (dunderR "sub") = some (some (.builtin "int.__rsub__")))
    (s_Place_mro : mro2 K x_Place = true)
    (s_Place_obj : PySem.W.subIn K (.ref x_Place) (.type "object") = some true)
    (fi_Place_call : PySem.W.fnIn K x_Place_call = true)
    (d_is_int : FnT K "is_int" "is_int" s_is_int [] x_is_int)
    (k_is_int : PySem.W.keepIn K (.ref x_is_int) = true)
    (d_check_size : FnT K "check_size" "check_size" s_check_size [] x_check_size)
    (k_check_size : PySem.W.keepIn K (.ref x_check_size) = true)
    (d_Place_init : FnT K "__init__" "Place.__init__" s_Place_init [.int 0] x_Place_init)
    (d_Place_slope : FnT K "slope" "Place.slope" s_Place_slope [] x_Place_slope)
    (d_Place_offset : FnT K "offset" "Place.offset" s_Place_offset [] x_Place_offset)
    (d_Place_odd : FnT K "odd" "Place.odd" s_Place_odd [] x_Place_odd)
    (d_Place_call : FnT K "__call__" "Place.__call__" s_Place_call [] x_Place_call)
    (d_parts_of : FnT K "parts_of" "parts_of" s_parts_of [] x_parts_of)
    (k_parts_of : PySem.W.keepIn K (.ref x_parts_of) = true)
    (d_mirrored_parts : FnT K "mirrored_parts" "mirrored_parts" s_mirrored_parts [] x_mirrored_parts)
    (k_mirrored_parts : PySem.W.keepIn K (.ref x_mirrored_parts) = true)
    (d_Place_add : FnT K "__add__" "Place.__add__" s_Place_add [] x_Place_add)
    (d_Place_radd : FnT K "__radd__" "Place.__radd__" s_Place_radd [] x_Place_radd)
    (d_Place_sub : FnT K "__sub__" "Place.__sub__" s_Place_sub [] x_Place_sub)
    (d_Place_invert : FnT K "__invert__" "Place.__invert__" s_Place_invert [] x_Place_invert)
    (d_Place_eq : FnT K "__eq__" "Place.__eq__" s_Place_eq [] x_Place_eq)
    (d_from_left : FnT K "from_left" "from_left" s_from_left [.int 0] x_from_left)
    (k_from_left : PySem.W.keepIn K (.ref x_from_left) = true)
    (d_from_right : FnT K "from_right" "from_right" s_from_right [.int 0] x_from_right)
    (k_from_right : PySem.W.keepIn K (.ref x_from_right) = true)
    (d_from_middle : FnT K "from_middle" "from_middle" s_from_middle [.int 0] x_from_middle)
    (k_from_middle : PySem.W.keepIn K (.ref x_from_middle) = true)
    (d__law_bag : FnT K "_law_bag" "_law_bag" s__law_bag [] x__law_bag)
    (k__law_bag : PySem.W.keepIn K (.ref x__law_bag) = true)
    (d__law_draw : FnT K "_law_draw" "_law_draw" s__law_draw [] x__law_draw)
    (k__law_draw : PySem.W.keepIn K (.ref x__law_draw) = true)
    (d__law_at : FnT K "_law_at" "_law_at" s__law_at [] x__law_at)
    (k__law_at : PySem.W.keepIn K (.ref x__law_at) = true)
    (d__law_place : FnT K "_law_place" "_law_place" s__law_place [] x__law_place)
    (k__law_place : PySem.W.keepIn K (.ref x__law_place) = true)
    (d__law_drawn : FnT K "_law_drawn" "_law_drawn" s__law_drawn [] x__law_drawn)
    (k__law_drawn : PySem.W.keepIn K (.ref x__law_drawn) = true)
    (d_law : FnT K "law" "law" s_law [] x_law)
    (k_law : PySem.W.keepIn K (.ref x_law) = true)
    : ∃ fd : FuncData, (∀ (s : Shared) (v : Value), BindsTo s fd ⟨[v], []⟩ [("_law_script", v)]) ∧ ∀ base : Heap, K.In base → base.Ns mainGlobals mg → FnOk l.prog w K mg base CX0 6 fa fd ["_law_script"] (spLaw K) := by
  have e := hfa.symm.trans (PySem.W.mg_of X G m_law)
  have e2 : x_law = fa := by
    cases e
    rfl
  subst e2
  have T : Txt K mg ⟨x_is_int, x_check_size, x_Place_init, x_Place_slope, x_Place_offset, x_Place_odd, x_Place_call, x_parts_of, x_mirrored_parts, x_Place_add, x_Place_radd, x_Place_sub, x_Place_invert, x_Place_eq, x_from_left, x_from_right, x_from_middle, x__law_bag, x__law_draw, x__law_at, x__law_place, x__law_drawn, x_law, x_Place, x_pr_Place_slope, x_pr_Place_offset, x_pr_Place_odd⟩ :=
    { n_len := PySem.W.mg_none_of X G n_len,
      n_int := PySem.W.mg_none_of X G n_int,
      n_abs := PySem.W.mg_none_of X G n_abs,
      n_list := PySem.W.mg_none_of X G n_list,
      n_isinstance := PySem.W.mg_none_of X G n_isinstance,
      n_bool := PySem.W.mg_none_of X G n_bool,
      n_range := PySem.W.mg_none_of X G n_range,
      d_is_int := d_is_int,
      m_is_int := PySem.W.mg_of X G m_is_int,
      k_is_int := k_is_int,
      d_check_size := d_check_size,
      m_check_size := PySem.W.mg_of X G m_check_size,
      k_check_size := k_check_size,
      d_Place_init := d_Place_init,
      d_Place_slope := d_Place_slope,
      d_Place_offset := d_Place_offset,
      d_Place_odd := d_Place_odd,
      d_Place_call := d_Place_call,
      d_parts_of := d_parts_of,
      m_parts_of := PySem.W.mg_of X G m_parts_of,
      k_parts_of := k_parts_of,
      d_mirrored_parts := d_mirrored_parts,
      m_mirrored_parts := PySem.W.mg_of X G m_mirrored_parts,
      k_mirrored_parts := k_mirrored_parts,
      d_Place_add := d_Place_add,
      d_Place_radd := d_Place_radd,
      d_Place_sub := d_Place_sub,
      d_Place_invert := d_Place_invert,
      d_Place_eq := d_Place_eq,
      d_from_left := d_from_left,
      m_from_left := PySem.W.mg_of X G m_from_left,
      k_from_left := k_from_left,
      d_from_right := d_from_right,
      m_from_right := PySem.W.mg_of X G m_from_right,
      k_from_right := k_from_right,
      d_from_middle := d_from_middle,
      m_from_middle := PySem.W.mg_of X G m_from_middle,
      k_from_middle := k_from_middle,
      d__law_bag := d__law_bag,
      m__law_bag := PySem.W.mg_of X G m__law_bag,
      k__law_bag := k__law_bag,
      d__law_draw := d__law_draw,
      m__law_draw := PySem.W.mg_of X G m__law_draw,
      k__law_draw := k__law_draw,
      d__law_at := d__law_at,
      m__law_at := PySem.W.mg_of X G m__law_at,
      k__law_at := k__law_at,
      d__law_place := d__law_place,
      m__law_place := PySem.W.mg_of X G m__law_place,
      k__law_place := k__law_place,
      d__law_drawn := d__law_drawn,
      m__law_drawn := PySem.W.mg_of X G m__law_drawn,
      k__law_drawn := k__law_drawn,
      d_law := d_law,
      m_law := PySem.W.mg_of X G m_law,
      k_law := k_law,
      m_Place := PySem.W.mg_of X G m_Place,
      c_Place := c_Place,
      M_Place := M_Place,
      a_Place__slope := a_Place__slope,
      a_Place__offset := a_Place__offset,
      a_Place__odd := a_Place__odd,
      p_Place_slope := p_Place_slope,
      p_Place_offset := p_Place_offset,
      p_Place_odd := p_Place_odd,
      o_Place_add := o_Place_add,
      f_Place_add := f_Place_add,
      o_Place_radd := o_Place_radd,
      f_Place_radd := f_Place_radd,
      o_Place_sub := o_Place_sub,
      f_Place_sub := f_Place_sub,
      o_Place_invert := o_Place_invert,
      f_Place_invert := f_Place_invert,
      o_Place_eq := o_Place_eq,
      f_Place_eq := f_Place_eq,
      o_Place_call := o_Place_call,
      f_Place_call := f_Place_call,
      s_Place_first := s_Place_first,
      s_Place_int := s_Place_int,
      s_Place_isint := s_Place_isint,
      o_add := o_add,
      o_sub := o_sub,
      o_radd := o_radd,
      o_rsub := o_rsub,
      o_iadd := o_iadd,
      o_ne := o_ne,
      i_add := i_add,
      i_radd := i_radd,
      i_sub := i_sub,
      i_rsub := i_rsub,
      s_Place_mro := s_Place_mro,
      s_Place_obj := s_Place_obj,
      fi_Place_call := fi_Place_call }
  obtain ⟨fd, F⟩ := id T.d_law
  exact ⟨fd, fun s v => F.bindsA (ps := ["_law_script"]) (fun _ _ _ _ _ _ us hl => match us, hl with | [_], _ => rfl) s [v] rfl, fun base _ _ => ok_law T F⟩
theorem walk {l : PySem.W.OpenLaw} {q : Program} {loose : List Str} {XP : (Str → Option Value) → Heap → Prop} {YP : World → Heap → Prop} {d : DefRec} {K : Params → PySem.W.Frag} (hn : l.most = some 63) (hdf : d.params.defaults = [])
    (hY : ∀ (w : World) (h : Heap), YP w h → (K w.params).In h)
    (F : ∀ (w : World) (mg : Str → Option Value) (fa : Addr) (h : Heap), (K w.params).In h → h.Ns mainGlobals mg → mg d.name = some (.ref fa) →
      ∃ fd : FuncData, (∀ (s : Shared) (u : Value), BindsTo s fd ⟨[u], []⟩ [("_law_script", u)]) ∧ ∀ base : Heap, (K w.params).In base → base.Ns mainGlobals mg → FnOk l.prog w (K w.params) mg base CX0 6 fa fd ["_law_script"] (spLaw (K w.params))) :
    PySem.W.WalkO q loose XP YP l.row.toRowW d [] (fun f vs => PySem.call f vs) :=
  L2.walk_of (n := 63) (k := 6) (x := "_law_script") (CX := fun _ => CX0) (sp := fun w => spLaw (K w.params)) hn (by decide) hdf ⟨rfl, by decide, by decide⟩ hY F (fun _ _ a ns hl _ hS => ⟨a, ns, rfl, hS, hl, fun _ => rfl⟩) fun _ _ _ _ _ z => z
end Pf
end
open PySem PySem.W PyProof.Rows
set_option maxRecDepth 100000 in
set_option maxHeartbeats 0 in
theorem PySem.Challenge.cw_heldfloods_k03_places_moved_and_mirrored_holds : PySem.Challenge.rw_heldfloods_k03_places_moved_and_mirrored.Holds := by
  w_on; o_law; k_head; (case hw => w_witness2)
  k_fill
  refine Pf.walk (l := PySem.Challenge.rw_heldfloods_k03_places_moved_and_mirrored) rfl rfl (fun w h Y => PySem.W.kIn_of Y) ?F
  case F =>
    intro w mg fa h KX G hmg
    refine' Pf.all_mk KX G hmg ?n_len ?n_int ?n_abs ?n_list ?n_isinstance ?n_bool ?n_range ?m_is_int ?m_check_size ?m_parts_of ?m_mirrored_parts ?m_from_left ?m_from_right ?m_from_middle ?m__law_bag ?m__law_draw ?m__law_at ?m__law_place ?m__law_drawn ?m_law ?m_Place ?c_Place ?M_Place ?a_Place__slope ?a_Place__offset ?a_Place__odd ?p_Place_slope ?p_Place_offset ?p_Place_odd ?o_Place_add ?f_Place_add ?o_Place_radd ?f_Place_radd ?o_Place_sub ?f_Place_sub ?o_Place_invert ?f_Place_invert ?o_Place_eq ?f_Place_eq ?o_Place_call ?f_Place_call ?s_Place_first ?s_Place_int ?s_Place_isint ?o_add ?o_sub ?o_radd ?o_rsub ?o_iadd ?o_ne ?i_add ?i_radd ?i_sub ?i_rsub ?s_Place_mro ?s_Place_obj ?fi_Place_call ?d_is_int ?k_is_int ?d_check_size ?k_check_size ?d_Place_init ?d_Place_slope ?d_Place_offset ?d_Place_odd ?d_Place_call ?d_parts_of ?k_parts_of ?d_mirrored_parts ?k_mirrored_parts ?d_Place_add ?d_Place_radd ?d_Place_sub ?d_Place_invert ?d_Place_eq ?d_from_left ?k_from_left ?d_from_right ?k_from_right ?d_from_middle ?k_from_middle ?d__law_bag ?k__law_bag ?d__law_draw ?k__law_draw ?d__law_at ?k__law_at ?d__law_place ?k__law_place ?d__law_drawn ?k__law_drawn ?d_law ?k_law
    (case n_len => k_is)
    (case n_int => k_is)
    (case n_abs => k_is)
    (case n_list => k_is)
    (case n_isinstance => k_is)
    (case n_bool => k_is)
    (case n_range => k_is)
    (case m_is_int => k_is)
    (case m_check_size => k_is)
    (case m_parts_of => k_is)
    (case m_mirrored_parts => k_is)
    (case m_from_left => k_is)
    (case m_from_right => k_is)
    (case m_from_middle => k_is)
    (case m__law_bag => k_is)
    (case m__law_draw => k_is)
    (case m__law_at => k_is)
    (case m__law_place => k_is)
    (case m__law_drawn => k_is)
    (case m_law => k_is)
    (case m_Place => k_is)
    (case c_Place => (refine' ⟨⟨?_, ?_, ?_, ?_⟩, ?_, ?_, ?_, ?_, ?_, ?_⟩ <;> k_is))
    (case M_Place => (refine' ⟨?a, ?b, ?c, ?d⟩; (case a => k_is); (case b => k_is); (case c => k_is); (case d => k_is)))
    (case a_Place__slope => k_is)
    (case a_Place__offset => k_is)
    (case a_Place__odd => k_is)
    (case p_Place_slope => (refine' Pf.propR_mk ?a ?b ?c ?d; (case a => k_is); (case b => k_is); (case c => k_is); (case d => k_is)))
    (case p_Place_offset => (refine' Pf.propR_mk ?a ?b ?c ?d; (case a => k_is); (case b => k_is); (case c => k_is); (case d => k_is)))
    (case p_Place_odd => (refine' Pf.propR_mk ?a ?b ?c ?d; (case a => k_is); (case b => k_is); (case c => k_is); (case d => k_is)))
    (case o_Place_add => k_is)
    (case f_Place_add => k_is)
    (case o_Place_radd => k_is)
    (case f_Place_radd => k_is)
    (case o_Place_sub => k_is)
    (case f_Place_sub => k_is)
    (case o_Place_invert => k_is)
    (case f_Place_invert => k_is)
    (case o_Place_eq => k_is)
    (case f_Place_eq => k_is)
    (case o_Place_call => k_is)
    (case f_Place_call => k_is)
    (case s_Place_first => k_is)
    (case s_Place_int => k_is)
    (case s_Place_isint => k_is)
    (case o_add => k_is)
    (case o_sub => k_is)
    (case o_radd => k_is)
    (case o_rsub => k_is)
    (case o_iadd => k_is)
    (case o_ne => k_is)
    (case i_add => k_is)
    (case i_radd => k_is)
    (case i_sub => k_is)
    (case i_rsub => k_is)
    (case s_Place_mro => (refine' Pf.mro2_mk ?h ?m; (case h => k_is); (case m => rfl)))
    (case s_Place_obj => k_is)
    (case fi_Place_call => k_is)
    (case d_is_int => (refine' Pf.fnt_mk ?l ?c ?k; (case l => k_is); (case c => k_is); (case k => k_is)))
    (case k_is_int => k_is)
    (case d_check_size => (refine' Pf.fnt_mk ?l ?c ?k; (case l => k_is); (case c => k_is); (case k => k_is)))
    (case k_check_size => k_is)
    (case d_Place_init => (refine' Pf.fntD1_mk ?l ?c ?k ?t ?v; (case l => k_is); (case c => k_is); (case k => k_is); (case t => k_is); (case v => first | exact ⟨_, rfl⟩ | rfl)))
    (case d_Place_slope => (refine' Pf.fnt_mk ?l ?c ?k; (case l => k_is); (case c => k_is); (case k => k_is)))
    (case d_Place_offset => (refine' Pf.fnt_mk ?l ?c ?k; (case l => k_is); (case c => k_is); (case k => k_is)))
    (case d_Place_odd => (refine' Pf.fnt_mk ?l ?c ?k; (case l => k_is); (case c => k_is); (case k => k_is)))
    (case d_Place_call => (refine' Pf.fnt_mk ?l ?c ?k; (case l => k_is); (case c => k_is); (case k => k_is)))
    (case d_parts_of => (refine' Pf.fnt_mk ?l ?c ?k; (case l => k_is); (case c => k_is); (case k => k_is)))
    (case k_parts_of => k_is)
    (case d_mirrored_parts => (refine' Pf.fnt_mk ?l ?c ?k; (case l => k_is); (case c => k_is); (case k => k_is)))
    (case k_mirrored_parts => k_is)
    (case d_Place_add => (refine' Pf.fnt_mk ?l ?c ?k; (case l => k_is); (case c => k_is); (case k => k_is)))
    (case d_Place_radd => (refine' Pf.fnt_mk ?l ?c ?k; (case l => k_is); (case c => k_is); (case k => k_is)))
    (case d_Place_sub => (refine' Pf.fnt_mk ?l ?c ?k; (case l => k_is); (case c => k_is); (case k => k_is)))
    (case d_Place_invert => (refine' Pf.fnt_mk ?l ?c ?k; (case l => k_is); (case c => k_is); (case k => k_is)))
    (case d_Place_eq => (refine' Pf.fnt_mk ?l ?c ?k; (case l => k_is); (case c => k_is); (case k => k_is)))
    (case d_from_left => (refine' Pf.fntD1_mk ?l ?c ?k ?t ?v; (case l => k_is); (case c => k_is); (case k => k_is); (case t => k_is); (case v => first | exact ⟨_, rfl⟩ | rfl)))
    (case k_from_left => k_is)
    (case d_from_right => (refine' Pf.fntD1_mk ?l ?c ?k ?t ?v; (case l => k_is); (case c => k_is); (case k => k_is); (case t => k_is); (case v => first | exact ⟨_, rfl⟩ | rfl)))
    (case k_from_right => k_is)
    (case d_from_middle => (refine' Pf.fntD1_mk ?l ?c ?k ?t ?v; (case l => k_is); (case c => k_is); (case k => k_is); (case t => k_is); (case v => first | exact ⟨_, rfl⟩ | rfl)))
    (case k_from_middle => k_is)
    (case d__law_bag => (refine' Pf.fnt_mk ?l ?c ?k; (case l => k_is); (case c => k_is); (case k => k_is)))
    (case k__law_bag => k_is)
    (case d__law_draw => (refine' Pf.fnt_mk ?l ?c ?k; (case l => k_is); (case c => k_is); (case k => k_is)))
    (case k__law_draw => k_is)
    (case d__law_at => (refine' Pf.fnt_mk ?l ?c ?k; (case l => k_is); (case c => k_is); (case k => k_is)))
    (case k__law_at => k_is)
    (case d__law_place => (refine' Pf.fnt_mk ?l ?c ?k; (case l => k_is); (case c => k_is); (case k => k_is)))
    (case k__law_place => k_is)
    (case d__law_drawn => (refine' Pf.fnt_mk ?l ?c ?k; (case l => k_is); (case c => k_is); (case k => k_is)))
    (case k__law_drawn => k_is)
    (case d_law => (refine' Pf.fnt_mk ?l ?c ?k; (case l => k_is); (case c => k_is); (case k => k_is)))
    (case k_law => k_is)
