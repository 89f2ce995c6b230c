import PyProof.Rows.All
import Wide.All
import OpenK.AllK
import Wide.FinOn
import PyProof.EqAt
import PyProof.EqKinds
import PyProof.TupleCall
import PyProof.InstNe
import KE.KOpsOwn
import HandS.Base
import HandS.Call
import HandS.List
import HandS.More
import PyProof.TwoTypesSub
import PyProof.AutoIntOps
import PyProof.StrReplace2
import HandS.Words
import HandS.Star
import HandS.IsInst
import HandS.Defaults
import HandS.Property
import HandS.OwnEq
import HandS.Lambda
import HandS.Ends
import PyProof.ReprRoads
import HandS.ExcInit
import HandS.ExcField
import HandS.CallSlots
import HandS.ForExc
import HandS.ExcIs
import KE.KExcIs
import HandS.EndTab
import HandS.MakeKwOnly
import HandS.FStr
import KE.KCallOwn
import HandS.RaiseMore
import HandS.ForMost
import HandS.Wide
import PySem.Challenge.RW_heldfloods_k02_places_at_sizes
set_option Elab.async false
set_option linter.all false
set_option maxRecDepth 100000
section
set_option maxHeartbeats 4000000
/-! Operators that an own class defines, over instances that are tracked. -/
namespace Ow
open PySem PySem.Spec PyProof.Rows L2

/-- an instance of the class at C stands at a -/
def InsAt (H : Hp) (a C : Addr) : Prop := ∃ dx fs, H a = some (.ins C dx fs)

section
variable {X : Cx} {CX : CXT} {n : Nat} {C g : Addr} {sp : Sp} {E : XK}

theorem inst_of {pins : List (Addr × Obj)} {σ : L2.St} {H : Hp} {s : Shared} {a : Addr} (I : Inv X pins σ H s) (h : InsAt H a C) : ∃ ox od, PySem.W.InstAt s.heap a ox C od := by
  obtain ⟨dx, fs, ea⟩ := h
  obtain ⟨mA, O, _⟩ := ins_get I.hok ea
  obtain ⟨od, J, _⟩ := O.look
  exact ⟨_, _, J⟩

theorem cmpbackR {Q : Value → Shared → Prop} {v : V} {u : Value} {s : Shared} (r : RelV v u) (q : Q u s) : PySem.W.CmpBack Q u s := by
  cases v <;> first
    | (cases r; exact q)
    | (obtain ⟨t, rfl⟩ := r; exact q)

/-- x op y, both instances of C -/
def rBin (C : Addr) (sp : Sp) (E : XK) : R2 := fun x y H Q => ∃ a b, x = .ref a ∧ y = .ref b ∧ InsAt H a C ∧ InsAt H b C ∧ sp [x, y] H Q E
theorem op_bin {op : Operator} (hc : PySem.W.selfFirst X.K C = true) (hs : PySem.W.findIn X.K (.ref C) (PySem.dunder op.info.2) = some (some (.ref g))) (hf : PySem.W.isFn X.K (.ref g) = true)
    (F : FnR X.prog X.w X.K X.mg X.base CX n g sp) (hr : Room n X.A) (hx : Passes CX X E) : OpR X (binaryOp op) (rBin C sp E) := by
  intro pins s σ H x y v u Q I rx ry h
  obtain ⟨a, b, rfl, rfl, ha, hb, q⟩ := h
  cases (show v = Value.ref a from rx)
  cases (show u = Value.ref b from ry)
  obtain ⟨ox, od, J⟩ := inst_of I ha
  obtain ⟨oy, od', J'⟩ := inst_of I hb
  obtain ⟨m, hF⟩ := I.fr
  refine PySem.W.binop_K (op := op) hF I.ok.mod.kin J J'.type hc hs hf ?_
  refine wpAny_mono (wpAny_call (run_fnR (us := [.ref a, .ref b]) (vs := [.ref a, .ref b]) F hr hx I (.cons rfl (.cons rfl .nil)) q)) (fun w s' z => ?_) fun _ _ x => x
  obtain ⟨z', H', I', rz, qz⟩ := z
  exact cmpbackR rz ⟨z', H', I', rz, qz⟩

/-- x op n, an instance of C and an int -/
def rBinI (C : Addr) (sp : Sp) (E : XK) : R2 := fun x y H Q => ∃ a i, x = .ref a ∧ y = .int i ∧ InsAt H a C ∧ sp [x, y] H Q E
theorem op_binI {op : Operator} {fo ro rc : Option Value} (hc : PySem.W.selfFirst X.K C = true) (hs : PySem.W.findIn X.K (.ref C) (PySem.dunder op.info.2) = some (some (.ref g))) (hf : PySem.W.isFn X.K (.ref g) = true)
    (hrr : PySem.W.findIn X.K (.ref C) (dunderR op.info.2) = some rc) (hp : rc = none ∨ ∃ g : Addr, rc = some (.ref g))
    (h1 : PySem.W.findIn X.K (.type "int") (PySem.dunder op.info.2) = some fo) (h2 : PySem.W.findIn X.K (.type "int") (dunderR op.info.2) = some ro) (hsub : PySem.W.subIn X.K (.type "int") (.ref C) = some false)
    (F : FnR X.prog X.w X.K X.mg X.base CX n g sp) (hr : Room n X.A) (hx : Passes CX X E) : OpR X (binaryOp op) (rBinI C sp E) := by
  intro pins s σ H x y v u Q I rx ry h
  obtain ⟨a, i, rfl, rfl, ha, q⟩ := h
  cases (show v = Value.ref a from rx)
  obtain ⟨t, rfl⟩ := ry
  obtain ⟨ox, od, J⟩ := inst_of I ha
  obtain ⟨m, hF⟩ := I.fr
  refine PySem.W.ksp_binT (op := op) (T := "int") hF I.ok.mod.kin J rfl hc hs hf hrr hp h1 h2 hsub ?_
  refine wpAny_mono (wpAny_call (run_fnR (us := [.ref a, .int i t]) (vs := [.ref a, .int i]) F hr hx I (.cons rfl (.cons ⟨t, rfl⟩ .nil)) q)) (fun w s' z => ?_) fun _ _ x => x
  obtain ⟨z', H', I', rz, qz⟩ := z
  exact cmpbackR rz ⟨z', H', I', rz, qz⟩

/-- ~x -/
def rUn (C : Addr) (sp : Sp) (E : XK) : V → Hp → VK → Prop := fun x H Q => ∃ a, x = .ref a ∧ InsAt H a C ∧ sp [x] H Q E
theorem un_inv_own (hs : PySem.W.findIn X.K (.ref C) "__invert__" = some (some (.ref g))) (hf : PySem.W.isFn X.K (.ref g) = true)
    (F : FnR X.prog X.w X.K X.mg X.base CX n g sp) (hr : Room n X.A) (hx : Passes CX X E) : UnR X (unaryOp .Invert) (rUn C sp E) := by
  intro pins s σ H x v Q I rx h
  obtain ⟨a, rfl, ha, q⟩ := h
  cases (show v = Value.ref a from rx)
  obtain ⟨ox, od, J⟩ := inst_of I ha
  obtain ⟨m, hF⟩ := I.fr
  refine PySem.W.ksp_inv hF I.ok.mod.kin J hs hf ?_
  exact wpAny_call (run_fnR (us := [.ref a]) (vs := [.ref a]) F hr hx I (.cons rfl .nil) q)

/-- x op y, a comparison whose def stands at g; y an instance of C too -/
theorem op_cmp {op : CmpOp} (hop : ∀ a b, compareOp op a b = richCompare op a b) (hs : PySem.W.findIn X.K (.ref C) (cmpInfo op).2.1 = some (some (.ref g))) (hf : PySem.W.isFn X.K (.ref g) = true) (hn : PySem.W.notFirst X.K C (.ref C) = true)
    (F : FnR X.prog X.w X.K X.mg X.base CX n g sp) (hr : Room n X.A) (hx : Passes CX X E) : OpR X (compareOp op) (rBin C sp E) := by
  intro pins s σ H x y v u Q I rx ry h
  obtain ⟨a, b, rfl, rfl, ha, hb, q⟩ := h
  cases (show v = Value.ref a from rx)
  cases (show u = Value.ref b from ry)
  obtain ⟨ox, od, J⟩ := inst_of I ha
  obtain ⟨oy, od', J'⟩ := inst_of I hb
  obtain ⟨m, hF⟩ := I.fr
  rw [hop]
  refine PySem.W.cmp_K (op := op) (tb := .ref C) hr.units0 hF I.ok.mod.kin J J'.type hn hs hf ?_
  refine wpAny_mono (wpAny_call (run_fnR (us := [.ref a, .ref b]) (vs := [.ref a, .ref b]) F hr hx I (.cons rfl (.cons rfl .nil)) q)) (fun w s' z => ?_) fun _ _ x => x
  obtain ⟨z', H', I', rz, qz⟩ := z
  exact cmpbackR rz ⟨z', H', I', rz, qz⟩
end
end Ow
end
section
set_option maxHeartbeats 4000000
namespace Ow
open PySem PySem.Spec PyProof.Rows L2 PySem.W

section
variable {prog : Program} {w : World} {M : Model} {A : Around} {E : Value → Shared → Prop} {s : Shared} {K : Frag} {x C L f : Addr} {h₀ : Heap} {m : Str → Option Value} {ox : Obj} {od : Option Obj} {nm : String}

theorem add_ref_at {i : Int} {t : Tok} {x C dx : Addr} : GivesAt (fun s => s.heap.get? x = some (instObj C dx)) (Builtin.«int.__add__» ⟨[.int i t, .ref x], []⟩) (.val Value.notImplemented) := by
  intro prog w A R s hx h
  obtain ⟨hp, g, d, tk, os⟩ := s
  have hl : ∀ {M : Model} {A : Around} {E : Value → Shared → Prop} {Q : Option Int → Shared → Prop}, Q none ⟨hp, g, d, tk, os⟩ → wpAny M A (asInt? (.ref x)) Q E ⟨hp, g, d, tk, os⟩ := by
    intro M A E Q q
    unfold asInt?
    exact wpAny_bind (wpAny_load hx (wpAny_pure q))
  unfold Builtin.«int.__add__»
  wp_walk using hl
  exact h
theorem int_add_ref {i : Int} {t : Tok} {x C dx : Addr} {s : Shared} {Q : Value → Shared → Prop} (hx : s.heap.get? x = some (instObj C dx)) (h : Q .notImplemented s) :
    wpAny (model prog w) A (call (.builtin "int.__add__") [.int i t, .ref x]) Q E s :=
  call_givesAt F.slot_int_add (typeIs_int s i t) F.entry_int_add (F.args_int_add_2 _ _) add_ref_at hx h
theorem int_add_own {i : Int} {t : Tok} {x C dx f fa : Addr} {cd : ClassData} {rest : List Value} {Q : Value → Shared → Prop} (X : K.In s.heap) (hx : s.heap.get? x = some (instObj C dx)) (I : InstAt s.heap x ox C od) (hcd : clsIn K C = some cd) (hm : cd.mro = .ref C :: rest)
    (ha : findIn K (.ref C) (PySem.dunder "add") = some (some (.ref fa))) (hs : findIn K (.ref C) (dunderR "add") = some (some (.ref f))) (hf : isFn K (.ref f) = true) (hsub : subIn K (.ref C) (.type "int") = some false)
    (h : wpAny (model prog w) A (call (.ref f) [.ref x, .int i t]) (PySem.W.CmpBack Q) E s) : wpAny (model prog w) A (binaryOp .Add (.int i t) (.ref x)) Q E s := by
  have one := ksp_try X I hs hf h
  have two : ∀ {Q' : Option Value → Shared → Prop}, Q' none s → wpAny (model prog w) A (tryMethod (.int i t) (PySem.dunder "add") (.ref x)) Q' E s := by
    intro Q' q
    unfold tryMethod
    exact wpAny_bind (wpAny_callSpecial?_slot (typeIs_int s i t) F.slot_int_add (int_add_ref hx (wpAny_pure q)))
  obtain ⟨hh, g, d, tt, os⟩ := s
  have L1 : Looks (model prog w) hh (typeOf (.int i t)) (.type "int") := Looks.of_pure rfl
  have L2 : Looks (model prog w) hh (typeOf (.ref x)) (.ref C) := I.type
  have L3 : Looks (model prog w) hh (fillsNumberSlot (.type "int") "add") true := Looks.of_pure F.fills_int_add
  have L4 : Looks (model prog w) hh (fillsNumberSlot (.ref C) "add") true := fills_K X hcd hm ha
  have L5 : Looks (model prog w) hh (isSubtype (.ref C) (.type "int")) false := looks_subIn X hsub
  have L7 : Looks (model prog w) hh (numberSlotInPython (.type "int") "add") false := Looks.of_pure rfl
  have hne : (Value.type "int" == Value.ref C) = false := Bool.eq_false_iff.mpr fun q => by cases beq_iff_eq.mp q
  show wpAny (model prog w) A (binaryOp .Add (.int i t) (.ref x)) Q E _
  have hi : Operator.info .Add = ("+", "add") := rfl
  simp only [binaryOp, hi]
  refine wpAny_holding (wpAny_bind ?_)
  unfold binaryOp1
  refine wpAny_bind (L1.at (wpAny_bind (L2.at (wpAny_bind (L3.at ?_)))))
  simp only [hne, Bool.false_eq_true, if_false]
  ksp_lk
  refine two ?_
  ksp_lk
  refine wpAny_mono one (fun r s' hr' => ?_) fun _ _ e => e
  obtain ⟨v, rfl, hq⟩ := hr'
  ksp_lk
  exact hq
end
end Ow
end
section
set_option maxHeartbeats 4000000
namespace Ow
open PySem PySem.Spec PyProof.Rows L2 PySem.W

section
variable {prog : Program} {w : World} {M : Model} {A : Around} {E : Value → Shared → Prop} {s : Shared} {K : Frag} {x C L f : Addr} {h₀ : Heap} {m : Str → Option Value} {ox : Obj} {od : Option Obj} {nm T : String}
/-- no += of one's own: C over object alone -/
theorem noI_own {h : Heap} {cd : ClassData} {add : Bool} (X : K.In h) (hc : clsIn K C = some cd) (hm : cd.mro = [.ref C, .type "object"]) (hs : findIn K (.ref C) (dunderI nm) = some none)
    (ho : typeLookup (.type "object") (dunderI nm) = pure none) : Looks M h (fillsInplaceSlot (.ref C) nm add) false := by
  intro A Q E s k q
  have Lm : Looks M h (mroOf (.ref C)) cd.mro := (looks_clsIn X hc).andThen (f := fun cd => pure cd.mro) .now
  have Lm' := Lm.keeps k
  obtain ⟨hh, g, d, tt, os⟩ := s
  have X' : K.In hh := X.keeps k
  have L1 : Looks M hh (typeLookup (.ref C) (dunderI nm)) none := looks_findIn X' hs
  have L2 : Looks M hh (typeLookup (.type "object") (dunderI nm)) none := Looks.of_pure ho
  unfold fillsInplaceSlot
  refine wpAny_bind (Lm'.at ?_)
  rw [hm, List.anyM_cons]
  refine wpAny_bind (wpAny_bind (L1.at ?_))
  refine wpAny_pure ?_
  simp only [Bool.false_eq_true, if_false]
  rw [List.anyM_cons]
  refine wpAny_bind (wpAny_bind (L2.at ?_))
  refine wpAny_pure ?_
  simp only [Bool.false_eq_true, if_false]
  exact wpAny_pure q

theorem iadd_own {op : Operator} {b : Value} {cd : ClassData} {fo ro rc : Option Value} {Q : Value → Shared → Prop} (X : K.In s.heap) (I : InstAt s.heap x ox C od) (hb : typeOf b = pure (.type T)) (hcd : clsIn K C = some cd) (hm : cd.mro = [.ref C, .type "object"])
    (hni : findIn K (.ref C) (dunderI op.info.2) = some none) (hno : typeLookup (.type "object") (dunderI op.info.2) = pure none)
    (hs : findIn K (.ref C) (PySem.dunder op.info.2) = some (some (.ref f))) (hf : isFn K (.ref f) = true) (hr : findIn K (.ref C) (dunderR op.info.2) = some rc) (hp : rc = none ∨ ∃ g : Addr, rc = some (.ref g))
    (h1 : findIn K (.type T) (PySem.dunder op.info.2) = some fo) (h2 : findIn K (.type T) (dunderR op.info.2) = some ro) (hsub : subIn K (.type T) (.ref C) = some false)
    (h : wpAny (model prog w) A (call (.ref f) [.ref x, b]) (PySem.W.CmpBack Q) E s) : wpAny (model prog w) A (inplaceOp op (.ref x) b) Q E s := by
  rcases hi : op.info with ⟨sym, nm'⟩
  rw [hi] at hs hr h1 h2 hni hno
  dsimp only at hs hr h1 h2 hni hno
  have one := ksp_try X I hs hf h
  obtain ⟨hh, g, d, tt, os⟩ := s
  have L0 : Looks (model prog w) hh (fillsInplaceSlot (.ref C) nm' (op == .Add)) false := noI_own X hcd hm hni hno
  have L1 : Looks (model prog w) hh (typeOf (.ref x)) (.ref C) := I.type
  have L2 : Looks (model prog w) hh (typeOf b) (.type T) := Looks.of_pure hb
  have L3 : Looks (model prog w) hh (fillsNumberSlot (.ref C) nm') true := fills_K X hcd hm hs
  have L4 : Looks (model prog w) hh (fillsNumberSlot (.type T) nm') ((fo.isSome && !isSeqSlot fo) || (ro.isSome && !isSeqSlot ro)) := ksp_fillsT X h1 h2
  have L5 : Looks (model prog w) hh (isSubtype (.type T) (.ref C)) false := looks_subIn X hsub
  have L6 : Looks (model prog w) hh (numberSlotInPython (.ref C) nm') true := ksp_inPy X hs hr hp
  have L7 : Looks (model prog w) hh (numberSlotInPython (.type T) nm') false := Looks.of_pure rfl
  have L8 : Looks (model prog w) hh (typeLookup (.type T) (dunderR nm')) ro := looks_findIn X h2
  generalize ((fo.isSome && !isSeqSlot fo) || (ro.isSome && !isSeqSlot ro)) = right at L4
  have hne : (Value.ref C == Value.type T) = false := Bool.eq_false_iff.mpr fun q => by cases beq_iff_eq.mp q
  unfold inplaceOp
  simp only [hi]
  refine wpAny_holding (wpAny_bind (L1.at (wpAny_bind (L0.at ?_))))
  simp only [Bool.false_eq_true, if_false]
  refine wpAny_bind ?_
  unfold binaryOp1
  refine wpAny_bind (L1.at (wpAny_bind (L2.at (wpAny_bind (L3.at ?_)))))
  simp only [hne, Bool.false_eq_true, if_false]
  cases right with
  | false =>
    ksp_lk
    refine wpAny_mono one (fun r s' hr' => ?_) fun _ _ e => e
    obtain ⟨v, rfl, hq⟩ := hr'
    ksp_lk
    exact hq
  | true =>
    ksp_lk
    refine wpAny_mono one (fun r s' hr' => ?_) fun _ _ e => e
    obtain ⟨v, rfl, hq⟩ := hr'
    ksp_lk
    exact hq
end
end Ow
end
section
set_option maxHeartbeats 4000000
namespace Ow
open PySem PySem.Spec PyProof.Rows L2 PySem.W

section
variable {prog : Program} {w : World} {M : Model} {A : Around} {E : Value → Shared → Prop} {s : Shared} {K : Frag} {x y C L f : Addr} {ox oy : Obj} {od od' : Option Obj}

theorem objNe_K {Q : PySem.Fin → Shared → Prop} (X : K.In s.heap) (I : InstAt s.heap x ox C od) (hs : findIn K (.ref C) "__eq__" = some (some (.ref f))) (hf : isFn K (.ref f) = true) (hu : A.units < cLine)
    (hcall : wpAny (model prog w) A (call (.ref f) [.ref x, .ref y]) (fun v s' => ∃ b, v = .bool b ∧ Q (.done (.ret (.bool (!b)))) s') E s) :
    wpAny (model prog w) A (Builtin.«object.__ne__» ⟨[.ref x, .ref y], []⟩) Q E s := by
  unfold Builtin.«object.__ne__»
  repeat (first
    | with_reducible refine wpAny_cRoomFor hu ?_
    | (refine wpAny_bind (m := callSpecialIfBound? (.ref x) (Str.ofString "__eq__") [.ref y])
        (ifBound_K X I hs hf (wpAny_mono hcall (fun r s' hr => by
          obtain ⟨b, rfl, hq⟩ := hr
          repeat (first | exact hq | exact wpAny_pure hq | exact wpAny_truthy_bool hq | (refine wpAny_bind (m := truthy (.bool _)) (wpAny_truthy_bool ?_)) | wp_step)) fun _ _ e => e)))
    | wp_step)

theorem check_K {id owner n : String} {rest : List Value} {Q : Unit → Shared → Prop} (X : K.In s.heap) (I : InstAt s.heap x ox C od) (hk : builtinKind id = some .slot) (hs : splitId id = some (owner, n))
    (ha : argsOk id ⟨.ref x :: rest, []⟩) (hob : subIn K (.ref C) (.type owner) = some true) (hq : Q () s) :
    wpAny M A (checkBuiltinCall id ⟨.ref x :: rest, []⟩) Q E s := by
  obtain ⟨h, g, d, t, os⟩ := s
  have Ls : Looks M h (isSubtype (.ref C) (.type owner)) true := looks_subIn X hob
  have hx := I.at_
  have hc := I.cls
  have X0 := X
  simp only [checkBuiltinCall, hk, hs]
  refine wpAny_bind ?_
  unfold isInstance
  repeat (first | (with_reducible refine wpAny_loadPart_at hx ?_; rw [hc]) | (with_reducible refine Ls.here ?_) | wp_step)
  cases hsig : Manifest.signature? id with
  | none => exact wpAny_pure hq
  | some sig =>
    simp only [argsOk, hsig] at ha
    have h2 : Bind.checkArgs id sig ⟨.ref x :: rest, []⟩ = pure () := ha
    show wpAny M A (Bind.checkArgs id sig ⟨.ref x :: rest, []⟩) Q E _
    rw [h2]; exact wpAny_pure hq

theorem ne_own {Q : Value → Shared → Prop} (hu : A.units + 1 < cLine) (X : K.In s.heap) (I : InstAt s.heap x ox C od) (J : InstAt s.heap y oy C od') (hne : findIn K (.ref C) "__ne__" = some (some (.builtin "object.__ne__")))
    (hs : findIn K (.ref C) "__eq__" = some (some (.ref f))) (hf : isFn K (.ref f) = true) (hob : subIn K (.ref C) (.type "object") = some true)
    (hcall : wpAny (model prog w) A.in1 (call (.ref f) [.ref x, .ref y]) (fun v s' => ∃ b, v = .bool b ∧ Q (.bool (!b)) s') E s) :
    wpAny (model prog w) A (compareOp .NotEq (.ref x) (.ref y)) Q E s := by
  have S := F.cmp_object.ne
  have one : wpAny (model prog w) A (tryCompare (.ref x) "__ne__" (.ref y)) (fun r s' => ∃ v, r = some v ∧ Q v s') E s := by
    unfold tryCompare
    refine wpAny_bind ?_
    simp only [callSpecialIfBound?, bindSpecialIfBound?]
    refine wpAny_holding (wpAny_bind (wpAny_bind (wpAny_bind (I.type.here ((looks_findIn X hne).here ?_)))))
    simp only [S.bind]
    have fin : ∀ {R : Option Value → Shared → Prop}, (∀ b s', Q (.bool (!b)) s' → R (some (.bool (!b))) s') → wpAny (model prog w) A (call (.builtin "object.__ne__") ([.ref x] ++ [.ref y]) >>= fun v => pure (some v)) R E s := by
      intro R hR
      refine wpAny_bind (wpAny_call (codeAny_call_builtin S.plain F.cmpEntry_ne (check_K X I F.cmpKind_ne F.cmpSplit_ne (F.cmpArgs_ne _ _) hob (objNe_K (A := A.in1) X I hs hf hu (wpAny_mono hcall (fun v s' hv => ?_) fun _ _ e => e)))))
      obtain ⟨b, rfl, hq⟩ := hv
      exact ⟨b, rfl, wpAny_pure (hR b _ hq)⟩
    refine wpAny_bind (wpAny_askSetting (wpAny_ite ?_))
    split
    · exact wpAny_bind (wpAny_pure (wpAny_pure (fin fun b s' hq => wpAny_pure ⟨_, rfl, hq⟩)))
    · exact wpAny_tryCatch (wpAny_bind (wpAny_pure (wpAny_pure (fin fun b s' hq => wpAny_pure ⟨_, rfl, hq⟩))))
  show wpAny (model prog w) A (richCompare .NotEq (.ref x) (.ref y)) Q E s
  unfold richCompare
  simp only [oneThing_ref]
  refine wpAny_holding (wpAny_bind (wpAny_cRoomFor (Nat.lt_of_succ_lt hu) ?_))
  refine wpAny_bind (I.type.here (wpAny_bind (J.type.here ?_)))
  rw [show (Value.ref C != Value.ref C) = false from by simp]
  simp only [Bool.false_eq_true, if_false]
  refine wpAny_bind (wpAny_pure ?_)
  simp only [Bool.false_eq_true, if_false]
  refine wpAny_bind (wpAny_mono one (fun r s' z => ?_) fun _ _ e => e)
  obtain ⟨v, rfl, hq⟩ := z
  exact wpAny_pure hq
end

section
variable {X : Cx} {CX : CXT} {n : Nat} {C g : Addr} {sp : Sp} {E : XK}
/-- x != y, both instances of C, which has == alone -/
def rNeOwn (C : Addr) (sp : Sp) (E : XK) : R2 := fun x y H Q => ∃ a b, x = .ref a ∧ y = .ref b ∧ InsAt H a C ∧ InsAt H b C ∧ sp [x, y] H (fun v H' => ∃ k, v = .bl k ∧ Q (.bl (!k)) H') E
theorem op_ne_own (hne : PySem.W.findIn X.K (.ref C) "__ne__" = some (some (.builtin "object.__ne__"))) (hs : PySem.W.findIn X.K (.ref C) "__eq__" = some (some (.ref g))) (hf : PySem.W.isFn X.K (.ref g) = true) (hob : PySem.W.subIn X.K (.ref C) (.type "object") = some true)
    (F : FnR X.prog X.w X.K X.mg X.base CX n g sp) (hr : Room (n + 1) X.A) (hx : Passes CX X E) : OpR X (compareOp .NotEq) (rNeOwn C sp E) := by
  intro pins s σ H x y v u Q I rx ry h
  obtain ⟨a, b, rfl, rfl, ha, hb, q⟩ := h
  cases (show v = Value.ref a from rx)
  cases (show u = Value.ref b from ry)
  obtain ⟨ox, od, J⟩ := inst_of I ha
  obtain ⟨oy, od', J'⟩ := inst_of I hb
  have hu : X.A.units + 1 < cLine := hu_of hr
  refine ne_own hu I.kIn J J' hne hs hf hob ?_
  refine wpAny_call ?_
  refine codeAny_mono (F X.A.in1 X.stack s H [.ref a, .ref b] [.ref a, .ref b] _ E hr.in1 I.env0.in1 (.cons rfl (.cons rfl .nil)) q) fun r s' hq => ?_
  cases r with
  | error e => exact hx pins σ H s e s' I hq
  | ok fl =>
    cases fl with
    | ret u =>
      obtain ⟨v, H', I2, rv, k, ev, qq⟩ := I.after hq
      subst ev
      cases (show u = Value.bool k from rv)
      exact ⟨k, rfl, .bl (!k), H', I2, rfl, qq⟩
    | next => exact False.elim hq
    | brk => exact False.elim hq
    | cont => exact False.elim hq
end
end Ow
end
section
set_option maxHeartbeats 4000000
namespace Ow
open PySem PySem.Spec PyProof.Rows L2 StX

section
variable {X : Cx} {CX : CXT} {n : Nat} {C g fa : Addr} {sp : Sp} {E : XK}

theorem inst_of2 {pins : List (Addr × Obj)} {σ : L2.St} {H : Hp} {s : Shared} {a : Addr} (I : Inv X pins σ H s) (h : InsAt H a C) : ∃ dx od, s.heap.get? a = some (PySem.W.instObj C dx) ∧ PySem.W.InstAt s.heap a (PySem.W.instObj C dx) C od := by
  obtain ⟨dx, fs, ea⟩ := h
  obtain ⟨mA, O, _⟩ := ins_get I.hok ea
  obtain ⟨od, J, _⟩ := O.look
  exact ⟨dx, _, J.at_, J⟩

/-- n + x: the instance's __radd__ -/
def rBinR (C : Addr) (sp : Sp) (E : XK) : R2 := fun x y H Q => ∃ a i, x = .int i ∧ y = .ref a ∧ InsAt H a C ∧ sp [y, x] H Q E
theorem op_radd (hc : PySem.W.selfFirst X.K C = true) (ha : PySem.W.findIn X.K (.ref C) (PySem.dunder "add") = some (some (.ref fa))) (hs : PySem.W.findIn X.K (.ref C) (dunderR "add") = some (some (.ref g))) (hf : PySem.W.isFn X.K (.ref g) = true)
    (hsub : PySem.W.subIn X.K (.ref C) (.type "int") = some false)
    (F : FnR X.prog X.w X.K X.mg X.base CX n g sp) (hr : Room n X.A) (hx : Passes CX X E) : OpR X (binaryOp .Add) (rBinR C sp E) := by
  intro pins s σ H x y v u Q I rx ry h
  obtain ⟨a, i, rfl, rfl, hia, q⟩ := h
  obtain ⟨t, rfl⟩ := rx
  cases (show u = Value.ref a from ry)
  obtain ⟨dx, od, hx', J⟩ := inst_of2 I hia
  obtain ⟨cd, rest, hcd, hm⟩ := PySem.W.ksp_first hc
  refine int_add_own I.kIn hx' J hcd hm ha hs hf hsub ?_
  refine wpAny_mono (wpAny_call (run_fnR (us := [.ref a, .int i t]) (vs := [.ref a, .int i]) F hr hx I (.cons rfl (.cons ⟨t, rfl⟩ .nil)) q)) (fun w s' z => ?_) fun _ _ x => x
  obtain ⟨z', H', I', rz, qz⟩ := z
  exact cmpbackR rz ⟨z', H', I', rz, qz⟩

def mro2 (K : PySem.W.Frag) (C : Addr) : Bool := (PySem.W.clsIn K C).any fun cd => cd.mro == [.ref C, .type "object"]
theorem mro2_of {K : PySem.W.Frag} {C : Addr} (h : mro2 K C = true) : ∃ cd, PySem.W.clsIn K C = some cd ∧ cd.mro = [.ref C, .type "object"] := by
  obtain ⟨cd, hcd, hm⟩ := PySem.W.any_some h
  exact ⟨cd, hcd, beq_iff_eq.mp hm⟩
theorem noI_obj_add : typeLookup (.type "object") (dunderI "add") = pure none := by rw [typeLookup_type, builtinLookup_eq_fast]; kernel_rfl
/-- x += n, the class has no __iadd__ -/
theorem iop_addI {fo ro rc : Option Value} (hc : mro2 X.K C = true) (hni : PySem.W.findIn X.K (.ref C) (dunderI "add") = some none) (hs : PySem.W.findIn X.K (.ref C) (PySem.dunder "add") = some (some (.ref g))) (hf : PySem.W.isFn X.K (.ref g) = true)
    (hrr : PySem.W.findIn X.K (.ref C) (dunderR "add") = some rc) (hp : rc = none ∨ ∃ g : Addr, rc = some (.ref g))
    (h1 : PySem.W.findIn X.K (.type "int") (PySem.dunder "add") = some fo) (h2 : PySem.W.findIn X.K (.type "int") (dunderR "add") = some ro) (hsub : PySem.W.subIn X.K (.type "int") (.ref C) = some false)
    (F : FnR X.prog X.w X.K X.mg X.base CX n g sp) (hr : Room n X.A) (hx : Passes CX X E) : OpR X (inplaceOp .Add) (rBinI C sp E) := by
  intro pins s σ H x y v u Q I rx ry h
  obtain ⟨a, i, rfl, rfl, hia, q⟩ := h
  cases (show v = Value.ref a from rx)
  obtain ⟨t, rfl⟩ := ry
  obtain ⟨ox, od, J⟩ := inst_of I hia
  obtain ⟨cd, hcd, hm⟩ := mro2_of hc
  refine iadd_own (op := .Add) (T := "int") I.kIn J rfl hcd hm hni noI_obj_add hs hf hrr hp h1 h2 hsub ?_
  refine wpAny_mono (wpAny_call (run_fnR (us := [.ref a, .int i t]) (vs := [.ref a, .int i]) F hr hx I (.cons rfl (.cons ⟨t, rfl⟩ .nil)) q)) (fun w s' z => ?_) fun _ _ x => x
  obtain ⟨z', H', I', rz, qz⟩ := z
  exact cmpbackR rz ⟨z', H', I', rz, qz⟩

/-- f(e, ..), a def of the module, by its positional promise -/
def tCallR (sp : Sp) (E : XK) (t : TA) : TE := fun σ H Q => t σ H fun vs H1 => sp vs H1 Q E
theorem pe_callR {x : Str} {f : Addr} {e : Expr} {es : List Expr} {t : TA} {p pos : Pos} (F : FnR X.prog X.w X.K X.mg X.base CX n f sp) (hr : Room n X.A) (hm : X.mg x = some (.ref f)) (hk : PySem.W.keepIn X.K (.ref f) = true) (hx : Passes CX X E)
    (ha : PA X (e :: es) t) (hg : Gl X x := by rfl) (hdb : (x == ("__debug__" : Str)) = false := by decide) (he : starEach (e :: es) X.env = (false, eval e X.env) :: starEach es X.env := by rfl) (hpl : (backTo pos (starEach es X.env)).any (·.1) = false := by rfl) :
    PE X (.Call (.Name x p) (e :: es) [] pos) (tCallR sp E t) := by
  refine ⟨fun pins s σ H Q I h => ?_⟩
  refine wpAny_Call_Name_kw (ld_glob I hg hm ?_ hdb)
  refine PySem.W.callWith_K (h₀ := X.base) I.ok.mod.kin hk (thn (ha.run pos pins s σ H _ I h) fun us s1 ⟨vs, H1, I1, r, q⟩ => ⟨I1.kIn, ?_⟩) he hpl
  exact wpAny_call (run_fnR F hr hx I1 r q)

/-- C(e, ..): a new instance, by the positional promise of __init__ -/
theorem pe_makeRR {x : Str} {e : Expr} {es : List Expr} {t : TA} {p pos : Pos} (M : Mk X.K C g) (F : FnR X.prog X.w X.K X.mg X.base CX n g sp) (hr : Room (n + 1) X.A) (hm : X.mg x = some (.ref C)) (hx : Passes CX X E) (ha : PA X (e :: es) t) (hg : Gl X x := by rfl) (hdb : (x == ("__debug__" : Str)) = false := by decide)
    (he : starEach (e :: es) X.env = (false, eval e X.env) :: starEach es X.env := by rfl) (hpl : (backTo pos (starEach es X.env)).any (·.1) = false := by rfl) : PE X (.Call (.Name x p) (e :: es) [] pos) (tMakeR C sp E t) :=
  pe_makeR M F hr hg hm hx ha hdb he hpl
end
end Ow
end
section
set_option maxHeartbeats 4000000
namespace Ow
open PySem PySem.Spec PyProof.Rows L2 StX

/-- what the walk asks of an own class -/
structure ClsF (K : PySem.W.Frag) (C : Addr) : Prop where
  cl : Cls K C
  ca : PySem.W.findIn K (.ref C) "__class__" = some (some (.builtin "object.__class__"))
  cn : PySem.W.specialIn K (.builtin "object.__class__") "__get__" = some (some (.builtin "getset_descriptor.__get__"))
  ct : PySem.W.takesIn K (.builtin "object.__class__") = some true
  cm : PySem.W.mroIn K C (.type "object") = some true
  ic : PySem.W.isClsIn K C = true
  ty : PySem.W.typeIn K (.ref C) = some (.type "type")
theorem ClsF.tyOf {K : PySem.W.Frag} {C p dx : Addr} {H : Hp} {fs : List (Str × V)} (c : ClsF K C) (h : H p = some (.ins C dx fs)) : TyX K H (.ref p) (.ref C) := .base (.ins h c.cl c.ca c.cn c.ct c.cm)
theorem kit_self {K : PySem.W.Frag} {t : Value} : PySem.W.kitOne K t t = some true := by
  unfold PySem.W.kitOne
  rw [if_pos (beq_self_eq_true t)]
/-- t is not below the own class at C -/
theorem kit_own {K : PySem.W.Frag} {C : Addr} {t : Value} {b : Bool} (c : ClsF K C) (h : PySem.W.subIn K t (.ref C) = some b) (hb : (t == Value.ref C) = false) : PySem.W.kitOne K t (.ref C) = some b := by
  unfold PySem.W.kitOne
  rw [if_neg (by rw [hb]; exact Bool.false_ne_true)]
  show (if ((PySem.W.clsIn K C).isSome && PySem.W.typeIn K (.ref C) == some (.type "type")) = true then PySem.W.subIn K t (.ref C) else none) = some b
  have h1 : (PySem.W.clsIn K C).isSome = true := c.ic
  rw [h1, c.ty]
  rw [if_pos (by rfl)]
  exact h
/-- an instance of C against a built-in type -/
theorem kit_bty {K : PySem.W.Frag} {C : Addr} {T : String} {b : Bool} (hm : PySem.W.kitMeta T = true) (h : PySem.W.subIn K (.ref C) (.type T) = some b) : PySem.W.kitOne K (.ref C) (.type T) = some b := by
  unfold PySem.W.kitOne
  rw [if_neg (by intro z; cases beq_iff_eq.mp z)]
  show (if PySem.W.kitMeta T = true then PySem.W.subIn K (.ref C) (.type T) else none) = some b
  rw [if_pos hm]
  exact h
theorem kit_int_int {K : PySem.W.Frag} : PySem.W.kitOne K (.type "int") (.type "int") = some true := kit_self
theorem kit_int_bool {K : PySem.W.Frag} : PySem.W.kitOne K (.type "int") (.type "bool") = some false := kit_ty (by decide +kernel)

section
variable {X : Cx} {CX : CXT} {k : Nat} {C p g a dx : Addr} {fs : List (Str × V)} {f : Str} {sp : Sp} {E : XK} {e : Expr} {pos : Pos} {ta : TE}
structure PropR (K : PySem.W.Frag) (C : Addr) (f : Str) (p g : Addr) : Prop where
  at_ : PySem.W.findIn K (.ref C) f = some (some (.ref p))
  get : PySem.W.specialIn K (.ref p) "__get__" = some (some (.builtin "property.__get__"))
  tak : PySem.W.takesIn K (.ref p) = some true
  rec_ : ∃ rest, PySem.W.recIn K p "property" = some (.ref g :: rest)
theorem getprop_R {pins : List (Addr × Obj)} {σ : L2.St} {H : Hp} {s : Shared} {Q : VK} {b : Bool} (I : Inv X pins σ H s) (ea : H a = some (.ins C dx fs)) (c : Cls X.K C) (hp : PropR X.K C f p g)
    (F : FnR X.prog X.w X.K X.mg X.base CX k g sp) (hr : Room (k + 1) X.A) (hx : Passes CX X.nox E) (h : sp [.ref a] H Q E) :
    wpAny (model X.prog X.w) X.A (getAttr (.ref a) f b) (EP X pins σ Q) X.xe s := by
  obtain ⟨mA, O, _, _, _, _⟩ := ins_get I.hok ea
  obtain ⟨od, J, _⟩ := O.look
  obtain ⟨rest, hrec⟩ := hp.rec_
  have I1 := I.tok (s.toks + 1)
  have hc : (PySem.W.clsIn X.K C).isSome = true := by
    obtain ⟨cd, hc, _⟩ := PySem.W.any_some c.hd
    rw [hc]
    rfl
  refine PySem.W.get_bind I.kIn J (PySem.W.plainGet_of (c.get f)).1 (PySem.W.findObj_data hc hp.at_ hp.get hp.tak) (PySem.W.plainGet_of (c.get f)).2 (wpAny_call (PySem.W.prop_get (s := { s with toks := s.toks + 1 }) I.kIn hrec ?_))
  refine codeAny_mono (F X.A.in1 X.stack { s with toks := s.toks + 1 } H [.ref a] [.ref a] Q E hr.in1 I1.env0.in1 (.cons rfl .nil) h) fun r s' hq => ?_
  cases r with
  | error er => exact False.elim (hx pins σ H { s with toks := s.toks + 1 } er s' (I1.wish _) hq)
  | ok fl =>
    cases fl with
    | ret u =>
      obtain ⟨v, H', I3, rv, q3⟩ := I1.after hq
      show wpAny _ _ (handedOut u) _ _ _
      rw [PySem.W.handedOut_of (handed_of rv)]
      exact wpAny_pure ⟨v, H', I3, rv, q3⟩
    | next => exact False.elim hq
    | brk => exact False.elim hq
    | cont => exact False.elim hq
def tPropR (C : Addr) (sp : Sp) (E : XK) (ta : TE) : TE := fun σ H Q => ta σ H fun x H1 => ∃ a dx fs, x = .ref a ∧ H1 a = some (.ins C dx fs) ∧ sp [.ref a] H1 Q E
/-- e.f, f a property -/
theorem pe_propR (he : PE X e ta) (c : Cls X.K C) (hp : PropR X.K C f p g) (F : FnR X.prog X.w X.K X.mg X.base CX k g sp) (hr : Room (k + 1) X.A) (hx : Passes CX X.nox E)
    (hab : attributeBase e f X.env (eval e X.env) = eval e X.env := by rfl) : PE X (.Attribute e f pos) (tPropR C sp E ta) := by
  refine ⟨fun pins s σ H Q I h => ?_⟩
  refine attr_of hab (thn (he.run pins s σ H _ I h) fun u s1 ⟨x, H1, I1, rx, a, dx, fs, ex, ea, q⟩ => ?_)
  subst ex
  obtain rfl : u = Value.ref a := rx
  exact getprop_R I1 ea c hp F hr hx q
end

/-- a def of the text, as the top left it: dvs its defaults -/
def FnT (K : PySem.W.Frag) (x qual : Str) (st : Stmt) (dvs : List V) (f : Addr) : Prop := ∃ fd, FunD K x qual (defArgs st) (defBody st) (defScope st) dvs [] f fd
section
variable {P : Program} {w : World} {K : PySem.W.Frag} {mg : Str → Option Value} {base : Heap} {x qual : Str} {st : Stmt} {dvs : List V} {f : Addr}
theorem FnT.kp (F : FnT K x qual st dvs f) : PySem.W.keepIn K (.ref f) = true := F.elim fun _ z => z.kp
/-- a def without defaults that lets nothing out -/
theorem FnT.ok {N ps : List Str} {k : Nat} {sp : Sp} (F : FnT K x qual st [] f) (S : FnScope N ps (defScope st))
    (hb : ∀ (kV doc pm : Value) (an : Option Addr) (cdv ct : Value) (us : List Value), us.length = ps.length → bindArgs (PySem.W.fnOf x qual (defArgs st) (defBody st) (defScope st) .none kV doc pm an cdv ct) ⟨us, []⟩ = pure (ps.zip us))
    (len : ∀ vs H Q E, sp vs H Q E → vs.length = ps.length)
    (hbody : ∀ (cdv : Value) (A : Around) (outer : List Env) (s : Shared) (H : Hp) (vs : List V) (Q : VK) (E : XK), Room k (A.deeper (envOfC qual (defScope st) s.heap.objs.size f cdv)) → sp vs H Q E →
      ∃ t, PSs (cxOf CX0 P w K mg base N qual (defScope st) f cdv A outer s H E).nox (defBody st) t ∧ t { nx := fun _ H' => Q .non H', rt := Q } (start N vs) H) : FnR P w K mg base CX0 (k + 1) f sp := by
  obtain ⟨fd, F⟩ := F
  have ok : FnOk P w K mg base CX0 (k + 1) f fd ps sp := F.ok S len fun cdv A outer s H vs Q E hr hsp => by
    obtain ⟨t, h, q⟩ := hbody cdv A outer s H vs Q E hr hsp
    exact ⟨t, h.nox, q⟩
  have b : Binds K fd ps [] := F.bindsN hb
  have r := ok.raw b .nil
  exact r.imp fun vs H Q E h => by rw [List.append_nil]; exact h
/-- .. with defaults, all of its arguments told; or the last ones filled up: j of the defaults are not used -/
theorem FnT.okD {N ps : List Str} {k n j : Nat} {sp : Sp} (F : FnT K x qual st dvs f) (S : FnScope N ps (defScope st)) (hd : dvs ≠ []) (hn : n + (dvs.length - j) = ps.length)
    (hb : ∀ (T : Addr) (kV doc pm : Value) (an : Option Addr) (cdv ct : Value) (us its : List Value), us.length = n → its.length = dvs.length →
      ∃ k, bindArgs (PySem.W.fnOf x qual (defArgs st) (defBody st) (defScope st) (.ref T) kV doc pm an cdv ct) ⟨us, []⟩ = seqItems? (.ref T) >>= k ∧ k (some its.toArray) = pure (ps.zip (us ++ its.drop j)))
    (len : ∀ vs H Q E, sp vs H Q E → vs.length = ps.length)
    (hbody : ∀ (cdv : Value) (A : Around) (outer : List Env) (s : Shared) (H : Hp) (vs : List V) (Q : VK) (E : XK), Room k (A.deeper (envOfC qual (defScope st) s.heap.objs.size f cdv)) → sp vs H Q E →
      ∃ t, PSs (cxOf CX0 P w K mg base N qual (defScope st) f cdv A outer s H E).nox (defBody st) t ∧ t { nx := fun _ H' => Q .non H', rt := Q } (start N vs) H) : FnR P w K mg base CX0 (k + 1) f (fun vs H Q E => sp (vs ++ dvs.drop j) H Q E) := by
  obtain ⟨fd, F⟩ := F
  have ok : FnOk P w K mg base CX0 (k + 1) f fd ps sp := F.ok S len fun cdv A outer s H vs Q E hr hsp => by
    obtain ⟨t, h, q⟩ := hbody cdv A outer s H vs Q E hr hsp
    exact ⟨t, h.nox, q⟩
  obtain ⟨ds, hds, b⟩ := F.binds1 n j hd hn hb
  exact ok.raw b hds
end
end Ow
end
section
set_option maxHeartbeats 4000000
namespace Ow
open PySem PySem.SeqAt
open AutoSeq1 (wpAny_loadPart')
open MeetsSeq MeetsSeq2 MeetsSeq3 SeqRoads2

section
variable {prog : Program} {w : World} {A : Around} {R : Result → Shared → Prop}
theorem ne_loopG (l b : Addr) (N : Nat) (I : Nat → Shared → Prop) (hl : GQ.ListI prog w A (fun e s' => R (.error e) s') l b N I)
    (fin : ∀ s, I N s → R (.ok (.ret (.bool false))) s) (k : Nat) :
    ∀ i : Nat, N - i = k → i ≤ N → ∀ s, I i s →
      wpAny (model prog w) A.in1 (Builtin.«list.__eq__.loop» ⟨[.ref l, .ref b, rawInt i, rawInt 3], []⟩) (GQ.FinOf prog w A R) (fun e s' => R (.error e) s') s := by
  induction k with
  | zero =>
    intro i hk hi s h
    obtain ⟨items, items2, n, n2, hl1, hb1, hs1, hs2, _⟩ := hl _ _ h
    have hi' : i = N := by omega
    have hR : R (.ok (.ret (.bool false))) s := fin s (hi' ▸ h)
    obtain ⟨hp, g, d, tk, os⟩ := s
    wp_walk using wpAny_loadPart' hl1, wpAny_loadPart' hb1
    have hi1 : items[((i : Nat) : Int).toNat]? = none := by simp; omega
    have hi2 : items2[((i : Nat) : Int).toNat]? = none := by simp; omega
    rw [hi1, hi2]
    wp_walk using wpAny_loadPart' hl1, wpAny_loadPart' hb1
    show R (.ok (.ret (.bool (items.size != items2.size)))) _
    rw [hs1, hs2]
    simpa using hR
  | succ k ih =>
    intro i hk hi s h
    obtain ⟨items, items2, n, n2, hl1, hb1, hs1, hs2, turn⟩ := hl _ _ h
    have hlt : i < items.size := by omega
    have hlt2 : i < items2.size := by omega
    have ht := turn hlt hlt2
    obtain ⟨hp, g, d, tk, os⟩ := s
    wp_walk using wpAny_loadPart' hl1, wpAny_loadPart' hb1
    have hi1 : items[((i : Nat) : Int).toNat]? = some items[i] := by simp [hlt]
    have hi2 : items2[((i : Nat) : Int).toNat]? = some items2[i] := by simp [hlt2]
    have hc : ((i : Int) + 1) = ((i + 1 : Nat) : Int) := by omega
    rw [hi1, hi2]
    refine wpAny_bind (wpAny_mono ht (fun r s2 h2 => ?_) fun _ _ x => x)
    obtain ⟨hr, h2⟩ := h2
    subst hr
    have hrec := ih (i + 1) (by omega) (by omega) s2 h2
    obtain ⟨hp2, g2, d2, tk2, os2⟩ := s2
    wp_walk
    rw [hc]
    exact ⟨plainId_quiet plain_eq_loop _, codeAny_builtin entry_eq_loop (by
      rw [Around.under_plainId plain_eq_loop _]
      exact hrec)⟩

theorem list_neG (l b : Addr) (N : Nat) (I : Nat → Shared → Prop) (hl : GQ.ListI prog w A (fun e s' => R (.error e) s') l b N I)
    (fin : ∀ s, I N s → R (.ok (.ret (.bool false))) s) {s : Shared} (h : I 0 s) :
    wpAny (model prog w) A.in1 (Builtin.«list.__ne__» ⟨[.ref l, .ref b], []⟩) (GQ.FinOf prog w A R) (fun e s' => R (.error e) s') s := by
  obtain ⟨items, items2, n, n2, hl1, hb1, hs1, hs2, _⟩ := hl _ _ h
  have hrec := ne_loopG (A := A) (R := R) l b N I hl fin _ 0 rfl (Nat.zero_le _) s h
  obtain ⟨hp, g, d, tk, os⟩ := s
  have f3 := AutoSeq1.sub_list_list
  have hne : ¬ (items.size != items2.size) = true := by simp [hs1, hs2]
  wp_walk using wpAny_loadPart' hl1, wpAny_loadPart' hb1
  exact ⟨plainId_quiet plain_eq_loop _, codeAny_builtin entry_eq_loop (by
    rw [Around.under_plainId plain_eq_loop _]
    exact hrec)⟩
theorem rn_listG {E : Value → Shared → Prop} {s : Shared} {l b : Addr} {N : Nat} {Q : Value → Shared → Prop} (hu : A.units < cLine) (I : Nat → Shared → Prop) (hl : GQ.ListI prog w A E l b N I)
    (fin : ∀ s, I N s → Q (.bool false) s) (h : I 0 s) : wpAny (model prog w) A (richCompare .NotEq (.ref l) (.ref b)) Q E s := by
  obtain ⟨items, items2, n, n2, hl1, hb1, _, _, _⟩ := hl _ _ h
  refine wpAny_richCompare_same_room (op := .NotEq) ⟨_, hl1, rfl⟩ ⟨_, hb1, rfl⟩ F.slot_list_ne (GQ.call_here F.slot_list_ne ⟨_, hl1, rfl⟩ F.entry_list_ne (F.args_list_ne_2 _ _) ?_) hu
  exact list_neG (R := wants (fun v s' => v ≠ .notImplemented ∧ Q v s') E) l b N I hl (fun s' q => ⟨(fun x => nomatch x), fin s' q⟩) h
end
end Ow
namespace Ow
open PySem PySem.Spec PyProof.Rows L2 StX
section
variable {X : Cx} {n m : Nat} {D D' : Eqv}
/-- two lists, equal item by item: != gives False -/
def rNeL (D : Eqv) : R2 := fun x y H Q => DList D x y H ∧ ∀ H', Ext H H' → Q (.bl false) H'
theorem op_neL (hD : Mon D) (h : EqG X n D) (hr : Room (n + 1) X.A) : OpR X (compareOp .NotEq) (rNeL D) := by
  intro pins s σ H x y v u Q I rx ry hq
  obtain ⟨⟨a, b, xs, ys, rfl, rfl, ha, hb, p⟩, q⟩ := hq
  cases rx
  cases ry
  show wpAny (model X.prog X.w) X.A (richCompare .NotEq (.ref a) (.ref b)) (EP X pins σ Q) X.xe s
  have sb : Sub X (n + 1) X.A := ⟨hr, rfl⟩
  refine rn_listG (N := xs.length) hr.units0 (fun _ s' => LoopI X pins σ H s') (fun i s' q => ?_) (fun s' q' => ?_) ⟨H, I, Ext.rfl'⟩
  · obtain ⟨H1, I1, e1⟩ := id q
    obtain ⟨z, its, k, r, e⟩ := I1.hok a _ (e1 _ _ ha)
    obtain ⟨z2, its2, k2, r2, e2⟩ := I1.hok b _ (e1 _ _ hb)
    refine ⟨its.toArray, its2.toArray, k, k2, e, e2, by rw [List.size_toArray, ← r.length], by rw [List.size_toArray, ← r2.length, ← p.1], fun h1 h2 => ?_⟩
    exact turnG hD h sb p r r2 i h1 h2 s' q
  · obtain ⟨H1, I1, e1⟩ := q'
    exact ⟨.bl false, H1, I1, rfl, q H1 e1⟩
/-- instances of C by their own ==, a positional promise -/
theorem eqG_insR {CX : CXT} {C f : Addr} {R : Addr → Addr → Hp → Prop} {E : XK} (F : FnR X.prog X.w X.K X.mg X.base CX n f (spEq R))
    (hs : PySem.W.findIn X.K (.ref C) "__eq__" = some (some (.ref f))) (hf : PySem.W.isFn X.K (.ref f) = true) (hx : Passes CX X E) : EqG X n (DIns C R) := by
  have rc : RcG X n (DIns C R) := by
    intro A pins s σ H x y u v sb I rx ry d
    obtain ⟨a, b, dx, dy, fs, gs, rfl, rfl, ha, hb', hr⟩ := d
    cases rx
    cases ry
    obtain ⟨mA, J, _⟩ := ins_get I.hok ha
    obtain ⟨mB, J', _⟩ := ins_get I.hok hb'
    obtain ⟨od, J, _⟩ := J.look
    obtain ⟨od', J', _⟩ := J'.look
    obtain ⟨m, hF⟩ := I.fr
    refine PySem.W.cmp_K (op := .Eq) (tb := .ref C) sb.room.units0 hF I.ok.mod.kin J J'.type (by simp [PySem.W.notFirst]) hs hf ?_
    have hsp : spEq R [.ref a, .ref b] H (fun v H' => v = .bl true ∧ Ext H H') E := ⟨a, b, rfl, hr, fun H' e => ⟨rfl, e⟩⟩
    have e0 : Env0 X.prog X.w X.K X.mg X.base A X.stack s H := by
      have e := I.env0
      exact ⟨by rw [sb.fr]; exact e.frames, e.mod, e.bs, e.bsz, e.funs, e.frf, e.hok, e.bare⟩
    have r2 : Vals [V.ref a, V.ref b] [Value.ref a, Value.ref b] := .cons rfl (.cons rfl .nil)
    refine wpAny_call (codeAny_mono (F A X.stack s H [.ref a, .ref b] [.ref a, .ref b] _ E sb.room e0 r2 hsp) fun r s' hq => ?_)
    cases r with
    | error e => exact hx pins σ H s e s' I hq
    | ok fl =>
      cases fl with
      | ret w =>
        obtain ⟨z, H', I', rz, ez, ex⟩ := I.after hq
        subst ez
        cases rz
        exact ⟨rfl, H', I', ex⟩
      | next => exact False.elim hq
      | brk => exact False.elim hq
      | cont => exact False.elim hq
  exact rc.eqG fun _ _ _ d => let ⟨a, b, _, _, _, _, hx, hy, _⟩ := d; ⟨a, b, hx, hy⟩
end
end Ow
end
section
set_option maxHeartbeats 4000000
/-! Defs that are called while nothing is being shown (repr of containers asks it), and the end of a law whose def asks it. -/
namespace Ow
open PySem PySem.Spec PyProof.Rows L2 StX

/-- a promise by positional values, of calls while no repr runs -/
def FnG (P : Program) (w : World) (K : PySem.W.Frag) (mg : Str → Option Value) (base : Heap) (CX : CXT) (k : Nat) (f : Addr) (sp : Sp) : Prop :=
  ∀ (A : Around) (outer : List Env) (s : Shared) (H : Hp) (us : List Value) (vs : List V) (Q : VK) (E : XK), Room k A → A.guards = some [] → Env0 P w K mg base A outer s H → Vals vs us → sp vs H Q E →
    codeAny (model P w) A (.call (.ref f) ⟨us, []⟩) (CR CX outer P w H s Q E) s
section
variable {P : Program} {w : World} {K : PySem.W.Frag} {mg : Str → Option Value} {base : Heap} {CX : CXT} {j k : Nat} {f : Addr} {sp sp' : Sp} {x qual : Str} {st : Stmt}
theorem FnG.mono (F : FnG P w K mg base CX j f sp) (h : j ≤ k) : FnG P w K mg base CX k f sp := fun A outer s H us vs Q E hr => F A outer s H us vs Q E (hr.mono h)
theorem FnG.imp (F : FnG P w K mg base CX k f sp) (h : ∀ vs H Q E, sp' vs H Q E → sp vs H Q E) : FnG P w K mg base CX k f sp' := fun A outer s H us vs Q E hr g e0 r hs => F A outer s H us vs Q E hr g e0 r (h _ _ _ _ hs)
theorem FnT.okG {N ps : List Str} (F : FnT K x qual st [] f) (S : FnScope N ps (defScope st))
    (hb : ∀ (kV doc pm : Value) (an : Option Addr) (cdv ct : Value) (us : List Value), us.length = ps.length → bindArgs (PySem.W.fnOf x qual (defArgs st) (defBody st) (defScope st) .none kV doc pm an cdv ct) ⟨us, []⟩ = pure (ps.zip us))
    (len : ∀ vs H Q E, sp vs H Q E → vs.length = ps.length)
    (hbody : ∀ (cdv : Value) (A : Around) (outer : List Env) (s : Shared) (H : Hp) (vs : List V) (Q : VK) (E : XK), Room k (A.deeper (envOfC qual (defScope st) s.heap.objs.size f cdv)) → A.guards = some [] → sp vs H Q E →
      ∃ t, PSs (cxOf CX0 P w K mg base N qual (defScope st) f cdv A outer s H E).nox (defBody st) t ∧ t { nx := fun _ H' => Q .non H', rt := Q } (start N vs) H) : FnG P w K mg base CX0 (k + 1) f sp := by
  obtain ⟨fd, F⟩ := F
  intro A outer s H us vs Q E hr hg e0 r hs
  have b := F.bindsN hb
  obtain ⟨oc, od, dV, kV, doc, pm, an, cdv, ct, osl, rfl, lk, hcd, _, _⟩ := F.ex
  have hv := len _ _ _ _ hs
  have hu : us.length = ps.length := r.length.symm.trans hv
  have b1 : BindsTo s (PySem.W.fnOf x qual (defArgs st) (defBody st) (defScope st) dV kV doc pm an cdv ct) ⟨us, []⟩ (ps.zip us) := by
    have := b s us (e0.mod.kin.keeps fun b o e => (e0.bs b o e).1) (by rw [List.append_nil]; exact hu)
    rw [List.append_nil] at this
    exact this
  refine LamX.run_ofS lk hcd S hr e0 b1 r hv fun hr2 => ?_
  obtain ⟨t, h, q⟩ := hbody cdv A outer s H vs Q E hr2 hg hs
  exact ⟨t, h.nox, q⟩
end
section
variable {X : Cx} {CX : CXT} {n : Nat} {sp : Sp} {E : XK}
theorem pe_callG {x : Str} {f : Addr} {e : Expr} {es : List Expr} {t : TA} {p pos : Pos} (F : FnG X.prog X.w X.K X.mg X.base CX n f sp) (hr : Room n X.A) (gd : X.A.guards = some []) (hm : X.mg x = some (.ref f)) (hk : PySem.W.keepIn X.K (.ref f) = true) (hx : Passes CX X E)
    (ha : PA X (e :: es) t) (hg : Gl X x := by rfl) (hdb : (x == ("__debug__" : Str)) = false := by decide) (he : starEach (e :: es) X.env = (false, eval e X.env) :: starEach es X.env := by rfl) (hpl : (backTo pos (starEach es X.env)).any (·.1) = false := by rfl) :
    PE X (.Call (.Name x p) (e :: es) [] pos) (tCallR sp E t) := by
  refine ⟨fun pins s σ H Q I h => ?_⟩
  refine wpAny_Call_Name_kw (ld_glob I hg hm ?_ hdb)
  refine PySem.W.callWith_K (h₀ := X.base) I.ok.mod.kin hk (thn (ha.run pos pins s σ H _ I h) fun us s1 ⟨vs, H1, I1, r, q⟩ => ⟨I1.kIn, ?_⟩) he hpl
  refine wpAny_call (codeAny_mono (F X.A X.stack s1 H1 us vs Q E hr gd I1.env0 r q) fun r s' hq => ?_)
  cases r with
  | error e => exact hx pins σ H1 s1 e s' I1 hq
  | ok fl =>
    cases fl with
    | ret u => exact I1.after hq
    | next => exact False.elim hq
    | brk => exact False.elim hq
    | cont => exact False.elim hq

/-- repr of data: its text -/
def rReprD (K : PySem.W.Frag) : List V → Hp → VK → Prop := fun xs H Q => ∃ (x : V) (d : PyData), xs = [x] ∧ Dp K H x d ∧ d.showable = true ∧ d.hasDict = false ∧ d.depth ≤ 8 ∧ d.shown.length ≤ sizeLine ∧ Q (.str d.shown) H
theorem call_reprD (gd : X.A.guards = some []) (hu : X.A.units + 64 < cLine) : CallR X (.builtin "repr") (rReprD X.K) := by
  intro pins s σ H xs us Q I r h
  obtain ⟨x, d, rfl, hd, hs, hnd, hdp, hsz, q⟩ := h
  obtain ⟨u, rfl, ru⟩ := vals1 r
  have fin : ∀ (h' : Heap) (tk : Nat) (u : Tok), (∀ b o, s.heap.get? b = some o → h'.get? b = some o) → EP X pins σ Q (.str d.shown u) { s with heap := h', toks := tk } := fun h' tk u k => ⟨.str d.shown, H, I.kept (t' := tk) k, ⟨u, rfl⟩, q⟩
  cases hd with
  | non => cases ru; exact PySem.P.repr_of_none (fin s.heap _ _ fun _ _ e => e)
  | bl b => cases ru; exact PySem.P.repr_of_bool (by cases b <;> exact fin s.heap _ _ fun _ _ e => e)
  | int i =>
    obtain ⟨t, rfl⟩ := ru
    have hi : i.natAbs.log2 < 1920 := of_decide_eq_true hs
    exact PySem.P.repr_of_int hi (fin s.heap _ _ fun _ _ e => e)
  | str z => obtain ⟨t, rfl⟩ := ru; exact PySem.P.repr_of_str (fin s.heap _ _ fun _ _ e => e) hsz
  | @lst a zs ds hq ha =>
    cases ru
    obtain ⟨as, rd⟩ := Dp.reads I _ _ _ (.lst hq ha) rfl
    exact repr_of_reads' rd hs (PyData.noDict_hsm hnd) gd (by omega) (fun _ _ e => e) (fun h' u tk k => fin h' tk u k) hsz
  | @tup a zs ds hq ha =>
    cases ru
    obtain ⟨as, rd⟩ := Dp.reads I _ _ _ (.tup hq ha) rfl
    exact repr_of_reads' rd hs (PyData.noDict_hsm hnd) gd (by omega) (fun _ _ e => e) (fun h' u tk k => fin h' tk u k) hsz
end

/-! ### the end of a law whose def wants to know that nothing is being shown -/
section
variable {P : Program} {w : World} {K : PySem.W.Frag} {mg mb : Str → Option Value} {k : Nat} {fa a : Addr} {sp : Sp} {s1 : Shared} {vs : List Value} {ns : List Int}
/-- the call, from one abstract heap that tracks the script alone, or nothing -/
theorem end_from (KX : K.In s1.heap) (hns : s1.heap.Ns mainGlobals mg) (hb : s1.heap.Ns builtinsNs mb) (hbb : ∀ x : Str, x ≠ "__name__" → mb x = bootBuiltins x) (hlim : s1.heap.NoLimit) (hg : s1.gens = #[]) (hr : Room k callerA)
    (F : ∀ base : Heap, K.In base → base.Ns mainGlobals mg → FnG P w K mg base CX0 k fa sp) {H : Hp} (hO : Only H) (hok : HOk P w H s1.heap) (dom : ∀ b u, H b = some u → K.lookup b = none ∧ ∃ o items n, s1.heap.get? b = some o ∧ o.data = .seq items n)
    (hsp : sp [.ref a] H (fun v _ => v = .bl true) fun _ _ _ => False) :
    codeAny (model P w) callerA (.call (.ref fa) ⟨[.ref a], []⟩) (fun r s' => r = .ok (.ret (.bool true)) ∧ OldK s1.heap s'.heap ∧ s'.os = s1.os ∧ AllBare s'.gens) s1 := by
  let base := hidT s1.heap H
  have dicts : ∀ {b : Addr} {o : Obj} {es : Array DictEntry} {ep : Nat}, s1.heap.get? b = some o → o.data = .dict es ep → base.get? b = some o := fun {b o es ep} e d => by
    refine hidT_get e ?_
    cases q : H b with
    | none => rfl
    | some u =>
      obtain ⟨_, o2, items, n, e2, d2⟩ := dom b u q
      rw [e2] at e
      cases e
      rw [d2] at d
      cases d
  have names : ∀ {b : Addr} {m : Str → Option Value}, s1.heap.Ns b m → base.Ns b m := fun z => by
    obtain ⟨o, es, ep, e, d, r⟩ := z
    exact ⟨o, es, ep, dicts e d, d, r⟩
  have hK : K.In base := fun b o e => by
    refine hidT_get (KX b o e) ?_
    cases q : H b with
    | none => rfl
    | some u =>
      have z := (dom b u q).1
      rw [e] at z
      cases z
  have lim : base.NoLimit := by
    obtain ⟨m, h1, h2⟩ := hlim
    exact ⟨m, names h1, h2⟩
  have e0 : Env0 P w K mg base callerA [] s1 H :=
    { frames := rfl, mod := ⟨hK, names hns, ⟨mb, names hb, hbb⟩, lim⟩, bs := fun b o e => of_hidT e, bsz := Nat.le_of_eq (hidT_size _ _), funs := trivial, frf := fun b hb => (List.not_mem_nil hb).elim, hok := hok, bare := .of_eq hg }
  refine codeAny_mono (F base hK (names hns) callerA [] s1 H [.ref a] [.ref a] _ _ hr rfl e0 (.cons rfl .nil) hsp) fun r s' h => ?_
  cases r with
  | error e => exact False.elim h
  | ok fl =>
    cases fl with
    | ret u =>
      obtain ⟨v, H2, os, bare, un, ok2, rv, q⟩ := h
      subst q
      cases rv
      refine ⟨rfl, OldK.of_keep fun b o e => ?_, os, bare⟩
      cases q : H b with
      | none => exact un.keep b o e q (fun z => List.not_mem_nil z) (fun z => List.not_mem_nil z)
      | some u =>
        rcases hO b with z | ⟨ob, xs, z⟩
        · rw [q] at z
          cases z
        · have e1 := (hok b _ z).1
          have e2 := (ok2 b _ (un.frzs b ob _ z)).1
          rw [e] at e1
          cases e1
          exact e2
    | next => exact False.elim h
    | brk => exact False.elim h
    | cont => exact False.elim h
theorem end_callG (KX : K.In s1.heap) (hns : s1.heap.Ns mainGlobals mg) (hb : s1.heap.Ns builtinsNs mb) (hbb : ∀ x : Str, x ≠ "__name__" → mb x = bootBuiltins x) (hlim : s1.heap.NoLimit) (hg : s1.gens = #[]) (hr : Room k callerA)
    (ha : s1.heap.get? a = some { cls := .type "list", data := .seq vs.toArray }) (hi : IntsAre vs ns) (hl : ns.length ≤ sizeLine) (F : ∀ base : Heap, K.In base → base.Ns mainGlobals mg → FnG P w K mg base CX0 k fa sp)
    (hsp : ∀ H : Hp, Only H → SqL K H a (ns.map V.int) → sp [.ref a] H (fun v _ => v = .bl true) fun _ _ _ => False) :
    codeAny (model P w) callerA (.call (.ref fa) ⟨[.ref a], []⟩) (fun r s' => r = .ok (.ret (.bool true)) ∧ OldK s1.heap s'.heap ∧ s'.os = s1.os ∧ AllBare s'.gens) s1 := by
  have rv := vals_ints hi
  have hl2 : (ns.map V.int).length ≤ sizeLine := by rw [List.length_map]; exact hl
  cases hk : K.lookup a with
  | some o =>
    have e := KX a o hk
    rw [ha] at e
    cases e
    refine end_from KX hns hb hbb hlim hg hr F (H := fun _ => none) (fun _ => .inl rfl) (fun b u z => by cases z) (fun b u z => by cases z) (hsp _ (fun _ => .inl rfl) ?_)
    exact .inr ⟨_, vs.toArray, _, hk, rfl, rfl, rfl, by rw [List.size_toArray, hi.length]; exact hl, by simpa using rv⟩
  | none =>
    let o : Obj := { cls := .type "list", data := .seq vs.toArray }
    let H : Hp := fun b => if b = a then some (.frz o (.lst (ns.map V.int))) else none
    have H1 : H a = some (.frz o (.lst (ns.map V.int))) := if_pos rfl
    have H0 : ∀ b u, H b = some u → b = a ∧ u = .frz o (.lst (ns.map V.int)) := fun b u z => by
      by_cases e : b = a
      · subst e
        rw [H1] at z
        cases z
        exact ⟨rfl, rfl⟩
      · have z0 : H b = none := if_neg e
        rw [z0] at z
        cases z
    have hO : Only H := fun b => by
      by_cases e : b = a
      · subst e; exact .inr ⟨_, _, H1⟩
      · exact .inl (if_neg e)
    refine end_from KX hns hb hbb hlim hg hr F (H := H) hO (fun b u z => ?_) (fun b u z => ?_) (hsp _ hO (.inl (.inr ⟨_, H1⟩)))
    · obtain ⟨rfl, rfl⟩ := H0 b u z
      exact ⟨ha, hl2, vs, _, rv, ha⟩
    · obtain ⟨rfl, rfl⟩ := H0 b u z
      exact ⟨hk, _, _, _, ha, rfl⟩
end
theorem walk_ofG {l : PySem.W.OpenLaw} {n k : Nat} {q : Program} {loose : List Str} {XP : (Str → Option Value) → Heap → Prop} {YP : World → Heap → Prop} {d : DefRec} {K : Params → PySem.W.Frag} {sp : World → Sp}
    (hn : l.most = some n) (hn2 : n ≤ sizeLine) (hdf : d.params.defaults = []) (hr : Room k callerA) (hY : ∀ (w : World) (h : Heap), YP w h → (K w.params).In h)
    (F : ∀ (w : World) (mg : Str → Option Value) (fa : Addr) (h : Heap), (K w.params).In h → h.Ns mainGlobals mg → mg d.name = some (.ref fa) →
      ∀ base : Heap, (K w.params).In base → base.Ns mainGlobals mg → FnG l.prog w (K w.params) mg base CX0 k fa (sp w))
    (hsp : ∀ (w : World) (H : Hp) (a : Addr) (ns : List Int), ns.length ≤ n → Only H → SqL (K w.params) H a (ns.map V.int) → sp w [.ref a] H (fun v _ => v = .bl true) fun _ _ _ => False) :
    PySem.W.WalkO q loose XP YP l.row.toRowW d [] (fun f vs => PySem.call f vs) := by
  refine Att.attach_call hn hdf fun w s0 s1 mg mb fa o pm cd doc a vs ns G Y ho hd hcd hmg hobj hints hlen hg => ?_
  have KX := hY w _ Y
  exact end_callG KX G.T.g G.T.b G.T.builtins G.T.nolimit hg hr hobj hints (Nat.le_trans hlen hn2) (F w mg fa _ KX G.T.g hmg) fun H hO hS => hsp w H a ns hlen hO hS
end Ow
end
section
set_option maxHeartbeats 4000000
/-! Own errors with a def of their own that keeps the fields: raise C(e), raise C(e, e'). -/
namespace Ow
open PySem PySem.Spec PyProof.Rows L2 StX
section
variable {P : Program} {w : World} {K : PySem.W.Frag} {mg : Str → Option Value} {base : Heap} {x qual : Str} {st : Stmt} {f : Addr}
/-- a def without defaults that may let errors out -/
theorem FnT.okX {N ps : List Str} {k : Nat} {sp : Sp} (F : FnT K x qual st [] f) (S : FnScope N ps (defScope st))
    (hb : ∀ (kV doc pm : Value) (an : Option Addr) (cdv ct : Value) (us : List Value), us.length = ps.length → bindArgs (PySem.W.fnOf x qual (defArgs st) (defBody st) (defScope st) .none kV doc pm an cdv ct) ⟨us, []⟩ = pure (ps.zip us))
    (len : ∀ vs H Q E, sp vs H Q E → vs.length = ps.length)
    (hbody : ∀ (cdv : Value) (A : Around) (outer : List Env) (s : Shared) (H : Hp) (vs : List V) (Q : VK) (E : XK), Room k (A.deeper (envOfC qual (defScope st) s.heap.objs.size f cdv)) → sp vs H Q E →
      ∃ t, PSs (cxOf (CX P w) P w K mg base N qual (defScope st) f cdv A outer s H E) (defBody st) t ∧ t { nx := fun _ H' => Q .non H', rt := Q } (start N vs) H) : FnR P w K mg base (CX P w) (k + 1) f sp := by
  obtain ⟨fd, F⟩ := F
  have ok : FnOk P w K mg base (CX P w) (k + 1) f fd ps sp := F.ok S len hbody
  have b : Binds K fd ps [] := F.bindsN hb
  exact (ok.raw b .nil).imp fun vs H Q E h => by rw [List.append_nil]; exact h
/-- .. with defaults -/
theorem FnT.okDX {N ps : List Str} {k n j : Nat} {sp : Sp} {dvs : List V} (F : FnT K x qual st dvs f) (S : FnScope N ps (defScope st)) (hd : dvs ≠ []) (hn : n + (dvs.length - j) = ps.length)
    (hb : ∀ (T : Addr) (kV doc pm : Value) (an : Option Addr) (cdv ct : Value) (us its : List Value), us.length = n → its.length = dvs.length →
      ∃ k, bindArgs (PySem.W.fnOf x qual (defArgs st) (defBody st) (defScope st) (.ref T) kV doc pm an cdv ct) ⟨us, []⟩ = seqItems? (.ref T) >>= k ∧ k (some its.toArray) = pure (ps.zip (us ++ its.drop j)))
    (len : ∀ vs H Q E, sp vs H Q E → vs.length = ps.length)
    (hbody : ∀ (cdv : Value) (A : Around) (outer : List Env) (s : Shared) (H : Hp) (vs : List V) (Q : VK) (E : XK), Room k (A.deeper (envOfC qual (defScope st) s.heap.objs.size f cdv)) → sp vs H Q E →
      ∃ t, PSs (cxOf (CX P w) P w K mg base N qual (defScope st) f cdv A outer s H E) (defBody st) t ∧ t { nx := fun _ H' => Q .non H', rt := Q } (start N vs) H) : FnR P w K mg base (CX P w) (k + 1) f (fun vs H Q E => sp (vs ++ dvs.drop j) H Q E) := by
  obtain ⟨fd, F⟩ := F
  have ok : FnOk P w K mg base (CX P w) (k + 1) f fd ps sp := F.ok S len hbody
  obtain ⟨ds, hds, b⟩ := F.binds1 n j hd hn hb
  exact ok.raw b hds
/-- an own error's class, whose __init__ stands at g -/
structure ErrF (K : PySem.W.Frag) (C g : Addr) : Prop where
  ox : OexC K C
  iC : PySem.W.findIn K (.ref C) "__init__" = some (some (.ref g))
  tI : PySem.W.typeIn K (.ref g) = some (.type "function")
/-- __init__(self, v): self.f = v -/
def spErr1 (C : Addr) (n : Str) : Sp := fun vs H Q _ => ∃ (a : Addr) (v : V), vs = [.ref a, v] ∧ H a = some (exo a C none) ∧ ∀ dx, H dx = none → dx ≠ a → Q .non (upd (upd H dx (exd dx [(n, v)])) a (exo a C (some dx)))
/-- __init__(self, v, u): self.f = v; self.g = u -/
def spErr2 (C : Addr) (n m : Str) : Sp := fun vs H Q _ => ∃ (a : Addr) (v u : V), vs = [.ref a, v, u] ∧ H a = some (exo a C none) ∧ ∀ dx, H dx = none → dx ≠ a → Q .non (upd (upd H dx (exd dx [(m, u), (n, v)])) a (exo a C (some dx)))
theorem raise_heap {H : Hp} {a d : Addr} {C : Addr} {fs : List (Str × V)} (ha : H a = none) (hne : d ≠ a) :
    upd (del (upd (upd (upd H a (exo a C none)) d (exd d fs)) a (exo a C (some d))) a) d (.xd fs) = upd H d (.xd fs) := by
  funext b
  by_cases e : b = d
  · subst e; rw [upd_same, upd_same]
  · rw [upd_ne e, upd_ne e]
    by_cases e2 : b = a
    · subst e2
      rw [ha]
      exact if_pos rfl
    · show (if b = a then none else _) = _
      rw [if_neg e2, upd_ne e2, upd_ne e, upd_ne e2]
/-- what making such an error asks: the reading of pmk_oex, its fields told -/
theorem err1_made {Q : XK} {H1 : Hp} {v : V} {C : Addr} {n : Str} (k : ∀ d, H1 d = none → Q (.ref C) (some d) (upd H1 d (.xd [(n, v)]))) :
    [v].length ≤ 1000 ∧ ∀ a, H1 a = none → spErr1 C n (.ref a :: ([v] ++ [])) (upd H1 a (exo a C none)) (fun u H2 => u = .non ∧ ∃ (d : Addr) (fs : List (Str × V)), H2 a = some (exo a C (some d)) ∧ H2 d = some (exd d fs) ∧ H1 d = none ∧ Q (.ref C) (some d) (upd (del H2 a) d (.xd fs))) (fun _ _ _ => False) := by
  refine ⟨Nat.le_of_ble_eq_true rfl, fun a ha => ⟨a, v, rfl, upd_same, fun dx hdx ne => ⟨rfl, dx, _, upd_same, by rw [upd_ne ne]; exact upd_same, by rw [upd_ne ne] at hdx; exact hdx, ?_⟩⟩⟩
  rw [raise_heap ha ne]
  refine k dx ?_
  rw [upd_ne ne] at hdx
  exact hdx
theorem err2_made {Q : XK} {H1 : Hp} {v u : V} {C : Addr} {n m : Str} (k : ∀ d, H1 d = none → Q (.ref C) (some d) (upd H1 d (.xd [(m, u), (n, v)]))) :
    [v, u].length ≤ 1000 ∧ ∀ a, H1 a = none → spErr2 C n m (.ref a :: ([v, u] ++ [])) (upd H1 a (exo a C none)) (fun u H2 => u = .non ∧ ∃ (d : Addr) (fs : List (Str × V)), H2 a = some (exo a C (some d)) ∧ H2 d = some (exd d fs) ∧ H1 d = none ∧ Q (.ref C) (some d) (upd (del H2 a) d (.xd fs))) (fun _ _ _ => False) := by
  refine ⟨Nat.le_of_ble_eq_true rfl, fun a ha => ⟨a, v, u, rfl, upd_same, fun dx hdx ne => ⟨rfl, dx, _, upd_same, by rw [upd_ne ne]; exact upd_same, by rw [upd_ne ne] at hdx; exact hdx, ?_⟩⟩⟩
  rw [raise_heap ha ne]
  refine k dx ?_
  rw [upd_ne ne] at hdx
  exact hdx
/-- a def without defaults that lets nothing out: its promise by binds, for makings of errors -/
theorem FnT.okB {N ps : List Str} {k : Nat} {sp : Sp} (F : FnT K x qual st [] f) (S : FnScope N ps (defScope st))
    (hb : ∀ (kV doc pm : Value) (an : Option Addr) (cdv ct : Value) (us : List Value), us.length = ps.length → bindArgs (PySem.W.fnOf x qual (defArgs st) (defBody st) (defScope st) .none kV doc pm an cdv ct) ⟨us, []⟩ = pure (ps.zip us))
    (len : ∀ vs H Q E, sp vs H Q E → vs.length = ps.length)
    (hbody : ∀ (cdv : Value) (A : Around) (outer : List Env) (s : Shared) (H : Hp) (vs : List V) (Q : VK) (E : XK), Room k (A.deeper (envOfC qual (defScope st) s.heap.objs.size f cdv)) → sp vs H Q E →
      ∃ t, PSs (cxOf CX0 P w K mg base N qual (defScope st) f cdv A outer s H E).nox (defBody st) t ∧ t { nx := fun _ H' => Q .non H', rt := Q } (start N vs) H) : ∃ fd, FnOk P w K mg base CX0 (k + 1) f fd ps sp ∧ Binds K fd ps [] := by
  obtain ⟨fd, F⟩ := F
  exact ⟨fd, F.ok S len fun cdv A outer s H vs Q E hr hsp => by
    obtain ⟨t, h, q⟩ := hbody cdv A outer s H vs Q E hr hsp
    exact ⟨t, h.nox, q⟩, F.bindsN hb⟩
/-- v is no integer (a bool is none) -/
def NoInt (K : PySem.W.Frag) (H : Hp) (v : V) : Prop := (∃ b, v = .bl b) ∨ ∃ T : String, TyX K H v (.type T) ∧ PySem.W.kitOne K (.type T) (.type "int") = some false
theorem kit_bool_int {K : PySem.W.Frag} : PySem.W.kitOne K (.type "bool") (.type "int") = some true := kit_ty (by decide +kernel)
theorem NoInt.non {H : Hp} : NoInt K H .non := .inr ⟨_, .base .non, kit_ty (by decide +kernel)⟩
theorem NoInt.bl {H : Hp} {b : Bool} : NoInt K H (.bl b) := .inl ⟨b, rfl⟩
theorem NoInt.str {H : Hp} {z : Str} : NoInt K H (.str z) := .inr ⟨_, .base (.str z), kit_ty (by decide +kernel)⟩
theorem NoInt.lst {H : Hp} {l : Addr} {xs : List V} (h : H l = some (.lst xs)) : NoInt K H (.ref l) := .inr ⟨_, .base (.lst h), kit_ty (by decide +kernel)⟩
theorem NoInt.tup {H : Hp} {l : Addr} {xs : List V} (h : H l = some (.tup xs)) : NoInt K H (.ref l) := .inr ⟨_, .base (.tup h), kit_ty (by decide +kernel)⟩
theorem NoInt.dict {H : Hp} {l : Addr} {kvs : List (Key × V)} (h : H l = some (.dK kvs)) : NoInt K H (.ref l) := .inr ⟨_, .base (.dK h), kit_ty (by decide +kernel)⟩
/-- is_int of any value -/
def spIntV (K : PySem.W.Frag) : Sp := fun vs H Q _ => ∃ v, vs = [v] ∧ ((∃ i : Int, v = .int i ∧ Q (.bl true) H) ∨ (NoInt K H v ∧ Q (.bl false) H))
/-- the error of the class at B lets out, with one field -/
def Out1 (B : Addr) (n : Str) (H : Hp) (E : XK) (v : V) : Prop := ∀ d, H d = none → E (.ref B) (some d) (upd H d (.xd [(n, v)]))
theorem TyOf.same {H H' : Hp} {v : V} {t : Value} (h : TyOf K H v t) (m : ∀ b o, H b = some o → H' b = some o) : TyOf K H' v t := by
  cases h with
  | non => exact .non
  | bl x => exact .bl x
  | int i => exact .int i
  | str x => exact .str x
  | flt x => exact .flt x
  | lst h => exact .lst (m _ _ h)
  | frz h => exact .frz (m _ _ h)
  | tup h => exact .tup (m _ _ h)
  | dK h => exact .dK (m _ _ h)
  | dT h => exact .dT (m _ _ h)
  | ins h c a b d e => exact .ins (m _ _ h) c a b d e
theorem TyX.same {H H' : Hp} {v : V} {t : Value} (h : TyX K H v t) (m : ∀ b o, H b = some o → H' b = some o) : TyX K H' v t := by
  cases h with
  | base h => exact .base (TyOf.same h m)
  | byt b => exact .byt b
  | set h => exact .set (m _ _ h)
  | kList h c => exact .kList h c
  | kTuple h c => exact .kTuple h c
  | kDict h c => exact .kDict h c
  | fTuple h => exact .fTuple (m _ _ h)
  | fDict h => exact .fDict (m _ _ h)
theorem NoInt.same {H H' : Hp} {v : V} (h : NoInt K H v) (m : ∀ b o, H b = some o → H' b = some o) : NoInt K H' v := by
  rcases h with h | ⟨t, h, q⟩
  · exact .inl h
  · exact .inr ⟨t, TyX.same h m, q⟩
/-- .. from a heap that has grown -/
def OutS (B : Addr) (n : Str) (H : Hp) (E : XK) (v : V) : Prop := ∀ H', (∀ b o, H b = some o → H' b = some o) → Out1 B n H' E v
end
/-- what a callee lets out leaves the def -/
theorem passUp {X : Cx} {E : XK} (tk : Takes X fun cls d _ H => E cls d H) : Passes (CX X.prog X.w) X E := fun pins σ H s e s' I h => passAt tk σ pins H s e s' I h
end Ow
end
section
set_option maxHeartbeats 4000000
/-! isinstance of a caught own error that keeps fields; what a def that tries its argument tells. -/
namespace Ow
open PySem PySem.Spec PyProof.Rows L2 StX
section
variable {X : Cx} {a : Addr} {oe : Obj} {cls : Value} {d : Option Addr} {pn : List (Addr × Obj)}
/-- isinstance(error, T): error the caught one, with its fields at dd -/
def rIsEX (K : PySem.W.Frag) (a : Addr) (cls : Value) (d : Option Addr) : List V → Hp → VK → Prop := fun xs H Q => ∃ (c : V) (cv : Value) (b : Bool) (D dd : Addr) (fs : List (Str × V)),
  xs = [.ref a, c] ∧ cls = .ref D ∧ ExcC K D ∧ (PySem.W.clsIn K D).isSome = true ∧ d = some dd ∧ H dd = some (.xd fs) ∧ (∀ u, RelV c u → u = cv) ∧ PySem.W.kitOne K (.ref D) cv = some b ∧ Q (.bl b) H
theorem call_isEX (hz : Zc cls d oe) (hf : ∃ vs, oe.data = .fields vs) : CallR (X.suite a ((a, oe) :: pn)) (.builtin "isinstance") (rIsEX X.K a cls d) := by
  intro pins s σ H xs us Q I r h
  obtain ⟨c, cv, b, D, dd, fs, rfl, rfl, C, hci, rfl, hdd, hcv, hk, q⟩ := h
  cases r with
  | cons rx r2 =>
    cases r2 with
    | cons rc r3 =>
      cases r3
      cases rx
      cases hcv _ rc
      obtain ⟨hget, _⟩ := I.pin (a, oe) (List.mem_append.mpr (.inl List.mem_cons_self))
      obtain ⟨vs, hv⟩ := hf
      obtain ⟨z1, z2⟩ := hz
      obtain ⟨od, hod⟩ : ∃ o, s.heap.get? dd = some o := by
        have := I.hok dd _ hdd
        obtain ⟨mA, ⟨o, _, _, e, _⟩, _⟩ := this
        exact ⟨o, e⟩
      have J : PySem.W.InstAt s.heap a oe D (some od) := ⟨hget, z1, by unfold PySem.W.notCls; rw [hv], by rw [z2]; exact hod⟩
      refine PySem.W.kia_one (PySem.W.kitx_exc (x := a) (ox := oe) (od := some od) hci C.hg C.hk C.hs C.ha C.hn C.ht C.hm) I.kIn J hk (fun z => by cases z) fun tk => ?_
      exact ⟨.bl b, H, I.kept fun _ _ e => e, rfl, q⟩
end
/-- return (z, ask()), ask a handed lambda that may raise -/
theorem ret_told {X : Cx} {f c' : Addr} {q z : Str} {tl : XK → Hp → VK → Prop} {W : WX} {n : Str} {j ct : Nat} {p0 p1 p2 pt ps : Pos}
    (act : ∀ E : XK, (∀ cls d σ' H', E cls d H' → W cls d σ' H') → PE X (.Call (.Name n p1) [] [] p2) (fun σZ HZ Q => σZ[0]? = some (some (.ref f)) ∧ HZ c' = some (LamX.CodeO c' q) ∧ tl E HZ Q)) :
    PSs X [.Return (some (.Tuple [.Constant (.str z) j p0, .Call (.Name n p1) [] [] p2] ct pt)) ps] (fun D σ H => ∃ Ech : XK, (∀ cls d σ' H', Ech cls d H' → W cls d σ' H') ∧ σ[0]? = some (some (.ref f)) ∧ H c' = some (LamX.CodeO c' q) ∧
      tl Ech H (fun v H1 => [V.str z, v].length ≤ sizeLine ∧ ∀ p, H1 p = none → D.rt (.ref p) (upd H1 p (.tup [.str z, v])))) := by
  refine ⟨fun pins s' σ H' D I ⟨Ech, hW, h1, h2, h3⟩ => ?_⟩
  exact (pss_one (ps_ret (pe_tup (pa_cons pe_str (pa_cons (act Ech hW) pa_nil))))).run pins s' σ H' D I ⟨h1, h2, h3⟩
/-- as many slots as names stand at each statement -/
theorem pss_len {X : Cx} {b : List Stmt} {t : TS} (n : Nat) (hn : X.N.length = n) (h : PSs X b t) : PSs X b (fun D σ H => σ.length = n → t D σ H) := ⟨fun pins s σ H D I q => h.run pins s σ H D I (q (I.len.trans hn))⟩
/-- an own class against another one -/
theorem kit_err {K : PySem.W.Frag} {C : Addr} {t : Value} {b : Bool} (hi : (PySem.W.clsIn K C).isSome = true) (ht : PySem.W.typeIn K (.ref C) = some (.type "type")) (h : PySem.W.subIn K t (.ref C) = some b) (hb : (t == Value.ref C) = false) : PySem.W.kitOne K t (.ref C) = some b := by
  unfold PySem.W.kitOne
  rw [if_neg (by rw [hb]; exact Bool.false_ne_true)]
  show (if ((PySem.W.clsIn K C).isSome && PySem.W.typeIn K (.ref C) == some (.type "type")) = true then PySem.W.subIn K t (.ref C) else none) = some b
  rw [hi, ht]
  rw [if_pos (by rfl)]
  exact h
end Ow
end
section
set_option maxHeartbeats 4000000
/-! A comparison of an own instance with a value of another kind. -/
namespace Ow
open PySem PySem.Spec PyProof.Rows L2 StX
section
variable {X : Cx} {CX : CXT} {n : Nat} {C g : Addr} {sp : Sp} {E : XK}
/-- x op y: x an instance of C, y of the type t, that is not below C -/
def rBinT (K : PySem.W.Frag) (C : Addr) (sp : Sp) (E : XK) : R2 := fun x y H Q => ∃ (a : Addr) (t : Value), x = .ref a ∧ InsAt H a C ∧ TyX K H y t ∧ PySem.W.notFirst K C t = true ∧ sp [x, y] H Q E
theorem op_cmpT {op : CmpOp} (hop : ∀ a b, compareOp op a b = richCompare op a b) (hs : PySem.W.findIn X.K (.ref C) (cmpInfo op).2.1 = some (some (.ref g))) (hf : PySem.W.isFn X.K (.ref g) = true)
    (F : FnR X.prog X.w X.K X.mg X.base CX n g sp) (hr : Room n X.A) (hx : Passes CX X E) : OpR X (compareOp op) (rBinT X.K C sp E) := by
  intro pins s σ H x y v u Q I rx ry h
  obtain ⟨a, t, rfl, ha, ht, hn, q⟩ := h
  cases (show v = Value.ref a from rx)
  obtain ⟨ox, od, J⟩ := inst_of I ha
  obtain ⟨m, hF⟩ := I.fr
  obtain ⟨Pk, k, hk, _⟩ := kit_of I ry ht
  rw [hop]
  refine PySem.W.cmp_K (op := op) (tb := t) hr.units0 hF I.ok.mod.kin J (k.ty _ _ I.kIn hk) hn hs hf ?_
  refine wpAny_mono (wpAny_call (run_fnR (us := [.ref a, u]) (vs := [.ref a, y]) F hr hx I (.cons rfl (.cons ry .nil)) q)) (fun w s' z => ?_) fun _ _ x => x
  obtain ⟨z', H', I', rz, qz⟩ := z
  exact cmpbackR rz ⟨z', H', I', rz, qz⟩
theorem notFirst_of {K : PySem.W.Frag} {T : String} (h : PySem.W.subIn K (.type T) (.ref C) = some false) : PySem.W.notFirst K C (.type T) = true := by
  unfold PySem.W.notFirst
  rw [h]
  simp
end
end Ow
end
section
set_option maxHeartbeats 4000000
/-! A law whose def hands lambdas over: its code is told, and the code's table. -/
namespace Ow
open PySem PySem.Spec PyProof.Rows L2 StX
section
variable {P : Program} {w : World} {K : PySem.W.Frag} {mg : Str → Option Value} {base : Heap} {x qual : Str} {st : Stmt} {f c : Addr}
/-- a def of the text without defaults, its code at c -/
def FnC (K : PySem.W.Frag) (x qual : Str) (st : Stmt) (f c : Addr) : Prop := ∃ (oc : Value) (od an : Option Addr) (kV doc pm ct : Value) (osl : Array (Option Value)),
  K.lookup f = some ⟨oc, od, .func (PySem.W.fnOf x qual (defArgs st) (defBody st) (defScope st) .none kV doc pm an (.ref c) ct), osl⟩ ∧ PySem.W.codeIn K (.ref c) qual = true
theorem FnC.mk {oc : Value} {od an : Option Addr} {kV doc pm ct : Value} {osl : Array (Option Value)} (l : K.lookup f = some ⟨oc, od, .func (PySem.W.fnOf x qual (defArgs st) (defBody st) (defScope st) .none kV doc pm an (.ref c) ct), osl⟩) (h : PySem.W.codeIn K (.ref c) qual = true) : FnC K x qual st f c := ⟨oc, od, an, kV, doc, pm, ct, osl, l, h⟩
theorem FnC.ok {N ps : List Str} (F : FnC K x qual st f c) (S : FnScope N ps (defScope st))
    (hb : ∀ (kV doc pm : Value) (an : Option Addr) (cdv ct : Value) (us : List Value), us.length = ps.length → bindArgs (PySem.W.fnOf x qual (defArgs st) (defBody st) (defScope st) .none kV doc pm an cdv ct) ⟨us, []⟩ = pure (ps.zip us)) :
    ∃ fd : FuncData, (∀ (s : Shared) (us : List Value), us.length = ps.length → BindsTo s fd ⟨us, []⟩ (ps.zip us)) ∧ ∀ (P : Program) (w : World) (mg : Str → Option Value) (base : Heap) (k : Nat) (sp : Sp), (∀ vs H Q E, sp vs H Q E → vs.length = ps.length) →
      (∀ (A : Around) (outer : List Env) (s : Shared) (H : Hp) (vs : List V) (Q : VK) (E : XK), Room k (A.deeper (envOfC qual (defScope st) s.heap.objs.size f (.ref c))) → sp vs H Q E →
        ∃ t, PSs (cxOf CX0 P w K mg base N qual (defScope st) f (.ref c) A outer s H E).nox (defBody st) t ∧ t { nx := fun _ H' => Q .non H', rt := Q } (start N vs) H) → FnOk P w K mg base CX0 (k + 1) f fd ps sp := by
  obtain ⟨oc, od, an, kV, doc, pm, ct, osl, lk, hcd⟩ := F
  refine ⟨_, fun s us hu => BindsTo.of_eq (hb kV doc pm an (.ref c) ct us hu), fun P w mg base k sp len hbody => ⟨len, fun A outer s H args us vs Q E hr e0 b r hs => ?_⟩⟩
  refine LamX.run_ofS lk hcd S hr e0 b r (len _ _ _ _ hs) fun hr2 => ?_
  obtain ⟨t, h, q⟩ := hbody A outer s H vs Q E hr2 hs
  exact ⟨t, h.nox, q⟩
/-- a code object, its table at T -/
theorem codeHd_mk {h : Heap} {T : Addr} {od : Option Addr} {vs : Array Value} {osl : Array (Option Value)} {file : Str} {tf : Tok} {flags text : Int} {tg tt : Tok} {inF : Bool} (X : K.In h) (l : K.lookup c = some ⟨.type "code", od, .fields vs, osl⟩)
    (e1 : vs[11]? = some (.ref T)) (e2 : vs.getD 11 .none = .ref T) (e3 : vs.getD 18 .none = .str file tf) (e4 : vs.getD 7 .none = .int flags tg) (e5 : vs.getD 9 .none = .bool inF) (e6 : vs.getD 10 .none = .int text tt) (ne : c ≠ T) : PySem.W.CodeHd h c T :=
  ⟨_, vs, file, tf, flags, tg, inF, text, tt, X _ _ l, rfl, rfl, e1, e2, e3, e4, e5, e6, ne⟩
end
/-- a table is not of the written part -/
theorem km_none {K : Params → PySem.W.Frag} {as ts : List Addr} {e : ∀ P, as = (K P).map fun x => x.1} {w : World} {h : Heap} (_ : (PySem.W.kmHook K as e ts).says w h) {T : Addr} (n : as.contains T = false) : List.lookup T (K w.params) = none := by
  rw [List.lookup_eq_none_iff]
  intro p hp
  have m : p.1 ∈ as := by rw [e w.params]; exact List.mem_map.mpr ⟨p, hp, rfl⟩
  refine bne_iff_ne.mpr fun q => ?_
  rw [← q] at m
  have := List.contains_iff_mem.mpr m
  rw [n] at this
  cases this
end Ow
end
section
set_option maxHeartbeats 4000000
/-! A def with defaults and without keyword-only parameters, called by keywords. -/
namespace Ow
open PySem PySem.Spec PyProof.Rows L2 StX
section
variable {K : PySem.W.Frag} {x qual : Str} {params : Arguments} {body : List Stmt} {scope : PySem.Scope} {dvs : List V} {kws : List (Str × V)} {f : Addr} {fd : FuncData} {ps : List Str}
/-- n arguments by place, ks by keyword; g puts the defaults in -/
theorem kbnD (F : FunD K x qual params body scope dvs kws f fd) (n : Nat) (ks : List Str) (g : {α : Type} → List α → List α → List α → List α) (hd : dvs ≠ [])
    (hg : ∀ {vs ds zs : List V} {us its ws : List Value}, Vals vs us → Vals ds its → Vals zs ws → Vals (g vs ds zs) (g us its ws))
    (h : ∀ (T : Addr) (kV doc pm : Value) (an : Option Addr) (cdv ct : Value) (us its ws : List Value), us.length = n → its.length = dvs.length → ws.length = ks.length →
      ∃ k, bindArgs (PySem.W.fnOf x qual params body scope (.ref T) kV doc pm an cdv ct) ⟨us, ks.zip ws⟩ = seqItems? (.ref T) >>= k ∧ k (some its.toArray) = pure (ps.zip (g us its ws))) :
    ∃ its, KBn K fd ps n ks (fun us ws => g us its ws) fun vs zs => g vs dvs zs := by
  obtain ⟨oc, od, dV, kV, doc, pm, an, cdv, ct, osl, rfl, lk, hcd, hD, hK⟩ := F.ex
  rcases hD with ⟨e, _⟩ | ⟨_, T, o, its, m, rfl, lT, oT, rT⟩
  · exact absurd e hd
  refine ⟨its, ⟨fun s us ws X hu hw => ?_, fun r1 r2 => hg r1 rT r2⟩⟩
  obtain ⟨k, e1, e2⟩ := h T kV doc pm an cdv ct us its ws hu rT.length.symm hw
  exact BindsTo.of_looks fun M => by
    rw [e1]
    exact looks_items X lT oT (PySem.W.Looks.of_pure e2)
end
section
variable {X : Cx} {CX : CXT} {k : Nat} {f : Addr} {fd : FuncData} {ps ks : List Str} {sp : Sp} {E : XK} {x : Str} {p pos : Pos} {kws : List Keyword} {tk : TA} {g : List Value → List Value → List Value} {gV : List V → List V → List V}
/-- f(k=e, ..): by keywords alone -/
def tCallKO (m : Nat) (sp : Sp) (gV : List V → List V → List V) (E : XK) (tk : TA) : TE := fun σ H Q => tk σ H fun zs H2 => zs.length = m ∧ sp (gV [] zs) H2 Q E
theorem pe_callKO (F : FnOk X.prog X.w X.K X.mg X.base CX k f fd ps sp) (hr : Room k X.A) (hg : Gl X x) (hm : X.mg x = some (.ref f)) (hk : PySem.W.keepIn X.K (.ref f) = true) (hb : KBn X.K fd ps 0 ks g gV) (hx : Passes CX X E) (hkw : PK X kws tk)
    (hall : ((backToKw pos (keywordEach kws X.env)).all fun x => x.1.isSome) = true := by rfl) (hks : List.filterMap (fun x => x.1) (backToKw pos (keywordEach kws X.env)) = ks := by rfl) (hdb : (x == Str.ofString "__debug__") = false := by decide)
    (hpl : (((backTo pos (starEach [] X.env)).any fun x => x.1) || (backToKw pos (keywordEach kws X.env)).any fun x => x.1.isNone) = false := by rfl) :
    PE X (.Call (.Name x p) [] kws pos) (tCallKO ks.length sp gV E tk) := by
  refine ⟨fun pins s σ H Q I h => ?_⟩
  refine wpAny_Call_Name_kw (ld_glob I hg hm ?_ hdb)
  refine PySem.W.callWith_KW0 I.ok.mod.kin hk hall (thn (hkw.run pos pins s σ H _ I h) fun ws s2 z => ?_) hpl
  obtain ⟨zs, H2, I2, rz, l2, q2⟩ := z
  refine ⟨I2.kIn, ?_⟩
  rw [hks]
  exact run_fnN (us := []) (vs := []) F hr hb hx I2 .nil rz rfl l2 q2
end
end Ow
end
section
set_option maxHeartbeats 4000000
/-! `x in o`, `x not in o` and `str(o)` where o is an instance of an own class that defines them. -/
namespace Ow
open PySem PySem.Spec PyProof.Rows L2

theorem unlessNone_fn {K : PySem.W.Frag} {M : Model} {A : Around} {E : Value → Shared → Prop} {s : Shared} {x C f : Addr} {ox : Obj} {od : Option Obj} {name : Str} {args : List Value} {refuse : Sem Value} {Q : Option Value → Shared → Prop}
    (X : K.In s.heap) (I : PySem.W.InstAt s.heap x ox C od) (hs : PySem.W.findIn K (.ref C) name = some (some (.ref f))) (hf : PySem.W.typeIn K (.ref f) = some (.type "function"))
    (h : wpAny M A (call (.ref f) (.ref x :: args)) (fun v => Q (some v)) E s) : wpAny M A (callSpecialUnlessNone? (.ref x) name args refuse) Q E s :=
  wpAny_bind (wpAny_bind (I.type.here ((PySem.W.looks_findIn X hs).here (wpAny_holding (wpAny_bind ((PySem.W.bind_fn X _ hf).here (wpAny_bind (wpAny_mono h (fun _ _ z => wpAny_pure z) fun _ _ z => z))))))))

theorem contains_own {K : PySem.W.Frag} {M : Model} {A : Around} {E : Value → Shared → Prop} {s : Shared} {x C f : Addr} {ox : Obj} {od : Option Obj} {v : Value} {Q : Bool → Shared → Prop}
    (X : K.In s.heap) (I : PySem.W.InstAt s.heap x ox C od) (hs : PySem.W.findIn K (.ref C) "__contains__" = some (some (.ref f))) (hf : PySem.W.isFn K (.ref f) = true)
    (h : wpAny M A (call (.ref f) [.ref x, v]) (fun r s' => ∃ b, r = .bool b ∧ Q b s') E s) : wpAny M A (contains (.ref x) v) Q E s := by
  unfold contains
  refine wpAny_holding ?_
  refine wpAny_bind (m := specialOf (.ref x) "__contains__") (wpAny_bind (I.type.here ((PySem.W.looks_findIn X hs).here ?_)))
  dsimp only
  rw [if_neg (show ¬ (some (Value.ref f) == some Value.none) = true from fun z => by cases z)]
  refine wpAny_bind (m := callSpecialUnlessNone? (.ref x) (Str.ofString "__contains__") [v] _) (unlessNone_fn X I hs (beq_iff_eq.mp hf) (wpAny_mono h (fun r s' z => ?_) fun _ _ z => z))
  obtain ⟨b, rfl, q⟩ := z
  exact wpAny_truthy_bool q

section
variable {X : Cx} {CX : CXT} {n : Nat} {C g : Addr} {sp : Sp} {E : XK}
/-- x in o, o an instance of C -/
def rInO (C : Addr) (sp : Sp) (E : XK) (f : Bool → Bool) : R2 := fun x y H Q => ∃ a, y = .ref a ∧ InsAt H a C ∧ sp [y, x] H (fun v H' => ∃ b, v = .bl b ∧ Q (.bl (f b)) H') E
theorem op_inO (hs : PySem.W.findIn X.K (.ref C) "__contains__" = some (some (.ref g))) (hf : PySem.W.isFn X.K (.ref g) = true)
    (F : FnR X.prog X.w X.K X.mg X.base CX n g sp) (hr : Room n X.A) (hx : Passes CX X E) : OpR X (compareOp .In) (rInO C sp E id) := by
  intro pins s σ H x y v u Q I rx ry h
  obtain ⟨a, rfl, ha, q⟩ := h
  cases (show u = Value.ref a from ry)
  obtain ⟨ox, od, J⟩ := inst_of I ha
  obtain ⟨m, hF⟩ := I.fr
  refine wpAny_bind (contains_own (I.ok.mod.kin.keeps hF.keep) J hs hf ?_)
  refine wpAny_mono (wpAny_call (run_fnR (us := [.ref a, v]) (vs := [.ref a, x]) F hr hx I (.cons rfl (.cons rx .nil)) q)) (fun w s' z => ?_) fun _ _ x => x
  obtain ⟨z', H', I', rz, b, rfl, qz⟩ := z
  exact ⟨b, rz, wpAny_pure ⟨.bl b, H', I', rfl, qz⟩⟩
theorem op_notInO (hs : PySem.W.findIn X.K (.ref C) "__contains__" = some (some (.ref g))) (hf : PySem.W.isFn X.K (.ref g) = true)
    (F : FnR X.prog X.w X.K X.mg X.base CX n g sp) (hr : Room n X.A) (hx : Passes CX X E) : OpR X (compareOp .NotIn) (rInO C sp E fun b => !b) := by
  intro pins s σ H x y v u Q I rx ry h
  obtain ⟨a, rfl, ha, q⟩ := h
  cases (show u = Value.ref a from ry)
  obtain ⟨ox, od, J⟩ := inst_of I ha
  obtain ⟨m, hF⟩ := I.fr
  refine wpAny_bind (contains_own (I.ok.mod.kin.keeps hF.keep) J hs hf ?_)
  refine wpAny_mono (wpAny_call (run_fnR (us := [.ref a, v]) (vs := [.ref a, x]) F hr hx I (.cons rfl (.cons rx .nil)) q)) (fun w s' z => ?_) fun _ _ x => x
  obtain ⟨z', H', I', rz, b, rfl, qz⟩ := z
  exact ⟨b, rz, wpAny_pure ⟨.bl (!b), H', I', rfl, qz⟩⟩
/-- a callee runs further down than the body -/
theorem run_fnRS {pins : List (Addr × Obj)} {σ : L2.St} {H : Hp} {s : Shared} {A : Around} {Q : VK} {us : List Value} {vs : List V} (F : FnR X.prog X.w X.K X.mg X.base CX n g sp) (hr : Room n A) (hfr : A.frames = X.A.frames) (hx : Passes CX X E) (I : Inv X pins σ H s) (r : Vals vs us) (h : sp vs H Q E) :
    codeAny (model X.prog X.w) A (.call (.ref g) ⟨us, []⟩) (fun r s' => match r with | .ok (.ret v) => EP X pins σ Q v s' | .ok _ => False | .error e => X.xe e s') s := by
  have e0 : Env0 X.prog X.w X.K X.mg X.base A X.stack s H := by
    have e := I.env0
    exact ⟨by rw [hfr]; exact e.frames, e.mod, e.bs, e.bsz, e.funs, e.frf, e.hok, e.bare⟩
  refine codeAny_mono (F A X.stack s H us vs Q E hr e0 r h) fun r s' hq => ?_
  cases r with
  | error e => exact hx pins σ H s e s' I hq
  | ok fl =>
    cases fl with
    | ret u => exact I.after hq
    | next => exact False.elim hq
    | brk => exact False.elim hq
    | cont => exact False.elim hq
/-- str(o), o an instance of C that has a __str__ -/
def rStrO (C : Addr) (sp : Sp) (E : XK) : List V → Hp → VK → Prop := fun xs H Q => ∃ a, xs = [.ref a] ∧ InsAt H a C ∧ sp [.ref a] H (fun v H' => ∃ t, v = .str t ∧ Q (.str t) H') E
theorem call_strO (hs : PySem.W.findIn X.K (.ref C) "__str__" = some (some (.ref g))) (hf : PySem.W.isFn X.K (.ref g) = true)
    (F : FnR X.prog X.w X.K X.mg X.base CX n g sp) (hr : Room (n + 2) X.A) (hx : Passes CX X E) : CallR X (.type "str") (rStrO C sp E) := by
  intro pins s σ H xs us Q I r h
  obtain ⟨a, rfl, ha, q⟩ := h
  obtain ⟨u, rfl, ru⟩ := vals1 r
  cases (show u = Value.ref a from ru)
  obtain ⟨ox, od, J⟩ := inst_of I ha
  obtain ⟨m, hF⟩ := I.fr
  refine PySem.W.kso_call hr.in1.in1.units0 (I.ok.mod.kin.keeps hF.keep) J hs hf ?_
  refine wpAny_mono (wpAny_call (run_fnRS (us := [.ref a]) (vs := [.ref a]) F hr.in1.in1 rfl hx I (.cons rfl .nil) q)) (fun w s' z => ?_) fun _ _ x => x
  obtain ⟨z', H', I', rz, t, rfl, qz⟩ := z
  obtain ⟨tk, rfl⟩ := rz
  exact ⟨.str t, H', I', ⟨tk, rfl⟩, qz⟩
end
end Ow
end
section
set_option maxHeartbeats 4000000
/-! The end of a law whose def hands lambdas over and asks repr of containers: nothing is being shown, and the codes' tables are told. -/
namespace Ow
open PySem PySem.Spec PyProof.Rows L2 StX
section
variable {P : Program} {w : World} {K : PySem.W.Frag} {mg mb : Str → Option Value} {k : Nat} {fa a c T : Addr} {sp : Sp} {s1 : Shared} {vs : List Value} {ns : List Int}
/-- a table that is still empty -/
abbrev tab0 : Obj := { cls := .none, data := .fields #[] }
/-- what stands in the abstract heap at the begin: the table, and perhaps the script -/
structure Begin (K : PySem.W.Frag) (h : Heap) (T : Addr) (H : Hp) : Prop where
  tab : H T = some (.tbl #[])
  rest : ∀ b, b ≠ T → H b = none ∨ ∃ o xs items n, H b = some (.frz o (.lst xs)) ∧ K.lookup b = none ∧ h.get? b = some o ∧ o.data = .seq items n
theorem end_fromT (KX : K.In s1.heap) (hns : s1.heap.Ns mainGlobals mg) (hb : s1.heap.Ns builtinsNs mb) (hbb : ∀ x : Str, x ≠ "__name__" → mb x = bootBuiltins x) (hlim : s1.heap.NoLimit) (hg : s1.gens = #[]) (hr : Room k callerA)
    (eT : s1.heap.get? T = some tab0) (nT : K.lookup T = none) (cT : PySem.W.CodeHd s1.heap c T)
    (main : ∃ (m : Addr) (o : Obj), mg "__builtins__" = some (.ref m) ∧ m ≠ builtinsNs ∧ s1.heap.get? m = some o ∧ o.cls = .type "module" ∧ o.dict = some builtinsNs ∧ o.data = .plain)
    (F : ∀ base : Heap, K.In base → base.Ns mainGlobals mg → LamX.TabB base mg c T → FnG P w K mg base CX0 k fa sp) {H : Hp} (B : Begin K s1.heap T H) (hok : HOk P w H s1.heap)
    (hsp : sp [.ref a] H (fun v _ => v = .bl true) fun _ _ _ => False) :
    codeAny (model P w) callerA (.call (.ref fa) ⟨[.ref a], []⟩) (fun r s' => r = .ok (.ret (.bool true)) ∧ OldK s1.heap s'.heap ∧ s'.os = s1.os ∧ AllBare s'.gens) s1 := by
  let base := hidT s1.heap H
  have free : ∀ {b : Addr} {o : Obj}, s1.heap.get? b = some o → (∀ items n, o.data ≠ .seq items n) → o.data ≠ .fields #[] → base.get? b = some o := fun {b o} e d1 d2 => by
    refine hidT_get e ?_
    by_cases q : b = T
    · rw [q, eT] at e
      cases e
      exact (d2 rfl).elim
    · rcases B.rest b q with z | ⟨o2, xs, items, n, _, _, e2, z⟩
      · exact z
      · rw [e] at e2
        cases e2
        exact (d1 _ _ z).elim
  have names : ∀ {b : Addr} {m : Str → Option Value}, s1.heap.Ns b m → base.Ns b m := fun z => by
    obtain ⟨o, es, ep, e, d, r⟩ := z
    exact ⟨o, es, ep, free e (fun _ _ y => by rw [d] at y; cases y) (fun y => by rw [d] at y; cases y), d, r⟩
  have hK : K.In base := fun b o e => by
    refine hidT_get (KX b o e) ?_
    by_cases q : b = T
    · rw [q, nT] at e
      cases e
    · rcases B.rest b q with z | ⟨o2, xs, items, n, _, z, _⟩
      · exact z
      · rw [e] at z
        cases z
  have lim : base.NoLimit := by
    obtain ⟨m, h1, h2⟩ := hlim
    exact ⟨m, names h1, h2⟩
  have TB : LamX.TabB base mg c T := by
    refine ⟨?_, ?_, fun z => ?_⟩
    · obtain ⟨o, us, file, tf, flags, tg, inF, text, tt, e1, p1, p2, p3, p4, p5, p6, p7, p8, p9⟩ := cT
      exact ⟨o, us, file, tf, flags, tg, inF, text, tt, free e1 (fun _ _ y => by rw [p2] at y; cases y) (fun y => by rw [p2] at y; cases y; simp at p3), p1, p2, p3, p4, p5, p6, p7, p8, p9⟩
    · obtain ⟨m, o, q1, q2, q3, q4, q5, q6⟩ := main
      refine ⟨m, o, q1, q2, fun y => ?_, fun y => ?_, free q3 (fun _ _ y => by rw [q6] at y; cases y) (fun y => by rw [q6] at y; cases y), q4, q5, q6⟩
      · obtain ⟨og, es, ep, e, d, _⟩ := hns
        rw [y, e] at q3
        cases q3
        rw [q6] at d
        cases d
      · rw [y, eT] at q3
        cases q3
        cases q6
    · obtain ⟨og, es, ep, e, d, _⟩ := hns
      rw [z, eT] at e
      cases e
      cases d
  have e0 : Env0 P w K mg base callerA [] s1 H :=
    { frames := rfl, mod := ⟨hK, names hns, ⟨mb, names hb, hbb⟩, lim⟩, bs := fun b o e => of_hidT e, bsz := Nat.le_of_eq (hidT_size _ _), funs := trivial, frf := fun b hb => (List.not_mem_nil hb).elim, hok := hok, bare := .of_eq hg }
  refine codeAny_mono (F base hK (names hns) TB callerA [] s1 H [.ref a] [.ref a] _ _ hr rfl e0 (.cons rfl .nil) hsp) fun r s' h => ?_
  cases r with
  | error e => exact False.elim h
  | ok fl =>
    cases fl with
    | next => exact False.elim h
    | brk => exact False.elim h
    | cont => exact False.elim h
    | ret u =>
      obtain ⟨v, H2, os, bare, un, ok2, rv, q⟩ := h
      subst q
      cases rv
      have still : ∀ b o, b ≠ T → s1.heap.get? b = some o → s'.heap.get? b = some o := fun b o nb e => by
        rcases B.rest b nb with z | ⟨o2, xs, items, n, z, _⟩
        · exact un.keep b o e z (fun y => List.not_mem_nil y) (fun y => List.not_mem_nil y)
        · have e1 := (hok b _ z).1
          have e2 := (ok2 b _ (un.frzs b o2 _ z)).1
          rw [e] at e1
          cases e1
          exact e2
      obtain ⟨more, z⟩ := un.tbls T #[] B.tab
      have wide := ok2 T _ z
      refine ⟨rfl, ⟨fun b o e => ?_, fun b o e => ?_⟩, os, bare⟩
      · by_cases q : b = T
        · subst q
          rw [eT] at e
          cases e
          exact .inr (.inl ⟨(cT.tab eT).isCodeTable, rfl, #[], _, rfl, by rw [Array.empty_append]; exact wide⟩)
        · exact .inl (still b o q e)
      · by_cases q : b = T
        · subst q
          exact ⟨_, wide⟩
        · exact ⟨o, still b o q e⟩
theorem end_callT (KX : K.In s1.heap) (hns : s1.heap.Ns mainGlobals mg) (hb : s1.heap.Ns builtinsNs mb) (hbb : ∀ x : Str, x ≠ "__name__" → mb x = bootBuiltins x) (hlim : s1.heap.NoLimit) (hg : s1.gens = #[]) (hr : Room k callerA)
    (eT : s1.heap.get? T = some tab0) (nT : K.lookup T = none) (cT : PySem.W.CodeHd s1.heap c T)
    (main : ∃ (m : Addr) (o : Obj), mg "__builtins__" = some (.ref m) ∧ m ≠ builtinsNs ∧ s1.heap.get? m = some o ∧ o.cls = .type "module" ∧ o.dict = some builtinsNs ∧ o.data = .plain)
    (ha : s1.heap.get? a = some { cls := .type "list", data := .seq vs.toArray }) (hi : IntsAre vs ns) (hl : ns.length ≤ sizeLine) (F : ∀ base : Heap, K.In base → base.Ns mainGlobals mg → LamX.TabB base mg c T → FnG P w K mg base CX0 k fa sp)
    (hsp : ∀ H : Hp, H T = some (.tbl #[]) → SqL K H a (ns.map V.int) → sp [.ref a] H (fun v _ => v = .bl true) fun _ _ _ => False) :
    codeAny (model P w) callerA (.call (.ref fa) ⟨[.ref a], []⟩) (fun r s' => r = .ok (.ret (.bool true)) ∧ OldK s1.heap s'.heap ∧ s'.os = s1.os ∧ AllBare s'.gens) s1 := by
  have rv := vals_ints hi
  have hl2 : (ns.map V.int).length ≤ sizeLine := by rw [List.length_map]; exact hl
  have naT : a ≠ T := fun z => by
    rw [z, eT] at ha
    cases ha
  cases hk : K.lookup a with
  | some o =>
    have e := KX a o hk
    rw [ha] at e
    cases e
    let H : Hp := fun b => if b = T then some (.tbl #[]) else none
    have HT : H T = some (.tbl #[]) := if_pos rfl
    have HN : ∀ b, b ≠ T → H b = none := fun b n => if_neg n
    refine end_fromT KX hns hb hbb hlim hg hr eT nT cT main F (H := H) ⟨HT, fun b n => .inl (HN b n)⟩ (fun b u z => ?_) (hsp H HT ?_)
    · by_cases q : b = T
      · subst q
        rw [HT] at z
        cases z
        exact eT
      · rw [HN b q] at z
        cases z
    · exact .inr ⟨_, vs.toArray, _, hk, rfl, rfl, rfl, by rw [List.size_toArray, hi.length]; exact hl, by simpa using rv⟩
  | none =>
    let o : Obj := { cls := .type "list", data := .seq vs.toArray }
    let H : Hp := fun b => if b = a then some (.frz o (.lst (ns.map V.int))) else if b = T then some (.tbl #[]) else none
    have HA : H a = some (.frz o (.lst (ns.map V.int))) := if_pos rfl
    have HT : H T = some (.tbl #[]) := by show (if T = a then _ else _) = _; rw [if_neg (Ne.symm naT), if_pos rfl]
    have HN : ∀ b, b ≠ a → b ≠ T → H b = none := fun b n n2 => by show (if b = a then _ else _) = _; rw [if_neg n, if_neg n2]
    refine end_fromT KX hns hb hbb hlim hg hr eT nT cT main F (H := H) ⟨HT, fun b n => ?_⟩ (fun b u z => ?_) (hsp H HT (.inl (.inr ⟨_, HA⟩)))
    · by_cases q : b = a
      · subst q
        exact .inr ⟨o, _, _, _, HA, hk, ha, rfl⟩
      · exact .inl (HN b q n)
    · by_cases q : b = a
      · subst q
        rw [HA] at z
        cases z
        exact ⟨ha, hl2, vs, _, rv, ha⟩
      · by_cases q2 : b = T
        · subst q2
          rw [HT] at z
          cases z
          exact eT
        · rw [HN b q q2] at z
          cases z
end
/-- what is to be known of the law's promise at the head's heap -/
def LawT (l : PySem.W.OpenLaw) (w : World) (K : PySem.W.Frag) (k n : Nat) (mg : Str → Option Value) (fa : Addr) (h : Heap) : Prop :=
  ∃ (c T : Addr) (sp : Sp), h.get? T = some tab0 ∧ K.lookup T = none ∧ PySem.W.CodeHd h c T ∧
    (∀ (H : Hp) (a : Addr) (ns : List Int), ns.length ≤ n → H T = some (.tbl #[]) → SqL K H a (ns.map V.int) → sp [.ref a] H (fun v _ => v = .bl true) fun _ _ _ => False) ∧
    ∀ base : Heap, K.In base → base.Ns mainGlobals mg → LamX.TabB base mg c T → FnG l.prog w K mg base CX0 k fa sp
theorem walk_ofTG {l : PySem.W.OpenLaw} {n k : Nat} {q : Program} {loose : List Str} {XP : (Str → Option Value) → Heap → Prop} {YP : World → Heap → Prop} {d : DefRec} {K : Params → PySem.W.Frag}
    (hn : l.most = some n) (hn2 : n ≤ sizeLine) (hdf : d.params.defaults = []) (hr : Room k callerA) (hY : ∀ (w : World) (h : Heap), YP w h → (K w.params).In h)
    (F : ∀ (w : World) (mg : Str → Option Value) (fa : Addr) (h : Heap), YP w h → (K w.params).In h → h.Ns mainGlobals mg → mg d.name = some (.ref fa) → LawT l w (K w.params) k n mg fa h) :
    PySem.W.WalkO q loose XP YP l.row.toRowW d [] (fun f vs => PySem.call f vs) := by
  refine Att.attach_call hn hdf fun w s0 s1 mg mb fa o pm cd doc a vs ns G Y ho hd hcd hmg hobj hints hlen hg => ?_
  have KX := hY w _ Y
  obtain ⟨c, T, sp, eT, nT, cT, hsp, hF⟩ := F w mg fa _ Y KX G.T.g hmg
  exact end_callT KX G.T.g G.T.b G.T.builtins G.T.nolimit hg hr eT nT cT G.T.bmain hobj hints (Nat.le_trans hlen hn2) hF fun H hH hS => hsp H a ns hlen hH hS
end Ow
end
section
set_option maxHeartbeats 4000000
/-! A law's def, its code told, called while nothing is being shown; what stays when a lambda is made. -/
namespace Ow
open PySem PySem.Spec PyProof.Rows L2 StX
section
variable {P : Program} {w : World} {K : PySem.W.Frag} {mg : Str → Option Value} {base : Heap} {x qual : Str} {st : Stmt} {f c : Addr}
theorem FnC.okG {N ps : List Str} {k : Nat} {sp : Sp} (F : FnC K x qual st f c) (S : FnScope N ps (defScope st))
    (hb : ∀ (kV doc pm : Value) (an : Option Addr) (cdv ct : Value) (us : List Value), us.length = ps.length → bindArgs (PySem.W.fnOf x qual (defArgs st) (defBody st) (defScope st) .none kV doc pm an cdv ct) ⟨us, []⟩ = pure (ps.zip us))
    (len : ∀ vs H Q E, sp vs H Q E → vs.length = ps.length)
    (hbody : ∀ (A : Around) (outer : List Env) (s : Shared) (H : Hp) (vs : List V) (Q : VK) (E : XK), Room k (A.deeper (envOfC qual (defScope st) s.heap.objs.size f (.ref c))) → A.guards = some [] → sp vs H Q E →
      ∃ t, PSs (cxOf CX0 P w K mg base N qual (defScope st) f (.ref c) A outer s H E).nox (defBody st) t ∧ t { nx := fun _ H' => Q .non H', rt := Q } (start N vs) H) : FnG P w K mg base CX0 (k + 1) f sp := by
  obtain ⟨oc, od, an, kV, doc, pm, ct, osl, lk, hcd⟩ := F
  intro A outer s H us vs Q E hr hg e0 r hs
  have hv := len _ _ _ _ hs
  refine LamX.run_ofS lk hcd S hr e0 (BindsTo.of_eq (hb kV doc pm an (.ref c) ct us (r.length.symm.trans hv))) r hv fun hr2 => ?_
  obtain ⟨t, h, q⟩ := hbody A outer s H vs Q E hr2 hg hs
  exact ⟨t, h.nox, q⟩
end
section
variable {K : PySem.W.Frag} {H H' : Hp} {v : V} {t : Value}
theorem TyOf.extN (h : TyOf K H v t) (m : LamX.ExtN H H') : TyOf K H' v t := by
  cases h with
  | non => exact .non
  | bl x => exact .bl x
  | int i => exact .int i
  | str x => exact .str x
  | flt x => exact .flt x
  | lst h => exact .lst (m _ _ h fun _ z => by cases z)
  | frz h => exact .frz (m _ _ h fun _ z => by cases z)
  | tup h => exact .tup (m _ _ h fun _ z => by cases z)
  | dK h => exact .dK (m _ _ h fun _ z => by cases z)
  | dT h => exact .dT (m _ _ h fun _ z => by cases z)
  | ins h c a b d e => exact .ins (m _ _ h fun _ z => by cases z) c a b d e
theorem TyX.extN (h : TyX K H v t) (m : LamX.ExtN H H') : TyX K H' v t := by
  cases h with
  | base h => exact .base (TyOf.extN h m)
  | byt b => exact .byt b
  | set h => exact .set (m _ _ h fun _ z => by cases z)
  | kList h c => exact .kList h c
  | kTuple h c => exact .kTuple h c
  | kDict h c => exact .kDict h c
  | fTuple h => exact .fTuple (m _ _ h fun _ z => by cases z)
  | fDict h => exact .fDict (m _ _ h fun _ z => by cases z)
theorem NoInt.extN (h : NoInt K H v) (m : LamX.ExtN H H') : NoInt K H' v := by
  rcases h with h | ⟨t, h, q⟩
  · exact .inl h
  · exact .inr ⟨t, TyX.extN h m, q⟩
end
end Ow
end
section
set_option maxHeartbeats 4000000
/-! A def with defaults: its promise as FnOk, by place and by keywords. -/
namespace Ow
open PySem PySem.Spec PyProof.Rows L2 StX
section
variable {P : Program} {w : World} {K : PySem.W.Frag} {mg : Str → Option Value} {base : Heap} {CX : CXT} {x qual : Str} {params : Arguments} {body : List Stmt} {scope : PySem.Scope} {dvs : List V} {f : Addr} {fd : FuncData} {ps : List Str} {k : Nat} {sp : Sp}
/-- n arguments by place, the defaults behind the first j fill up -/
theorem posR (F : FunD K x qual params body scope dvs [] f fd) (ok : FnOk P w K mg base CX k f fd ps sp) (n j : Nat) (hd : dvs ≠ []) (hn : n + (dvs.length - j) = ps.length)
    (hb : ∀ (T : Addr) (kV doc pm : Value) (an : Option Addr) (cdv ct : Value) (us its : List Value), us.length = n → its.length = dvs.length →
      ∃ k, bindArgs (PySem.W.fnOf x qual params body scope (.ref T) kV doc pm an cdv ct) ⟨us, []⟩ = seqItems? (.ref T) >>= k ∧ k (some its.toArray) = pure (ps.zip (us ++ its.drop j))) : FnR P w K mg base CX k f (fun vs H Q E => sp (vs ++ dvs.drop j) H Q E) := by
  obtain ⟨ds, hds, b⟩ := F.binds1 n j hd hn hb
  exact ok.raw b hds
end
end Ow
end
section
set_option maxHeartbeats 4000000
/-! An instance called by keywords alone; a def without defaults called by keywords; a def called without arguments. -/
namespace Ow
open PySem PySem.Spec PyProof.Rows L2 StX
section
variable {K : PySem.W.Frag} {x qual : Str} {params : Arguments} {body : List Stmt} {scope : PySem.Scope} {f : Addr} {fd : FuncData} {ps ks : List Str} {n : Nat} {g : List Value → List Value → List Value} {gV : List V → List V → List V}
/-- keywords at a def without defaults -/
theorem kbn0 (F : FunD K x qual params body scope [] [] f fd) (hrel : ∀ {vs zs : List V} {us ws : List Value}, Vals vs us → Vals zs ws → Vals (gV vs zs) (g us ws))
    (hb : ∀ (kV doc pm : Value) (an : Option Addr) (cdv ct : Value) (us ws : List Value), us.length = n → ws.length = ks.length → bindArgs (PySem.W.fnOf x qual params body scope .none kV doc pm an cdv ct) ⟨us, ks.zip ws⟩ = pure (ps.zip (g us ws))) : KBn K fd ps n ks g gV := by
  obtain ⟨oc, od, dV, kV, doc, pm, an, cdv, ct, osl, rfl, lk, hcd, hD, hK⟩ := F.ex
  rcases hD with ⟨_, rfl⟩ | ⟨e, _⟩
  · exact ⟨fun s us ws _ hu hw => BindsTo.of_eq (hb kV doc pm an cdv ct us ws hu hw), hrel⟩
  · exact absurd rfl e
end
theorem callKW_of {M : Model} {A : Around} {E : Value → Shared → Prop} {s : Shared} {a : Addr} {p : Pos} {Q : Value → Shared → Prop} {as : List (Bool × Sem Value)} {kws : List (Option Str × Sem Value)} (np : (as.any (·.1) || kws.any (·.1.isNone)) = false)
    (h : wpAny M A (evalArgs (.ref a) true as kws) (fun z s1 => (∃ C ox od, PySem.W.InstAt s1.heap a ox C od ∧ ox.data = .plain) ∧ wpAny M A (call (.ref a) z.pos z.kw) Q E s1) E s) : wpAny M A (callWith p (.ref a) [] as kws) Q E s := by
  unfold callWith
  refine wpAny_bind (wpAny_holding (wpAny_mono h (fun z s1 y => wpAny_bind (wpAny_standAt ?_)) fun _ _ e => e))
  obtain ⟨⟨C, ox, od, J, hd⟩, y⟩ := y
  simp only [np]
  refine wpAny_bind ((PySem.W.kco_keeper (M := M) J hd).here ?_)
  exact wpAny_bind (wpAny_mono (wpAny_operateT y) (fun r s2 hr => wpAny_bind (wpAny_holding (wpAny_point (wpAny_pure hr)))) fun _ _ e => e)
section
variable {X : Cx} {CX : CXT} {k n : Nat} {f C : Addr} {fd : FuncData} {ps ks : List Str} {sp : Sp} {E : XK} {x : Str} {p pos : Pos} {fe : Expr} {kws : List Keyword} {tf : TE} {tk : TA} {g : List Value → List Value → List Value} {gV : List V → List V → List V}
/-- o(k=e, ..): o an expression that gives an instance of C -/
def tCallOK (X : Cx) (C : Addr) (m : Nat) (sp : Sp) (gV : List V → List V → List V) (E : XK) (tf : TE) (tk : TA) : TE := fun σ H Q => tf σ H fun y H1 => ∃ a, y = V.ref a ∧ tk σ H1 fun zs H2 => zs.length = m ∧ InsC X H2 a C ∧ sp (gV [V.ref a] zs) H2 Q E
theorem pe_callOK (hf : PE X fe tf) (c : CallO X.K C f) (F : FnOk X.prog X.w X.K X.mg X.base CX k f fd ps sp) (hr : Room k X.A) (hb : KBn X.K fd ps 1 ks g gV) (hx : Passes CX X E) (hkw : PK X kws tk)
    (ht : eval (.Call fe [] kws pos) X.env = (do callWith pos (← eval fe X.env) [] (backTo pos (starEach [] X.env)) (backToKw pos (keywordEach kws X.env))) := by rfl)
    (hall : ((backToKw pos (keywordEach kws X.env)).all fun x => x.1.isSome) = true := by rfl) (hks : List.filterMap (fun x => x.1) (backToKw pos (keywordEach kws X.env)) = ks := by rfl)
    (hpl : (((backTo pos (starEach [] X.env)).any fun x => x.1) || (backToKw pos (keywordEach kws X.env)).any fun x => x.1.isNone) = false := by rfl) : PE X (.Call fe [] kws pos) (tCallOK X C ks.length sp gV E tf tk) := by
  refine ⟨fun pins s σ H Q I h => ?_⟩
  rw [ht]
  refine wpAny_bind (thn (hf.run pins s σ H _ I h) fun u s1 ⟨y, H1, I1, ry, a, ey, q⟩ => ?_)
  subst ey
  obtain rfl : u = Value.ref a := ry
  refine callKW_of hpl (evalArgs_kw2_nil hall (thn (hkw.run pos pins s1 σ H1 _ I1 q) fun ws s2 ⟨zs, H2, I2, rz, l2, hi, q2⟩ => ?_))
  obtain ⟨ox, od, J, hd⟩ := insC_at I2 hi
  refine ⟨⟨C, ox, od, J, hd⟩, ?_⟩
  rw [hks]
  have r1 : Vals [V.ref a] [Value.ref a] := .cons rfl .nil
  refine wpAny_call (PySem.W.kco_code I2.kIn J hd c.at_ c.fn c.fi (codeAny_mono (F.run X.A X.stack s2 H2 ⟨[.ref a], ks.zip ws⟩ (g [.ref a] ws) (gV [.ref a] zs) Q E hr I2.env0 (hb.to s2 [.ref a] ws I2.kIn rfl (rz.length.symm.trans l2)) (hb.rel r1 rz) q2) fun r s' hq => ?_))
  cases r with
  | error e => exact hx pins σ H2 s2 e s' I2 hq
  | ok fl =>
    cases fl with
    | ret u => exact I2.after hq
    | next => exact False.elim hq
    | brk => exact False.elim hq
    | cont => exact False.elim hq
/-- o(e, ..), told without the context (for a lambda's body) -/
def tCallOI (C : Addr) (sp : Sp) (E : XK) (tf : TE) (t : TA) : TE := fun σ H Q => tf σ H fun y H1 => ∃ a, y = V.ref a ∧ t σ H1 fun vs H2 => InsAt H2 a C ∧ sp (V.ref a :: vs) H2 Q E
theorem pe_callOI {g : Addr} {e : Expr} {es : List Expr} {t : TA} (hf : PE X fe tf) (c : CallO X.K C g) (F : FnR X.prog X.w X.K X.mg X.base CX k g sp) (hr : Room k X.A) (hx : Passes CX X E) (ha : PA X (e :: es) t)
    (ht : eval (.Call fe (e :: es) [] pos) X.env = (do callWith pos (← eval fe X.env) [] (backTo pos (starEach (e :: es) X.env)) (backToKw pos (keywordEach [] X.env))) := by rfl)
    (he : starEach (e :: es) X.env = (false, eval e X.env) :: starEach es X.env := by rfl) (hpl : (backTo pos (starEach es X.env)).any (·.1) = false := by rfl) : PE X (.Call fe (e :: es) [] pos) (tCallOI C sp E tf t) := by
  constructor
  intro pins s σ H Q I h
  rw [ht]
  refine wpAny_bind (thn (hf.run pins s σ H _ I h) fun u s1 z => ?_)
  obtain ⟨y, H1, I1, ry, a, rfl, q⟩ := z
  obtain rfl : u = Value.ref a := ry
  refine callO_with (thn (ha.run pos pins s1 σ H1 _ I1 q) fun us s2 z => ?_) he hpl
  obtain ⟨vs, H2, I2, r, ⟨dx, fs, hi⟩, q2⟩ := z
  have hc : InsC X H2 a C := .inr ⟨dx, fs, hi⟩
  obtain ⟨ox, od, J, hd⟩ := insC_at I2 hc
  exact ⟨⟨C, ox, od, J, hd⟩, run_callO c F hr hx I2 hc r q2⟩
end
end Ow
end
section
namespace Pf
open PySem PySem.Spec PyProof.Rows L2 Ow
def topS (i : Nat) : Stmt := PySem.Challenge.pw_heldfloods_k02_places_at_sizes.main.body.getD i (.Pass ⟨0, 0, 0, 0⟩)
abbrev s_BadPlace_init : Stmt := inClass (topS 2) 0
theorem sc_BadPlace_init : FnScope ["self", "part"] ["self", "part"] (defScope s_BadPlace_init) := ⟨rfl, rfl, rfl, by decide +kernel, rfl, by decide +kernel, by decide +kernel⟩
abbrev s_BadSize_init : Stmt := inClass (topS 3) 0
theorem sc_BadSize_init : FnScope ["self", "part"] ["self", "part"] (defScope s_BadSize_init) := ⟨rfl, rfl, rfl, by decide +kernel, rfl, by decide +kernel, by decide +kernel⟩
abbrev s_is_int : Stmt := topS 6
theorem sc_is_int : FnScope ["value"] ["value"] (defScope s_is_int) := ⟨rfl, rfl, rfl, by decide +kernel, rfl, by decide +kernel, by decide +kernel⟩
abbrev s_check_size : Stmt := topS 7
theorem sc_check_size : FnScope ["value", "part"] ["value", "part"] (defScope s_check_size) := ⟨rfl, rfl, rfl, by decide +kernel, rfl, by decide +kernel, by decide +kernel⟩
abbrev s_Place_init : Stmt := inClass (topS 11) 0
theorem sc_Place_init : FnScope ["self", "slope", "offset", "odd"] ["self", "slope", "offset", "odd"] (defScope s_Place_init) := ⟨rfl, rfl, rfl, by decide +kernel, rfl, by decide +kernel, by decide +kernel⟩
abbrev s_Place_slope : Stmt := inClass (topS 11) 1
theorem sc_Place_slope : FnScope ["self"] ["self"] (defScope s_Place_slope) := ⟨rfl, rfl, rfl, by decide +kernel, rfl, by decide +kernel, by decide +kernel⟩
abbrev s_Place_offset : Stmt := inClass (topS 11) 2
theorem sc_Place_offset : FnScope ["self"] ["self"] (defScope s_Place_offset) := ⟨rfl, rfl, rfl, by decide +kernel, rfl, by decide +kernel, by decide +kernel⟩
abbrev s_Place_odd : Stmt := inClass (topS 11) 3
theorem sc_Place_odd : FnScope ["self"] ["self"] (defScope s_Place_odd) := ⟨rfl, rfl, rfl, by decide +kernel, rfl, by decide +kernel, by decide +kernel⟩
abbrev s_Place_call : Stmt := inClass (topS 11) 4
theorem sc_Place_call : FnScope ["self", "size"] ["self", "size"] (defScope s_Place_call) := ⟨rfl, rfl, rfl, by decide +kernel, rfl, by decide +kernel, by decide +kernel⟩
abbrev s__law_heard : Stmt := topS 26
theorem sc__law_heard : FnScope ["_law_ask", "error"] ["_law_ask"] (defScope s__law_heard) := ⟨rfl, rfl, rfl, by decide +kernel, rfl, by decide +kernel, by decide +kernel⟩
abbrev s__law_bag : Stmt := topS 23
theorem sc__law_bag : FnScope ["_law_script", "_law_state", "_law_cell"] ["_law_script"] (defScope s__law_bag) := ⟨rfl, rfl, rfl, by decide +kernel, rfl, by decide +kernel, by decide +kernel⟩
abbrev s__law_draw : Stmt := topS 24
theorem sc__law_draw : FnScope ["_law_bag_here", "_law_limit", "_law_cell", "_law_mixed", "_law_found"] ["_law_bag_here", "_law_limit"] (defScope s__law_draw) := ⟨rfl, rfl, rfl, by decide +kernel, rfl, by decide +kernel, by decide +kernel⟩
abbrev s__law_at : Stmt := topS 25
theorem sc__law_at : FnScope ["_law_parts", "_law_wide", "_law_half"] ["_law_parts", "_law_wide"] (defScope s__law_at) := ⟨rfl, rfl, rfl, by decide +kernel, rfl, by decide +kernel, by decide +kernel⟩
abbrev s__law_number : Stmt := topS 27
theorem sc__law_number : FnScope ["_law_bag_here", "_law_some"] ["_law_bag_here"] (defScope s__law_number) := ⟨rfl, rfl, rfl, by decide +kernel, rfl, by decide +kernel, by decide +kernel⟩
abbrev s__law_odd : Stmt := topS 28
theorem sc__law_odd : FnScope ["_law_bag_here", "_law_some"] ["_law_bag_here"] (defScope s__law_odd) := ⟨rfl, rfl, rfl, by decide +kernel, rfl, by decide +kernel, by decide +kernel⟩
abbrev s_from_left : Stmt := topS 12
theorem sc_from_left : FnScope ["k"] ["k"] (defScope s_from_left) := ⟨rfl, rfl, rfl, by decide +kernel, rfl, by decide +kernel, by decide +kernel⟩
abbrev s_from_right : Stmt := topS 13
theorem sc_from_right : FnScope ["k"] ["k"] (defScope s_from_right) := ⟨rfl, rfl, rfl, by decide +kernel, rfl, by decide +kernel, by decide +kernel⟩
abbrev s_from_middle : Stmt := topS 14
theorem sc_from_middle : FnScope ["k"] ["k"] (defScope s_from_middle) := ⟨rfl, rfl, rfl, by decide +kernel, rfl, by decide +kernel, by decide +kernel⟩
abbrev s_parts_of : Stmt := topS 16
theorem sc_parts_of : FnScope ["place"] ["place"] (defScope s_parts_of) := ⟨rfl, rfl, rfl, by decide +kernel, rfl, by decide +kernel, by decide +kernel⟩
abbrev s_Place_eq : Stmt := inClass (topS 11) 9
theorem sc_Place_eq : FnScope ["self", "other"] ["self", "other"] (defScope s_Place_eq) := ⟨rfl, rfl, rfl, by decide +kernel, rfl, by decide +kernel, by decide +kernel⟩
abbrev s__law_sorts_right : Stmt := topS 29
theorem sc__law_sorts_right : FnScope ["_law_far", "_law_found", "_law_due", "_law_one"] ["_law_far"] (defScope s__law_sorts_right) := ⟨rfl, rfl, rfl, by decide +kernel, rfl, by decide +kernel, by decide +kernel⟩
abbrev s_law : Stmt := topS 30
theorem sc_law : FnScope ["_law_script", "_law_bag_here", "_law_turn", "_law_parts", "_law_twin", "_law_wide", "_law_at_here", "_law_more", "_law_due", "_law_heard_here", "_law_made", "_law_thing", "_law_value", "_law_wrong"] ["_law_script"] (defScope s_law) := ⟨rfl, rfl, rfl, by decide +kernel, rfl, by decide +kernel, by decide +kernel⟩
structure Adr where
  BadPlace_init : Addr
  BadSize_init : Addr
  is_int : Addr
  check_size : Addr
  Place_init : Addr
  Place_slope : Addr
  Place_offset : Addr
  Place_odd : Addr
  Place_call : Addr
  _law_heard : Addr
  _law_bag : Addr
  _law_draw : Addr
  _law_at : Addr
  _law_number : Addr
  _law_odd : Addr
  from_left : Addr
  from_right : Addr
  from_middle : Addr
  parts_of : Addr
  Place_eq : Addr
  _law_sorts_right : Addr
  law : Addr
  Place : Addr
  pr_Place_slope : Addr
  pr_Place_offset : Addr
  pr_Place_odd : Addr
  BadPlace : Addr
  BadSize : Addr
  HoldError : Addr
structure Txt (K : PySem.W.Frag) (mg : Str → Option Value) (a : Adr) : Prop where
  n_len : mg "len" = none
  n_int : mg "int" = none
  n_abs : mg "abs" = none
  n_list : mg "list" = none
  n_isinstance : mg "isinstance" = none
  n_bool : mg "bool" = none
  n_range : mg "range" = none
  n_repr : mg "repr" = none
  n_tuple : mg "tuple" = none
  n_min : mg "min" = none
  d_BadPlace_init : FnT K "__init__" "BadPlace.__init__" s_BadPlace_init [] a.BadPlace_init
  d_BadSize_init : FnT K "__init__" "BadSize.__init__" s_BadSize_init [] a.BadSize_init
  d_is_int : FnT K "is_int" "is_int" s_is_int [] a.is_int
  m_is_int : mg "is_int" = some (.ref a.is_int)
  k_is_int : PySem.W.keepIn K (.ref a.is_int) = true
  d_check_size : FnT K "check_size" "check_size" s_check_size [] a.check_size
  m_check_size : mg "check_size" = some (.ref a.check_size)
  k_check_size : PySem.W.keepIn K (.ref a.check_size) = true
  d_Place_init : FnT K "__init__" "Place.__init__" s_Place_init [.int 0] a.Place_init
  d_Place_slope : FnT K "slope" "Place.slope" s_Place_slope [] a.Place_slope
  d_Place_offset : FnT K "offset" "Place.offset" s_Place_offset [] a.Place_offset
  d_Place_odd : FnT K "odd" "Place.odd" s_Place_odd [] a.Place_odd
  d_Place_call : FnT K "__call__" "Place.__call__" s_Place_call [] a.Place_call
  d__law_heard : FnT K "_law_heard" "_law_heard" s__law_heard [] a._law_heard
  m__law_heard : mg "_law_heard" = some (.ref a._law_heard)
  k__law_heard : PySem.W.keepIn K (.ref a._law_heard) = true
  d__law_bag : FnT K "_law_bag" "_law_bag" s__law_bag [] a._law_bag
  m__law_bag : mg "_law_bag" = some (.ref a._law_bag)
  k__law_bag : PySem.W.keepIn K (.ref a._law_bag) = true
  d__law_draw : FnT K "_law_draw" "_law_draw" s__law_draw [] a._law_draw
  m__law_draw : mg "_law_draw" = some (.ref a._law_draw)
  k__law_draw : PySem.W.keepIn K (.ref a._law_draw) = true
  d__law_at : FnT K "_law_at" "_law_at" s__law_at [] a._law_at
  m__law_at : mg "_law_at" = some (.ref a._law_at)
  k__law_at : PySem.W.keepIn K (.ref a._law_at) = true
  d__law_number : FnT K "_law_number" "_law_number" s__law_number [] a._law_number
  m__law_number : mg "_law_number" = some (.ref a._law_number)
  k__law_number : PySem.W.keepIn K (.ref a._law_number) = true
  d__law_odd : FnT K "_law_odd" "_law_odd" s__law_odd [] a._law_odd
  m__law_odd : mg "_law_odd" = some (.ref a._law_odd)
  k__law_odd : PySem.W.keepIn K (.ref a._law_odd) = true
  d_from_left : FnT K "from_left" "from_left" s_from_left [.int 0] a.from_left
  m_from_left : mg "from_left" = some (.ref a.from_left)
  k_from_left : PySem.W.keepIn K (.ref a.from_left) = true
  d_from_right : FnT K "from_right" "from_right" s_from_right [.int 0] a.from_right
  m_from_right : mg "from_right" = some (.ref a.from_right)
  k_from_right : PySem.W.keepIn K (.ref a.from_right) = true
  d_from_middle : FnT K "from_middle" "from_middle" s_from_middle [.int 0] a.from_middle
  m_from_middle : mg "from_middle" = some (.ref a.from_middle)
  k_from_middle : PySem.W.keepIn K (.ref a.from_middle) = true
  d_parts_of : FnT K "parts_of" "parts_of" s_parts_of [] a.parts_of
  m_parts_of : mg "parts_of" = some (.ref a.parts_of)
  k_parts_of : PySem.W.keepIn K (.ref a.parts_of) = true
  d_Place_eq : FnT K "__eq__" "Place.__eq__" s_Place_eq [] a.Place_eq
  d__law_sorts_right : FnT K "_law_sorts_right" "_law_sorts_right" s__law_sorts_right [] a._law_sorts_right
  m__law_sorts_right : mg "_law_sorts_right" = some (.ref a._law_sorts_right)
  k__law_sorts_right : PySem.W.keepIn K (.ref a._law_sorts_right) = true
  d_law : FnT K "law" "law" s_law [] a.law
  m_law : mg "law" = some (.ref a.law)
  k_law : PySem.W.keepIn K (.ref a.law) = true
  m_Place : mg "Place" = some (.ref a.Place)
  c_Place : ClsF K a.Place
  M_Place : Mk K a.Place a.Place_init
  a_Place__slope : NoAttr K a.Place "_slope"
  a_Place__offset : NoAttr K a.Place "_offset"
  a_Place__odd : NoAttr K a.Place "_odd"
  p_Place_slope : PropR K a.Place "slope" a.pr_Place_slope a.Place_slope
  p_Place_offset : PropR K a.Place "offset" a.pr_Place_offset a.Place_offset
  p_Place_odd : PropR K a.Place "odd" a.pr_Place_odd a.Place_odd
  o_Place_eq : PySem.W.findIn K (.ref a.Place) "__eq__" = some (some (.ref a.Place_eq))
  f_Place_eq : PySem.W.isFn K (.ref a.Place_eq) = true
  o_Place_call : PySem.W.findIn K (.ref a.Place) "__call__" = some (some (.ref a.Place_call))
  f_Place_call : PySem.W.isFn K (.ref a.Place_call) = true
  s_Place_not : PySem.W.notFirst K a.Place (.ref a.Place) = true
  s_Place_obj : PySem.W.subIn K (.ref a.Place) (.type "object") = some true
  o_ne : PySem.W.findIn K (.ref a.Place) "__ne__" = some (some (.builtin "object.__ne__"))
  s_Place_int : PySem.W.subIn K (.type "int") (.ref a.Place) = some false
  s_Place_tuple : PySem.W.subIn K (.type "tuple") (.ref a.Place) = some false
  fi_Place_call : PySem.W.fnIn K a.Place_call = true
  s_Place_first : PySem.W.selfFirst K a.Place = true
  m_HoldError : mg "HoldError" = some (.ref a.HoldError)
  xf_BadPlace : XfC K a.BadPlace
  xc_BadPlace : ExcC K a.BadPlace
  xi_BadPlace : (PySem.W.clsIn K a.BadPlace).isSome = true
  xt_BadPlace : PySem.W.typeIn K (.ref a.BadPlace) = some (.type "type")
  xm_BadPlace_HoldError : PySem.W.exmOne K (.ref a.BadPlace) (.ref a.HoldError) = some true
  xs_BadPlace_BadSize : PySem.W.subIn K (.ref a.BadPlace) (.ref a.BadSize) = some false
  xn_BadPlace_BadSize : ((.ref a.BadPlace : Value) == .ref a.BadSize) = false
  xf_BadSize : XfC K a.BadSize
  xc_BadSize : ExcC K a.BadSize
  xi_BadSize : (PySem.W.clsIn K a.BadSize).isSome = true
  xt_BadSize : PySem.W.typeIn K (.ref a.BadSize) = some (.type "type")
  xm_BadSize_HoldError : PySem.W.exmOne K (.ref a.BadSize) (.ref a.HoldError) = some true
  xs_BadSize_BadPlace : PySem.W.subIn K (.ref a.BadSize) (.ref a.BadPlace) = some false
  xn_BadSize_BadPlace : ((.ref a.BadSize : Value) == .ref a.BadPlace) = false
  m_BadPlace : mg "BadPlace" = some (.ref a.BadPlace)
  e_BadPlace : ErrF K a.BadPlace a.BadPlace_init
  a_BadPlace_part : PySem.W.findIn K (.ref a.BadPlace) "part" = some none
  m_BadSize : mg "BadSize" = some (.ref a.BadSize)
  e_BadSize : ErrF K a.BadSize a.BadSize_init
  a_BadSize_part : PySem.W.findIn K (.ref a.BadSize) "part" = some none
/-! ### the bag of draws -/
/-- the pairs of a bag: its cells' list at c, where it stands, what rests, its state -/
def bagK (c : Addr) (i r st : Int) : List (Key × V) := [(Sum.inr "cells", V.ref c), (Sum.inr "at", V.int i), (Sum.inr "rest", V.int r), (Sum.inr "state", V.int st)]
theorem bagK_len (c : Addr) (i r st : Int) : (bagK c i r st).length < sizeLine := Nat.lt_of_le_of_lt (show 4 ≤ 4 from Nat.le_refl 4) (by decide +kernel)
theorem kAC : ¬ (("cells" : Str) = "at") := by decide +kernel
theorem kRC : ¬ (("cells" : Str) = "rest") := by decide +kernel
theorem kSC : ¬ (("cells" : Str) = "state") := by decide +kernel
theorem kAR : ¬ (("at" : Str) = "rest") := by decide +kernel
theorem kAS : ¬ (("at" : Str) = "state") := by decide +kernel
theorem kRS : ¬ (("rest" : Str) = "state") := by decide +kernel
theorem inr_ne {x y : Str} (h : ¬ x = y) : ¬ ((Sum.inr x : Key) = Sum.inr y) := fun e => h (Sum.inr.inj e)
theorem bag_cells (c : Addr) (i r st : Int) : valV (bagK c i r st) (Sum.inr "cells") = some (V.ref c) := valV_pos rfl
theorem bag_at (c : Addr) (i r st : Int) : valV (bagK c i r st) (Sum.inr "at") = some (V.int i) := (valV_neg (inr_ne kAC)).trans (valV_pos rfl)
theorem bag_rest (c : Addr) (i r st : Int) : valV (bagK c i r st) (Sum.inr "rest") = some (V.int r) := (valV_neg (inr_ne kRC)).trans ((valV_neg (inr_ne kAR)).trans (valV_pos rfl))
theorem bag_state (c : Addr) (i r st : Int) : valV (bagK c i r st) (Sum.inr "state") = some (V.int st) := (valV_neg (inr_ne kSC)).trans ((valV_neg (inr_ne kAS)).trans ((valV_neg (inr_ne kRS)).trans (valV_pos rfl)))
theorem put_at (c : Addr) (i r st j : Int) : putK (bagK c i r st) (Sum.inr "at") (V.int j) = bagK c j r st := by
  have e1 : ¬ ((Sum.inr ("cells" : Str) : Key) = Sum.inr ("at" : Str)) := inr_ne kAC
  have e2 : ¬ ((Sum.inr ("rest" : Str) : Key) = Sum.inr ("at" : Str)) := inr_ne fun z => kAR z.symm
  have e3 : ¬ ((Sum.inr ("state" : Str) : Key) = Sum.inr ("at" : Str)) := inr_ne fun z => kAS z.symm
  unfold putK bagK
  simp [e1, e2, e3]
theorem put_rest (c : Addr) (i r st j : Int) : putK (bagK c i r st) (Sum.inr "rest") (V.int j) = bagK c i j st := by
  have e1 : ¬ ((Sum.inr ("cells" : Str) : Key) = Sum.inr ("rest" : Str)) := inr_ne kRC
  have e2 : ¬ ((Sum.inr ("at" : Str) : Key) = Sum.inr ("rest" : Str)) := inr_ne kAR
  have e3 : ¬ ((Sum.inr ("state" : Str) : Key) = Sum.inr ("rest" : Str)) := inr_ne fun z => kRS z.symm
  unfold putK bagK
  simp [e1, e2, e3]
theorem put_state (c : Addr) (i r st j : Int) : putK (bagK c i r st) (Sum.inr "state") (V.int j) = bagK c i r j := by
  have e1 : ¬ ((Sum.inr ("cells" : Str) : Key) = Sum.inr ("state" : Str)) := inr_ne kSC
  have e2 : ¬ ((Sum.inr ("at" : Str) : Key) = Sum.inr ("state" : Str)) := inr_ne kAS
  have e3 : ¬ ((Sum.inr ("rest" : Str) : Key) = Sum.inr ("state" : Str)) := inr_ne kRS
  unfold putK bagK
  simp [e1, e2, e3]
theorem merge_bag (c : Addr) (i r st : Int) : mergeK [] (bagK c i r st) = bagK c i r st := by
  have e1 : ¬ ((Sum.inr ("cells" : Str) : Key) = Sum.inr ("at" : Str)) := inr_ne kAC
  have e2 : ¬ ((Sum.inr ("cells" : Str) : Key) = Sum.inr ("rest" : Str)) := inr_ne kRC
  have e3 : ¬ ((Sum.inr ("cells" : Str) : Key) = Sum.inr ("state" : Str)) := inr_ne kSC
  have e4 : ¬ ((Sum.inr ("at" : Str) : Key) = Sum.inr ("rest" : Str)) := inr_ne kAR
  have e5 : ¬ ((Sum.inr ("at" : Str) : Key) = Sum.inr ("state" : Str)) := inr_ne kAS
  have e6 : ¬ ((Sum.inr ("rest" : Str) : Key) = Sum.inr ("state" : Str)) := inr_ne kRS
  unfold mergeK bagK putK
  simp [e1, e2, e3, e4, e5, e6]
/-- what holds of a bag at d whose cells stand at c -/
structure BagN (c : Addr) (ns : List Int) (i : Nat) (r st : Int) : Prop where
  hi : i ≤ ns.length
  r0 : 0 ≤ r
  s0 : 0 ≤ st
  s1 : st < 2147483647
def BagIs (o : HO) (c : Addr) (ns : List Int) : Prop := ∃ (i : Nat) (r st : Int), o = .dK (bagK c i r st) ∧ BagN c ns i r st
/-- a bag stands at d -/
def Bag (H : Hp) (d : Addr) : Prop := ∃ (c : Addr) (ns : List Int) (o : HO), H d = some o ∧ BagIs o c ns ∧ H c = some (.lst (ns.map V.int)) ∧ ns.length ≤ 63
theorem Bag.ne {H : Hp} {d b : Addr} {o : HO} (B : Bag H d) (h : H b = some o) (n : ∀ kvs, o ≠ .dK kvs) : b ≠ d := by
  obtain ⟨c, ns, o', hd, ⟨i, r, st, e, _⟩, _⟩ := B
  subst e
  exact ne_of h hd (n _)
theorem Bag.same {H H' : Hp} {d : Addr} (B : Bag H d) (s : Same H H') : Bag H' d := by
  obtain ⟨c, ns, o, hd, bi, hc, hl⟩ := B
  exact ⟨c, ns, o, s _ _ hd, bi, s _ _ hc, hl⟩
theorem Bag.there {H : Hp} {d : Addr} (B : Bag H d) : ∃ o, H d = some o := by
  obtain ⟨c, ns, o, hd, _⟩ := B
  exact ⟨o, hd⟩
theorem upd_self {H : Hp} {a : Addr} {o : HO} (h : H a = some o) : upd H a o = H := by
  funext b
  by_cases e : b = a
  · subst e; rw [upd_same, h]
  · rw [upd_ne e]
/-- draw: an int below the limit, the bag goes on, nothing else is touched -/
def spDraw : Sp := fun vs H Q _ => ∃ (d : Addr) (n : Int), vs = [.ref d, .int n] ∧ Bag H d ∧ 0 < n ∧ n < 1073741824 ∧
  ∀ (z : Int) (o : HO), 0 ≤ z → z < n → Bag (upd H d o) d → Q (.int z) (upd H d o)
/-- the bag's cells stand at c -/
def CellsAt (H : Hp) (d c : Addr) : Prop := ∃ (i : Nat) (r st : Int), H d = some (.dK (bagK c i r st))
theorem cells_one {H : Hp} {d c c' : Addr} (h : CellsAt H d c) (h' : CellsAt H d c') : c = c' := by
  obtain ⟨i, r, st, e⟩ := h
  obtain ⟨i', r', st', e'⟩ := h'
  rw [e] at e'
  have q : bagK c i r st = bagK c' i' r' st' := by injection e' with q; injection q
  have a := bag_cells c i r st
  rw [q, bag_cells] at a
  injection a with a
  injection a with a
  exact a.symm
theorem CellsAt.same {H H' : Hp} {d c : Addr} (h : CellsAt H d c) (s : Same H H') : CellsAt H' d c := by
  obtain ⟨i, r, st, e⟩ := h
  exact ⟨i, r, st, s _ _ e⟩
/-- draw, told with the cells -/
def spDrawC : Sp := fun vs H Q _ => ∃ (d : Addr) (n : Int), vs = [.ref d, .int n] ∧ Bag H d ∧ 0 < n ∧ n < 1073741824 ∧
  ∀ (z : Int) (o : HO), 0 ≤ z → z < n → Bag (upd H d o) d → (∀ c, CellsAt H d c → CellsAt (upd H d o) d c) → Q (.int z) (upd H d o)
theorem dg_cells {H : Hp} {d c : Addr} {i r st : Int} (h : H d = some (.dK (bagK c i r st))) : DGet H d (.str "cells") (some (.ref c)) := .inl ⟨_, Sum.inr "cells", .inl h, rfl, (bag_cells c i r st).symm⟩
theorem dg_at {H : Hp} {d c : Addr} {i r st : Int} (h : H d = some (.dK (bagK c i r st))) : DGet H d (.str "at") (some (.int i)) := .inl ⟨_, Sum.inr "at", .inl h, rfl, (bag_at c i r st).symm⟩
theorem dg_rest {H : Hp} {d c : Addr} {i r st : Int} (h : H d = some (.dK (bagK c i r st))) : DGet H d (.str "rest") (some (.int r)) := .inl ⟨_, Sum.inr "rest", .inl h, rfl, (bag_rest c i r st).symm⟩
theorem dg_state {H : Hp} {d c : Addr} {i r st : Int} (h : H d = some (.dK (bagK c i r st))) : DGet H d (.str "state") (some (.int st)) := .inl ⟨_, Sum.inr "state", .inl h, rfl, (bag_state c i r st).symm⟩
theorem dp_at {H : Hp} {d c : Addr} {i r st : Int} (j : Int) (h : H d = some (.dK (bagK c i r st))) : DPut H d (.str "at") (.int j) (upd H d (.dK (bagK c j r st))) := by
  have := DPut.k (k := Sum.inr "at") (v := V.int j) h (bagK_len c i r st)
  rw [put_at] at this
  exact this
theorem dp_rest {H : Hp} {d c : Addr} {i r st : Int} (j : Int) (h : H d = some (.dK (bagK c i r st))) : DPut H d (.str "rest") (.int j) (upd H d (.dK (bagK c i j st))) := by
  have := DPut.k (k := Sum.inr "rest") (v := V.int j) h (bagK_len c i r st)
  rw [put_rest] at this
  exact this
theorem dp_state {H : Hp} {d c : Addr} {i r st : Int} (j : Int) (h : H d = some (.dK (bagK c i r st))) : DPut H d (.str "state") (.int j) (upd H d (.dK (bagK c i r j))) := by
  have := DPut.k (k := Sum.inr "state") (v := V.int j) h (bagK_len c i r st)
  rw [put_state] at this
  exact this
theorem while_inv {c : TT} {tb : TS} {D : Ends} {σ : L2.St} {H : Hp} (W : Nat → L2.St → Hp → Prop) (h0 : ∃ m, W m σ H) (hexit : ∀ m σ H, W m σ H → D.nx σ H)
    (hturn : (∀ m σ H, W m σ H → D.nx σ H) → ∀ m σ H, W m σ H → c σ H fun b H1 => if b = true then ∃ N : L2.St → Hp → Prop, (∀ σ' H', N σ' H' → ∃ m', m' < m ∧ W m' σ' H') ∧ tb { D with nx := N, ct := N, bk := D.nx } σ H1 else D.nx σ H1) : tWhile c tb D σ H :=
  ⟨W, h0, hturn hexit⟩
section
variable {P : Program} {w : World} {K : PySem.W.Frag} {mg : Str → Option Value} {base : Heap} {a : Adr}
set_option maxHeartbeats 4000000
theorem ok_drawC (T : Txt K mg a) : FnR P w K mg base CX0 1 a._law_draw spDrawC := by
  refine T.d__law_draw.ok sc__law_draw (fun _ _ _ _ _ _ us hl => match us, hl with | [_, _], _ => rfl) (fun vs H Q E h => ?_) (fun cdv A outer s H vs Q E hr h => ?_)
  · obtain ⟨d, n, rfl, _⟩ := h
    rfl
  · obtain ⟨d, n, rfl, B, hn, hn2, k⟩ := h
    have hu := hu_of hr
    have pos1 : (0 : Int) < 2147483647 := by decide
    have pos2 : (0 : Int) < 2147483629 := by decide
    refine ⟨_, (pss_cons (ps_while PassesOwn.never (PW.pt (pw_and (pt_cmpR op_lt (pe_dget hu (pv 0) pe_str (fun _ _ => rfl)) pe_int (nomark _)) (pw_and1 (pt_cmpR op_lt (pe_dget hu (pv 0) pe_str (fun _ _ => rfl)) (pe_callB call_len_seq (by rfl) T.n_len (by decide +kernel) (pa_cons (pe_dget hu (pv 0) pe_str (fun _ _ => rfl)) pa_nil)) (nomark _)))))
          (pss_cons (ps_set (i := 2) sc__law_draw.nd rfl (Or.inl rfl) (pe_callB call_abs (by rfl) T.n_abs (by decide +kernel) (pa_cons (pe_ix ix_list (pe_dget hu (pv 0) pe_str (fun _ _ => rfl)) (pe_dget hu (pv 0) pe_str (fun _ _ => rfl)) (fun _ _ => rfl)) pa_nil)))
          (pss_cons (ps_dput hu (pv 0) pe_str (pe_op op_add (pe_dget hu (pv 0) pe_str (fun _ _ => rfl)) pe_int) rfl)
          (pss_cons (ps_if (pt_cmpR op_lt (pv 2) (pe_op op_pow pe_int pe_int) (nomark _))
              (pss_cons (ps_set (i := 3) sc__law_draw.nd rfl (Or.inl rfl) (pe_op op_mod (pe_callTy call_int1 (by rfl) T.n_int (by decide +kernel) (pa_cons (pe_op op_add (pe_op op_pow (pe_op op_add (pv 2) pe_int) pe_int) (pe_op op_mul (pe_dget hu (pv 0) pe_str (fun _ _ => rfl)) (pe_op op_add (pe_dget hu (pv 0) pe_str (fun _ _ => rfl)) pe_int))) pa_nil)) pe_int))
              (pss_one (ps_ret (pe_op op_mod (pv 3) (pv 1)))))
              pss_nil)
          (pss_one (ps_dput hu (pv 0) pe_str (pv 2) rfl))))))
      (pss_cons (ps_if (pt_cmpR op_ge (pe_dget hu (pv 0) pe_str (fun _ _ => rfl)) pe_int (nomark _))
          (pss_cons (ps_set (i := 4) sc__law_draw.nd rfl (Or.inl rfl) (pe_op op_mod (pe_callTy call_int1 (by rfl) T.n_int (by decide +kernel) (pa_cons (pe_dget hu (pv 0) pe_str (fun _ _ => rfl)) pa_nil)) (pv 1)))
          (pss_cons (ps_dput hu (pv 0) pe_str (pe_op op_fdiv (pe_dget hu (pv 0) pe_str (fun _ _ => rfl)) (pv 1)) rfl)
          (pss_one (ps_ret (pv 4)))))
          pss_nil)
      (pss_cons (ps_dput hu (pv 0) pe_str (pe_op op_mod (pe_callTy call_int1 (by rfl) T.n_int (by decide +kernel) (pa_cons (pe_op op_add (pe_op op_mul (pe_dget hu (pv 0) pe_str (fun _ _ => rfl)) pe_int) pe_int) pa_nil)) pe_int) rfl)
      (pss_one (ps_ret (pe_op op_mod (pe_op op_mod (pe_callTy call_int1 (by rfl) T.n_int (by decide +kernel) (pa_cons (pe_op op_pow (pe_dget hu (pv 0) pe_str (fun _ _ => rfl)) pe_int) pa_nil)) pe_int) (pv 1))))))), ?_⟩
    obtain ⟨c, ns, o, hd, ⟨i0, r0, st0, eo, N0⟩, hc, hns⟩ := B
    subst eo
    have hcd : c ≠ d := ne_of hc hd (fun z => by cases z)
    have bagU : ∀ (i : Nat) (r st : Int), BagN c ns i r st → Bag (upd H d (.dK (bagK c i r st))) d := fun i r st N =>
      ⟨c, ns, _, upd_same, ⟨i, r, st, rfl, N⟩, by rw [upd_ne hcd]; exact hc, hns⟩
    have kk : ∀ (z : Int) (i : Nat) (r st : Int), 0 ≤ z → z < n → BagN c ns i r st → Q (.int z) (upd H d (.dK (bagK c i r st))) := fun z i r st h0 h1 N => k z _ h0 h1 (bagU i r st N) fun c' hc' => by
      rw [cells_one hc' ⟨i0, r0, st0, hd⟩]
      exact ⟨i, r, st, upd_same⟩
    refine while_inv (fun m σ H' => ∃ (i : Nat) (r st : Int) (v2 v3 v4 : Option V), m = ns.length - i ∧ σ = [some (.ref d), some (.int n), v2, v3, v4] ∧ H' = upd H d (.dK (bagK c i r st)) ∧ BagN c ns i r st)
      ⟨_, i0, r0, st0, _, _, _, rfl, rfl, (upd_self hd).symm, N0⟩ ?_ ?_
    · -- behind the loop
      rintro m σ H' ⟨i, r, st, v2, v3, v4, _, rfl, rfl, N⟩
      refine ⟨_, rfl, d, _, rfl, dg_rest upd_same, _, _, rfl, rfl, _, rfl, ?_⟩
      refine ite2 (fun hb => ?_) (fun hb => ?_)
      · have h2 : 2 ≤ r := of_decide_eq_true hb
        refine ⟨_, rfl, d, _, rfl, dg_rest upd_same, .inl ⟨_, rfl, _, rfl, _, _, rfl, rfl, hn, ?_⟩⟩
        refine ⟨_, rfl, d, _, rfl, dg_rest upd_same, _, rfl, _, _, rfl, rfl, ⟨hn, hn2⟩, _, rfl, d, _, rfl, dp_rest _ upd_same, ?_⟩
        rw [upd_upd]
        refine ⟨_, rfl, kk _ i _ st (Int.emod_nonneg _ (by omega)) (Int.emod_lt_of_pos _ hn) ⟨N.hi, Int.ediv_nonneg N.r0 (by omega), N.s0, N.s1⟩⟩
      · have s64 : (-(2 ^ 64) < st ∧ st < 2 ^ 64) := ⟨by have := N.s0; omega, by have := N.s1; omega⟩
        refine ⟨_, rfl, d, _, rfl, dg_state upd_same, _, _, rfl, rfl, .inl s64, _, _, rfl, rfl, .inl ⟨_, rfl, _, _, rfl, rfl, pos1, _, rfl, d, _, rfl, dp_state _ upd_same, ?_⟩⟩
        rw [upd_upd]
        have t0 : 0 ≤ (st * 48271 + 13) % 2147483647 := Int.emod_nonneg _ (by decide)
        have t1 : (st * 48271 + 13) % 2147483647 < 2147483647 := Int.emod_lt_of_pos _ (by decide)
        refine ⟨_, rfl, d, _, rfl, dg_state upd_same, _, _, rfl, rfl, ⟨by decide, by decide, by omega⟩, .inl ⟨_, rfl, _, _, rfl, rfl, pos2, _, rfl, _, _, rfl, rfl, hn, ?_⟩⟩
        exact kk _ i _ _ (Int.emod_nonneg _ (by omega)) (Int.emod_lt_of_pos _ hn) ⟨N.hi, N.r0, t0, t1⟩
    · rintro ex m σ H' ⟨i, r, st, v2, v3, v4, rfl, rfl, rfl, N⟩
      have hc' : ∀ o, (upd H d o) c = some (.lst (ns.map V.int)) := fun o => by rw [upd_ne hcd]; exact hc
      refine ⟨_, rfl, d, _, rfl, dg_rest upd_same, _, _, rfl, rfl, _, rfl, ?_⟩
      refine ite2 (fun hb => ?_) (fun hb => iteF (ex _ _ _ ⟨i, r, st, v2, v3, v4, rfl, rfl, rfl, N⟩))
      refine ⟨_, rfl, d, _, rfl, dg_at upd_same, _, rfl, d, _, rfl, dg_cells upd_same, c, _, rfl, .inl (SqL.of (hc' _)), _, _, rfl, rfl, _, rfl, ?_⟩
      refine ite2 (fun hb2 => ?_) (fun hb2 => ex _ _ _ ⟨i, r, st, v2, v3, v4, rfl, rfl, rfl, N⟩)
      have hil : i < ns.length := by
        have := of_decide_eq_true hb2
        rw [List.length_map] at this
        omega
      refine ⟨fun σ' H' => ∃ m', m' < ns.length - i ∧ ∃ (i : Nat) (r st : Int) (v2 v3 v4 : Option V), m' = ns.length - i ∧ σ' = [some (.ref d), some (.int n), v2, v3, v4] ∧ H' = upd H d (.dK (bagK c i r st)) ∧ BagN c ns i r st, fun _ _ h => h, ?_⟩
      -- cell = abs(cells[at]); at = at + 1
      have ei : (ns.map V.int)[i]? = some (V.int ns[i]) := by simp [hil]
      have s64 : (-(2 ^ 64) < st ∧ st < 2 ^ 64) := ⟨by have := N.s0; omega, by have := N.s1; omega⟩
      have ea : (i : Int) + 1 = ((i + 1 : Nat) : Int) := by omega
      refine ⟨_, rfl, d, _, rfl, dg_cells upd_same, _, rfl, d, _, rfl, dg_at upd_same, c, _, _, _, rfl, rfl, SqL.of (hc' _), atI_nat ei, _, rfl, ?_⟩
      have hc0 : 0 ≤ (if ns[i] < 0 then -ns[i] else ns[i]) := by split <;> omega
      generalize (if ns[i] < 0 then -ns[i] else ns[i]) = cell at hc0
      refine ⟨_, rfl, d, _, rfl, dg_at upd_same, _, _, rfl, rfl, _, rfl, d, _, rfl, dp_at _ upd_same, ?_⟩
      rw [upd_upd, ea]
      refine ⟨_, rfl, _, _, rfl, rfl, ⟨by decide, by decide, by decide⟩, _, _, rfl, rfl, _, rfl, ?_⟩
      refine ite2 (fun h18 => ?_) (fun h18 => ?_)
      · have h18' : cell < 10 ^ 18 := of_decide_eq_true h18
        have hq : (10 : Int) ^ 18 = 1000000000000000000 := by decide
        rw [hq] at h18'
        refine ⟨_, rfl, _, _, rfl, rfl, _, _, rfl, rfl, ⟨by decide, by decide, by omega⟩, _, rfl, d, _, rfl, dg_state upd_same, _, rfl, d, _, rfl, dg_at upd_same, _, _, rfl, rfl, _, _, rfl, rfl, .inl s64, _, _, rfl, rfl, .inl ⟨_, rfl, _, _, rfl, rfl, pos2, ?_⟩⟩
        refine ⟨_, rfl, _, rfl, _, _, rfl, rfl, hn, ?_⟩
        exact kk _ (i + 1) _ _ (Int.emod_nonneg _ (by omega)) (Int.emod_lt_of_pos _ hn) ⟨hil, N.r0, N.s0, N.s1⟩
      · refine ⟨_, rfl, _, rfl, d, _, rfl, dp_rest _ upd_same, ?_⟩
        rw [upd_upd]
        exact ⟨_, Nat.sub_lt_sub_left hil (Nat.lt_succ_self i), i + 1, cell, st, _, _, _, rfl, rfl, rfl, ⟨hil, hc0, N.s0, N.s1⟩⟩
theorem ok_draw (T : Txt K mg a) : FnR P w K mg base CX0 1 a._law_draw spDraw := (ok_drawC T).imp fun vs H Q E h => by
  obtain ⟨d, n, rfl, B, h1, h2, k⟩ := h
  exact ⟨d, n, rfl, B, h1, h2, fun z o a b c _ => k z o a b c⟩
/-- bag: a new bag of the script -/
def spBag (K : PySem.W.Frag) : Sp := fun vs H Q _ => ∃ (sa : Addr) (ns : List Int), vs = [.ref sa] ∧ SqL K H sa (ns.map V.int) ∧ ns.length ≤ 63 ∧
  ∀ (d : Addr) (H' : Hp), Same H H' → H d = none → Bag H' d → Q (.ref d) H'
theorem cut63 {ns : List Int} (h : ns.length ≤ 63) : cutV (ns.map V.int) none (some 63) = ns.map V.int := by
  have e1 : HT.sIx (ns.map V.int).length 0 none = 0 := rfl
  have e2 : (ns.map V.int).length ≤ HT.sIx (ns.map V.int).length (ns.map V.int).length (some 63) := by
    rw [List.length_map]
    unfold HT.sIx
    simp
    omega
  unfold cutV
  rw [e1, List.drop_zero, Nat.sub_zero]
  exact List.take_of_length_le e2
theorem ok_bag (T : Txt K mg a) : FnR P w K mg base CX0 1 a._law_bag (spBag K) := by
  refine T.d__law_bag.ok sc__law_bag (fun _ _ _ _ _ _ us hl => match us, hl with | [_], _ => rfl) (fun vs H Q E h => ?_) (fun cdv A outer s H vs Q E hr h => ?_)
  · obtain ⟨sa, ns, rfl, _⟩ := h
    rfl
  · obtain ⟨sa, ns, rfl, hS, hns, k⟩ := h
    have hu := hu_of hr
    have pos1 : (0 : Int) < 2147483647 := by decide
    have pos2 : (0 : Int) < 2147483629 := by decide
    refine ⟨_, (pss_cons (ps_set (i := 1) sc__law_bag.nd rfl (Or.inl rfl) pe_int)
      (pss_cons (ps_for PassesOwn.never rfl (pi_list (pe_slice sl_list (pv 0) po_none (po_some pe_int))) (pg_name (i := 2) sc__law_bag.nd rfl (Or.inl rfl))
          (pss_one (ps_set (i := 1) sc__law_bag.nd rfl (Or.inl rfl) (pe_op op_mod (pe_callTy call_int1 (by rfl) T.n_int (by decide +kernel) (pa_cons (pe_op op_add (pe_op op_add (pe_op op_mul (pv 1) pe_int) (pe_op op_mod (pe_callB call_abs (by rfl) T.n_abs (by decide +kernel) (pa_cons (pv 2) pa_nil)) pe_int)) pe_int) pa_nil)) pe_int))))
      (pss_one (ps_ret (pe_disp (pps_cons pe_str (pe_callTy call_list_of (by rfl) T.n_list (by decide +kernel) (pa_cons (pe_slice sl_list (pv 0) po_none (po_some pe_int)) pa_nil)) (pps_cons pe_str pe_int (pps_cons pe_str pe_int (pps_cons pe_str (pv 1) pps_nil)))) (by rfl) (by rfl) (fun z => by cases z) (by decide)))))), ?_⟩
    refine ⟨_, rfl, _, rfl, sa, _, rfl, hS, fun p hp => ?_⟩
    rw [cut63 hns]
    refine ⟨p, rfl, ⟨_, SqL.of upd_same⟩, for_list (K := K) (a := p) (xs := ns.map V.int) (fun i σ H' => ∃ (st : Int) (v : Option V), σ = [some (.ref sa), some (.int st), v] ∧ H' = upd H p (.lst (ns.map V.int)) ∧ 0 ≤ st ∧ st < 2147483647)
      ⟨7, none, rfl, rfl, by decide, by decide⟩ (fun i σ H' _ ⟨_, _, _, e, _⟩ => by rw [e]; exact SqL.of upd_same) ?_ ?_⟩
    · rintro i y σ H' hi ⟨st, v, rfl, rfl, s0, s1⟩
      obtain ⟨z, rfl⟩ : ∃ z, y = V.int z := by
        rw [List.getElem?_map] at hi
        cases e : ns[i]? with
        | none =>
          rw [e] at hi
          cases hi
        | some z =>
          rw [e] at hi
          exact ⟨z, (Option.some.inj hi).symm⟩
      have s64 : (-(2 ^ 64) < st ∧ st < 2 ^ 64) := ⟨by omega, by omega⟩
      refine ⟨_, rfl, _, _, rfl, rfl, .inl s64, _, rfl, _, rfl, _, _, rfl, rfl, pos2, _, _, rfl, rfl, _, _, rfl, rfl, .inl ⟨_, rfl, _, _, rfl, rfl, pos1, ?_⟩⟩
      exact ⟨_, _, rfl, rfl, Int.emod_nonneg _ (by decide), Int.emod_lt_of_pos _ pos1⟩
    · rintro σ H' ⟨st, v, rfl, rfl, s0, s1⟩
      have s1' : Same H (upd H p (.lst (ns.map V.int))) := fun b o e => by rw [upd_ne (ne_of_none e hp)]; exact e
      intro d hd
      have hdp : p ≠ d := ne_of_none (upd_same (H := H) (o := .lst (ns.map V.int))) hd
      have hd0 : H d = none := s1'.free hd
      have hS2 : SqL K (upd (upd H p (.lst (ns.map V.int))) d (.dK [])) sa (ns.map V.int) := by
        refine Same.seq (fun b o e => ?_) (s1'.seq hS)
        rw [upd_ne (ne_of_none e hd)]
        exact e
      refine ⟨_, rfl, _, rfl, sa, _, rfl, hS2, fun p2 hp2 => ?_⟩
      rw [cut63 hns]
      refine ⟨p2, _, rfl, .inl (SqL.of upd_same), fun l hl => ?_⟩
      have hpd : p2 ≠ d := fun e => by rw [e, upd_same] at hp2; cases hp2
      have hld : l ≠ d := fun e => by rw [e, upd_ne (fun z => hpd z.symm), upd_same] at hl; cases hl
      refine ⟨_, rfl, by rw [upd_ne (fun z => hld z.symm), upd_ne (fun z => hpd z.symm), upd_same], bagK l 0 0 st, rfl, (by show 4 ≤ 15; decide), ?_⟩
      rw [merge_bag]
      refine k d _ (fun b o e => ?_) hd0 ⟨l, ns, _, upd_same, ⟨0, 0, st, rfl, ⟨Nat.zero_le _, Int.le_refl _, s0, s1⟩⟩, by rw [upd_ne hld, upd_same], hns⟩
      have e1 := s1' _ _ e
      have nb : b ≠ d := ne_of_none e1 hd
      have e2 : (upd (upd H p (.lst (ns.map V.int))) d (.dK [])) b = some o := by rw [upd_ne nb]; exact e1
      have e3 : (upd (upd (upd H p (.lst (ns.map V.int))) d (.dK [])) p2 (.lst (ns.map V.int))) b = some o := by rw [upd_ne (ne_of_none e2 hp2)]; exact e2
      rw [upd_ne nb, upd_ne (ne_of_none e3 hl)]
      exact e3
end
/-! ### places -/
theorem kSO : ¬ (("_slope" : Str) = "_offset") := by decide +kernel
theorem kSD : ¬ (("_slope" : Str) = "_odd") := by decide +kernel
theorem kOD : ¬ (("_offset" : Str) = "_odd") := by decide +kernel
def plF (s o d : Int) : List (Str × V) := putF "_odd" (.int d) (putF "_offset" (.int o) (putF "_slope" (.int s) []))
theorem plF_slope (s o d : Int) : (plF s o d).lookup ("_slope" : Str) = some (.int s) := by
  unfold plF
  rw [lookup_putF, if_neg kSD, lookup_putF, if_neg kSO, lookup_putF, if_pos rfl]
theorem plF_offset (s o d : Int) : (plF s o d).lookup ("_offset" : Str) = some (.int o) := by
  unfold plF
  rw [lookup_putF, if_neg kOD, lookup_putF, if_pos rfl]
theorem plF_odd (s o d : Int) : (plF s o d).lookup ("_odd" : Str) = some (.int d) := by
  unfold plF
  rw [lookup_putF, if_pos rfl]
theorem putF_le (f : Str) (v : V) : ∀ fs : List (Str × V), (putF f v fs).length ≤ fs.length + 1
  | [] => Nat.le_refl 1
  | p :: r => by
    show (if p.1 = f then (p.1, v) :: r else p :: putF f v r).length ≤ r.length + 1 + 1
    split
    · exact Nat.le_succ _
    · exact Nat.succ_le_succ (putF_le f v r)
theorem len2 (s o : Int) : (putF "_offset" (.int o) (putF "_slope" (.int s) [])).length ≤ 2 := Nat.le_trans (putF_le _ _ _) (Nat.succ_le_succ (putF_le _ _ _))
/-- the place s, o, d stands at p -/
def PlaceAt (H : Hp) (C p : Addr) (s o d : Int) : Prop := ∃ dx, H p = some (.ins C dx (plF s o d))
theorem PlaceAt.same {H H' : Hp} {C p : Addr} {s o d : Int} (h : PlaceAt H C p s o d) (e : Same H H') : PlaceAt H' C p s o d := h.elim fun dx z => ⟨dx, e _ _ z⟩
theorem PlaceAt.ins {H : Hp} {C p : Addr} {s o d : Int} (h : PlaceAt H C p s o d) : InsAt H p C := h.elim fun dx z => ⟨dx, _, z⟩
theorem PlaceAt.insC {X : Cx} {H : Hp} {C p : Addr} {s o d : Int} (h : PlaceAt H C p s o d) : StX.InsC X H p C := .inr (h.elim fun dx z => ⟨dx, _, z⟩)
/-- what follows a new place -/
def NewP (C : Addr) (H : Hp) (s o d : Int) (Q : VK) : Prop := ∀ x H', Same H H' → H x = none → PlaceAt H' C x s o d → Q (.ref x) H'
def spIntI : Sp := fun vs H Q _ => ∃ i : Int, vs = [.int i] ∧ Q (.bl true) H
def spSizeI : Sp := fun vs H Q _ => ∃ (i : Int) (part : Str), vs = [.int i, .str part] ∧ 1 ≤ i ∧ Q .non H
def spPInit (C : Addr) : Sp := fun vs H Q _ => ∃ (p dx : Addr) (s o d : Int), vs = [.ref p, .int s, .int o, .int d] ∧ H p = some (.ins C dx []) ∧ Q .non (upd H p (.ins C dx (plF s o d)))
def spPSlope (C : Addr) : Sp := fun vs H Q _ => ∃ (p : Addr) (s o d : Int), vs = [.ref p] ∧ PlaceAt H C p s o d ∧ Q (.int s) H
def spPOffset (C : Addr) : Sp := fun vs H Q _ => ∃ (p : Addr) (s o d : Int), vs = [.ref p] ∧ PlaceAt H C p s o d ∧ Q (.int o) H
def spPOdd (C : Addr) : Sp := fun vs H Q _ => ∃ (p : Addr) (s o d : Int), vs = [.ref p] ∧ PlaceAt H C p s o d ∧ Q (.int d) H
def valP (s o d n : Int) : Int := s * (n / 2) + o + d * (n % 2)
def spPCall (C : Addr) : Sp := fun vs H Q _ => ∃ (p : Addr) (s o d n : Int), vs = [.ref p, .int n] ∧ PlaceAt H C p s o d ∧ 1 ≤ n ∧ CMulW s (n / 2) ∧ CMulW d (n % 2) ∧ Q (.int (valP s o d n)) H
def spPParts (C : Addr) : Sp := fun vs H Q _ => ∃ (p : Addr) (s o d : Int), vs = [.ref p] ∧ PlaceAt H C p s o d ∧ ∀ t, H t = none → Q (.ref t) (upd H t (.tup [.int s, .int o, .int d]))
def spPAddP (C : Addr) (f : Int → Int → Int) : Sp := fun vs H Q _ => ∃ (p q : Addr) (s o d s' o' d' : Int), vs = [.ref p, .ref q] ∧ PlaceAt H C p s o d ∧ PlaceAt H C q s' o' d' ∧ NewP C H (f s s') (f o o') (f d d') Q
def spPAddI (C : Addr) (f : Int → Int → Int) : Sp := fun vs H Q _ => ∃ (p : Addr) (s o d i : Int), vs = [.ref p, .int i] ∧ PlaceAt H C p s o d ∧ NewP C H s (f o i) d Q
def spPInv (C : Addr) : Sp := fun vs H Q _ => ∃ (p : Addr) (s o d : Int), vs = [.ref p] ∧ PlaceAt H C p s o d ∧ NewP C H (2 - s) (-o) (1 - d) Q
def spPEq (C : Addr) : Sp := fun vs H Q _ => ∃ (p q : Addr) (s o d s' o' d' : Int), vs = [.ref p, .ref q] ∧ PlaceAt H C p s o d ∧ PlaceAt H C q s' o' d' ∧ ∀ H', Same H H' → Q (.bl (decide (s = s' ∧ o = o' ∧ d = d'))) H'
def spPOfI (C : Addr) (f : Int → Int × Int × Int) : Sp := fun vs H Q _ => ∃ i : Int, vs = [.int i] ∧ NewP C H (f i).1 (f i).2.1 (f i).2.2 Q
/-- a place made of three ints: what the making asks -/
theorem newP_make {C : Addr} {H : Hp} {s o d : Int} {Q : VK} {E : XK} (k : NewP C H s o d Q) : ∀ x dx, H x = none → H dx = none → dx ≠ x →
    spPInit C [.ref x, .int s, .int o, .int d] (upd (upd H dx (.own x)) x (.ins C dx [])) (fun v H2 => v = .non ∧ Q (.ref x) H2) E := by
  intro x dx nx ndx ne
  refine ⟨x, dx, s, o, d, rfl, upd_same, rfl, ?_⟩
  rw [upd_upd]
  refine k x _ (fun b u e => ?_) nx ⟨dx, upd_same⟩
  rw [upd_ne (ne_of_none e nx), upd_ne (ne_of_none e ndx)]
  exact e
/-! ### values of any kind: the errors of places and sizes -/
def spSizeX (K : PySem.W.Frag) (B : Addr) : Sp := fun vs H Q E => ∃ (v : V) (part : Str), vs = [v, .str part] ∧ ((∃ i : Int, v = .int i ∧ 1 ≤ i ∧ Q .non H) ∨ ((NoInt K H v ∨ ∃ i : Int, v = .int i ∧ i < 1) ∧ Out1 B "part" H E (.str part)))
/-- a place's parts: the first wrong one is told, or all are integers -/
def spPInitX (K : PySem.W.Frag) (C B : Addr) : Sp := fun vs H Q E => ∃ (p dx : Addr) (v1 v2 v3 : V), vs = [.ref p, v1, v2, v3] ∧ H p = some (.ins C dx []) ∧
  ((NoInt K H v1 ∧ Out1 B "part" H E (.str "slope")) ∨ ∃ s : Int, v1 = .int s ∧
    ((NoInt K H v2 ∧ Out1 B "part" H E (.str "offset")) ∨ ∃ o : Int, v2 = .int o ∧
      ((NoInt K H v3 ∧ Out1 B "part" H E (.str "odd")) ∨ ∃ d : Int, v3 = .int d ∧ Q .non (upd H p (.ins C dx (plF s o d))))))
section
variable {P : Program} {w : World} {K : PySem.W.Frag} {mg : Str → Option Value} {base : Heap} {a : Adr}
set_option maxHeartbeats 4000000
theorem ok_badplace (T : Txt K mg a) : ∃ fd, FnOk P w K mg base CX0 1 a.BadPlace_init fd ["self", "part"] (spErr1 a.BadPlace "part") ∧ Binds K fd ["self", "part"] [] := by
  refine T.d_BadPlace_init.okB sc_BadPlace_init (fun _ _ _ _ _ _ us hl => match us, hl with | [_, _], _ => rfl) (fun vs H Q E h => by obtain ⟨b, v, rfl, _⟩ := h; rfl) (fun cdv A outer s H vs Q E hr h => ?_)
  obtain ⟨b, v, rfl, hb, k⟩ := h
  exact ⟨_, (pss_one (ps_ost (pv 0) (pv 1))), _, rfl, _, rfl, b, _, rfl, T.e_BadPlace.ox, T.a_BadPlace_part, .inl ⟨hb, k⟩⟩
theorem ok_badsize (T : Txt K mg a) : ∃ fd, FnOk P w K mg base CX0 1 a.BadSize_init fd ["self", "part"] (spErr1 a.BadSize "part") ∧ Binds K fd ["self", "part"] [] := by
  refine T.d_BadSize_init.okB sc_BadSize_init (fun _ _ _ _ _ _ us hl => match us, hl with | [_, _], _ => rfl) (fun vs H Q E h => by obtain ⟨b, v, rfl, _⟩ := h; rfl) (fun cdv A outer s H vs Q E hr h => ?_)
  obtain ⟨b, v, rfl, hb, k⟩ := h
  exact ⟨_, (pss_one (ps_ost (pv 0) (pv 1))), _, rfl, _, rfl, b, _, rfl, T.e_BadSize.ox, T.a_BadSize_part, .inl ⟨hb, k⟩⟩
theorem ok_intV (T : Txt K mg a) : FnR P w K mg base CX0 1 a.is_int (spIntV K) := by
  refine T.d_is_int.ok sc_is_int (fun _ _ _ _ _ _ us hl => match us, hl with | [_], _ => rfl) (fun vs H Q E h => by obtain ⟨v, rfl, _⟩ := h; rfl) (fun cdv A outer s H vs Q E hr h => ?_)
  obtain ⟨v, rfl, h⟩ := h
  refine ⟨_, (pss_one (ps_ret (pe_and (pe_callB call_isi (by rfl) T.n_isinstance (by decide +kernel) (pa_cons (pv 0) (pa_cons (pe_bltn (v := .ty "int") (by rfl) T.n_int (by decide +kernel) rfl) pa_nil))) (pe_one (pe_not (pe_callB call_isi (by rfl) T.n_isinstance (by decide +kernel) (pa_cons (pv 0) (pa_cons (pe_bltn (v := .ty "bool") (by rfl) T.n_bool (by decide +kernel) rfl) pa_nil)))))))), ?_⟩
  rcases h with ⟨i, rfl, k⟩ | ⟨⟨b, rfl⟩ | ⟨t, ht, hk⟩, k⟩
  · exact ⟨_, rfl, _, _, _, _, _, rfl, .ty _, .base (.int _), kit_int_int, true, rfl, _, rfl, _, _, _, _, _, rfl, .ty _, .base (.int _), kit_int_bool, false, rfl, k⟩
  · exact ⟨_, rfl, _, _, _, _, _, rfl, .ty _, .base (.bl _), kit_bool_int, true, rfl, _, rfl, _, _, _, _, _, rfl, .ty _, .base (.bl _), kit_self, true, rfl, k⟩
  · exact ⟨_, rfl, _, _, _, _, _, rfl, .ty _, ht, hk, false, rfl, k⟩
theorem ok_sizeX (T : Txt K mg a) : FnR P w K mg base (CX P w) 3 a.check_size (spSizeX K a.BadSize) := by
  have G_is_int : FnR P w K mg base CX0 1 a.is_int (spIntV K) := ok_intV T
  obtain ⟨_, O_BadSize, B_BadSize⟩ := ok_badsize (P := P) (w := w) (base := base) T
  refine T.d_check_size.okX sc_check_size (fun _ _ _ _ _ _ us hl => match us, hl with | [_, _], _ => rfl) (fun vs H Q E h => by obtain ⟨v, part, rfl, _⟩ := h; rfl) (fun cdv A outer s H vs Q E hr h => ?_)
  obtain ⟨v, part, rfl, h⟩ := h
  refine ⟨_, (pss_one (ps_if (PW.pt (pw_or (pt_not (pt_val (pe_callR G_is_int (hr.mono (by decide)) T.m_is_int T.k_is_int pass0 (pa_cons (pv 0) pa_nil)))) (pw_or1 (pt_cmpR op_lt (pv 0) pe_int (nomark _)))))
          (pss_one (ps_raise rfl (takes_of rfl rfl rfl rfl) (pmk_oex T.e_BadSize.ox T.e_BadSize.iC T.e_BadSize.tI O_BadSize (hr.mono (by decide)) B_BadSize .nil pass0 rfl T.m_BadSize (pa_cons (pv 1) pa_nil))))
          pss_nil)), ?_⟩
  rcases h with ⟨i, rfl, h1, k⟩ | ⟨hn | ⟨i, rfl, hi⟩, k⟩
  · exact ⟨_, rfl, _, rfl, .inl ⟨i, rfl, true, rfl, iteF ⟨_, rfl, _, _, rfl, rfl, _, rfl, ite2 (fun z => by have := of_decide_eq_true z; omega) fun _ => k⟩⟩⟩
  · exact ⟨_, rfl, _, rfl, .inr ⟨hn, false, rfl, iteT ⟨_, rfl, err1_made k⟩⟩⟩
  · exact ⟨_, rfl, _, rfl, .inl ⟨i, rfl, true, rfl, iteF ⟨_, rfl, _, _, rfl, rfl, _, rfl, ite2 (fun _ => ⟨_, rfl, err1_made k⟩) fun z => absurd (decide_eq_true hi) z⟩⟩⟩
theorem ok_p_initX_fn (T : Txt K mg a) {fd : FuncData} (F : FunD K "__init__" "Place.__init__" (defArgs s_Place_init) (defBody s_Place_init) (defScope s_Place_init) [.int 0] [] a.Place_init fd) : FnOk P w K mg base (CX P w) 3 a.Place_init fd ["self", "slope", "offset", "odd"] (spPInitX K a.Place a.BadPlace) := by
  have G_is_int : FnR P w K mg base CX0 1 a.is_int (spIntV K) := ok_intV T
  obtain ⟨_, O_BadPlace, B_BadPlace⟩ := ok_badplace (P := P) (w := w) (base := base) T
  refine F.ok sc_Place_init (fun vs H Q E h => by obtain ⟨p, dx, v1, v2, v3, rfl, _⟩ := h; rfl) (fun cdv A outer s H vs Q E hr h => ?_)
  obtain ⟨p, dx, v1, v2, v3, rfl, hp, h⟩ := h
  refine ⟨_, (pss_cons (ps_if (pt_not (pt_val (pe_callR G_is_int (hr.mono (by decide)) T.m_is_int T.k_is_int pass0 (pa_cons (pv 1) pa_nil))))
          (pss_one (ps_raise rfl (takes_of rfl rfl rfl rfl) (pmk_oex T.e_BadPlace.ox T.e_BadPlace.iC T.e_BadPlace.tI O_BadPlace (hr.mono (by decide)) B_BadPlace .nil pass0 rfl T.m_BadPlace (pa_cons pe_str pa_nil))))
          pss_nil)
      (pss_cons (ps_if (pt_not (pt_val (pe_callR G_is_int (hr.mono (by decide)) T.m_is_int T.k_is_int pass0 (pa_cons (pv 2) pa_nil))))
          (pss_one (ps_raise rfl (takes_of rfl rfl rfl rfl) (pmk_oex T.e_BadPlace.ox T.e_BadPlace.iC T.e_BadPlace.tI O_BadPlace (hr.mono (by decide)) B_BadPlace .nil pass0 rfl T.m_BadPlace (pa_cons pe_str pa_nil))))
          pss_nil)
      (pss_cons (ps_if (pt_not (pt_val (pe_callR G_is_int (hr.mono (by decide)) T.m_is_int T.k_is_int pass0 (pa_cons (pv 3) pa_nil))))
          (pss_one (ps_raise rfl (takes_of rfl rfl rfl rfl) (pmk_oex T.e_BadPlace.ox T.e_BadPlace.iC T.e_BadPlace.tI O_BadPlace (hr.mono (by decide)) B_BadPlace .nil pass0 rfl T.m_BadPlace (pa_cons pe_str pa_nil))))
          pss_nil)
      (pss_cons (ps_fld (pv 0) (pv 1) rfl)
      (pss_cons (ps_fld (pv 0) (pv 2) rfl)
      (pss_one (ps_fld (pv 0) (pv 3) rfl))))))), ?_⟩
  rcases h with ⟨n1, k⟩ | ⟨s, rfl, h⟩
  · exact ⟨_, rfl, _, rfl, .inr ⟨n1, false, rfl, iteT (err1_made k)⟩⟩
  refine ⟨_, rfl, _, rfl, .inl ⟨s, rfl, true, rfl, iteF ?_⟩⟩
  rcases h with ⟨n2, k⟩ | ⟨o, rfl, h⟩
  · exact ⟨_, rfl, _, rfl, .inr ⟨n2, false, rfl, iteT (err1_made k)⟩⟩
  refine ⟨_, rfl, _, rfl, .inl ⟨o, rfl, true, rfl, iteF ?_⟩⟩
  rcases h with ⟨n3, k⟩ | ⟨d, rfl, k⟩
  · exact ⟨_, rfl, _, rfl, .inr ⟨n3, false, rfl, iteT (err1_made k)⟩⟩
  refine ⟨_, rfl, _, rfl, .inl ⟨d, rfl, true, rfl, iteF ?_⟩⟩
  refine ⟨_, rfl, _, rfl, p, _, dx, [], rfl, hp, T.c_Place.cl, T.a_Place__slope, (by show 0 < 1000; decide), ?_⟩
  refine ⟨_, rfl, _, rfl, p, _, dx, _, rfl, upd_same, T.c_Place.cl, T.a_Place__offset, (by show 1 < 1000; decide), ?_⟩
  rw [upd_upd]
  refine ⟨_, rfl, _, rfl, p, _, dx, _, rfl, upd_same, T.c_Place.cl, T.a_Place__odd, Nat.lt_of_le_of_lt (len2 s o) (by decide), ?_⟩
  rw [upd_upd]
  exact k
theorem ok_p_initX (T : Txt K mg a) : FnR P w K mg base (CX P w) 3 a.Place_init (spPInitX K a.Place a.BadPlace) := by
  obtain ⟨fd, F⟩ := id T.d_Place_init
  refine (posR F (ok_p_initX_fn T F) 4 1 (by simp) rfl (fun T kV doc pm an cdv ct us its hu hi => match us, its, hu, hi with | [_, _, _, _], [_], _, _ => ⟨_, rfl, rfl⟩)).imp fun vs H Q E h => ?_
  show (spPInitX K a.Place a.BadPlace) (vs ++ []) H Q E
  rw [List.append_nil]
  exact h
end
def spPCallX (K : PySem.W.Frag) (C B : Addr) : Sp := fun vs H Q E => ∃ (p : Addr) (v : V), vs = [.ref p, v] ∧
  ((∃ s o d n : Int, PlaceAt H C p s o d ∧ v = .int n ∧ 1 ≤ n ∧ CMulW s (n / 2) ∧ CMulW d (n % 2) ∧ Q (.int (valP s o d n)) H) ∨ ((NoInt K H v ∨ ∃ i : Int, v = .int i ∧ i < 1) ∧ Out1 B "part" H E (.str "size")))
def spFromX (K : PySem.W.Frag) (C B : Addr) (f : Int → Int × Int × Int) : Sp := fun vs H Q E => ∃ v : V, vs = [v] ∧ ((∃ i : Int, v = .int i ∧ NewP C H (f i).1 (f i).2.1 (f i).2.2 Q) ∨ (NoInt K H v ∧ OutS B "part" H E (.str "offset")))
theorem new_grown {H : Hp} {x dx : Addr} {C : Addr} (nx : H x = none) (nd : H dx = none) : ∀ b o, H b = some o → (upd (upd H dx (.own x)) x (.ins C dx [])) b = some o := fun b o e => by
  rw [upd_ne (ne_of_none e nx), upd_ne (ne_of_none e nd)]
  exact e
theorem newP_makeX {K : PySem.W.Frag} {C B : Addr} {H : Hp} {s o d : Int} {Q : VK} {E : XK} (k : NewP C H s o d Q) : ∀ x dx, H x = none → H dx = none → dx ≠ x →
    spPInitX K C B [.ref x, .int s, .int o, .int d] (upd (upd H dx (.own x)) x (.ins C dx [])) (fun v H2 => v = .non ∧ Q (.ref x) H2) E := by
  intro x dx nx ndx ne
  refine ⟨x, dx, _, _, _, rfl, upd_same, .inr ⟨s, rfl, .inr ⟨o, rfl, .inr ⟨d, rfl, rfl, ?_⟩⟩⟩⟩
  rw [upd_upd]
  refine k x _ (fun b u e => ?_) nx ⟨dx, upd_same⟩
  rw [upd_ne (ne_of_none e nx), upd_ne (ne_of_none e ndx)]
  exact e
section
variable {P : Program} {w : World} {K : PySem.W.Frag} {mg : Str → Option Value} {base : Heap} {a : Adr}
set_option maxHeartbeats 4000000
theorem ok_p_callX_fn (T : Txt K mg a) {fd : FuncData} (F : FunD K "__call__" "Place.__call__" (defArgs s_Place_call) (defBody s_Place_call) (defScope s_Place_call) [] [] a.Place_call fd) : FnOk P w K mg base (CX P w) 4 a.Place_call fd ["self", "size"] (spPCallX K a.Place a.BadSize) := by
  have G_check_size : FnR P w K mg base (CX P w) 3 a.check_size (spSizeX K a.BadSize) := ok_sizeX T
  refine F.ok sc_Place_call (fun vs H Q E h => by obtain ⟨p, v, rfl, _⟩ := h; rfl) (fun cdv A outer s H vs Q E hr h => ?_)
  obtain ⟨p, v, rfl, h⟩ := h
  refine ⟨_, (pss_cons (ps_expr (pe_callR G_check_size (hr.mono (by decide)) T.m_check_size T.k_check_size (passUp (takes_of rfl rfl rfl rfl)) (pa_cons (pv 1) (pa_cons pe_str pa_nil))))
      (pss_one (ps_ret (pe_op op_add (pe_op op_add (pe_op op_mulW (pe_fld (pv 0) rfl) (pe_op op_fdiv (pv 1) pe_int)) (pe_fld (pv 0) rfl)) (pe_op op_mulW (pe_fld (pv 0) rfl) (pe_op op_mod (pv 1) pe_int)))))), ?_⟩
  rcases h with ⟨s, o, d, n, ⟨dx, hp⟩, rfl, h1, hm1, hm2, k⟩ | ⟨hn, k⟩
  · refine ⟨_, rfl, _, _, rfl, .inl ⟨n, rfl, h1, ?_⟩⟩
    exact ⟨_, rfl, p, _, dx, _, _, rfl, hp, T.c_Place.cl, T.a_Place__slope, plF_slope _ _ _, _, rfl, _, _, rfl, rfl, ⟨by decide, by decide⟩, _, _, rfl, rfl, hm1,
      _, rfl, p, _, dx, _, _, rfl, hp, T.c_Place.cl, T.a_Place__offset, plF_offset _ _ _, _, _, rfl, rfl,
      _, rfl, p, _, dx, _, _, rfl, hp, T.c_Place.cl, T.a_Place__odd, plF_odd _ _ _, _, rfl, _, _, rfl, rfl, (by show (0 : Int) < 2; decide), _, _, rfl, rfl, hm2, _, _, rfl, rfl, k⟩
  · exact ⟨_, rfl, _, _, rfl, .inr ⟨hn, k⟩⟩
theorem ok_p_callX (T : Txt K mg a) : FnR P w K mg base (CX P w) 4 a.Place_call (spPCallX K a.Place a.BadSize) := by
  obtain ⟨fd, F⟩ := id T.d_Place_call
  exact ((ok_p_callX_fn T F).raw (F.bindsN (fun _ _ _ _ _ _ us hl => match us, hl with | [_, _], _ => rfl)) .nil).imp fun vs H Q E h => by rw [List.append_nil]; exact h
theorem ok_leftX_fn (T : Txt K mg a) {fd : FuncData} (F : FunD K "from_left" "from_left" (defArgs s_from_left) (defBody s_from_left) (defScope s_from_left) [.int 0] [] a.from_left fd) : FnOk P w K mg base (CX P w) 5 a.from_left fd ["k"] (spFromX K a.Place a.BadPlace fun i => (0, i, 0)) := by
  have G_Place_init : FnR P w K mg base (CX P w) 3 a.Place_init (spPInitX K a.Place a.BadPlace) := ok_p_initX T
  refine F.ok sc_from_left (fun vs H Q E h => by obtain ⟨v, rfl, _⟩ := h; rfl) (fun cdv A outer s H vs Q E hr h => ?_)
  obtain ⟨v, rfl, h⟩ := h
  refine ⟨_, (pss_one (ps_ret (pe_makeRR T.M_Place G_Place_init (hr.mono (by decide)) T.m_Place (passUp (takes_of rfl rfl rfl rfl)) (pa_cons pe_int (pa_cons (pv 0) (pa_cons pe_int pa_nil)))))), ?_⟩
  rcases h with ⟨i, rfl, k⟩ | ⟨hn, k⟩
  · exact ⟨_, rfl, newP_makeX k⟩
  · exact ⟨_, rfl, fun x dx nx nd ne => ⟨x, dx, _, _, _, rfl, upd_same, .inr ⟨0, rfl, .inl ⟨hn.same (new_grown nx nd), k _ (new_grown nx nd)⟩⟩⟩⟩
theorem ok_leftX (T : Txt K mg a) : FnR P w K mg base (CX P w) 5 a.from_left (spFromX K a.Place a.BadPlace fun i => (0, i, 0)) := by
  obtain ⟨fd, F⟩ := id T.d_from_left
  refine (posR F (ok_leftX_fn T F) 1 1 (by simp) rfl (fun T kV doc pm an cdv ct us its hu hi => match us, its, hu, hi with | [_], [_], _, _ => ⟨_, rfl, rfl⟩)).imp fun vs H Q E h => ?_
  show (spFromX K a.Place a.BadPlace fun i => (0, i, 0)) (vs ++ []) H Q E
  rw [List.append_nil]
  exact h
theorem ok_middleX_fn (T : Txt K mg a) {fd : FuncData} (F : FunD K "from_middle" "from_middle" (defArgs s_from_middle) (defBody s_from_middle) (defScope s_from_middle) [.int 0] [] a.from_middle fd) : FnOk P w K mg base (CX P w) 5 a.from_middle fd ["k"] (spFromX K a.Place a.BadPlace fun i => (1, i, 0)) := by
  have G_Place_init : FnR P w K mg base (CX P w) 3 a.Place_init (spPInitX K a.Place a.BadPlace) := ok_p_initX T
  refine F.ok sc_from_middle (fun vs H Q E h => by obtain ⟨v, rfl, _⟩ := h; rfl) (fun cdv A outer s H vs Q E hr h => ?_)
  obtain ⟨v, rfl, h⟩ := h
  refine ⟨_, (pss_one (ps_ret (pe_makeRR T.M_Place G_Place_init (hr.mono (by decide)) T.m_Place (passUp (takes_of rfl rfl rfl rfl)) (pa_cons pe_int (pa_cons (pv 0) (pa_cons pe_int pa_nil)))))), ?_⟩
  rcases h with ⟨i, rfl, k⟩ | ⟨hn, k⟩
  · exact ⟨_, rfl, newP_makeX k⟩
  · exact ⟨_, rfl, fun x dx nx nd ne => ⟨x, dx, _, _, _, rfl, upd_same, .inr ⟨1, rfl, .inl ⟨hn.same (new_grown nx nd), k _ (new_grown nx nd)⟩⟩⟩⟩
theorem ok_middleX (T : Txt K mg a) : FnR P w K mg base (CX P w) 5 a.from_middle (spFromX K a.Place a.BadPlace fun i => (1, i, 0)) := by
  obtain ⟨fd, F⟩ := id T.d_from_middle
  refine (posR F (ok_middleX_fn T F) 1 1 (by simp) rfl (fun T kV doc pm an cdv ct us its hu hi => match us, its, hu, hi with | [_], [_], _, _ => ⟨_, rfl, rfl⟩)).imp fun vs H Q E h => ?_
  show (spFromX K a.Place a.BadPlace fun i => (1, i, 0)) (vs ++ []) H Q E
  rw [List.append_nil]
  exact h
theorem ok_rightX_fn (T : Txt K mg a) {fd : FuncData} (F : FunD K "from_right" "from_right" (defArgs s_from_right) (defBody s_from_right) (defScope s_from_right) [.int 0] [] a.from_right fd) : FnOk P w K mg base (CX P w) 5 a.from_right fd ["k"] (spFromX K a.Place a.BadPlace fun i => (2, -i, 1)) := by
  have G_is_int : FnR P w K mg base CX0 1 a.is_int (spIntV K) := ok_intV T
  have G_Place_init : FnR P w K mg base (CX P w) 3 a.Place_init (spPInitX K a.Place a.BadPlace) := ok_p_initX T
  obtain ⟨_, O_BadPlace, B_BadPlace⟩ := ok_badplace (P := P) (w := w) (base := base) T
  refine F.ok sc_from_right (fun vs H Q E h => by obtain ⟨v, rfl, _⟩ := h; rfl) (fun cdv A outer s H vs Q E hr h => ?_)
  obtain ⟨v, rfl, h⟩ := h
  refine ⟨_, (pss_cons (ps_if (pt_not (pt_val (pe_callR G_is_int (hr.mono (by decide)) T.m_is_int T.k_is_int pass0 (pa_cons (pv 0) pa_nil))))
          (pss_one (ps_raise rfl (takes_of rfl rfl rfl rfl) (pmk_oex T.e_BadPlace.ox T.e_BadPlace.iC T.e_BadPlace.tI O_BadPlace (hr.mono (by decide)) B_BadPlace .nil pass0 rfl T.m_BadPlace (pa_cons pe_str pa_nil))))
          pss_nil)
      (pss_one (ps_ret (pe_makeRR T.M_Place G_Place_init (hr.mono (by decide)) T.m_Place (passUp (takes_of rfl rfl rfl rfl)) (pa_cons pe_int (pa_cons (pe_un un_neg (pv 0)) (pa_cons pe_int pa_nil))))))), ?_⟩
  rcases h with ⟨i, rfl, k⟩ | ⟨hn, k⟩
  · exact ⟨_, rfl, _, rfl, .inl ⟨i, rfl, true, rfl, iteF ⟨_, rfl, _, rfl, newP_makeX k⟩⟩⟩
  · exact ⟨_, rfl, _, rfl, .inr ⟨hn, false, rfl, iteT (err1_made (k _ fun _ _ e => e))⟩⟩
theorem ok_rightX (T : Txt K mg a) : FnR P w K mg base (CX P w) 5 a.from_right (spFromX K a.Place a.BadPlace fun i => (2, -i, 1)) := by
  obtain ⟨fd, F⟩ := id T.d_from_right
  refine (posR F (ok_rightX_fn T F) 1 1 (by simp) rfl (fun T kV doc pm an cdv ct us its hu hi => match us, its, hu, hi with | [_], [_], _, _ => ⟨_, rfl, rfl⟩)).imp fun vs H Q E h => ?_
  show (spFromX K a.Place a.BadPlace fun i => (2, -i, 1)) (vs ++ []) H Q E
  rw [List.append_nil]
  exact h
end
end Pf
end
section
namespace Pf
open PySem PySem.Spec PyProof.Rows L2 Ow StX
/-! ### a lambda that is tried -/
/-- what `_law_heard` makes of what it asks -/
def TTh (HB BP BS : Addr) (tl : XK → Hp → VK → Prop) (H : Hp) (Q : VK) : Prop :=
  tl (fun cls d H1 => (cls = .ref BP ∧ ∃ (dd : Addr) (fs : List (Str × V)) (v : V), d = some dd ∧ H1 dd = some (.xd fs) ∧ fs.lookup ("part" : Str) = some v ∧ ∀ p, H1 p = none → Q (.ref p) (upd H1 p (.tup [.str "place", v]))) ∨
      (cls = .ref BS ∧ ∃ (dd : Addr) (fs : List (Str × V)) (v : V), d = some dd ∧ H1 dd = some (.xd fs) ∧ fs.lookup ("part" : Str) = some v ∧ ∀ p, H1 p = none → Q (.ref p) (upd H1 p (.tup [.str "size", v]))))
    H (fun v H1 => [V.str "told", v].length ≤ sizeLine ∧ ∀ p, H1 p = none → Q (.ref p) (upd H1 p (.tup [.str "told", v])))
theorem heard_gives {X : Cx} {a : Adr} {g : Addr} {cdv : Value} {q : Str} (T : Txt X.K X.mg a) : LamX.GivesTo X ["_law_ask", "error"] "_law_heard" (defScope s__law_heard) g cdv (defBody s__law_heard) "_law_ask" q (TTh a.HoldError a.BadPlace a.BadSize) := by
  intro f c' s H Q tl act hc h
  refine ⟨_, pss_one (ps_try_as (i := 1) rfl rfl sc__law_heard.nd rfl rfl ⟨rfl, by decide, .inl T.m_HoldError⟩ LamX.takes0 (fun W pn xe tk _ => ret_told fun E hW => act W pn xe E _ _ tk hW) (fun b oe cls d pn hz hf => pss_len 2 (by rfl) (pss_cons (ps_if (pt_val (pe_callB (call_isEX hz hf) (by rfl) T.n_isinstance (by decide +kernel) (pa_cons (pv 1) (pa_cons (pe_glob (v := .ref a.BadPlace) (by rfl) T.m_BadPlace (by rfl)) pa_nil))))
        (pss_one (ps_ret (pe_tup (pa_cons pe_str (pa_cons (pe_xf T.xf_BadPlace T.a_BadPlace_part hz hf (pv 1)) pa_nil)))))
        pss_nil)
      (pss_one (ps_ret (pe_ifExp (pt_val (pe_callB (call_isEX hz hf) (by rfl) T.n_isinstance (by decide +kernel) (pa_cons (pv 1) (pa_cons (pe_glob (v := .ref a.BadSize) (by rfl) T.m_BadSize (by rfl)) pa_nil))))
        (pe_tup (pa_cons pe_str (pa_cons (pe_xf T.xf_BadSize T.a_BadSize_part hz hf (pv 1)) pa_nil)))
        (pe_tup (pa_cons pe_str (pa_cons pe_non pa_nil))))))))), ?_⟩
  refine ⟨_, fun cls d σ' H' hE => ?_, rfl, hc, h⟩
  rcases hE with ⟨rfl, dd, fs, v, rfl, hdd, hv, k⟩ | ⟨rfl, dd, fs, v, rfl, hdd, hv, k⟩
  · refine ⟨true, T.xm_BadPlace_HoldError, fun _ x hx hlen => ?_, fun z => by cases z⟩
    have hs : (σ'.set 1 (some (V.ref x)))[1]? = some (some (V.ref x)) := by
      rw [List.length_set] at hlen
      rw [List.getElem?_set_self (by rw [hlen]; decide)]
    refine ⟨_, hs, .ref a.BadPlace, .ref a.BadPlace, true, a.BadPlace, dd, fs, rfl, rfl, T.xc_BadPlace, T.xi_BadPlace, rfl, hdd, fun u r => by cases r; rfl, kit_self, _, rfl, iteT ?_⟩
    exact ⟨_, hs, rfl, rfl, dd, fs, v, rfl, hdd, hv, (by show 2 ≤ sizeLine; decide), k⟩
  · refine ⟨true, T.xm_BadSize_HoldError, fun _ x hx hlen => ?_, fun z => by cases z⟩
    have hs : (σ'.set 1 (some (V.ref x)))[1]? = some (some (V.ref x)) := by
      rw [List.length_set] at hlen
      rw [List.getElem?_set_self (by rw [hlen]; decide)]
    refine ⟨_, hs, .ref a.BadPlace, .ref a.BadPlace, false, a.BadSize, dd, fs, rfl, rfl, T.xc_BadSize, T.xi_BadSize, rfl, hdd, fun u r => by cases r; rfl, kit_err T.xi_BadPlace T.xt_BadPlace T.xs_BadSize_BadPlace T.xn_BadSize_BadPlace, _, rfl, iteF ?_⟩
    refine ⟨_, hs, .ref a.BadSize, .ref a.BadSize, true, a.BadSize, dd, fs, rfl, rfl, T.xc_BadSize, T.xi_BadSize, rfl, hdd, fun u r => by cases r; rfl, kit_self, _, rfl, iteT ?_⟩
    exact ⟨_, hs, rfl, rfl, dd, fs, v, rfl, hdd, hv, (by show 2 ≤ sizeLine; decide), k⟩
/-- _law_heard(lambda: body) -/
theorem pe_heard {X : Cx} {a : Adr} {c T : Addr} {k : Nat} {TL : List (Addr × Str)} {params : Arguments} {body : Expr} {scope : Scope} {t : XK → TE} {p lpos pos : Pos} (D : Txt X.K X.mg a) (hg : Gl X "_law_heard") (TB : LamX.TabB X.base X.mg c T) (hcode : X.env.code = .ref c) (hmT : (T, X.env.qual ++ Str.ofString "<lambda>") ∈ TL)
    (hu : ∀ p : Addr × Str, p ∈ TL → p.1 = T → p.2 = X.env.qual ++ Str.ofString "<lambda>") (hr : Room (k + 2) X.A) (L : LamX.LamS X.env.scope scope) (hdef : defaultsOf params X.env = ([], []))
    (hbind : ∀ (q : Str) (cl : List (Str × Addr)) (pm cv ctv : Value), bindArgs (PySem.W.kla_fn (Str.ofString "<lambda>") q params body scope cl pm cv ctv) ⟨[], []⟩ = pure [])
    (hbody : ∀ (A : Around) (outer : List Env) (s : Shared) (H : Hp) (E : XK) (f c' : Addr), Room k (A.deeper (LamX.lamEnv X scope s.heap.objs.size f c')) → PE (LamX.lamCx X A outer s H E scope f c') body (t E)) :
    PE X (.Call (.Name "_law_heard" p) [.Lambda params body scope lpos] [] pos) (LamX.tLam TL (TTh a.HoldError a.BadPlace a.BadSize) t) := by
  obtain ⟨fd, FD⟩ := id D.d__law_heard
  have hb : Binds X.K fd ["_law_ask"] [] := FD.bindsN (fun _ _ _ _ _ _ us hl => match us, hl with | [_], _ => rfl)
  obtain ⟨oc, od, dV, kV, doc, pm, an, cdv, ct, osl, rfl, lk, hcd, _, _⟩ := FD.ex
  exact LamX.pe_lamcall hg D.m__law_heard D.k__law_heard lk hcd hb sc__law_heard rfl (Or.inl rfl) (heard_gives D) TB hcode hmT hu hr L hdef hbind hbody
/-! ### drawn numbers and odd values -/
def SameBut (d : Addr) (H H' : Hp) : Prop := ∀ b o, b ≠ d → H b = some o → H' b = some o
theorem SameBut.of {d : Addr} {H H' : Hp} (s : Same H H') : SameBut d H H' := fun b o _ e => s b o e
theorem SameBut.trans {d : Addr} {H H1 H2 : Hp} (x : SameBut d H H1) (y : SameBut d H1 H2) : SameBut d H H2 := fun b o n e => y b o n (x b o n e)
theorem SameBut.upd {d : Addr} {H : Hp} {o : HO} : SameBut d H (upd H d o) := fun b u n e => by rw [upd_ne n]; exact e
theorem same_new {H : Hp} {p : Addr} {o : HO} (h : H p = none) : Same H (upd H p o) := fun b u e => by rw [upd_ne (ne_of_none e h)]; exact e
def spOdd (K : PySem.W.Frag) : Sp := fun vs H Q _ => ∃ d : Addr, vs = [.ref d] ∧ Bag H d ∧ ∀ (v : V) (H' : Hp), SameBut d H H' → Bag H' d → NoInt K H' v → (∀ c, CellsAt H d c → CellsAt H' d c) → Q v H'
def spNumber : Sp := fun vs H Q _ => ∃ d : Addr, vs = [.ref d] ∧ Bag H d ∧ ∀ (z : Int) (H' : Hp), SameBut d H H' → Bag H' d → z.natAbs < 2 ^ 140 → Q (.int z) H'
theorem atI_any {xs : List V} {z : Int} (h0 : 0 ≤ z) (h1 : z < xs.length) : ∃ v, v ∈ xs ∧ atI xs z = some v := by
  obtain ⟨k, rfl⟩ : ∃ k : Nat, z = (k : Int) := ⟨z.toNat, by omega⟩
  have hk : k < xs.length := by omega
  exact ⟨xs[k], List.getElem_mem hk, atI_nat (List.getElem?_eq_getElem hk)⟩
section
variable {P : Program} {w : World} {K : PySem.W.Frag} {mg : Str → Option Value} {base : Heap} {a : Adr}
set_option maxHeartbeats 4000000
theorem ok_odd (T : Txt K mg a) : FnR P w K mg base CX0 2 a._law_odd (spOdd K) := by
  have G__law_draw : FnR P w K mg base CX0 1 a._law_draw spDrawC := ok_drawC T
  refine T.d__law_odd.ok sc__law_odd (fun _ _ _ _ _ _ us hl => match us, hl with | [_], _ => rfl) (fun vs H Q E h => by obtain ⟨d, rfl, _⟩ := h; rfl) (fun cdv A outer s H vs Q E hr h => ?_)
  obtain ⟨d, rfl, B, k⟩ := h
  refine ⟨_, (pss_cons (ps_set (i := 1) sc__law_odd.nd rfl (Or.inl rfl) (pe_lst (pa_cons pe_non (pa_cons pe_bl (pa_cons pe_bl (pa_cons pe_str (pa_cons pe_str (pa_cons (pe_tup pa_nil) (pa_cons (pe_tup (pa_cons pe_int pa_nil)) (pa_cons (pe_lst pa_nil) (pa_cons (pe_lst (pa_cons pe_int pa_nil)) (pa_cons pe_dnewK (pa_cons pe_str pa_nil)))))))))))))
      (pss_one (ps_ret (pe_ix ix_list (pv 1) (pe_callR G__law_draw (hr.mono (by decide)) T.m__law_draw T.k__law_draw pass0 (pa_cons (pv 0) (pa_cons (pe_callB call_len_seq (by rfl) T.n_len (by decide +kernel) (pa_cons (pv 1) pa_nil)) pa_nil))) (fun _ _ => rfl))))), ?_⟩
  refine ⟨(by show 0 ≤ sizeLine; decide), fun p1 h1 => ⟨(by show 1 ≤ sizeLine; decide), fun p2 h2 => ⟨(by show 0 ≤ sizeLine; decide), fun p3 h3 => ⟨(by show 1 ≤ sizeLine; decide), fun p4 h4 => fun p5 h5 => ⟨(by show 11 ≤ sizeLine; decide), fun L hL => ?_⟩⟩⟩⟩⟩
  have m1 := same_new (o := .tup []) h1
  have m2 := same_new (o := .tup [.int 1]) h2
  have m3 := same_new (o := .lst []) h3
  have m4 := same_new (o := .lst [.int 0]) h4
  have m5 := same_new (o := .dK []) h5
  have m6 := same_new (o := .lst [.non, .bl true, .bl false, .str "", .str "1", .ref p1, .ref p2, .ref p3, .ref p4, .ref p5, .str "left 0"]) hL
  have e1 := m6 _ _ (m5 _ _ (m4 _ _ (m3 _ _ (m2 _ _ (upd_same (H := H) (o := .tup []) (a := p1))))))
  have e2 := m6 _ _ (m5 _ _ (m4 _ _ (m3 _ _ (upd_same (H := upd H p1 (.tup [])) (o := .tup [.int 1]) (a := p2)))))
  have e3 := m6 _ _ (m5 _ _ (m4 _ _ (upd_same (H := upd (upd H p1 (.tup [])) p2 (.tup [.int 1])) (o := .lst []) (a := p3))))
  have e4 := m6 _ _ (m5 _ _ (upd_same (H := upd (upd (upd H p1 (.tup [])) p2 (.tup [.int 1])) p3 (.lst [])) (o := .lst [.int 0]) (a := p4)))
  have e5 := m6 _ _ (upd_same (H := upd (upd (upd (upd H p1 (.tup [])) p2 (.tup [.int 1])) p3 (.lst [])) p4 (.lst [.int 0])) (o := .dK []) (a := p5))
  have eL : (upd (upd (upd (upd (upd (upd H p1 (.tup [])) p2 (.tup [.int 1])) p3 (.lst [])) p4 (.lst [.int 0])) p5 (.dK [])) L (.lst [.non, .bl true, .bl false, .str "", .str "1", .ref p1, .ref p2, .ref p3, .ref p4, .ref p5, .str "left 0"])) L = _ := upd_same
  have mm := m1.trans (m2.trans (m3.trans (m4.trans (m5.trans m6))))
  have B6 := B.same mm
  have n5 : p5 ≠ d := fun e => by
    obtain ⟨o, ho⟩ := (((B.same m1).same m2).same m3).same m4 |>.there
    rw [e, ho] at h5
    cases h5
  clear m1 m2 m3 m4 m5 m6
  generalize upd (upd (upd (upd (upd (upd H p1 (.tup [])) p2 (.tup [.int 1])) p3 (.lst [])) p4 (.lst [.int 0])) p5 (.dK [])) L (.lst [.non, .bl true, .bl false, .str "", .str "1", .ref p1, .ref p2, .ref p3, .ref p4, .ref p5, .str "left 0"]) = HL at *
  refine ⟨_, rfl, _, rfl, _, rfl, L, _, rfl, .inl (SqL.of eL), d, 11, rfl, B6, by decide, by decide, fun z o z0 z1 B7 hC => ?_⟩
  obtain ⟨v, hv, hat⟩ := atI_any (xs := [.non, .bl true, .bl false, .str "", .str "1", .ref p1, .ref p2, .ref p3, .ref p4, .ref p5, .str "left 0"]) z0 z1
  have up : ∀ {b : Addr} {u : HO}, HL b = some u → (∀ kvs, u ≠ .dK kvs) → (upd HL d o) b = some u := fun {b u} h n => by rw [upd_ne (B6.ne h n)]; exact h
  refine ⟨L, _, _, _, rfl, rfl, SqL.of (up eL fun _ z => by cases z), hat, k v _ ((SameBut.of mm).trans SameBut.upd) B7 ?_ fun c hc => hC c (hc.same mm)⟩
  simp only [List.mem_cons, List.not_mem_nil, or_false] at hv
  rcases hv with rfl | rfl | rfl | rfl | rfl | rfl | rfl | rfl | rfl | rfl | rfl
  · exact .non
  · exact .bl
  · exact .bl
  · exact .str
  · exact .str
  · exact .tup (up e1 fun _ z => by cases z)
  · exact .tup (up e2 fun _ z => by cases z)
  · exact .lst (up e3 fun _ z => by cases z)
  · exact .lst (up e4 fun _ z => by cases z)
  · exact .dict (by rw [upd_ne n5]; exact e5)
  · exact .str
theorem ok_number (T : Txt K mg a) : FnR P w K mg base CX0 2 a._law_number spNumber := by
  have G__law_draw : FnR P w K mg base CX0 1 a._law_draw spDraw := ok_draw T
  refine T.d__law_number.ok sc__law_number (fun _ _ _ _ _ _ us hl => match us, hl with | [_], _ => rfl) (fun vs H Q E h => by obtain ⟨d, rfl, _⟩ := h; rfl) (fun cdv A outer s H vs Q E hr h => ?_)
  obtain ⟨d, rfl, B, k⟩ := h
  refine ⟨_, (pss_cons (ps_set (i := 1) sc__law_number.nd rfl (Or.inl rfl) (pe_lst (pa_cons pe_int (pa_cons pe_int (pa_cons (pe_un un_neg pe_int) (pa_cons pe_int (pa_cons pe_int (pa_cons (pe_op op_sub (pe_callR G__law_draw (hr.mono (by decide)) T.m__law_draw T.k__law_draw pass0 (pa_cons (pv 0) (pa_cons pe_int pa_nil))) pe_int) (pa_cons (pe_op op_add (pe_op op_pow pe_int pe_int) (pe_callR G__law_draw (hr.mono (by decide)) T.m__law_draw T.k__law_draw pass0 (pa_cons (pv 0) (pa_cons pe_int pa_nil)))) (pa_cons (pe_un un_neg (pe_op op_pow pe_int pe_int)) (pa_cons (pe_callR G__law_draw (hr.mono (by decide)) T.m__law_draw T.k__law_draw pass0 (pa_cons (pv 0) (pa_cons pe_int pa_nil))) pa_nil)))))))))))
      (pss_one (ps_ret (pe_ix ix_list (pv 1) (pe_callR G__law_draw (hr.mono (by decide)) T.m__law_draw T.k__law_draw pass0 (pa_cons (pv 0) (pa_cons (pe_callB call_len_seq (by rfl) T.n_len (by decide +kernel) (pa_cons (pv 1) pa_nil)) pa_nil))) (fun _ _ => rfl))))), ?_⟩
  refine ⟨_, rfl, _, rfl, d, 9, rfl, B, by decide, by decide, fun z1 o1 a0 a1 B1 => ?_⟩
  refine ⟨_, _, rfl, rfl, _, _, rfl, rfl, ⟨by decide, by decide, by decide⟩, _, rfl, d, 5, rfl, B1, by decide, by decide, fun z2 o2 b0 b1 B2 => ?_⟩
  refine ⟨_, _, rfl, rfl, _, _, rfl, rfl, ⟨by decide, by decide, by decide⟩, _, rfl, _, rfl, d, 100, rfl, B2, by decide, by decide, fun z3 o3 c0 c1 B3 => ?_⟩
  refine ⟨(by show 9 ≤ sizeLine; decide), fun L hL => ?_⟩
  have mL := same_new (o := .lst [.int 0, .int 1, .int (-1), .int 2, .int 3, .int (z1 - 4), .int (10 ^ Int.toNat 39 + z2), .int (-(10 ^ Int.toNat 39)), .int z3]) hL
  have eL : (upd (upd (upd (upd H d o1) d o2) d o3) L (.lst [.int 0, .int 1, .int (-1), .int 2, .int 3, .int (z1 - 4), .int (10 ^ Int.toNat 39 + z2), .int (-(10 ^ Int.toNat 39)), .int z3])) L = _ := upd_same
  have B4 := B3.same mL
  refine ⟨_, rfl, _, rfl, _, rfl, L, _, rfl, .inl (SqL.of eL), d, 9, rfl, B4, by decide, by decide, fun z o z0 z1' B7 => ?_⟩
  obtain ⟨v, hv, hat⟩ := atI_any (xs := [.int 0, .int 1, .int (-1), .int 2, .int 3, .int (z1 - 4), .int (10 ^ Int.toNat 39 + z2), .int (-(10 ^ Int.toNat 39)), .int z3]) z0 z1'
  obtain ⟨n, rfl, hn⟩ : ∃ n : Int, v = .int n ∧ n.natAbs < 2 ^ 140 := by
    have e1 : (10 : Int) ^ Int.toNat 39 = 1000000000000000000000000000000000000000 := by decide
    have e2 : (2 : Nat) ^ 140 = 1393796574908163946345982392040522594123776 := by decide
    rw [e1] at hv
    rw [e2]
    simp only [List.mem_cons, List.not_mem_nil, or_false] at hv
    rcases hv with h | h | h | h | h | h | h | h | h <;> exact ⟨_, h, by omega⟩
  refine ⟨L, _, _, _, rfl, rfl, SqL.of ?_, hat, ?_⟩
  · rw [upd_ne (B4.ne eL fun _ z => by cases z)]
    exact eL
  · exact k n _ (SameBut.upd.trans (SameBut.upd.trans (SameBut.upd.trans ((SameBut.of mL).trans SameBut.upd)))) B7 hn
end
end Pf
end
section
namespace Pf
open PySem PySem.Spec PyProof.Rows L2 Ow StX
/-! ### places of any kind of values: equality, what the law reckons, the three sorts -/
theorem kit_ty_own {K : PySem.W.Frag} {C : Addr} {T : String} {b : Bool} (c : ClsF K C) (h : PySem.W.subIn K (.type T) (.ref C) = some b) : PySem.W.kitOne K (.type T) (.ref C) = some b :=
  kit_own c h (Bool.eq_false_iff.mpr fun q => by cases beq_iff_eq.mp q)
theorem eqv3 (s o d s' o' d' : Int) : PyData.eqv (.tuple [.int s, .int o, .int d]) (.tuple [.int s', .int o', .int d']) = decide (s = s' ∧ o = o' ∧ d = d') := by
  rw [Bool.eq_iff_iff]
  simp [PyData.eqv, PyData.eqvAll]
/-- v is an instance of nothing own: of a type that is not below C -/
def NoOwn (K : PySem.W.Frag) (C : Addr) (H : Hp) (v : V) : Prop := ∃ T : String, TyX K H v (.type T) ∧ PySem.W.subIn K (.type T) (.ref C) = some false
def spPEqX (K : PySem.W.Frag) (C : Addr) : Sp := fun vs H Q _ => ∃ (p : Addr) (v : V) (s o d : Int), vs = [.ref p, v] ∧ PlaceAt H C p s o d ∧
  ((∃ (q : Addr) (s' o' d' : Int), v = .ref q ∧ PlaceAt H C q s' o' d' ∧ ∀ H', Same H H' → Q (.bl (decide (s = s' ∧ o = o' ∧ d = d'))) H') ∨ (NoOwn K C H v ∧ Q (.bl false) H))
def spAt (K : PySem.W.Frag) : Sp := fun vs H Q _ => ∃ (l : Addr) (s o d n : Int), vs = [.ref l, .int n] ∧ SqL K H l [.int s, .int o, .int d] ∧ CMulW s (n / 2) ∧ CMulW d (n % 2) ∧ Q (.int (valP s o d n)) H
def spSorts : Sp := fun vs H Q _ => ∃ f : Int, vs = [.int f] ∧ ∀ H', Same H H' → Q (.bl true) H'
/-- rows of three integers, each a tuple of its own -/
def Tups (H : Hp) : List V → List (Int × Int × Int) → Prop
  | [], [] => True
  | v :: vs, r :: rs => (∃ t, v = .ref t ∧ H t = some (.tup [.int r.1, .int r.2.1, .int r.2.2])) ∧ Tups H vs rs
  | _, _ => False
theorem Tups.go {H H' : Hp} (m : ∀ t s o d, H t = some (.tup [.int s, .int o, .int d]) → H' t = some (.tup [.int s, .int o, .int d])) : ∀ {vs : List V} {rs : List (Int × Int × Int)}, Tups H vs rs → Tups H' vs rs
  | [], [], _ => trivial
  | v :: vs, r :: rs, ⟨⟨t, e, h⟩, q⟩ => ⟨⟨t, e, m _ _ _ _ h⟩, Tups.go m q⟩
theorem Tups.snoc {H : Hp} {t : Addr} {s o d : Int} (h : H t = some (.tup [.int s, .int o, .int d])) : ∀ {vs : List V} {rs : List (Int × Int × Int)}, Tups H vs rs → Tups H (vs ++ [.ref t]) (rs ++ [(s, o, d)])
  | [], [], _ => ⟨⟨t, rfl, h⟩, trivial⟩
  | v :: vs, r :: rs, ⟨a, q⟩ => ⟨a, Tups.snoc h q⟩
theorem Tups.len {H : Hp} : ∀ {vs : List V} {rs : List (Int × Int × Int)}, Tups H vs rs → vs.length = rs.length
  | [], [], _ => rfl
  | v :: vs, r :: rs, ⟨_, q⟩ => congrArg Nat.succ (Tups.len q)
def rowD (r : Int × Int × Int) : PyData := .tuple [.int r.1, .int r.2.1, .int r.2.2]
theorem Tups.dp {K : PySem.W.Frag} {H : Hp} : ∀ {vs : List V} {rs : List (Int × Int × Int)}, Tups H vs rs → DpAll K H vs (rs.map rowD)
  | [], [], _ => .nil
  | v :: vs, r :: rs, ⟨⟨t, e, h⟩, q⟩ => by
    subst e
    exact .cons (.tup (SqT.of h) (.cons (.int _) (.cons (.int _) (.cons (.int _) .nil)))) (Tups.dp q)
theorem new_grown' {H : Hp} {x dx : Addr} {C : Addr} (nx : H x = none) (nd : H dx = none) : Same H (upd (upd H dx (.own x)) x (.ins C dx [])) := new_grown nx nd
section
variable {P : Program} {w : World} {K : PySem.W.Frag} {mg : Str → Option Value} {base : Heap} {a : Adr}
set_option maxHeartbeats 4000000
theorem ok_p_slope (T : Txt K mg a) : FnR P w K mg base CX0 1 a.Place_slope (spPSlope a.Place) := by
  refine T.d_Place_slope.ok sc_Place_slope (fun _ _ _ _ _ _ us hl => match us, hl with | [_], _ => rfl) (fun vs H Q E h => by obtain ⟨p, s, o, d, rfl, _⟩ := h; rfl) (fun cdv A outer s H vs Q E hr h => ?_)
  obtain ⟨p, s, o, d, rfl, ⟨dx, hp⟩, k⟩ := h
  exact ⟨_, (pss_one (ps_ret (pe_fld (pv 0) rfl))), _, rfl, p, _, dx, _, _, rfl, hp, T.c_Place.cl, T.a_Place__slope, plF_slope _ _ _, k⟩
theorem ok_p_offset (T : Txt K mg a) : FnR P w K mg base CX0 1 a.Place_offset (spPOffset a.Place) := by
  refine T.d_Place_offset.ok sc_Place_offset (fun _ _ _ _ _ _ us hl => match us, hl with | [_], _ => rfl) (fun vs H Q E h => by obtain ⟨p, s, o, d, rfl, _⟩ := h; rfl) (fun cdv A outer s H vs Q E hr h => ?_)
  obtain ⟨p, s, o, d, rfl, ⟨dx, hp⟩, k⟩ := h
  exact ⟨_, (pss_one (ps_ret (pe_fld (pv 0) rfl))), _, rfl, p, _, dx, _, _, rfl, hp, T.c_Place.cl, T.a_Place__offset, plF_offset _ _ _, k⟩
theorem ok_p_odd (T : Txt K mg a) : FnR P w K mg base CX0 1 a.Place_odd (spPOdd a.Place) := by
  refine T.d_Place_odd.ok sc_Place_odd (fun _ _ _ _ _ _ us hl => match us, hl with | [_], _ => rfl) (fun vs H Q E h => by obtain ⟨p, s, o, d, rfl, _⟩ := h; rfl) (fun cdv A outer s H vs Q E hr h => ?_)
  obtain ⟨p, s, o, d, rfl, ⟨dx, hp⟩, k⟩ := h
  exact ⟨_, (pss_one (ps_ret (pe_fld (pv 0) rfl))), _, rfl, p, _, dx, _, _, rfl, hp, T.c_Place.cl, T.a_Place__odd, plF_odd _ _ _, k⟩
theorem ok_parts (T : Txt K mg a) : FnR P w K mg base CX0 3 a.parts_of (spPParts a.Place) := by
  have G_Place_slope : FnR P w K mg base CX0 1 a.Place_slope (spPSlope a.Place) := ok_p_slope T
  have G_Place_offset : FnR P w K mg base CX0 1 a.Place_offset (spPOffset a.Place) := ok_p_offset T
  have G_Place_odd : FnR P w K mg base CX0 1 a.Place_odd (spPOdd a.Place) := ok_p_odd T
  refine T.d_parts_of.ok sc_parts_of (fun _ _ _ _ _ _ us hl => match us, hl with | [_], _ => rfl) (fun vs H Q E h => by obtain ⟨p, s, o, d, rfl, _⟩ := h; rfl) (fun cdv A outer s H vs Q E hr h => ?_)
  obtain ⟨p, s, o, d, rfl, ⟨dx, hp⟩, k⟩ := h
  refine ⟨_, (pss_one (ps_ret (pe_tup (pa_cons (pe_propR (pv 0) T.c_Place.cl T.p_Place_slope G_Place_slope (hr.mono (by decide)) pass0) (pa_cons (pe_propR (pv 0) T.c_Place.cl T.p_Place_offset G_Place_offset (hr.mono (by decide)) pass0) (pa_cons (pe_propR (pv 0) T.c_Place.cl T.p_Place_odd G_Place_odd (hr.mono (by decide)) pass0) pa_nil)))))), ?_⟩
  exact ⟨_, rfl, p, dx, _, rfl, hp, p, s, o, d, rfl, ⟨dx, hp⟩, _, rfl, p, dx, _, rfl, hp, p, s, o, d, rfl, ⟨dx, hp⟩, _, rfl, p, dx, _, rfl, hp, p, s, o, d, rfl, ⟨dx, hp⟩, (by show 3 ≤ sizeLine; decide), k⟩
theorem ok_p_eqX (T : Txt K mg a) : FnR P w K mg base CX0 4 a.Place_eq (spPEqX K a.Place) := by
  have G_parts_of : FnR P w K mg base CX0 3 a.parts_of (spPParts a.Place) := ok_parts T
  refine T.d_Place_eq.ok sc_Place_eq (fun _ _ _ _ _ _ us hl => match us, hl with | [_, _], _ => rfl) (fun vs H Q E h => by obtain ⟨p, v, s, o, d, rfl, _⟩ := h; rfl) (fun cdv A outer s H vs Q E hr h => ?_)
  obtain ⟨p, v, s, o, d, rfl, ⟨dx, hp⟩, h⟩ := h
  refine ⟨_, (pss_one (ps_ret (pe_and (pe_callB call_isi (by rfl) T.n_isinstance (by decide +kernel) (pa_cons (pv 1) (pa_cons (pe_glob (v := .ref a.Place) rfl T.m_Place rfl) pa_nil))) (pe_one (pe_cmpR (op_eqD hr.units) (pe_callR G_parts_of (hr.mono (by decide)) T.m_parts_of T.k_parts_of pass0 (pa_cons (pv 0) pa_nil)) (pe_callR G_parts_of (hr.mono (by decide)) T.m_parts_of T.k_parts_of pass0 (pa_cons (pv 1) pa_nil)) (nomark _)))))), ?_⟩
  rcases h with ⟨q, s', o', d', rfl, ⟨dy, hq⟩, k⟩ | ⟨⟨t, ht, hn⟩, k⟩
  · refine ⟨_, rfl, _, _, _, _, _, rfl, .own _, T.c_Place.tyOf hq, kit_self, true, rfl, iteT ?_⟩
    refine ⟨_, rfl, p, s, o, d, rfl, ⟨dx, hp⟩, fun t1 ht1 => ?_⟩
    have hq1 : (upd H t1 (.tup [.int s, .int o, .int d])) q = some (.ins a.Place dy (plF s' o' d')) := by rw [upd_ne (ne_of_none hq ht1)]; exact hq
    refine ⟨_, rfl, q, s', o', d', rfl, ⟨dy, hq1⟩, fun t2 ht2 => ?_⟩
    have h12 : t1 ≠ t2 := ne_of_none (upd_same (H := H) (o := .tup [.int s, .int o, .int d])) ht2
    refine ⟨.tuple [.int s, .int o, .int d], .tuple [.int s', .int o', .int d'], .tup (SqT.of (by rw [upd_ne h12]; exact upd_same)) (.cons (.int _) (.cons (.int _) (.cons (.int _) .nil))),
      .tup (SqT.of upd_same) (.cons (.int _) (.cons (.int _) (.cons (.int _) .nil))), rfl, rfl, ?_⟩
    rw [eqv3]
    refine k _ fun b u e => ?_
    have nb : b ≠ t1 := ne_of_none e ht1
    have e1 : (upd H t1 (.tup [.int s, .int o, .int d])) b = some u := by rw [upd_ne nb]; exact e
    rw [upd_ne (ne_of_none e1 ht2)]
    exact e1
  · exact ⟨_, rfl, _, _, _, _, _, rfl, .own _, ht, kit_ty_own T.c_Place hn, false, rfl, iteF k⟩
theorem ok_at (T : Txt K mg a) : FnR P w K mg base CX0 1 a._law_at (spAt K) := by
  refine T.d__law_at.ok sc__law_at (fun _ _ _ _ _ _ us hl => match us, hl with | [_, _], _ => rfl) (fun vs H Q E h => by obtain ⟨l, s, o, d, n, rfl, _⟩ := h; rfl) (fun cdv A outer s H vs Q E hr h => ?_)
  obtain ⟨l, s, o, d, n, rfl, hl, hm1, hm2, k⟩ := h
  refine ⟨_, (pss_cons (ps_set (i := 2) sc__law_at.nd rfl (Or.inl rfl) (pe_op op_fdiv (pv 1) pe_int))
      (pss_one (ps_ret (pe_op op_add (pe_op op_add (pe_op op_mulW (pe_ix ix_list (pv 0) pe_int (fun _ _ => rfl)) (pv 2)) (pe_ix ix_list (pv 0) pe_int (fun _ _ => rfl))) (pe_op op_mulW (pe_ix ix_list (pv 0) pe_int (fun _ _ => rfl)) (pe_op op_sub (pv 1) (pe_op op_mul pe_int (pv 2)))))))), ?_⟩
  have en : n - 2 * (n / 2) = n % 2 := by omega
  refine ⟨_, rfl, _, _, rfl, rfl, ⟨by decide, by decide⟩, ?_⟩
  refine ⟨_, rfl, l, _, _, _, rfl, rfl, hl, atI_nat (j := 0) rfl, _, rfl, _, _, rfl, rfl, hm1, _, rfl, l, _, _, _, rfl, rfl, hl, atI_nat (j := 1) rfl, _, _, rfl, rfl,
    _, rfl, l, _, _, _, rfl, rfl, hl, atI_nat (j := 2) rfl, _, rfl, _, rfl, _, _, rfl, rfl, .inl ⟨by decide, by decide⟩, _, _, rfl, rfl, ?_⟩
  refine ⟨_, _, rfl, rfl, (by show CMulW d (n - 2 * (n / 2)); rw [en]; exact hm2), _, _, rfl, rfl, ?_⟩
  show Q (.int (s * (n / 2) + o + d * (n - 2 * (n / 2)))) H
  rw [en]
  exact k
theorem kb_left {fd : FuncData} (F : FunD K "from_left" "from_left" (defArgs s_from_left) (defBody s_from_left) (defScope s_from_left) [.int 0] [] a.from_left fd) : ∃ its, KBn K fd ["k"] 0 ["k"] (fun us ws => (fun {α : Type} (us _ ws : List α) => us ++ ws) us its ws) fun vs zs => (fun {α : Type} (us _ ws : List α) => us ++ ws) vs [.int 0] zs :=
  kbnD F 0 ["k"] (fun {α} us _ ws => us ++ ws) (by simp) (fun r1 _ r3 => r1.append r3) (fun T kV doc pm an cdv ct us its ws hu hi hw => match us, its, ws, hu, hi, hw with | [], [_], [_], _, _, _ => ⟨_, rfl, rfl⟩)
theorem kb_middle {fd : FuncData} (F : FunD K "from_middle" "from_middle" (defArgs s_from_middle) (defBody s_from_middle) (defScope s_from_middle) [.int 0] [] a.from_middle fd) : ∃ its, KBn K fd ["k"] 0 ["k"] (fun us ws => (fun {α : Type} (us _ ws : List α) => us ++ ws) us its ws) fun vs zs => (fun {α : Type} (us _ ws : List α) => us ++ ws) vs [.int 0] zs :=
  kbnD F 0 ["k"] (fun {α} us _ ws => us ++ ws) (by simp) (fun r1 _ r3 => r1.append r3) (fun T kV doc pm an cdv ct us its ws hu hi hw => match us, its, ws, hu, hi, hw with | [], [_], [_], _, _, _ => ⟨_, rfl, rfl⟩)
theorem kb_right {fd : FuncData} (F : FunD K "from_right" "from_right" (defArgs s_from_right) (defBody s_from_right) (defScope s_from_right) [.int 0] [] a.from_right fd) : ∃ its, KBn K fd ["k"] 0 ["k"] (fun us ws => (fun {α : Type} (us _ ws : List α) => us ++ ws) us its ws) fun vs zs => (fun {α : Type} (us _ ws : List α) => us ++ ws) vs [.int 0] zs :=
  kbnD F 0 ["k"] (fun {α} us _ ws => us ++ ws) (by simp) (fun r1 _ r3 => r1.append r3) (fun T kV doc pm an cdv ct us its ws hu hi hw => match us, its, ws, hu, hi, hw with | [], [_], [_], _, _, _ => ⟨_, rfl, rfl⟩)
theorem ok_sorts (T : Txt K mg a) : FnR P w K mg base CX0 6 a._law_sorts_right spSorts := by
  have G_from_left : FnR P w K mg base (CX P w) 5 a.from_left (spFromX K a.Place a.BadPlace fun i => (0, i, 0)) := ok_leftX T
  have G_from_right : FnR P w K mg base (CX P w) 5 a.from_right (spFromX K a.Place a.BadPlace fun i => (2, -i, 1)) := ok_rightX T
  have G_from_middle : FnR P w K mg base (CX P w) 5 a.from_middle (spFromX K a.Place a.BadPlace fun i => (1, i, 0)) := ok_middleX T
  obtain ⟨fl, FL⟩ := id T.d_from_left
  obtain ⟨fr, FR⟩ := id T.d_from_right
  obtain ⟨fm, FM⟩ := id T.d_from_middle
  have O_left := ok_leftX_fn (P := P) (w := w) (mg := mg) (base := base) T FL
  have O_right := ok_rightX_fn (P := P) (w := w) (mg := mg) (base := base) T FR
  have O_middle := ok_middleX_fn (P := P) (w := w) (mg := mg) (base := base) T FM
  obtain ⟨_, KB_left⟩ := kb_left (a := a) FL
  obtain ⟨_, KB_right⟩ := kb_right (a := a) FR
  obtain ⟨_, KB_middle⟩ := kb_middle (a := a) FM
  have G_Place_slope : FnR P w K mg base CX0 1 a.Place_slope (spPSlope a.Place) := ok_p_slope T
  have G_Place_offset : FnR P w K mg base CX0 1 a.Place_offset (spPOffset a.Place) := ok_p_offset T
  have G_Place_odd : FnR P w K mg base CX0 1 a.Place_odd (spPOdd a.Place) := ok_p_odd T
  refine T.d__law_sorts_right.ok sc__law_sorts_right (fun _ _ _ _ _ _ us hl => match us, hl with | [_], _ => rfl) (fun vs H Q E h => by obtain ⟨f, rfl, _⟩ := h; rfl) (fun cdv A outer s H vs Q E hr h => ?_)
  obtain ⟨f, rfl, k⟩ := h
  refine ⟨_, (pss_cons (ps_set (i := 1) sc__law_sorts_right.nd rfl (Or.inl rfl) (pe_lst (pa_cons (pe_callR G_from_left (hr.mono (by decide)) T.m_from_left T.k_from_left (passUp LamX.takes0) (pa_cons (pv 0) pa_nil)) (pa_cons (pe_callR G_from_right (hr.mono (by decide)) T.m_from_right T.k_from_right (passUp LamX.takes0) (pa_cons (pv 0) pa_nil)) (pa_cons (pe_callR G_from_middle (hr.mono (by decide)) T.m_from_middle T.k_from_middle (passUp LamX.takes0) (pa_cons (pv 0) pa_nil)) pa_nil)))))
      (pss_cons (ps_set (i := 1) sc__law_sorts_right.nd rfl (Or.inl rfl) (pe_op op_cat (pv 1) (pe_lst (pa_cons (pe_callKO O_left (hr.mono (by decide)) rfl T.m_from_left T.k_from_left KB_left (passUp LamX.takes0) (pk_cons (pv 0) pk_nil)) (pa_cons (pe_callKO O_right (hr.mono (by decide)) rfl T.m_from_right T.k_from_right KB_right (passUp LamX.takes0) (pk_cons (pv 0) pk_nil)) (pa_cons (pe_callKO O_middle (hr.mono (by decide)) rfl T.m_from_middle T.k_from_middle KB_middle (passUp LamX.takes0) (pk_cons (pv 0) pk_nil)) pa_nil))))))
      (pss_cons (ps_set (i := 2) sc__law_sorts_right.nd rfl (Or.inl rfl) (pe_op op_rep (pe_lst (pa_cons (pe_tup (pa_cons pe_int (pa_cons (pv 0) (pa_cons pe_int pa_nil)))) (pa_cons (pe_tup (pa_cons pe_int (pa_cons (pe_op op_sub pe_int (pv 0)) (pa_cons pe_int pa_nil)))) (pa_cons (pe_tup (pa_cons pe_int (pa_cons (pv 0) (pa_cons pe_int pa_nil)))) pa_nil)))) pe_int))
      (pss_one (ps_ret (pe_cmpR (op_eqD hr.units) (pe_lc (own := [("_law_one", 3)]) (g := gName 3) (by rfl) sc__law_sorts_right.nd (pi_list (pv 1)) (blkOk_by (own := [("_law_one", 3)]) (N := ["_law_far", "_law_found", "_law_due", "_law_one"]) (sc := defScope s__law_sorts_right) (by decide +kernel)) (fun _ _ _ _ _ => (pg_name (i := 3) sc__law_sorts_right.nd rfl (Or.inl rfl))) (fun _ _ _ _ _ => pts_nil) (fun _ _ _ _ _ => (pe_tup (pa_cons (pe_propR (pv 3) T.c_Place.cl T.p_Place_slope G_Place_slope (hr.mono (by decide)) pass0) (pa_cons (pe_propR (pv 3) T.c_Place.cl T.p_Place_offset G_Place_offset (hr.mono (by decide)) pass0) (pa_cons (pe_propR (pv 3) T.c_Place.cl T.p_Place_odd G_Place_odd (hr.mono (by decide)) pass0) pa_nil)))))) (pv 2) (nomark _))))))), ?_⟩
  refine ⟨_, rfl, _, rfl, .inl ⟨f, rfl, fun x1 H1 s1 n1 p1 => ?_⟩⟩
  refine ⟨_, rfl, _, rfl, .inl ⟨f, rfl, fun x2 H2 s2 n2 p2 => ?_⟩⟩
  refine ⟨_, rfl, _, rfl, .inl ⟨f, rfl, fun x3 H3 s3 n3 p3 => ⟨(by show 3 ≤ sizeLine; decide), fun L hL => ?_⟩⟩⟩
  have mL := same_new (o := .lst [.ref x1, .ref x2, .ref x3]) hL
  have q1 := ((p1.same s2).same s3).same mL
  have q2 := (p2.same s3).same mL
  have q3 := p3.same mL
  have eL : (upd H3 L (.lst [.ref x1, .ref x2, .ref x3])) L = some (.lst [.ref x1, .ref x2, .ref x3]) := upd_same
  have sA := s1.trans (s2.trans (s3.trans mL))
  clear p1 p2 p3 n1 n2 n3 s1 s2 s3 mL
  generalize upd H3 L (.lst [.ref x1, .ref x2, .ref x3]) = HA at *
  refine ⟨_, rfl, _, rfl, rfl, _, rfl, .inl ⟨f, rfl, fun x4 H4 s4 n4 p4 => ?_⟩⟩
  refine ⟨_, rfl, rfl, _, rfl, .inl ⟨f, rfl, fun x5 H5 s5 n5 p5 => ?_⟩⟩
  refine ⟨_, rfl, rfl, _, rfl, .inl ⟨f, rfl, fun x6 H6 s6 n6 p6 => ⟨(by show 3 ≤ sizeLine; decide), fun L2 hL2 => ?_⟩⟩⟩
  have m2 := same_new (o := .lst [.ref x4, .ref x5, .ref x6]) hL2
  have sB := s4.trans (s5.trans (s6.trans m2))
  refine ⟨L, L2, _, _, rfl, rfl, sB _ _ eL, upd_same, (by show 3 + 3 ≤ sizeLine; decide), fun L3 hL3 => ?_⟩
  have m3 := same_new (o := .lst ([.ref x1, .ref x2, .ref x3] ++ [.ref x4, .ref x5, .ref x6])) hL3
  have r1 := q1.same (sB.trans m3)
  have r2 := q2.same (sB.trans m3)
  have r3 := q3.same (sB.trans m3)
  have r4 := p4.same (s5.trans (s6.trans (m2.trans m3)))
  have r5 := p5.same (s6.trans (m2.trans m3))
  have r6 := p6.same (m2.trans m3)
  have e3 : (upd (upd H6 L2 (.lst [.ref x4, .ref x5, .ref x6])) L3 (.lst ([.ref x1, .ref x2, .ref x3] ++ [.ref x4, .ref x5, .ref x6]))) L3 = some (.lst ([.ref x1, .ref x2, .ref x3] ++ [.ref x4, .ref x5, .ref x6])) := upd_same
  have sC := sA.trans (sB.trans m3)
  clear q1 q2 q3 p4 p5 p6 n4 n5 n6 s4 s5 s6 m2 m3 sA sB eL hL2 hL3
  generalize upd (upd H6 L2 (.lst [.ref x4, .ref x5, .ref x6])) L3 (.lst ([.ref x1, .ref x2, .ref x3] ++ [.ref x4, .ref x5, .ref x6])) = HC at *
  refine ⟨_, rfl, (by show 3 ≤ sizeLine; decide), fun t1 ht1 => ⟨_, rfl, _, _, rfl, rfl, (by show 3 ≤ sizeLine; decide), fun t2 ht2 => ⟨_, rfl, (by show 3 ≤ sizeLine; decide), fun t3 ht3 => ⟨(by show 3 ≤ sizeLine; decide), fun M hM => ?_⟩⟩⟩⟩
  have w1 := same_new (o := .tup [.int 0, .int f, .int 0]) ht1
  have w2 := same_new (o := .tup [.int 2, .int (0 - f), .int 1]) ht2
  have w3 := same_new (o := .tup [.int 1, .int f, .int 0]) ht3
  have w4 := same_new (o := .lst [.ref t1, .ref t2, .ref t3]) hM
  refine ⟨M, 2, _, rfl, rfl, upd_same, by decide, by decide, (by show 3 * 2 ≤ sizeLine; decide), fun M2 hM2 => ?_⟩
  have w5 := same_new (o := .lst (List.replicate (2 : Int).toNat [V.ref t1, V.ref t2, V.ref t3]).flatten) hM2
  have u1 := w5 _ _ (w4 _ _ (w3 _ _ (w2 _ _ (upd_same (H := HC) (o := .tup [.int 0, .int f, .int 0]) (a := t1)))))
  have u2 := w5 _ _ (w4 _ _ (w3 _ _ (upd_same (H := upd HC t1 (.tup [.int 0, .int f, .int 0])) (o := .tup [.int 2, .int (0 - f), .int 1]) (a := t2))))
  have u3 := w5 _ _ (w4 _ _ (upd_same (H := upd (upd HC t1 (.tup [.int 0, .int f, .int 0])) t2 (.tup [.int 2, .int (0 - f), .int 1])) (o := .tup [.int 1, .int f, .int 0]) (a := t3)))
  have u5 : (upd (upd (upd (upd (upd HC t1 (.tup [.int 0, .int f, .int 0])) t2 (.tup [.int 2, .int (0 - f), .int 1])) t3 (.tup [.int 1, .int f, .int 0])) M (.lst [.ref t1, .ref t2, .ref t3])) M2 (.lst (List.replicate (2 : Int).toNat [V.ref t1, V.ref t2, V.ref t3]).flatten)) M2 = some (.lst [.ref t1, .ref t2, .ref t3, .ref t1, .ref t2, .ref t3]) := upd_same
  have ww := w1.trans (w2.trans (w3.trans (w4.trans w5)))
  have r1 := r1.same ww
  have r2 := r2.same ww
  have r3 := r3.same ww
  have r4 := r4.same ww
  have r5 := r5.same ww
  have r6 := r6.same ww
  have e3 := ww _ _ e3
  have sD := sC.trans ww
  clear w1 w2 w3 w4 w5 ww sC hM2 hM ht1 ht2 ht3
  generalize upd (upd (upd (upd (upd HC t1 (.tup [.int 0, .int f, .int 0])) t2 (.tup [.int 2, .int (0 - f), .int 1])) t3 (.tup [.int 1, .int f, .int 0])) M (.lst [.ref t1, .ref t2, .ref t3])) M2 (.lst (List.replicate (2 : Int).toNat [V.ref t1, V.ref t2, V.ref t3]).flatten) = HD at *
  have rows : ∀ (i : Nat) (x : V), ([V.ref x1, .ref x2, .ref x3] ++ [.ref x4, .ref x5, .ref x6])[i]? = some x → ∃ (q : Addr) (s o d : Int), x = .ref q ∧ PlaceAt HD a.Place q s o d ∧ [((0 : Int), f, (0 : Int)), (2, -f, 1), (1, f, 0), (0, f, 0), (2, -f, 1), (1, f, 0)][i]? = some (s, o, d) := fun i x hx => by
    match i, hx with
    | 0, hx => cases hx; exact ⟨_, _, _, _, rfl, r1, rfl⟩
    | 1, hx => cases hx; exact ⟨_, _, _, _, rfl, r2, rfl⟩
    | 2, hx => cases hx; exact ⟨_, _, _, _, rfl, r3, rfl⟩
    | 3, hx => cases hx; exact ⟨_, _, _, _, rfl, r4, rfl⟩
    | 4, hx => cases hx; exact ⟨_, _, _, _, rfl, r5, rfl⟩
    | 5, hx => cases hx; exact ⟨_, _, _, _, rfl, r6, rfl⟩
    | n + 6, hx => cases hx
  refine ⟨_, rfl, L3, rfl, ⟨_, SqL.of e3⟩, fun D hD => lc_list (K := K) (a := L3) (xs := [.ref x1, .ref x2, .ref x3] ++ [.ref x4, .ref x5, .ref x6])
    (fun i H' => ∃ acc, H' D = some (.lst acc) ∧ SameBut D HD H' ∧ Tups H' acc ([((0 : Int), f, (0 : Int)), (2, -f, 1), (1, f, 0), (0, f, 0), (2, -f, 1), (1, f, 0)].take i))
    ⟨[], upd_same, SameBut.upd, trivial⟩ (fun _ H' _ h => by obtain ⟨_, _, sb, _⟩ := h; exact SqL.of (sb _ _ (ne_of_none e3 hD) e3)) ?_ ?_⟩
  · rintro i x H' hx ⟨acc, hacc, sb, tu⟩
    obtain ⟨q, s, o, d, rfl, ⟨dz, hz⟩, hrow⟩ := rows i x hx
    have hz' := sb _ _ (ne_of_none hz hD) hz
    refine ⟨rfl, ?_⟩
    refine ⟨_, rfl, q, dz, _, rfl, hz', q, s, o, d, rfl, ⟨dz, hz'⟩, _, rfl, q, dz, _, rfl, hz', q, s, o, d, rfl, ⟨dz, hz'⟩, _, rfl, q, dz, _, rfl, hz', q, s, o, d, rfl, ⟨dz, hz'⟩, (by show 3 ≤ sizeLine; decide), fun t ht => ?_⟩
    have nt : t ≠ D := fun e => by rw [e, hacc] at ht; cases ht
    refine ⟨acc, by rw [upd_ne (Ne.symm nt)]; exact hacc, ?_, acc ++ [.ref t], upd_same, sb.trans ((SameBut.of (same_new ht)).trans SameBut.upd), ?_⟩
    · rw [tu.len, List.length_take]
      exact Nat.lt_of_le_of_lt (Nat.min_le_right _ _) (by show 6 < sizeLine; decide)
    · rw [List.take_succ, hrow]
      refine Tups.snoc (by rw [upd_ne nt]; exact upd_same) (tu.go fun t' s' o' d' h => ?_)
      have n1 : t' ≠ D := fun e => by rw [e, hacc] at h; cases h
      rw [upd_ne n1]
      exact same_new ht _ _ h
  · rintro H' ⟨acc, hacc, sb, tu⟩
    have tu : Tups H' acc [((0 : Int), f, (0 : Int)), (2, -f, 1), (1, f, 0), (0, f, 0), (2, -f, 1), (1, f, 0)] := tu
    have v1 := sb _ _ (ne_of_none u1 hD) u1
    have v2 := sb _ _ (ne_of_none u2 hD) u2
    have v3 := sb _ _ (ne_of_none u3 hD) u3
    have v5 := sb _ _ (ne_of_none u5 hD) u5
    have tv : Tups H' [.ref t1, .ref t2, .ref t3, .ref t1, .ref t2, .ref t3] [((0 : Int), f, (0 : Int)), (2, 0 - f, 1), (1, f, 0), (0, f, 0), (2, 0 - f, 1), (1, f, 0)] := ⟨⟨t1, rfl, v1⟩, ⟨t2, rfl, v2⟩, ⟨t3, rfl, v3⟩, ⟨t1, rfl, v1⟩, ⟨t2, rfl, v2⟩, ⟨t3, rfl, v3⟩, trivial⟩
    rw [show (0 : Int) - f = -f from by omega] at tv
    refine ⟨_, rfl, _, _, .lst (SqL.of hacc) tu.dp, .lst (SqL.of v5) tv.dp, rfl, rfl, ?_⟩
    rw [show PyData.eqv (.list ([((0 : Int), f, (0 : Int)), (2, -f, 1), (1, f, 0), (0, f, 0), (2, -f, 1), (1, f, 0)].map rowD)) (.list ([((0 : Int), f, (0 : Int)), (2, -f, 1), (1, f, 0), (0, f, 0), (2, -f, 1), (1, f, 0)].map rowD)) = true from by simp [PyData.eqv, PyData.eqvAll, rowD]]
    exact k _ fun b o e => sb _ _ (ne_of_none (sD _ _ e) hD) (sD _ _ e)
end
end Pf
end
section
namespace Pf
open PySem PySem.Spec PyProof.Rows L2 Ow StX
/-! ### the law -/
/-- the lambdas' long name -/
abbrev lamQ : Str := (Str.ofString "law" ++ Str.ofString ".<locals>.") ++ Str.ofString "<lambda>"
theorem kb_init {K : PySem.W.Frag} {a : Adr} {fd : FuncData} (F : FunD K "__init__" "Place.__init__" (defArgs s_Place_init) (defBody s_Place_init) (defScope s_Place_init) [.int 0] [] a.Place_init fd) :
    ∃ its, KBn K fd ["self", "slope", "offset", "odd"] 1 ["odd", "offset", "slope"] (fun us ws => (fun {α : Type} (us _ ws : List α) => us ++ ws.reverse) us its ws) fun vs zs => (fun {α : Type} (us _ ws : List α) => us ++ ws.reverse) vs [.int 0] zs :=
  kbnD F 1 ["odd", "offset", "slope"] (fun {α} us _ ws => us ++ ws.reverse) (by simp) (fun r1 _ r3 => r1.append (by
    induction r3 with
    | nil => exact .nil
    | cons h _ ih => rw [List.reverse_cons, List.reverse_cons]; exact ih.append (.cons h .nil)))
    (fun T kV doc pm an cdv ct us its ws hu hi hw => match us, its, ws, hu, hi, hw with | [_], [_], [_, _, _], _, _, _ => ⟨_, rfl, rfl⟩)
theorem kb_call {K : PySem.W.Frag} {a : Adr} {fd : FuncData} (F : FunD K "__call__" "Place.__call__" (defArgs s_Place_call) (defBody s_Place_call) (defScope s_Place_call) [] [] a.Place_call fd) : KBn K fd ["self", "size"] 1 ["size"] (fun us ws => us ++ ws) fun vs zs => vs ++ zs :=
  kbn0 F (fun r1 r2 => r1.append r2) (fun kV doc pm an cdv ct us ws hu hw => match us, ws, hu, hw with | [_], [_], _, _ => rfl)
theorem tabs_but {TL : List (Addr × Str)} {H H' : Hp} {d : Addr} (t : LamX.Tabs TL H) (B : Bag H d) (s : SameBut d H H') : LamX.Tabs TL H' := fun p hp => by
  obtain ⟨ps, h1, h2, h3⟩ := t p hp
  refine ⟨ps, s _ _ (B.ne h1 fun _ z => by cases z) h1, h2, fun pos cv hc => ?_⟩
  obtain ⟨c, e1, e2⟩ := h3 pos cv hc
  exact ⟨c, e1, s _ _ (B.ne e2 fun _ z => by unfold LamX.CodeO at z; cases z) e2⟩
theorem Bag.dict {H : Hp} {d : Addr} (B : Bag H d) : ∃ kvs, H d = some (.dK kvs) := by
  obtain ⟨c, ns, o, hd, ⟨i, r, st, e, _⟩, _⟩ := B
  exact ⟨_, by rw [hd, e]⟩
theorem bag_ext {H H' : Hp} {d : Addr} (B : Bag H d) (e : LamX.ExtN H H') : Bag H' d := by
  obtain ⟨c, ns, o, hd, ⟨i, r, st, eo, eq⟩, hc, hl⟩ := B
  exact ⟨c, ns, o, e _ _ hd (fun _ z => by rw [eo] at z; cases z), ⟨i, r, st, eo, eq⟩, e _ _ hc (fun _ z => by cases z), hl⟩
theorem noInt_but {K : PySem.W.Frag} {H H' : Hp} {d : Addr} (B : Bag H d) (B' : Bag H' d) (s : SameBut d H H') {v : V} (h : NoInt K H v) : NoInt K H' v := by
  rcases h with h | ⟨t, h, q⟩
  · exact .inl h
  · refine .inr ⟨t, ?_, q⟩
    cases h with
    | base h =>
      refine .base ?_
      cases h with
      | non => exact .non
      | bl x => exact .bl x
      | int i => exact .int i
      | str x => exact .str x
      | flt x => exact .flt x
      | lst h => exact .lst (s _ _ (B.ne h fun _ z => by cases z) h)
      | frz h => exact .frz (s _ _ (B.ne h fun _ z => by cases z) h)
      | tup h => exact .tup (s _ _ (B.ne h fun _ z => by cases z) h)
      | @dK a kvs h =>
        by_cases e : a = d
        · subst e
          obtain ⟨kvs', h'⟩ := B'.dict
          exact .dK h'
        · exact .dK (s _ _ e h)
      | dT h => exact .dT (s _ _ (B.ne h fun _ z => by cases z) h)
    | byt b => exact .byt b
    | set h => exact .set (s _ _ (B.ne h fun _ z => by cases z) h)
    | kList h c => exact .kList h c
    | kTuple h c => exact .kTuple h c
    | kDict h c => exact .kDict h c
    | fTuple h => exact .fTuple (s _ _ (B.ne h fun _ z => by cases z) h)
    | fDict h => exact .fDict (s _ _ (B.ne h fun _ z => by cases z) h)
theorem made_same {H : Hp} {x dx C : Addr} {fs : List (Str × V)} (nx : H x = none) (nd : H dx = none) (ne : dx ≠ x) : Same H (upd (upd (upd H dx (.own x)) x (.ins C dx [])) x (.ins C dx fs)) := by
  have nx' : (upd H dx (.own x)) x = none := by rw [upd_ne (Ne.symm ne)]; exact nx
  rw [upd_upd]
  exact (same_new nd).trans (same_new nx')
theorem eqvL3 (s o d : Int) : PyData.eqv (.list [.int s, .int o, .int d]) (.list [.int s, .int o, .int d]) = true := by simp [PyData.eqv, PyData.eqvAll]
theorem eqvT2 (x y : Str) : PyData.eqv (.tuple [.str x, .str y]) (.tuple [.str x, .str y]) = true := by simp [PyData.eqv, PyData.eqvAll]
def Nar (i : Int) : Prop := i.natAbs < 2 ^ 140
def Wid (n : Int) : Prop := 1 ≤ n ∧ n < 2 ^ 101
theorem nar_mul {s n : Int} (hs : Nar s) (hn : Wid n) : CMulW s (n / 2) := by
  obtain ⟨h1, h2⟩ := hn
  refine wide_mul (a := 140) (b := 101) hs ?_ (by decide) (by decide) (by decide)
  have e : (2 : Int) ^ 101 = 2535301200456458802993406410752 := by decide
  have e2 : (2 : Nat) ^ 101 = 2535301200456458802993406410752 := by decide
  rw [e] at h2
  rw [e2]
  omega
theorem nar_mod {s n : Int} (hs : Nar s) : CMulW s (n % 2) := by
  refine wide_mul (a := 140) (b := 2) hs ?_ (by decide) (by decide) (by decide)
  omega
theorem val_fit {s o d n : Int} (hs : Nar s) (ho : Nar o) (hd : Nar d) (hn : Wid n) : (valP s o d n).natAbs < 2 ^ 250 := by
  obtain ⟨h1, h2⟩ := hn
  have e : (2 : Int) ^ 101 = 2535301200456458802993406410752 := by decide
  rw [e] at h2
  unfold valP
  have a1 : (s * (n / 2)).natAbs ≤ 2 ^ 140 * 2 ^ 101 := by
    rw [Int.natAbs_mul]
    exact Nat.mul_le_mul (Nat.le_of_lt hs) (by have e2 : (2 : Nat) ^ 101 = 2535301200456458802993406410752 := by decide
                                               rw [e2]; omega)
  have a2 : (d * (n % 2)).natAbs ≤ 2 ^ 140 * 2 := by
    rw [Int.natAbs_mul]
    exact Nat.mul_le_mul (Nat.le_of_lt hd) (by omega)
  have a3 : (s * (n / 2) + o + d * (n % 2)).natAbs ≤ (s * (n / 2)).natAbs + o.natAbs + (d * (n % 2)).natAbs := by omega
  have a4 : 2 ^ 140 * 2 ^ 101 + 2 ^ 140 + 2 ^ 140 * 2 < 2 ^ 250 := by decide
  unfold Nar at ho
  omega
theorem show_int {i : Int} (h : i.natAbs < 2 ^ 250) : (PyData.int i).showable = true ∧ (PyData.int i).hasDict = false ∧ (PyData.int i).depth ≤ 8 ∧ (PyData.int i).shown.length ≤ sizeLine := by
  have hl : i.natAbs.log2 < 250 := by
    by_cases z : i.natAbs = 0
    · rw [z]; decide
    · exact (Nat.log2_lt z).2 h
  refine ⟨decide_eq_true (Nat.lt_trans hl (by decide)), rfl, by simp [PyData.depth], ?_⟩
  show (Str.ofString (toString i)).length ≤ sizeLine
  rw [PySem.ofString_length]
  exact Nat.le_trans (int_text_length_le (k := 250) (by decide) hl) (by decide +kernel)
theorem noInt_updL {K : PySem.W.Frag} {H : Hp} {l : Addr} {xs ys : List V} (hl : H l = some (.lst xs)) {v : V} (h : NoInt K H v) : NoInt K (upd H l (.lst ys)) v := by
  have ne : ∀ {b : Addr} {u : HO}, H b = some u → (∀ zs, u ≠ .lst zs) → (upd H l (.lst ys)) b = some u := fun {b u} e n => by
    rw [upd_ne (fun q => by rw [q, hl] at e; exact n xs (Option.some.inj e).symm)]
    exact e
  rcases h with h | ⟨t, h, q⟩
  · exact .inl h
  · refine .inr ⟨t, ?_, q⟩
    cases h with
    | base h =>
      refine .base ?_
      cases h with
      | non => exact .non
      | bl x => exact .bl x
      | int i => exact .int i
      | str x => exact .str x
      | flt x => exact .flt x
      | @lst a zs h =>
        by_cases e : a = l
        · subst e; exact .lst upd_same
        · exact .lst (by rw [upd_ne e]; exact h)
      | frz h => exact .frz (ne h fun _ z => by cases z)
      | tup h => exact .tup (ne h fun _ z => by cases z)
      | dK h => exact .dK (ne h fun _ z => by cases z)
      | dT h => exact .dT (ne h fun _ z => by cases z)
    | byt b => exact .byt b
    | set h => exact .set (ne h fun _ z => by cases z)
    | kList h c => exact .kList h c
    | kTuple h c => exact .kTuple h c
    | kDict h c => exact .kDict h c
    | fTuple h => exact .fTuple (ne h fun _ z => by cases z)
    | fDict h => exact .fDict (ne h fun _ z => by cases z)
/-- three parts of which one is no integer; nm names the first -/
def Bad3 (K : PySem.W.Frag) (H : Hp) (y0 y1 y2 : V) (nm : Str) : Prop := (NoInt K H y0 ∧ nm = "slope") ∨ ∃ s : Int, y0 = .int s ∧ ((NoInt K H y1 ∧ nm = "offset") ∨ ∃ o : Int, y1 = .int o ∧ NoInt K H y2 ∧ nm = "odd")
theorem Bad3.go {K : PySem.W.Frag} {H H' : Hp} {y0 y1 y2 : V} {nm : Str} (h : Bad3 K H y0 y1 y2 nm) (n : ∀ v, NoInt K H v → NoInt K H' v) : Bad3 K H' y0 y1 y2 nm := by
  rcases h with ⟨h, e⟩ | ⟨s, e1, ⟨h, e⟩ | ⟨o, e2, h, e⟩⟩
  · exact .inl ⟨n _ h, e⟩
  · exact .inr ⟨s, e1, .inl ⟨n _ h, e⟩⟩
  · exact .inr ⟨s, e1, .inr ⟨o, e2, n _ h, e⟩⟩
theorem Bad3.shaped {K : PySem.W.Frag} {H : Hp} {y0 y1 y2 : V} {nm : Str} (h : Bad3 K H y0 y1 y2 nm) : SeqAt.shaped (.tuple [.str "place", .str nm]) = true := by
  rcases h with ⟨h, e⟩ | ⟨s, e1, ⟨h, e⟩ | ⟨o, e2, h, e⟩⟩ <;> subst e <;> decide +kernel
def spPInitW (K : PySem.W.Frag) (C B : Addr) : Sp := fun vs H Q E => ∃ (p dx : Addr) (v1 v2 v3 : V), vs = [.ref p, v1, v2, v3] ∧ H p = some (.ins C dx []) ∧ ∃ nm, Bad3 K H v1 v2 v3 nm ∧ Out1 B "part" H E (.str nm)
theorem initW {K : PySem.W.Frag} {C B : Addr} {vs : List V} {H : Hp} {Q : VK} {E : XK} (h : spPInitW K C B vs H Q E) : spPInitX K C B vs H Q E := by
  obtain ⟨p, dx, v1, v2, v3, rfl, hp, nm, hb, q⟩ := h
  rcases hb with ⟨h, e⟩ | ⟨s, e1, ⟨h, e⟩ | ⟨o, e2, h, e⟩⟩ <;> subst e
  · exact ⟨p, dx, v1, v2, v3, rfl, hp, .inl ⟨h, q⟩⟩
  · exact ⟨p, dx, v1, v2, v3, rfl, hp, .inr ⟨s, e1, .inl ⟨h, q⟩⟩⟩
  · exact ⟨p, dx, v1, v2, v3, rfl, hp, .inr ⟨s, e1, .inr ⟨o, e2, .inl ⟨h, q⟩⟩⟩⟩
theorem three {z : Int} (h0 : 0 ≤ z) (h1 : z < 3) : z = 0 ∨ z = 1 ∨ z = 2 := by omega
theorem bad_of {K : PySem.W.Frag} {H : Hp} {s o e : Int} {u1 u2 : V} (n1 : NoInt K H u1) (n2 : NoInt K H u2) {ka kb : Int} (a0 : 0 ≤ ka) (a1 : ka < 3) (b0 : 0 ≤ kb) (b1 : kb < 3) :
    ∃ (y0 y1 y2 : V) (nm : Str), (([V.int s, .int o, .int e].set ka.toNat u1).set kb.toNat u2) = [y0, y1, y2] ∧ Bad3 K H y0 y1 y2 nm ∧ atI [V.str "slope", .str "offset", .str "odd"] (if kb < ka then kb else ka) = some (.str nm) := by
  rcases three a0 a1 with rfl | rfl | rfl <;> rcases three b0 b1 with rfl | rfl | rfl
  · exact ⟨_, _, _, "slope", rfl, .inl ⟨n2, rfl⟩, rfl⟩
  · exact ⟨_, _, _, "slope", rfl, .inl ⟨n1, rfl⟩, rfl⟩
  · exact ⟨_, _, _, "slope", rfl, .inl ⟨n1, rfl⟩, rfl⟩
  · exact ⟨_, _, _, "slope", rfl, .inl ⟨n2, rfl⟩, rfl⟩
  · exact ⟨_, _, _, "offset", rfl, .inr ⟨_, rfl, .inl ⟨n2, rfl⟩⟩, rfl⟩
  · exact ⟨_, _, _, "offset", rfl, .inr ⟨_, rfl, .inl ⟨n1, rfl⟩⟩, rfl⟩
  · exact ⟨_, _, _, "slope", rfl, .inl ⟨n2, rfl⟩, rfl⟩
  · exact ⟨_, _, _, "offset", rfl, .inr ⟨_, rfl, .inl ⟨n2, rfl⟩⟩, rfl⟩
  · exact ⟨_, _, _, "odd", rfl, .inr ⟨_, rfl, .inr ⟨_, rfl, n2, rfl⟩⟩, rfl⟩
theorem ix_three {z : Int} (h0 : 0 ≤ z) (h1 : z < 3) : ixN 3 z = some z.toNat := by
  rcases three h0 h1 with rfl | rfl | rfl <;> rfl
theorem bag_upd {H : Hp} {d c l : Addr} {o : HO} (B : Bag H d) (h : CellsAt H d c) (n : c ≠ l) (nd : d ≠ l) : Bag (upd H l o) d := by
  obtain ⟨c', ns, o', hd, ⟨i, r, st, e, N⟩, hc, hl⟩ := B
  have q : c' = c := cells_one ⟨i, r, st, by rw [hd, e]⟩ h
  subst q
  exact ⟨c', ns, o', by rw [upd_ne nd]; exact hd, ⟨i, r, st, e, N⟩, by rw [upd_ne n]; exact hc, hl⟩
theorem CellsAt.extN {H H' : Hp} {d c : Addr} (h : CellsAt H d c) (e : LamX.ExtN H H') : CellsAt H' d c := by
  obtain ⟨i, r, st, q⟩ := h
  exact ⟨i, r, st, e _ _ q fun _ z => by cases z⟩
theorem Bag.cells {H : Hp} {d : Addr} (B : Bag H d) : ∃ c, CellsAt H d c ∧ ∃ o, H c = some o := by
  obtain ⟨c, ns, o', hd, ⟨i, r, st, e, N⟩, hc, hl⟩ := B
  exact ⟨c, ⟨i, r, st, by rw [hd, e]⟩, _, hc⟩
theorem tabs_upd {TL : List (Addr × Str)} {H : Hp} {l : Addr} {xs ys : List V} (t : LamX.Tabs TL H) (hl : H l = some (.lst xs)) : LamX.Tabs TL (upd H l (.lst ys)) := fun p hp => by
  obtain ⟨ps, h1, h2, h3⟩ := t p hp
  have ne : ∀ {b : Addr} {u : HO}, H b = some u → (∀ zs, u ≠ .lst zs) → (upd H l (.lst ys)) b = some u := fun {b u} e n => by
    rw [upd_ne (fun q => by rw [q, hl] at e; exact n xs (Option.some.inj e).symm)]
    exact e
  refine ⟨ps, ne h1 (fun _ z => by cases z), h2, fun pos cv hc => ?_⟩
  obtain ⟨c, e1, e2⟩ := h3 pos cv hc
  exact ⟨c, e1, ne e2 fun _ z => by unfold LamX.CodeO at z; cases z⟩
def spLaw (K : PySem.W.Frag) (Tb : Addr) : Sp := fun vs H Q _ => ∃ (sa : Addr) (ns : List Int), vs = [.ref sa] ∧ SqL K H sa (ns.map V.int) ∧ ns.length ≤ 63 ∧ H Tb = some (.tbl #[]) ∧ ∀ H', Q (.bl true) H'
section
variable {P : Program} {w : World} {K : PySem.W.Frag} {mg : Str → Option Value} {base : Heap} {a : Adr}
set_option maxHeartbeats 4000000
theorem ok_law (T : Txt K mg a) {c Tb : Addr} (FC : FnC K "law" "law" s_law a.law c) (TB : LamX.TabB base mg c Tb) : FnG P w K mg base CX0 9 a.law (spLaw K Tb) := by
  have G__law_draw : FnR P w K mg base CX0 1 a._law_draw spDraw := ok_draw T
  have G_drawC : FnR P w K mg base CX0 1 a._law_draw spDrawC := ok_drawC T
  have G__law_bag : FnR P w K mg base CX0 1 a._law_bag (spBag K) := ok_bag T
  have G__law_odd : FnR P w K mg base CX0 2 a._law_odd (spOdd K) := ok_odd T
  have G__law_number : FnR P w K mg base CX0 2 a._law_number spNumber := ok_number T
  have G__law_at : FnR P w K mg base CX0 1 a._law_at (spAt K) := ok_at T
  have G__law_sorts_right : FnR P w K mg base CX0 6 a._law_sorts_right spSorts := ok_sorts T
  have G_eq : FnR P w K mg base CX0 4 a.Place_eq (spPEqX K a.Place) := ok_p_eqX T
  have G_Place_slope : FnR P w K mg base CX0 1 a.Place_slope (spPSlope a.Place) := ok_p_slope T
  have G_Place_offset : FnR P w K mg base CX0 1 a.Place_offset (spPOffset a.Place) := ok_p_offset T
  have G_Place_odd : FnR P w K mg base CX0 1 a.Place_odd (spPOdd a.Place) := ok_p_odd T
  have G_call : FnR P w K mg base (CX P w) 4 a.Place_call (spPCallX K a.Place a.BadSize) := ok_p_callX T
  have G_Place_init : FnR P w K mg base (CX P w) 3 a.Place_init (spPInitX K a.Place a.BadPlace) := ok_p_initX T
  have G_initW : FnR P w K mg base (CX P w) 3 a.Place_init (spPInitW K a.Place a.BadPlace) := (ok_p_initX T).imp fun _ _ _ _ => initW
  have G_from_left : FnR P w K mg base (CX P w) 5 a.from_left (spFromX K a.Place a.BadPlace fun i => (0, i, 0)) := ok_leftX T
  have G_from_right : FnR P w K mg base (CX P w) 5 a.from_right (spFromX K a.Place a.BadPlace fun i => (2, -i, 1)) := ok_rightX T
  have G_from_middle : FnR P w K mg base (CX P w) 5 a.from_middle (spFromX K a.Place a.BadPlace fun i => (1, i, 0)) := ok_middleX T
  obtain ⟨fdI, FI⟩ := id T.d_Place_init
  obtain ⟨fdC, FCl⟩ := id T.d_Place_call
  obtain ⟨fl, FL⟩ := id T.d_from_left
  obtain ⟨fr, FR⟩ := id T.d_from_right
  obtain ⟨fm, FM⟩ := id T.d_from_middle
  have O_init := ok_p_initX_fn (P := P) (w := w) (mg := mg) (base := base) T FI
  have O_call := ok_p_callX_fn (P := P) (w := w) (mg := mg) (base := base) T FCl
  have O_left := ok_leftX_fn (P := P) (w := w) (mg := mg) (base := base) T FL
  have O_right := ok_rightX_fn (P := P) (w := w) (mg := mg) (base := base) T FR
  have O_middle := ok_middleX_fn (P := P) (w := w) (mg := mg) (base := base) T FM
  have G_init2 : FnR P w K mg base (CX P w) 3 a.Place_init (fun vs H Q E => spPInitX K a.Place a.BadPlace (vs ++ [.int 0]) H Q E) := posR FI O_init 3 0 (by simp) rfl (fun T kV doc pm an cdv ct us its hu hi => match us, its, hu, hi with | [_, _, _], [_], _, _ => ⟨_, rfl, rfl⟩)
  obtain ⟨_, KB_init⟩ := kb_init (a := a) FI
  have KB_call := kb_call (a := a) FCl
  obtain ⟨_, d_left, b_left⟩ := FL.binds1 (ps := ["k"]) 0 0 (by simp) rfl (fun T kV doc pm an cdv ct us its hu hi => match us, its, hu, hi with | [], [_], _, _ => ⟨_, rfl, rfl⟩)
  obtain ⟨_, d_right, b_right⟩ := FR.binds1 (ps := ["k"]) 0 0 (by simp) rfl (fun T kV doc pm an cdv ct us its hu hi => match us, its, hu, hi with | [], [_], _, _ => ⟨_, rfl, rfl⟩)
  obtain ⟨_, d_middle, b_middle⟩ := FM.binds1 (ps := ["k"]) 0 0 (by simp) rfl (fun T kV doc pm an cdv ct us its hu hi => match us, its, hu, hi with | [], [_], _, _ => ⟨_, rfl, rfl⟩)
  refine FC.okG sc_law (fun _ _ _ _ _ _ us hl => match us, hl with | [_], _ => rfl) (fun vs H Q E h => by obtain ⟨sa, ns, rfl, _⟩ := h; rfl) (fun A outer s H vs Q E hr hg h => ?_)
  obtain ⟨sa, ns, rfl, hS, hns, hT, k⟩ := h
  refine ⟨_, (pss_cons (ps_set (i := 1) sc_law.nd rfl (Or.inl rfl) (pe_callR G__law_bag (hr.mono (by decide)) T.m__law_bag T.k__law_bag pass0 (pa_cons (pv 0) pa_nil)))
      (pss_cons (ps_for PassesOwn.never rfl (pi_range1 rfl T.n_range (pa_cons pe_int pa_nil)) (pg_name (i := 2) sc_law.nd rfl (Or.inl rfl))
          (pss_cons (ps_set (i := 3) sc_law.nd rfl (Or.inl rfl) (pe_lst (pa_cons (pe_callR G__law_number (hr.mono (by decide)) T.m__law_number T.k__law_number pass0 (pa_cons (pv 1) pa_nil)) (pa_cons (pe_callR G__law_number (hr.mono (by decide)) T.m__law_number T.k__law_number pass0 (pa_cons (pv 1) pa_nil)) (pa_cons (pe_callR G__law_number (hr.mono (by decide)) T.m__law_number T.k__law_number pass0 (pa_cons (pv 1) pa_nil)) pa_nil)))))
          (pss_cons (ps_set (i := 10) sc_law.nd rfl (Or.inr rfl) (pe_makeRR T.M_Place G_Place_init (hr.mono (by decide)) T.m_Place (passUp LamX.takes0) (pa_cons (pe_ix ix_list (pv 3) pe_int (fun _ _ => rfl)) (pa_cons (pe_ix ix_list (pv 3) pe_int (fun _ _ => rfl)) (pa_cons (pe_ix ix_list (pv 3) pe_int (fun _ _ => rfl)) pa_nil)))))
          (pss_cons (ps_set (i := 4) sc_law.nd rfl (Or.inl rfl) (pe_makeK0 T.M_Place O_init (hr.mono (by decide)) rfl T.m_Place KB_init (passUp LamX.takes0) (pk_cons (pe_ix ix_list (pv 3) pe_int (fun _ _ => rfl)) (pk_cons (pe_ix ix_list (pv 3) pe_int (fun _ _ => rfl)) (pk_cons (pe_ix ix_list (pv 3) pe_int (fun _ _ => rfl)) pk_nil)))))
          (pss_cons (ps_if (PW.pt (pw_or (pt_cmpR (op_neD hr.units) (pe_lst (pa_cons (pe_propR (pv 10) T.c_Place.cl T.p_Place_slope G_Place_slope (hr.mono (by decide)) pass0) (pa_cons (pe_propR (pv 10) T.c_Place.cl T.p_Place_offset G_Place_offset (hr.mono (by decide)) pass0) (pa_cons (pe_propR (pv 10) T.c_Place.cl T.p_Place_odd G_Place_odd (hr.mono (by decide)) pass0) pa_nil)))) (pv 3) (nomark _)) (pw_or1 (pt_cmpR (op_ne_own T.o_ne T.o_Place_eq T.f_Place_eq T.s_Place_obj G_eq (hr.mono (by decide)) pass0) (pv 10) (pv 4) (nomark _)))))
              (pss_one (ps_ret pe_bl))
              pss_nil)
          (pss_cons (ps_for PassesOwn.never rfl (pi_list (pe_lst (pa_cons pe_int (pa_cons pe_int (pa_cons pe_int (pa_cons (pe_op op_add pe_int (pe_callR G__law_draw (hr.mono (by decide)) T.m__law_draw T.k__law_draw pass0 (pa_cons (pv 1) (pa_cons pe_int pa_nil)))) (pa_cons (pe_op op_add (pe_op op_pow pe_int pe_int) (pe_callR G__law_draw (hr.mono (by decide)) T.m__law_draw T.k__law_draw pass0 (pa_cons (pv 1) (pa_cons pe_int pa_nil)))) pa_nil))))))) (pg_name (i := 5) sc_law.nd rfl (Or.inl rfl))
              (pss_one (ps_if (PW.pt (pw_or (pt_cmpR op_ne (pe_callB (call_reprD (by exact hg) hr.units) (by rfl) T.n_repr (by decide +kernel) (pa_cons (pe_callO (pv 10) ⟨T.o_Place_call, T.f_Place_call, T.fi_Place_call⟩ G_call (hr.mono (by decide)) (passUp LamX.takes0) (pa_cons (pv 5) pa_nil)) pa_nil)) (pe_callB (call_reprD (by exact hg) hr.units) (by rfl) T.n_repr (by decide +kernel) (pa_cons (pe_callR G__law_at (hr.mono (by decide)) T.m__law_at T.k__law_at pass0 (pa_cons (pv 3) (pa_cons (pv 5) pa_nil))) pa_nil)) (nomark _)) (pw_or1 (pt_cmpR op_ne (pe_callOK (pv 10) ⟨T.o_Place_call, T.f_Place_call, T.fi_Place_call⟩ O_call (hr.mono (by decide)) KB_call (passUp LamX.takes0) (pk_cons (pv 5) pk_nil)) (pe_callO (pv 10) ⟨T.o_Place_call, T.f_Place_call, T.fi_Place_call⟩ G_call (hr.mono (by decide)) (passUp LamX.takes0) (pa_cons (pv 5) pa_nil)) (nomark _)))))
                  (pss_one (ps_ret pe_bl))
                  pss_nil)))
          (pss_cons (ps_if (PW.pt (pw_or (pt_cmpR (op_cmpT (op := .Eq) (fun _ _ => rfl) T.o_Place_eq T.f_Place_eq G_eq (hr.mono (by decide)) pass0) (pv 10) (pe_callTy call_tuple_of (by rfl) T.n_tuple (by decide +kernel) (pa_cons (pv 3) pa_nil)) (nomark _)) (pw_or (pt_cmpR (op_cmpT (op := .Eq) (fun _ _ => rfl) T.o_Place_eq T.f_Place_eq G_eq (hr.mono (by decide)) pass0) (pv 10) (pe_ix ix_list (pv 3) pe_int (fun _ _ => rfl)) (nomark _)) (pw_or1 (pt_cmpR (op_cmp (op := .Eq) (fun _ _ => rfl) T.o_Place_eq T.f_Place_eq T.s_Place_not G_eq (hr.mono (by decide)) pass0) (pv 10) (pe_makeRR T.M_Place G_Place_init (hr.mono (by decide)) T.m_Place (passUp LamX.takes0) (pa_cons (pe_ix ix_list (pv 3) pe_int (fun _ _ => rfl)) (pa_cons (pe_op op_add (pe_ix ix_list (pv 3) pe_int (fun _ _ => rfl)) pe_int) (pa_cons (pe_ix ix_list (pv 3) pe_int (fun _ _ => rfl)) pa_nil)))) (nomark _))))))
              (pss_one (ps_ret pe_bl))
              pss_nil)
          (pss_cons (ps_asg (pe_tup (pa_cons (pe_callTy call_list_of (by rfl) T.n_list (by decide +kernel) (pa_cons (pv 3) pa_nil)) (pa_cons (pe_callR G_drawC (hr.mono (by decide)) T.m__law_draw T.k__law_draw pass0 (pa_cons (pv 1) (pa_cons pe_int pa_nil))) (pa_cons (pe_callR G_drawC (hr.mono (by decide)) T.m__law_draw T.k__law_draw pass0 (pa_cons (pv 1) (pa_cons pe_int pa_nil))) pa_nil)))) (pg_tup rfl (pgs_cons (pg_name (i := 13) sc_law.nd rfl (Or.inr rfl)) (pgs_cons (pg_name (i := 6) sc_law.nd rfl (Or.inl rfl)) (pgs_cons (pg_name (i := 7) sc_law.nd rfl (Or.inl rfl)) pgs_nil)))))
          (pss_cons (ps_asg (pe_callR G__law_odd (hr.mono (by decide)) T.m__law_odd T.k__law_odd pass0 (pa_cons (pv 1) pa_nil)) (pg_sub (pv 13) (pv 6) set_list))
          (pss_cons (ps_asg (pe_callR G__law_odd (hr.mono (by decide)) T.m__law_odd T.k__law_odd pass0 (pa_cons (pv 1) pa_nil)) (pg_sub (pv 13) (pv 7) set_list))
          (pss_cons (ps_set (i := 8) sc_law.nd rfl (Or.inl rfl) (pe_tup (pa_cons pe_str (pa_cons (pe_ix ix_list (pe_lst (pa_cons pe_str (pa_cons pe_str (pa_cons pe_str pa_nil)))) (pe_callB (call_min2 rfl) (by rfl) T.n_min (by decide +kernel) (pa_cons (pe_callTy call_int1 (by rfl) T.n_int (by decide +kernel) (pa_cons (pv 6) pa_nil)) (pa_cons (pe_callTy call_int1 (by rfl) T.n_int (by decide +kernel) (pa_cons (pv 7) pa_nil)) pa_nil))) (fun _ _ => rfl)) pa_nil))))
          (pss_cons (ps_if (pt_cmpR (op_neD hr.units) (pe_heard (k := 6) (TL := [(Tb, lamQ)]) T rfl TB rfl (List.mem_singleton.mpr rfl) (fun p hp _ => by rw [List.mem_singleton.mp hp]; rfl) (hr.mono (by decide)) (LamX.lamS_by (sc := defScope s_law) (by decide +kernel)) rfl (fun _ _ _ _ _ => rfl) (fun A outer s H E f c' hr' => pe_makeRR T.M_Place G_initW (hr'.mono (by decide)) T.m_Place (passUp (takes_of rfl rfl rfl rfl)) (pa_cons (pe_ix (show IxR _ (rIxL K) from ix_list) (pv 13) pe_int (fun _ _ => rfl)) (pa_cons (pe_ix (show IxR _ (rIxL K) from ix_list) (pv 13) pe_int (fun _ _ => rfl)) (pa_cons (pe_ix (show IxR _ (rIxL K) from ix_list) (pv 13) pe_int (fun _ _ => rfl)) pa_nil))))) (pv 8) (nomark _))
              (pss_one (ps_ret pe_bl))
              pss_nil)
          (pss_cons (ps_set (i := 11) sc_law.nd rfl (Or.inr rfl) (pe_ix ix_list (pe_lst (pa_cons (pe_callR G__law_odd (hr.mono (by decide)) T.m__law_odd T.k__law_odd pass0 (pa_cons (pv 1) pa_nil)) (pa_cons pe_int (pa_cons (pe_un un_neg pe_int) (pa_cons (pe_un un_neg (pe_op op_pow pe_int pe_int)) pa_nil))))) (pe_callR G__law_draw (hr.mono (by decide)) T.m__law_draw T.k__law_draw pass0 (pa_cons (pv 1) (pa_cons pe_int pa_nil))) (fun _ _ => rfl)))
          (pss_cons (ps_if (PW.pt (pw_or (pt_cmpR (op_neD hr.units) (pe_heard (k := 6) (TL := [(Tb, lamQ)]) T rfl TB rfl (List.mem_singleton.mpr rfl) (fun p hp _ => by rw [List.mem_singleton.mp hp]; rfl) (hr.mono (by decide)) (LamX.lamS_by (sc := defScope s_law) (by decide +kernel)) rfl (fun _ _ _ _ _ => rfl) (fun A outer s H E f c' hr' => pe_callOI (pv 10) ⟨T.o_Place_call, T.f_Place_call, T.fi_Place_call⟩ G_call (hr'.mono (by decide)) (passUp (takes_of rfl rfl rfl rfl)) (pa_cons (pv 11) pa_nil))) (pe_tup (pa_cons pe_str (pa_cons pe_str pa_nil))) (nomark _)) (pw_or1 (pt_not (pt_val (pe_callR G__law_sorts_right (hr.mono (by decide)) T.m__law_sorts_right T.k__law_sorts_right pass0 (pa_cons (pe_ix ix_list (pv 3) pe_int (fun _ _ => rfl)) pa_nil)))))))
              (pss_one (ps_ret pe_bl))
              pss_nil)
          (pss_cons (ps_set (i := 12) sc_law.nd rfl (Or.inr rfl) (pe_callR G__law_odd (hr.mono (by decide)) T.m__law_odd T.k__law_odd pass0 (pa_cons (pv 1) pa_nil)))
          (pss_cons (ps_set (i := 9) sc_law.nd rfl (Or.inl rfl) (pe_lst (pa_cons (pe_heard (k := 6) (TL := [(Tb, lamQ)]) T rfl TB rfl (List.mem_singleton.mpr rfl) (fun p hp _ => by rw [List.mem_singleton.mp hp]; rfl) (hr.mono (by decide)) (LamX.lamS_by (sc := defScope s_law) (by decide +kernel)) rfl (fun _ _ _ _ _ => rfl) (fun A outer s H E f c' hr' => pe_callR G_from_left (hr'.mono (by decide)) T.m_from_left T.k_from_left (passUp (takes_of rfl rfl rfl rfl)) (pa_cons (pv 12) pa_nil))) pa_nil)))
          (pss_cons (ps_expr (pe_bm PySem.F.plainAttrs_list PySem.F.slot_list_append PySem.F.type_list_append mt_append (pv 9) (pa_cons (pe_heard (k := 6) (TL := [(Tb, lamQ)]) T rfl TB rfl (List.mem_singleton.mpr rfl) (fun p hp _ => by rw [List.mem_singleton.mp hp]; rfl) (hr.mono (by decide)) (LamX.lamS_by (sc := defScope s_law) (by decide +kernel)) rfl (fun _ _ _ _ _ => rfl) (fun A outer s H E f c' hr' => pe_callR G_from_right (hr'.mono (by decide)) T.m_from_right T.k_from_right (passUp (takes_of rfl rfl rfl rfl)) (pa_cons (pv 12) pa_nil))) pa_nil)))
          (pss_cons (ps_expr (pe_bm PySem.F.plainAttrs_list PySem.F.slot_list_append PySem.F.type_list_append mt_append (pv 9) (pa_cons (pe_heard (k := 6) (TL := [(Tb, lamQ)]) T rfl TB rfl (List.mem_singleton.mpr rfl) (fun p hp _ => by rw [List.mem_singleton.mp hp]; rfl) (hr.mono (by decide)) (LamX.lamS_by (sc := defScope s_law) (by decide +kernel)) rfl (fun _ _ _ _ _ => rfl) (fun A outer s H E f c' hr' => pe_callR G_from_middle (hr'.mono (by decide)) T.m_from_middle T.k_from_middle (passUp (takes_of rfl rfl rfl rfl)) (pa_cons (pv 12) pa_nil))) pa_nil)))
          (pss_one (ps_if (pt_cmpR (op_neD hr.units) (pv 9) (pe_op op_rep (pe_lst (pa_cons (pe_tup (pa_cons pe_str (pa_cons pe_str pa_nil))) pa_nil)) pe_int) (nomark _))
              (pss_one (ps_ret pe_bl))
              pss_nil))))))))))))))))))))
      (pss_one (ps_ret (pe_cmpR (op_eqD hr.units) (pe_lst (pa_cons (pe_callO (pe_call0 O_left (hr.mono (by decide)) (by rfl) T.m_from_left T.k_from_left b_left d_left (passUp LamX.takes0)) ⟨T.o_Place_call, T.f_Place_call, T.fi_Place_call⟩ G_call (hr.mono (by decide)) (passUp LamX.takes0) (pa_cons pe_int pa_nil)) (pa_cons (pe_callO (pe_call0 O_right (hr.mono (by decide)) (by rfl) T.m_from_right T.k_from_right b_right d_right (passUp LamX.takes0)) ⟨T.o_Place_call, T.f_Place_call, T.fi_Place_call⟩ G_call (hr.mono (by decide)) (passUp LamX.takes0) (pa_cons pe_int pa_nil)) (pa_cons (pe_callO (pe_call0 O_middle (hr.mono (by decide)) (by rfl) T.m_from_middle T.k_from_middle b_middle d_middle (passUp LamX.takes0)) ⟨T.o_Place_call, T.f_Place_call, T.fi_Place_call⟩ G_call (hr.mono (by decide)) (passUp LamX.takes0) (pa_cons pe_int pa_nil)) (pa_cons (pe_callO (pe_makeRR T.M_Place G_init2 (hr.mono (by decide)) T.m_Place (passUp LamX.takes0) (pa_cons pe_int (pa_cons pe_int pa_nil))) ⟨T.o_Place_call, T.f_Place_call, T.fi_Place_call⟩ G_call (hr.mono (by decide)) (passUp LamX.takes0) (pa_cons pe_int pa_nil)) pa_nil))))) (pe_lst (pa_cons pe_int (pa_cons pe_int (pa_cons pe_int (pa_cons pe_int pa_nil))))) (nomark _)))))), ?_⟩
  refine ⟨_, rfl, sa, ns, rfl, hS, hns, fun d H0 sm0 hd0 B0 => ?_⟩
  have T0 : LamX.Tabs [(Tb, lamQ)] H0 := fun p hp => by
    rw [List.mem_singleton.mp hp]
    exact LamX.TabS.nil (sm0 _ _ hT)
  refine ⟨6, rfl, by decide, by decide, for_range (n := 6) (fun i σ H' => ∃ v2 v3 v4 v5 v6 v7 v8 v9 v10 v11 v12 v13 : Option V, σ = [some (.ref sa), some (.ref d), v2, v3, v4, v5, v6, v7, v8, v9, v10, v11, v12, v13] ∧ Bag H' d ∧ LamX.Tabs [(Tb, lamQ)] H')
    ⟨_, _, _, _, _, _, _, _, _, _, _, _, rfl, B0, T0⟩ ?_ ?_⟩
  · rintro i σ H1 hi ⟨v2, v3, v4, v5, v6, v7, v8, v9, v10, v11, v12, v13, rfl, B1, T1⟩
    refine ⟨_, rfl, d, rfl, B1, fun s Ha s1 Ba hs => ?_⟩
    refine ⟨_, rfl, d, rfl, Ba, fun o Hb s2 Bb ho => ?_⟩
    refine ⟨_, rfl, d, rfl, Bb, fun e Hc s3 Bc he => ⟨(by show 3 ≤ sizeLine; decide), fun lp hlp => ?_⟩⟩
    have mL := same_new (o := .lst [.int s, .int o, .int e]) hlp
    have TC := ((tabs_but T1 B1 (s1.trans (s2.trans s3)))).ext mL
    have BC := Bc.same mL
    have eP : (upd Hc lp (.lst [.int s, .int o, .int e])) lp = some (.lst [.int s, .int o, .int e]) := upd_same
    clear mL Bc Bb Ba s1 s2 s3 T1 B1 hlp
    generalize upd Hc lp (.lst [.int s, .int o, .int e]) = HA at *
    -- the place, its twin
    refine ⟨_, rfl, lp, _, _, _, rfl, rfl, SqL.of eP, atI_nat (j := 0) rfl, _, rfl, lp, _, _, _, rfl, rfl, SqL.of eP, atI_nat (j := 1) rfl, _, rfl, lp, _, _, _, rfl, rfl, SqL.of eP, atI_nat (j := 2) rfl, fun x dx nx ndx nex => ⟨x, dx, _, _, _, rfl, upd_same, .inr ⟨s, rfl, .inr ⟨o, rfl, .inr ⟨e, rfl, rfl, ?_⟩⟩⟩⟩⟩
    have mx := made_same (C := a.Place) (fs := plF s o e) nx ndx nex
    have px : PlaceAt (upd (upd (upd HA dx (.own x)) x (.ins a.Place dx [])) x (.ins a.Place dx (plF s o e))) a.Place x s o e := ⟨dx, upd_same⟩
    have BB := BC.same mx
    have TB' := TC.ext mx
    have eP := mx _ _ eP
    clear mx nx ndx nex BC TC
    generalize upd (upd (upd HA dx (.own x)) x (.ins a.Place dx [])) x (.ins a.Place dx (plF s o e)) = HB at *
    refine ⟨_, rfl, lp, _, _, _, rfl, rfl, SqL.of eP, atI_nat (j := 2) rfl, _, rfl, lp, _, _, _, rfl, rfl, SqL.of eP, atI_nat (j := 1) rfl, _, rfl, lp, _, _, _, rfl, rfl, SqL.of eP, atI_nat (j := 0) rfl, rfl, rfl, fun y dy ny ndy ney => ⟨y, dy, _, _, _, rfl, upd_same, .inr ⟨s, rfl, .inr ⟨o, rfl, .inr ⟨e, rfl, rfl, ?_⟩⟩⟩⟩⟩
    have my := made_same (C := a.Place) (fs := plF s o e) ny ndy ney
    have py : PlaceAt (upd (upd (upd HB dy (.own y)) y (.ins a.Place dy [])) y (.ins a.Place dy (plF s o e))) a.Place y s o e := ⟨dy, upd_same⟩
    have BC := BB.same my
    have TC := TB'.ext my
    have eP := my _ _ eP
    have px := px.same my
    clear my ny ndy ney BB TB'
    generalize upd (upd (upd HB dy (.own y)) y (.ins a.Place dy [])) y (.ins a.Place dy (plF s o e)) = HC at *
    obtain ⟨dz, hx⟩ := px
    refine ⟨_, rfl, x, dz, _, rfl, hx, x, s, o, e, rfl, ⟨dz, hx⟩, _, rfl, x, dz, _, rfl, hx, x, s, o, e, rfl, ⟨dz, hx⟩, _, rfl, x, dz, _, rfl, hx, x, s, o, e, rfl, ⟨dz, hx⟩, (by show 3 ≤ sizeLine; decide), fun q1 hq1 => ?_⟩
    have mq := same_new (o := .lst [.int s, .int o, .int e]) hq1
    refine ⟨_, rfl, .list [.int s, .int o, .int e], .list [.int s, .int o, .int e], .lst (SqL.of upd_same) (.cons (.int _) (.cons (.int _) (.cons (.int _) .nil))), .lst (SqL.of (mq _ _ eP)) (.cons (.int _) (.cons (.int _) (.cons (.int _) .nil))), rfl, rfl, _, rfl, ?_⟩
    rw [eqvL3]
    refine iteF ?_
    have px : PlaceAt (upd HC q1 (.lst [.int s, .int o, .int e])) a.Place x s o e := ⟨dz, mq _ _ hx⟩
    have py := py.same mq
    refine ⟨_, rfl, _, rfl, x, y, rfl, rfl, px.ins, py.ins, x, .ref y, s, o, e, rfl, px, .inl ⟨y, s, o, e, rfl, py, fun HD sD => ⟨_, rfl, _, rfl, ?_⟩⟩⟩
    rw [decide_eq_true ⟨rfl, rfl, rfl⟩]
    refine iteF ?_
    have BD := BC.same (mq.trans sD)
    have TD := TC.ext (mq.trans sD)
    have eP := (mq.trans sD) _ _ eP
    have px := px.same sD
    clear mq sD BC TC py hx hq1
    -- the sizes
    refine ⟨_, rfl, d, 60, rfl, BD, by decide, by decide, fun za oa a0 a1 BE => ?_⟩
    refine ⟨_, _, rfl, rfl, _, _, rfl, rfl, ⟨by decide, by decide, by decide⟩, _, rfl, d, 9, rfl, BE, by decide, by decide, fun zb ob b0 b1 BF => ?_⟩
    refine ⟨_, _, rfl, rfl, (by show 5 ≤ sizeLine; decide), fun lw hlw => ?_⟩
    have mw := same_new (o := .lst [.int 1, .int 2, .int 3, .int (1 + za), .int (10 ^ Int.toNat 30 + zb)]) hlw
    have eW : (upd (upd (upd HD d oa) d ob) lw (.lst [.int 1, .int 2, .int 3, .int (1 + za), .int (10 ^ Int.toNat 30 + zb)])) lw = some (.lst [.int 1, .int 2, .int 3, .int (1 + za), .int (10 ^ Int.toNat 30 + zb)]) := upd_same
    have sW : SameBut d HD (upd (upd (upd HD d oa) d ob) lw (.lst [.int 1, .int 2, .int 3, .int (1 + za), .int (10 ^ Int.toNat 30 + zb)])) := SameBut.upd.trans (SameBut.upd.trans (SameBut.of mw))
    have BW := BF.same mw
    have TW := tabs_but TD BD sW
    have eP := sW _ _ (BD.ne eP fun _ z => by cases z) eP
    obtain ⟨dz2, hx⟩ := px
    have px : PlaceAt (upd (upd (upd HD d oa) d ob) lw (.lst [.int 1, .int 2, .int 3, .int (1 + za), .int (10 ^ Int.toNat 30 + zb)])) a.Place x s o e := ⟨dz2, sW _ _ (BD.ne hx fun _ z => by cases z) hx⟩
    clear hx mw sW BF BE BD TD hlw
    generalize upd (upd (upd HD d oa) d ob) lw (.lst [.int 1, .int 2, .int 3, .int (1 + za), .int (10 ^ Int.toNat 30 + zb)]) = HW at *
    have wides : ∀ xv, xv ∈ [V.int 1, .int 2, .int 3, .int (1 + za), .int (10 ^ Int.toNat 30 + zb)] → ∃ n : Int, xv = .int n ∧ Wid n := fun xv hx => by
      have e1 : (10 : Int) ^ Int.toNat 30 = 1000000000000000000000000000000 := by decide
      have e2 : (2 : Int) ^ 101 = 2535301200456458802993406410752 := by decide
      rw [e1] at hx
      unfold Wid
      rw [e2]
      simp only [List.mem_cons, List.not_mem_nil, or_false] at hx
      rcases hx with h | h | h | h | h <;> exact ⟨_, h, by omega, by omega⟩
    refine ⟨lw, rfl, ⟨_, SqL.of eW⟩, for_list (K := K) (a := lw) (xs := [.int 1, .int 2, .int 3, .int (1 + za), .int (10 ^ Int.toNat 30 + zb)])
      (fun j σ H' => ∃ v5 : Option V, σ = [some (.ref sa), some (.ref d), some (.int (0 + (i : Int))), some (.ref lp), some (.ref y), v5, v6, v7, v8, v9, some (.ref x), v11, v12, v13] ∧ H' = HW)
      ⟨_, rfl, rfl⟩ (fun _ _ _ _ h => by obtain ⟨_, _, rfl⟩ := h; exact SqL.of eW) ?_ ?_⟩
    · rintro j xv σ H' hx ⟨v5, rfl, rfl⟩
      obtain ⟨n, rfl, hn⟩ := wides _ (List.mem_of_getElem? hx)
      have m1 := nar_mul hs hn
      have m2 := nar_mod (n := n) he
      obtain ⟨g1, g2, g3, g4⟩ := show_int (val_fit hs ho he hn)
      refine ⟨_, rfl, x, rfl, _, rfl, px.insC, x, .int n, rfl, .inl ⟨s, o, e, n, px, rfl, hn.1, m1, m2, .int (valP s o e n), .int (valP s o e n), rfl, .int _, g1, g2, g3, g4, ?_⟩⟩
      refine ⟨_, rfl, _, rfl, lp, s, o, e, n, rfl, SqL.of eP, m1, m2, .int (valP s o e n), .int (valP s o e n), rfl, .int _, g1, g2, g3, g4, rfl, _, rfl, ite2 (fun z => by rw [decide_eq_true rfl] at z; cases z) fun _ => ?_⟩
      refine ⟨_, rfl, x, rfl, _, rfl, rfl, px.insC, x, .int n, rfl, .inl ⟨s, o, e, n, px, rfl, hn.1, m1, m2, ?_⟩⟩
      refine ⟨_, rfl, x, rfl, _, rfl, px.insC, x, .int n, rfl, .inl ⟨s, o, e, n, px, rfl, hn.1, m1, m2, rfl, _, rfl, ite2 (fun z => by rw [decide_eq_true rfl] at z; cases z) fun _ => ⟨_, rfl, rfl⟩⟩⟩
    · rintro σ H' ⟨v5, rfl, rfl⟩
      refine ⟨_, rfl, _, rfl, lp, _, rfl, .inl ⟨SqL.of eP, fun tp htp => ?_⟩⟩
      have mt := same_new (o := .tup [.int s, .int o, .int e]) htp
      have px1 := px.same mt
      refine ⟨x, .type "tuple", rfl, px1.ins, .base (.tup upd_same), notFirst_of T.s_Place_tuple, x, .ref tp, s, o, e, rfl, px1, .inr ⟨⟨"tuple", .base (.tup upd_same), T.s_Place_tuple⟩, _, rfl, iteF ?_⟩⟩
      have eP1 := mt _ _ eP
      refine ⟨_, rfl, _, rfl, lp, _, _, _, rfl, rfl, SqL.of eP1, atI_nat (j := 1) rfl, x, .type "int", rfl, px1.ins, .base (.int _), notFirst_of T.s_Place_int, x, .int o, s, o, e, rfl, px1, .inr ⟨⟨"int", .base (.int _), T.s_Place_int⟩, _, rfl, iteF ?_⟩⟩
      refine ⟨_, rfl, _, rfl, lp, _, _, _, rfl, rfl, SqL.of eP1, atI_nat (j := 0) rfl, _, rfl, lp, _, _, _, rfl, rfl, SqL.of eP1, atI_nat (j := 1) rfl, _, _, rfl, rfl, _, rfl, lp, _, _, _, rfl, rfl, SqL.of eP1, atI_nat (j := 2) rfl, fun yo dyo nyo ndyo neyo => ⟨yo, dyo, _, _, _, rfl, upd_same, .inr ⟨s, rfl, .inr ⟨o + 1, rfl, .inr ⟨e, rfl, rfl, ?_⟩⟩⟩⟩⟩
      have mo := made_same (C := a.Place) (fs := plF s (o + 1) e) nyo ndyo neyo
      have po : PlaceAt (upd (upd (upd (upd H' tp (.tup [.int s, .int o, .int e])) dyo (.own yo)) yo (.ins a.Place dyo [])) yo (.ins a.Place dyo (plF s (o + 1) e))) a.Place yo s (o + 1) e := ⟨dyo, upd_same⟩
      have px2 := px1.same mo
      refine ⟨x, yo, rfl, rfl, px2.ins, po.ins, x, .ref yo, s, o, e, rfl, px2, .inl ⟨yo, s, o + 1, e, rfl, po, fun HE sE => ⟨_, rfl, ?_⟩⟩⟩
      rw [decide_eq_false (fun z => by have := z.2.1; omega)]
      refine iteF ?_
      have BE := BW.same (mt.trans (mo.trans sE))
      have TE := TW.ext (mt.trans (mo.trans sE))
      have eP := (mo.trans sE) _ _ eP1
      have px := px2.same sE
      clear mt mo sE BW TW po px1 px2 eP1 eW htp nyo ndyo neyo wides
      refine ⟨_, rfl, lp, _, rfl, .inl (SqL.of eP), fun lr hlr => ?_⟩
      have mr := same_new (o := .lst [.int s, .int o, .int e]) hlr
      have nlp : lp ≠ lr := ne_of_none eP hlr
      obtain ⟨cc, hcc, oo, hoo⟩ := BE.cells
      have ncc : cc ≠ lr := ne_of_none hoo hlr
      refine ⟨_, rfl, d, 3, rfl, BE.same mr, by decide, by decide, fun ka oc c0 c1 BF hC1 => ?_⟩
      refine ⟨_, rfl, d, 3, rfl, BF, by decide, by decide, fun kb od g0 g1 BG hC2 => ⟨(by show 3 ≤ sizeLine; decide), fun tp2 htp2 => ?_⟩⟩
      refine ⟨tp2, _, rfl, SqT.of upd_same, rfl, ?_⟩
      refine ⟨_, _, rfl, _, _, rfl, _, _, rfl, rfl, ?_⟩
      have mt := same_new (o := .tup [.ref lr, .int ka, .int kb]) htp2
      have eR : (upd HE lr (.lst [.int s, .int o, .int e])) lr = some (.lst [.int s, .int o, .int e]) := upd_same
      have sF : SameBut d HE (upd (upd (upd (upd HE lr (.lst [.int s, .int o, .int e])) d oc) d od) tp2 (.tup [.ref lr, .int ka, .int kb])) := (SameBut.of mr).trans (SameBut.upd.trans (SameBut.upd.trans (SameBut.of mt)))
      have eR : (upd (upd (upd (upd HE lr (.lst [.int s, .int o, .int e])) d oc) d od) tp2 (.tup [.ref lr, .int ka, .int kb])) lr = some (.lst [.int s, .int o, .int e]) := (SameBut.upd.trans (SameBut.upd.trans (SameBut.of mt))) _ _ ((BE.same mr).ne eR fun _ z => by cases z) eR
      have eP := sF _ _ (BE.ne eP fun _ z => by cases z) eP
      obtain ⟨dz3, hx⟩ := px
      have px : PlaceAt (upd (upd (upd (upd HE lr (.lst [.int s, .int o, .int e])) d oc) d od) tp2 (.tup [.ref lr, .int ka, .int kb])) a.Place x s o e := ⟨dz3, sF _ _ (BE.ne hx fun _ z => by cases z) hx⟩
      have TF := tabs_but TE BE sF
      have BH := BG.same mt
      have hcc := (hC2 _ (hC1 _ (hcc.same mr))).same mt
      clear mr mt sF BE TE BF BG hx htp2 hlr hoo hC1 hC2
      generalize upd (upd (upd (upd HE lr (.lst [.int s, .int o, .int e])) d oc) d od) tp2 (.tup [.ref lr, .int ka, .int kb]) = HF at *
      -- two parts are put wrong
      refine ⟨_, rfl, d, rfl, BH, fun u1 HG s5 BG n1 hC => ?_⟩
      have eR := s5 _ _ (BH.ne eR fun _ z => by cases z) eR
      have eP := s5 _ _ (BH.ne eP fun _ z => by cases z) eP
      obtain ⟨dz4, hx⟩ := px
      have hx := s5 _ _ (BH.ne hx fun _ z => by cases z) hx
      have TG := tabs_but TF BH s5
      have hcc := hC _ hcc
      clear s5 BH TF hC
      refine ⟨_, rfl, _, rfl, lr, _, _, _, rfl, rfl, eR, ix_three c0 c1, ?_⟩
      have nd : d ≠ lr := fun q => by
        obtain ⟨kvs, hd⟩ := BG.dict
        rw [q, eR] at hd
        cases hd
      have n1 := noInt_updL (ys := [V.int s, .int o, .int e].set ka.toNat u1) eR n1
      have nxr : x ≠ lr := fun q => by rw [q, eR] at hx; cases hx
      have hx : (upd HG lr (.lst ([V.int s, .int o, .int e].set ka.toNat u1))) x = some (.ins a.Place dz4 (plF s o e)) := by rw [upd_ne nxr]; exact hx
      have eP : (upd HG lr (.lst ([V.int s, .int o, .int e].set ka.toNat u1))) lp = some (.lst [.int s, .int o, .int e]) := by rw [upd_ne nlp]; exact eP
      have BH := bag_upd (o := .lst ([V.int s, .int o, .int e].set ka.toNat u1)) BG hcc ncc nd
      have TH := tabs_upd (ys := [V.int s, .int o, .int e].set ka.toNat u1) TG eR
      have hcc : CellsAt (upd HG lr (.lst ([V.int s, .int o, .int e].set ka.toNat u1))) d cc := by
        obtain ⟨i', r', st', h⟩ := hcc
        exact ⟨i', r', st', by rw [upd_ne nd]; exact h⟩
      have eR : (upd HG lr (.lst ([V.int s, .int o, .int e].set ka.toNat u1))) lr = some (.lst ([V.int s, .int o, .int e].set ka.toNat u1)) := upd_same
      clear BG TG
      generalize upd HG lr (.lst ([V.int s, .int o, .int e].set ka.toNat u1)) = HH at *
      refine ⟨_, rfl, d, rfl, BH, fun u2 HI s6 BI n2 hC => ?_⟩
      have n1 := noInt_but BH BI s6 n1
      have eR := s6 _ _ (BH.ne eR fun _ z => by cases z) eR
      have eP := s6 _ _ (BH.ne eP fun _ z => by cases z) eP
      have hx := s6 _ _ (BH.ne hx fun _ z => by cases z) hx
      have TI := tabs_but TH BH s6
      have hcc := hC _ hcc
      clear s6 BH TH hC
      refine ⟨_, rfl, _, rfl, lr, _, _, _, rfl, rfl, eR, (by rw [List.length_set]; exact ix_three g0 g1), ?_⟩
      obtain ⟨y0, y1, y2, nm, ey, hbad, hat⟩ := bad_of (K := K) (H := upd HI lr (.lst (([V.int s, .int o, .int e].set ka.toNat u1).set kb.toNat u2))) (s := s) (o := o) (e := e) (noInt_updL eR n1) (noInt_updL eR n2) c0 c1 g0 g1
      rw [ey] at hbad ⊢
      have hx : (upd HI lr (.lst [y0, y1, y2])) x = some (.ins a.Place dz4 (plF s o e)) := by rw [upd_ne nxr]; exact hx
      have eP : (upd HI lr (.lst [y0, y1, y2])) lp = some (.lst [.int s, .int o, .int e]) := by rw [upd_ne nlp]; exact eP
      have BJ := bag_upd (o := .lst [y0, y1, y2]) BI hcc ncc nd
      have TJ := tabs_upd (ys := [y0, y1, y2]) TI eR
      have eR : (upd HI lr (.lst [y0, y1, y2])) lr = some (.lst [y0, y1, y2]) := upd_same
      clear BI TI hcc ncc n1 n2 ey
      generalize upd HI lr (.lst [y0, y1, y2]) = HJ at *
      -- what is due
      refine ⟨(by show 3 ≤ sizeLine; decide), fun ln hln => ?_⟩
      refine ⟨_, rfl, .inl ⟨ka, rfl, _, rfl, .inl ⟨kb, rfl, ka, kb, rfl, ?_⟩⟩⟩
      refine ⟨ln, _, _, _, rfl, rfl, SqL.of upd_same, hat, (by show 2 ≤ sizeLine; decide), fun td htd => ?_⟩
      have mj := (same_new (o := .lst [.str "slope", .str "offset", .str "odd"]) hln).trans (same_new (o := .tup [.str "place", .str nm]) htd)
      have eD : (upd (upd HJ ln (.lst [.str "slope", .str "offset", .str "odd"])) td (.tup [.str "place", .str nm])) td = some (.tup [.str "place", .str nm]) := upd_same
      have eR := mj _ _ eR
      have eP := mj _ _ eP
      have hx := mj _ _ hx
      have BK := BJ.same mj
      have TK := TJ.ext mj
      have hbad := hbad.go fun _ z => z.same mj
      clear mj hln htd BJ TJ hat
      generalize upd (upd HJ ln (.lst [.str "slope", .str "offset", .str "odd"])) td (.tup [.str "place", .str nm]) = HK at *
      refine ⟨TK, fun HM eM TM => ?_⟩
      have hsh := hbad.shaped
      have BM := bag_ext BK eM
      have eR := eM _ _ eR (fun _ z => by cases z)
      have eP := eM _ _ eP (fun _ z => by cases z)
      have hx := eM _ _ hx (fun _ z => by cases z)
      have eD := eM _ _ eD (fun _ z => by cases z)
      have hbad := hbad.go fun _ z => NoInt.extN z eM
      clear eM BK TK
      refine ⟨_, rfl, lr, _, _, _, rfl, rfl, SqL.of eR, atI_nat (j := 0) rfl, _, rfl, lr, _, _, _, rfl, rfl, SqL.of eR, atI_nat (j := 1) rfl, _, rfl, lr, _, _, _, rfl, rfl, SqL.of eR, atI_nat (j := 2) rfl, fun z dz5 nz ndz nez => ⟨z, dz5, _, _, _, rfl, upd_same, nm, hbad.go (fun _ h => h.same (new_grown nz ndz)), fun dd hdd => .inl ⟨rfl, dd, _, _, rfl, upd_same, rfl, fun p hp => ?_⟩⟩⟩
      have mG := (show Same HM _ from new_grown nz ndz).trans ((same_new (o := .xd [("part", .str nm)]) hdd).trans (same_new (o := .tup [.str "place", .str nm]) hp))
      have e5 : (upd (upd (upd (upd HM dz5 (.own z)) z (.ins a.Place dz5 [])) dd (.xd [("part", .str nm)])) p (.tup [.str "place", .str nm])) p = some (.tup [.str "place", .str nm]) := upd_same
      have BN := BM.same mG
      have TN := TM.ext mG
      have eP := mG _ _ eP
      have hx := mG _ _ hx
      have eD := mG _ _ eD
      clear mG hbad BM TM eR nz ndz nez hdd hp
      generalize upd (upd (upd (upd HM dz5 (.own z)) z (.ins a.Place dz5 [])) dd (.xd [("part", .str nm)])) p (.tup [.str "place", .str nm]) = HN at *
      refine ⟨_, rfl, .tuple [.str "place", .str nm], .tuple [.str "place", .str nm], .tup (SqT.of e5) (.cons (.str _) (.cons (.str _) .nil)), .tup (SqT.of eD) (.cons (.str _) (.cons (.str _) .nil)), hsh, hsh, _, rfl, ?_⟩
      rw [eqvT2]
      refine iteF ?_
      -- a size that is none
      refine ⟨_, rfl, d, rfl, BN, fun w1 HO s7 BO nw _ => ⟨_, rfl, _, _, rfl, rfl, ⟨by decide, by decide, by decide⟩, _, rfl, (by show 4 ≤ sizeLine; decide), fun lt hlt => ?_⟩⟩
      have mt := same_new (o := .lst [w1, .int 0, .int (-1), .int (-(10 ^ Int.toNat 20))]) hlt
      have eT : (upd HO lt (.lst [w1, .int 0, .int (-1), .int (-(10 ^ Int.toNat 20))])) lt = some (.lst [w1, .int 0, .int (-1), .int (-(10 ^ Int.toNat 20))]) := upd_same
      have BO2 := BO.same mt
      refine ⟨_, rfl, d, 4, rfl, BO2, by decide, by decide, fun zt ot t0 t1 BP => ?_⟩
      obtain ⟨th, hth, hatt⟩ := atI_any (xs := [w1, .int 0, .int (-1), .int (-(10 ^ Int.toNat 20))]) t0 t1
      refine ⟨lt, _, _, _, rfl, rfl, SqL.of (by rw [upd_ne (BO2.ne eT fun _ z => by cases z)]; exact eT), hatt, ?_⟩
      have sQ : SameBut d HO (upd (upd HO lt (.lst [w1, .int 0, .int (-1), .int (-(10 ^ Int.toNat 20))])) d ot) := (SameBut.of mt).trans SameBut.upd
      have hthing : NoInt K (upd (upd HO lt (.lst [w1, .int 0, .int (-1), .int (-(10 ^ Int.toNat 20))])) d ot) th ∨ ∃ i : Int, th = .int i ∧ i < 1 := by
        simp only [List.mem_cons, List.not_mem_nil, or_false] at hth
        rcases hth with rfl | rfl | rfl | rfl
        · exact .inl (noInt_but BO BP sQ nw)
        · exact .inr ⟨_, rfl, by decide⟩
        · exact .inr ⟨_, rfl, by decide⟩
        · exact .inr ⟨_, rfl, by decide⟩
      have sP := s7.trans sQ
      have eP := sP _ _ (BN.ne eP fun _ z => by cases z) eP
      have hx := sP _ _ (BN.ne hx fun _ z => by cases z) hx
      have TP := tabs_but TN BN sP
      clear sP sQ mt eT BO2 s7 BO nw BN TN hatt hth hlt e5 eD
      generalize upd (upd HO lt (.lst [w1, .int 0, .int (-1), .int (-(10 ^ Int.toNat 20))])) d ot = HP at *
      refine ⟨TP, fun HQ eQ TQ => ?_⟩
      have BQ := bag_ext BP eQ
      have eP := eQ _ _ eP (fun _ z => by cases z)
      have hx := eQ _ _ hx (fun _ z => by cases z)
      have hthing := hthing.imp_left fun h => NoInt.extN h eQ
      clear eQ BP TP
      refine ⟨_, rfl, x, rfl, _, rfl, ⟨dz4, _, hx⟩, x, th, rfl, .inr ⟨hthing, fun dd hdd => .inr ⟨rfl, dd, _, _, rfl, upd_same, rfl, fun p hp => ?_⟩⟩⟩
      have mG := (same_new (o := .xd [("part", .str "size")]) hdd).trans (same_new (o := .tup [.str "size", .str "size"]) hp)
      have e5 : (upd (upd HQ dd (.xd [("part", .str "size")])) p (.tup [.str "size", .str "size"])) p = some (.tup [.str "size", .str "size"]) := upd_same
      refine ⟨(by show 2 ≤ sizeLine; decide), fun q hq => ?_⟩
      have mq := same_new (o := .tup [.str "size", .str "size"]) hq
      refine ⟨.tuple [.str "size", .str "size"], .tuple [.str "size", .str "size"], .tup (SqT.of (mq _ _ e5)) (.cons (.str _) (.cons (.str _) .nil)), .tup (SqT.of upd_same) (.cons (.str _) (.cons (.str _) .nil)), by decide +kernel, by decide +kernel, _, rfl, ?_⟩
      rw [eqvT2]
      refine iteF ?_
      have mm := mG.trans mq
      have eP := mm _ _ eP
      refine ⟨_, rfl, lp, _, _, _, rfl, rfl, SqL.of eP, atI_nat (j := 1) rfl, o, rfl, fun HR sR => ⟨_, rfl, iteF ?_⟩⟩
      have BR := BQ.same (mm.trans sR)
      have TR := TQ.ext (mm.trans sR)
      clear mm mG mq sR e5 eP hx hthing BQ TQ hdd hp hq
      -- the three sorts of what is none
      refine ⟨_, rfl, d, rfl, BR, fun w2 HS s8 BS nw _ => ?_⟩
      have TS := tabs_but TR BR s8
      clear s8 BR TR
      refine ⟨TS, fun HT eT TT => ?_⟩
      have BT := bag_ext BS eT
      have nw := NoInt.extN nw eT
      clear eT BS TS
      refine ⟨_, rfl, w2, rfl, .inr ⟨nw, fun HU gU dd hdd => .inl ⟨rfl, dd, _, _, rfl, upd_same, rfl, fun p1 hp1 => ⟨(by show 1 ≤ sizeLine; decide), fun lh hlh => ?_⟩⟩⟩⟩
      have mU := (show Same HT HU from gU).trans ((same_new (o := .xd [("part", .str "offset")]) hdd).trans ((same_new (o := .tup [.str "place", .str "offset"]) hp1).trans (same_new (o := .lst [.ref p1]) hlh)))
      obtain ⟨cc2, hcc, oo2, hoo2⟩ := (BT.same ((show Same HT HU from gU).trans ((same_new (o := .xd [("part", .str "offset")]) hdd).trans (same_new (o := .tup [.str "place", .str "offset"]) hp1)))).cells
      have ncc : cc2 ≠ lh := ne_of_none hoo2 hlh
      have hcc := hcc.same (same_new (o := .lst [.ref p1]) hlh)
      have f1 : (upd (upd (upd HU dd (.xd [("part", .str "offset")])) p1 (.tup [.str "place", .str "offset"])) lh (.lst [.ref p1])) p1 = some (.tup [.str "place", .str "offset"]) := same_new hlh _ _ upd_same
      have fl : (upd (upd (upd HU dd (.xd [("part", .str "offset")])) p1 (.tup [.str "place", .str "offset"])) lh (.lst [.ref p1])) lh = some (.lst [.ref p1]) := upd_same
      have BU := BT.same mU
      have TU := TT.ext mU
      have nw := nw.same mU
      clear mU gU hdd hp1 hlh BT TT hoo2
      generalize upd (upd (upd HU dd (.xd [("part", .str "offset")])) p1 (.tup [.str "place", .str "offset"])) lh (.lst [.ref p1]) = HV at *
      refine ⟨_, rfl, .inl ⟨rfl, _, SqL.of fl⟩, TU, fun W2 eW2 TW2 => ?_⟩
      have BW2 := bag_ext BU eW2
      have nw := NoInt.extN nw eW2
      have fl := eW2 _ _ fl (fun _ z => by cases z)
      have f1 := eW2 _ _ f1 (fun _ z => by cases z)
      have hcc := hcc.extN eW2
      clear eW2 BU TU
      refine ⟨_, rfl, w2, rfl, .inr ⟨nw, fun X2 g2 dd hdd => .inl ⟨rfl, dd, _, _, rfl, upd_same, rfl, fun p2 hp2 => ⟨lh, [.ref p1], _, rfl, rfl, ?_, (by show 1 < sizeLine; decide), ?_⟩⟩⟩⟩
      · exact same_new hp2 _ _ (same_new hdd _ _ (g2 _ _ fl))
      have mX := (show Same W2 X2 from g2).trans ((same_new (o := .xd [("part", .str "offset")]) hdd).trans (same_new (o := .tup [.str "place", .str "offset"]) hp2))
      have fl := mX _ _ fl
      have f1 := mX _ _ f1
      have f2 : (upd (upd X2 dd (.xd [("part", .str "offset")])) p2 (.tup [.str "place", .str "offset"])) p2 = some (.tup [.str "place", .str "offset"]) := upd_same
      have BX2 := BW2.same mX
      have TX2 := TW2.ext mX
      have nw := nw.same mX
      have hcc := hcc.same mX
      clear mX g2 hdd hp2 BW2 TW2
      generalize upd (upd X2 dd (.xd [("part", .str "offset")])) p2 (.tup [.str "place", .str "offset"]) = Y2 at *
      have ndl : d ≠ lh := fun q => by
        obtain ⟨kvs, hd⟩ := BX2.dict
        rw [q, fl] at hd
        cases hd
      have nup : ∀ {b : Addr} {u : List V}, Y2 b = some (.tup u) → (upd Y2 lh (.lst ([.ref p1] ++ [.ref p2]))) b = some (.tup u) := fun {b u} h => by
        rw [upd_ne (fun q => by rw [q, fl] at h; cases h)]
        exact h
      have f1 := nup f1
      have f2 := nup f2
      have nw := noInt_updL (ys := [.ref p1] ++ [.ref p2]) fl nw
      have B2 := bag_upd (o := .lst ([.ref p1] ++ [.ref p2])) BX2 hcc ncc ndl
      have T2 := tabs_upd (ys := [.ref p1] ++ [.ref p2]) TX2 fl
      have hcc : CellsAt (upd Y2 lh (.lst ([.ref p1] ++ [.ref p2]))) d cc2 := by
        obtain ⟨i', r', st', h⟩ := hcc
        exact ⟨i', r', st', by rw [upd_ne ndl]; exact h⟩
      have fl : (upd Y2 lh (.lst ([.ref p1] ++ [.ref p2]))) lh = some (.lst ([.ref p1] ++ [.ref p2])) := upd_same
      clear BX2 TX2 ndl
      generalize upd Y2 lh (.lst ([.ref p1] ++ [.ref p2])) = Z2 at *
      refine ⟨_, rfl, .inl ⟨rfl, _, SqL.of fl⟩, T2, fun W3 eW3 TW3 => ?_⟩
      have BW3 := bag_ext B2 eW3
      have nw := NoInt.extN nw eW3
      have fl := eW3 _ _ fl (fun _ z => by cases z)
      have f1 := eW3 _ _ f1 (fun _ z => by cases z)
      have f2 := eW3 _ _ f2 (fun _ z => by cases z)
      have hcc := hcc.extN eW3
      clear eW3 B2 T2
      refine ⟨_, rfl, w2, rfl, .inr ⟨nw, fun X3 g3 dd hdd => .inl ⟨rfl, dd, _, _, rfl, upd_same, rfl, fun p3 hp3 => ⟨lh, ([.ref p1] ++ [.ref p2]), _, rfl, rfl, ?_, (by show 2 < sizeLine; decide), ?_⟩⟩⟩⟩
      · exact same_new hp3 _ _ (same_new hdd _ _ (g3 _ _ fl))
      have mX := (show Same W3 X3 from g3).trans ((same_new (o := .xd [("part", .str "offset")]) hdd).trans (same_new (o := .tup [.str "place", .str "offset"]) hp3))
      have fl := mX _ _ fl
      have f1 := mX _ _ f1
      have f2 := mX _ _ f2
      have f3 : (upd (upd X3 dd (.xd [("part", .str "offset")])) p3 (.tup [.str "place", .str "offset"])) p3 = some (.tup [.str "place", .str "offset"]) := upd_same
      have BX3 := BW3.same mX
      have TX3 := TW3.ext mX
      have nw := nw.same mX
      have hcc := hcc.same mX
      clear mX g3 hdd hp3 BW3 TW3
      generalize upd (upd X3 dd (.xd [("part", .str "offset")])) p3 (.tup [.str "place", .str "offset"]) = Y3 at *
      have ndl : d ≠ lh := fun q => by
        obtain ⟨kvs, hd⟩ := BX3.dict
        rw [q, fl] at hd
        cases hd
      have nup : ∀ {b : Addr} {u : List V}, Y3 b = some (.tup u) → (upd Y3 lh (.lst (([.ref p1] ++ [.ref p2]) ++ [.ref p3]))) b = some (.tup u) := fun {b u} h => by
        rw [upd_ne (fun q => by rw [q, fl] at h; cases h)]
        exact h
      have f1 := nup f1
      have f2 := nup f2
      have f3 := nup f3
      have nw := noInt_updL (ys := ([.ref p1] ++ [.ref p2]) ++ [.ref p3]) fl nw
      have B3 := bag_upd (o := .lst (([.ref p1] ++ [.ref p2]) ++ [.ref p3])) BX3 hcc ncc ndl
      have T3 := tabs_upd (ys := ([.ref p1] ++ [.ref p2]) ++ [.ref p3]) TX3 fl
      have hcc : CellsAt (upd Y3 lh (.lst (([.ref p1] ++ [.ref p2]) ++ [.ref p3]))) d cc2 := by
        obtain ⟨i', r', st', h⟩ := hcc
        exact ⟨i', r', st', by rw [upd_ne ndl]; exact h⟩
      have fl : (upd Y3 lh (.lst (([.ref p1] ++ [.ref p2]) ++ [.ref p3]))) lh = some (.lst (([.ref p1] ++ [.ref p2]) ++ [.ref p3])) := upd_same
      clear BX3 TX3 ndl
      generalize upd Y3 lh (.lst (([.ref p1] ++ [.ref p2]) ++ [.ref p3])) = Z3 at *
      refine ⟨_, rfl, (by show 2 ≤ sizeLine; decide), fun t9 ht9 => ⟨(by show 1 ≤ sizeLine; decide), fun l9 hl9 => ⟨l9, 3, _, rfl, rfl, upd_same, by decide, by decide, (by show 1 * 3 ≤ sizeLine; decide), fun l10 hl10 => ?_⟩⟩⟩
      have m9 := same_new (o := .tup [.str "place", .str "offset"]) ht9
      have m10 := (same_new (o := .lst [.ref t9]) hl9).trans (same_new (o := .lst (List.replicate (3 : Int).toNat [V.ref t9]).flatten) hl10)
      have f9 := m10 _ _ (upd_same (H := Z3) (o := .tup [.str "place", .str "offset"]) (a := t9))
      have f10 : (upd (upd (upd Z3 t9 (.tup [.str "place", .str "offset"])) l9 (.lst [.ref t9])) l10 (.lst (List.replicate (3 : Int).toNat [V.ref t9]).flatten)) l10 = some (.lst [.ref t9, .ref t9, .ref t9]) := upd_same
      have mm := m9.trans m10
      have dT : ∀ {H : Hp} {t : Addr}, H t = some (.tup [.str "place", .str "offset"]) → Dp K H (.ref t) (.tuple [.str "place", .str "offset"]) := fun h => .tup (SqT.of h) (.cons (.str _) (.cons (.str _) .nil))
      refine ⟨.list [.tuple [.str "place", .str "offset"], .tuple [.str "place", .str "offset"], .tuple [.str "place", .str "offset"]], .list [.tuple [.str "place", .str "offset"], .tuple [.str "place", .str "offset"], .tuple [.str "place", .str "offset"]],
        .lst (SqL.of (mm _ _ fl)) (.cons (dT (mm _ _ f1)) (.cons (dT (mm _ _ f2)) (.cons (dT (mm _ _ f3)) .nil))), .lst (SqL.of f10) (.cons (dT f9) (.cons (dT f9) (.cons (dT f9) .nil))), by decide +kernel, by decide +kernel, _, rfl, ?_⟩
      rw [show PyData.eqv (.list [.tuple [.str "place", .str "offset"], .tuple [.str "place", .str "offset"], .tuple [.str "place", .str "offset"]]) (.list [.tuple [.str "place", .str "offset"], .tuple [.str "place", .str "offset"], .tuple [.str "place", .str "offset"]]) = true from by simp [PyData.eqv, PyData.eqvAll]]
      refine iteF ?_
      exact ⟨_, _, _, _, _, _, _, _, _, _, _, _, rfl, B3.same mm, T3.ext mm⟩
  · rintro σ H' ⟨v2, v3, v4, v5, v6, v7, v8, v9, v10, v11, v12, v13, rfl, BZ, TZ⟩
    have small : ∀ s n : Int, s.natAbs < 8 → n.natAbs < 8 → CMulW s n := fun s n h1 h2 => wide_mul (a := 3) (b := 3) h1 h2 (by decide) (by decide) (by decide)
    refine ⟨_, rfl, .inl ⟨0, rfl, fun xL HL sL nL pL => ⟨xL, rfl, pL.insC, xL, .int 4, rfl, .inl ⟨0, 0, 0, 4, pL, rfl, by decide, small _ _ (by decide) (by decide), small _ _ (by decide) (by decide), ?_⟩⟩⟩⟩
    refine ⟨_, rfl, .inl ⟨0, rfl, fun xR HR sR nR pR => ⟨xR, rfl, pR.insC, xR, .int 4, rfl, .inl ⟨2, -0, 1, 4, pR, rfl, by decide, small _ _ (by decide) (by decide), small _ _ (by decide) (by decide), ?_⟩⟩⟩⟩
    refine ⟨_, rfl, .inl ⟨0, rfl, fun xM HM sM nM pM => ⟨xM, rfl, pM.insC, xM, .int 5, rfl, .inl ⟨1, 0, 0, 5, pM, rfl, by decide, small _ _ (by decide) (by decide), small _ _ (by decide) (by decide), ?_⟩⟩⟩⟩
    refine fun y dy ny ndy ney => ⟨y, dy, _, _, _, rfl, upd_same, .inr ⟨1, rfl, .inr ⟨0, rfl, .inr ⟨0, rfl, rfl, ?_⟩⟩⟩⟩
    have py : PlaceAt (upd (upd (upd HM dy (.own y)) y (.ins a.Place dy [])) y (.ins a.Place dy (plF 1 0 0))) a.Place y 1 0 0 := ⟨dy, upd_same⟩
    refine ⟨y, rfl, py.insC, y, .int 5, rfl, .inl ⟨1, 0, 0, 5, py, rfl, by decide, small _ _ (by decide) (by decide), small _ _ (by decide) (by decide), ?_⟩⟩
    refine ⟨(by show 4 ≤ sizeLine; decide), fun q1 hq1 => ⟨(by show 4 ≤ sizeLine; decide), fun q2 hq2 => ?_⟩⟩
    refine ⟨.list [.int (valP 0 0 0 4), .int (valP 2 (-0) 1 4), .int (valP 1 0 0 5), .int (valP 1 0 0 5)], .list [.int 0, .int 4, .int 2, .int 2], .lst (SqL.of (same_new hq2 _ _ upd_same)) (.cons (.int _) (.cons (.int _) (.cons (.int _) (.cons (.int _) .nil)))), .lst (SqL.of upd_same) (.cons (.int _) (.cons (.int _) (.cons (.int _) (.cons (.int _) .nil)))), by decide +kernel, by decide +kernel, ?_⟩
    rw [show PyData.eqv (.list [.int (valP 0 0 0 4), .int (valP 2 (-0) 1 4), .int (valP 1 0 0 5), .int (valP 1 0 0 5)]) (.list [.int 0, .int 4, .int 2, .int 2]) = true from by simp [PyData.eqv, PyData.eqvAll, valP]]
    exact k _
end
end Pf
end
section
namespace Pf
open PySem PySem.Spec PyProof.Rows L2 Ow StX

theorem fnt_mk {K : PySem.W.Frag} {x qual : Str} {st : Stmt} {f : Addr} {oc : Value} {od an : Option Addr} {osl : Array (Option Value)} {kV doc pm cdv ct : Value}
    (l : K.lookup f = some ⟨oc, od, .func (PySem.W.fnOf x qual (defArgs st) (defBody st) (defScope st) .none kV doc pm an cdv ct), osl⟩) (c : PySem.W.codeIn K cdv qual = true) (k : PySem.W.keepIn K (.ref f) = true) : FnT K x qual st [] f :=
  ⟨_, ⟨⟨oc, od, .none, kV, doc, pm, an, cdv, ct, osl, rfl, l, c, .inl ⟨rfl, rfl⟩, .inl rfl⟩, k⟩⟩
theorem fntD_mk {K : PySem.W.Frag} {x qual : Str} {st : Stmt} {f D : Addr} {oc : Value} {od an : Option Addr} {osl : Array (Option Value)} {kV doc pm cdv ct tc : Value} {td : Option Addr} {tn : Nat} {ts : Array (Option Value)} {its : List Value} {dvs : List V}
    (l : K.lookup f = some ⟨oc, od, .func (PySem.W.fnOf x qual (defArgs st) (defBody st) (defScope st) (.ref D) kV doc pm an cdv ct), osl⟩) (c : PySem.W.codeIn K cdv qual = true) (k : PySem.W.keepIn K (.ref f) = true)
    (t : K.lookup D = some ⟨tc, td, .seq its.toArray tn, ts⟩) (hd : dvs ≠ []) (v : Vals dvs its) : FnT K x qual st dvs f :=
  ⟨_, ⟨⟨oc, od, .ref D, kV, doc, pm, an, cdv, ct, osl, rfl, l, c, .inr ⟨hd, D, _, its, tn, rfl, t, rfl, v⟩, .inl rfl⟩, k⟩⟩
theorem fntD1_mk {K : PySem.W.Frag} {x qual : Str} {st : Stmt} {f D : Addr} {oc : Value} {od an : Option Addr} {osl : Array (Option Value)} {kV doc pm cdv ct tc u : Value} {td : Option Addr} {tn : Nat} {ts : Array (Option Value)} {dv : V}
    (l : K.lookup f = some ⟨oc, od, .func (PySem.W.fnOf x qual (defArgs st) (defBody st) (defScope st) (.ref D) kV doc pm an cdv ct), osl⟩) (c : PySem.W.codeIn K cdv qual = true) (k : PySem.W.keepIn K (.ref f) = true)
    (t : K.lookup D = some ⟨tc, td, .seq #[u] tn, ts⟩) (v : RelV dv u) : FnT K x qual st [dv] f := fntD_mk (its := [u]) l c k t (by simp) (.cons v .nil)
theorem propR_mk {K : PySem.W.Frag} {C p g : Addr} {f : Str} {rest : List Value} (h1 : PySem.W.findIn K (.ref C) f = some (some (.ref p))) (h2 : PySem.W.specialIn K (.ref p) "__get__" = some (some (.builtin "property.__get__")))
    (h3 : PySem.W.takesIn K (.ref p) = some true) (h4 : PySem.W.recIn K p "property" = some (.ref g :: rest)) : PropR K C f p g := ⟨h1, h2, h3, rest, h4⟩
theorem mro2_mk {K : PySem.W.Frag} {C : Addr} {cd : PySem.ClassData} (h : PySem.W.clsIn K C = some cd) (m : (cd.mro == [.ref C, .type "object"]) = true) : mro2 K C = true := by
  unfold mro2
  rw [h]
  exact m

theorem errF_mk {K : PySem.W.Frag} {C g : Addr} {nm q N bs bm sn sub ab col dd k0 k1 k2 k3 k5} (l : K.lookup C = some (excClassObj nm q C N bs bm true sn sub ab col dd k0 k1 k2 k3 k5 "ValueError.__new__")) (r : PySem.HandSPX.refsVE bm = true)
    (s : PySem.W.findIn K (.ref C) "__setattr__" = some (some (.builtin "object.__setattr__"))) (x : PySem.W.subIn K (.ref C) (.type "BaseException") = some true) (t : PySem.W.typeIn K (.ref C) = some (.type "type")) (k : PySem.W.keepIn K (.ref C) = true)
    (i : PySem.W.findIn K (.ref C) "__init__" = some (some (.ref g))) (f : PySem.W.typeIn K (.ref g) = some (.type "function")) : ErrF K C g := ⟨⟨⟨_, _, _, _, _, _, _, _, _, _, _, _, _, _, _, l, r⟩, s, x, t, k⟩, i, f⟩
theorem all_mk {l : PySem.W.OpenLaw} {w : World} {K : PySem.W.Frag} {h : Heap} {mg : Str → Option Value} {fa : Addr} (X : K.In h) (G : h.Ns mainGlobals mg) (hfa : mg "law" = some (.ref fa))
    {x_BadPlace_init x_BadSize_init x_is_int x_check_size x_Place_init x_Place_slope x_Place_offset x_Place_odd x_Place_call x__law_heard x__law_bag x__law_draw x__law_at x__law_number x__law_odd x_from_left x_from_right x_from_middle x_parts_of x_Place_eq x__law_sorts_right x_law x_Place x_pr_Place_slope x_pr_Place_offset x_pr_Place_odd x_BadPlace x_BadSize x_HoldError c Tb : Addr}
    (n_len : PySem.W.nsIn K mainGlobals "len" = some none)
    (n_int : PySem.W.nsIn K mainGlobals "int" = some none)
    (n_abs : PySem.W.nsIn K mainGlobals "abs" = some none)
    (n_list : PySem.W.nsIn K mainGlobals "list" = some none)
    (n_isinstance : PySem.W.nsIn K mainGlobals "isinstance" = some none)
    (n_bool : PySem.W.nsIn K mainGlobals "bool" = some none)
    (n_range : PySem.W.nsIn K mainGlobals "range" = some none)
    (n_repr : PySem.W.nsIn K mainGlobals "repr" = some none)
    (n_tuple : PySem.W.nsIn K mainGlobals "tuple" = some none)
    (n_min : PySem.W.nsIn K mainGlobals "min" = some none)
    (m_is_int : PySem.W.nsIn K mainGlobals "is_int" = some (some (.ref x_is_int)))
    (m_check_size : PySem.W.nsIn K mainGlobals "check_size" = some (some (.ref x_check_size)))
    (m__law_heard : PySem.W.nsIn K mainGlobals "_law_heard" = some (some (.ref x__law_heard)))
    (m__law_bag : PySem.W.nsIn K mainGlobals "_law_bag" = some (some (.ref x__law_bag)))
    (m__law_draw : PySem.W.nsIn K mainGlobals "_law_draw" = some (some (.ref x__law_draw)))
    (m__law_at : PySem.W.nsIn K mainGlobals "_law_at" = some (some (.ref x__law_at)))
    (m__law_number : PySem.W.nsIn K mainGlobals "_law_number" = some (some (.ref x__law_number)))
    (m__law_odd : PySem.W.nsIn K mainGlobals "_law_odd" = some (some (.ref x__law_odd)))
    (m_from_left : PySem.W.nsIn K mainGlobals "from_left" = some (some (.ref x_from_left)))
    (m_from_right : PySem.W.nsIn K mainGlobals "from_right" = some (some (.ref x_from_right)))
    (m_from_middle : PySem.W.nsIn K mainGlobals "from_middle" = some (some (.ref x_from_middle)))
    (m_parts_of : PySem.W.nsIn K mainGlobals "parts_of" = some (some (.ref x_parts_of)))
    (m__law_sorts_right : PySem.W.nsIn K mainGlobals "_law_sorts_right" = some (some (.ref x__law_sorts_right)))
    (m_law : PySem.W.nsIn K mainGlobals "law" = some (some (.ref x_law)))
    (m_Place : PySem.W.nsIn K mainGlobals "Place" = some (some (.ref x_Place)))
    (c_Place : ClsF K x_Place)
    (M_Place : Mk K x_Place x_Place_init)
    (a_Place__slope : PySem.W.findIn K (.ref x_Place) "_slope" = some none)
    (a_Place__offset : PySem.W.findIn K (.ref x_Place) "_offset" = some none)
    (a_Place__odd : PySem.W.findIn K (.ref x_Place) "_odd" = some none)
    (p_Place_slope : PropR K x_Place "slope" x_pr_Place_slope x_Place_slope)
    (p_Place_offset : PropR K x_Place "offset" x_pr_Place_offset x_Place_offset)
    (p_Place_odd : PropR K x_Place "odd" x_pr_Place_odd x_Place_odd)
    (o_Place_eq : PySem.W.findIn K (.ref x_Place) "__eq__" = some (some (.ref x_Place_eq)))
    (f_Place_eq : PySem.W.isFn K (.ref x_Place_eq) = true)
    (o_Place_call : PySem.W.findIn K (.ref x_Place) "__call__" = some (some (.ref x_Place_call)))
    (f_Place_call : PySem.W.isFn K (.ref x_Place_call) = true)
    (s_Place_not : PySem.W.notFirst K x_Place (.ref x_Place) = true)
    (s_Place_obj : PySem.W.subIn K (.ref x_Place) (.type "object") = some true)
    (o_ne : PySem.W.findIn K (.ref x_Place) "__ne__" = some (some (.builtin "object.__ne__")))
    (s_Place_int : PySem.W.subIn K (.type "int") (.ref x_Place) = some false)
    (s_Place_tuple : PySem.W.subIn K (.type "tuple") (.ref x_Place) = some false)
    (fi_Place_call : PySem.W.fnIn K x_Place_call = true)
    (s_Place_first : PySem.W.selfFirst K x_Place = true)
    (m_BadPlace : PySem.W.nsIn K mainGlobals "BadPlace" = some (some (.ref x_BadPlace)))
    (e_BadPlace : ErrF K x_BadPlace x_BadPlace_init)
    (a_BadPlace_part : PySem.W.findIn K (.ref x_BadPlace) "part" = some none)
    (m_BadSize : PySem.W.nsIn K mainGlobals "BadSize" = some (some (.ref x_BadSize)))
    (e_BadSize : ErrF K x_BadSize x_BadSize_init)
    (a_BadSize_part : PySem.W.findIn K (.ref x_BadSize) "part" = some none)
    (m_HoldError : PySem.W.nsIn K mainGlobals "HoldError" = some (some (.ref x_HoldError)))
    (xf_BadPlace : XfC K x_BadPlace)
    (xc_BadPlace : ExcC K x_BadPlace)
    (xi_BadPlace : PySem.W.isClsIn K x_BadPlace = true)
    (xt_BadPlace : PySem.W.typeIn K (.ref x_BadPlace) = some (.type "type"))
    (xm_BadPlace_HoldError : PySem.W.exmOne K (.ref x_BadPlace) (.ref x_HoldError) = some true)
    (xs_BadPlace_BadSize : PySem.W.subIn K (.ref x_BadPlace) (.ref x_BadSize) = some false)
    (xn_BadPlace_BadSize : ((.ref x_BadPlace : Value) == .ref x_BadSize) = false)
    (xf_BadSize : XfC K x_BadSize)
    (xc_BadSize : ExcC K x_BadSize)
    (xi_BadSize : PySem.W.isClsIn K x_BadSize = true)
    (xt_BadSize : PySem.W.typeIn K (.ref x_BadSize) = some (.type "type"))
    (xm_BadSize_HoldError : PySem.W.exmOne K (.ref x_BadSize) (.ref x_HoldError) = some true)
    (xs_BadSize_BadPlace : PySem.W.subIn K (.ref x_BadSize) (.ref x_BadPlace) = some false)
    (xn_BadSize_BadPlace : ((.ref x_BadSize : Value) == .ref x_BadPlace) = false)
    (d_BadPlace_init : FnT K "__init__" "BadPlace.__init__" s_BadPlace_init [] x_BadPlace_init)
    (d_BadSize_init : FnT K "__init__" "BadSize.__init__" s_BadSize_init [] x_BadSize_init)
    (d_is_int : FnT K "is_int" "is_int" s_is_int [] x_is_int)
    (k_is_int : PySem.W.keepIn K (.ref x_is_int) = true)
    (d_check_size : FnT K "check_size" "check_size" s_check_size [] x_check_size)
    (k_check_size : PySem.W.keepIn K (.ref x_check_size) = true)
    (d_Place_init : FnT K "__init__" "Place.__init__" s_Place_init [.int 0] x_Place_init)
    (d_Place_slope : FnT K "slope" "Place.slope" s_Place_slope [] x_Place_slope)
    (d_Place_offset : FnT K "offset" "Place.offset" s_Place_offset [] x_Place_offset)
    (d_Place_odd : FnT K "odd" "Place.odd" s_Place_odd [] x_Place_odd)
    (d_Place_call : FnT K "__call__" "Place.__call__" s_Place_call [] x_Place_call)
    (d__law_heard : FnT K "_law_heard" "_law_heard" s__law_heard [] x__law_heard)
    (k__law_heard : PySem.W.keepIn K (.ref x__law_heard) = true)
    (d__law_bag : FnT K "_law_bag" "_law_bag" s__law_bag [] x__law_bag)
    (k__law_bag : PySem.W.keepIn K (.ref x__law_bag) = true)
    (d__law_draw : FnT K "_law_draw" "_law_draw" s__law_draw [] x__law_draw)
    (k__law_draw : PySem.W.keepIn K (.ref x__law_draw) = true)
    (d__law_at : FnT K "_law_at" "_law_at" s__law_at [] x__law_at)
    (k__law_at : PySem.W.keepIn K (.ref x__law_at) = true)
    (d__law_number : FnT K "_law_number" "_law_number" s__law_number [] x__law_number)
    (k__law_number : PySem.W.keepIn K (.ref x__law_number) = true)
    (d__law_odd : FnT K "_law_odd" "_law_odd" s__law_odd [] x__law_odd)
    (k__law_odd : PySem.W.keepIn K (.ref x__law_odd) = true)
    (d_from_left : FnT K "from_left" "from_left" s_from_left [.int 0] x_from_left)
    (k_from_left : PySem.W.keepIn K (.ref x_from_left) = true)
    (d_from_right : FnT K "from_right" "from_right" s_from_right [.int 0] x_from_right)
    (k_from_right : PySem.W.keepIn K (.ref x_from_right) = true)
    (d_from_middle : FnT K "from_middle" "from_middle" s_from_middle [.int 0] x_from_middle)
    (k_from_middle : PySem.W.keepIn K (.ref x_from_middle) = true)
    (d_parts_of : FnT K "parts_of" "parts_of" s_parts_of [] x_parts_of)
    (k_parts_of : PySem.W.keepIn K (.ref x_parts_of) = true)
    (d_Place_eq : FnT K "__eq__" "Place.__eq__" s_Place_eq [] x_Place_eq)
    (d__law_sorts_right : FnT K "_law_sorts_right" "_law_sorts_right" s__law_sorts_right [] x__law_sorts_right)
    (k__law_sorts_right : PySem.W.keepIn K (.ref x__law_sorts_right) = true)
    (d_law : FnT K "law" "law" s_law [] x_law)
    (k_law : PySem.W.keepIn K (.ref x_law) = true)
    (FC : FnC K "law" "law" s_law x_law c)
    (CT : PySem.W.CodeHd h c Tb)
    (nT : List.lookup Tb K = none)
    (eT : h.get? Tb = some { cls := .none, data := .fields #[] })
    : LawT l w K 9 63 mg fa h := by
  have e := hfa.symm.trans (PySem.W.mg_of X G m_law)
  have e2 : x_law = fa := by
    cases e
    rfl
  subst e2
  have T : Txt K mg ⟨x_BadPlace_init, x_BadSize_init, x_is_int, x_check_size, x_Place_init, x_Place_slope, x_Place_offset, x_Place_odd, x_Place_call, x__law_heard, x__law_bag, x__law_draw, x__law_at, x__law_number, x__law_odd, x_from_left, x_from_right, x_from_middle, x_parts_of, x_Place_eq, x__law_sorts_right, x_law, x_Place, x_pr_Place_slope, x_pr_Place_offset, x_pr_Place_odd, x_BadPlace, x_BadSize, x_HoldError⟩ :=
    { n_len := PySem.W.mg_none_of X G n_len,
      n_int := PySem.W.mg_none_of X G n_int,
      n_abs := PySem.W.mg_none_of X G n_abs,
      n_list := PySem.W.mg_none_of X G n_list,
      n_isinstance := PySem.W.mg_none_of X G n_isinstance,
      n_bool := PySem.W.mg_none_of X G n_bool,
      n_range := PySem.W.mg_none_of X G n_range,
      n_repr := PySem.W.mg_none_of X G n_repr,
      n_tuple := PySem.W.mg_none_of X G n_tuple,
      n_min := PySem.W.mg_none_of X G n_min,
      d_BadPlace_init := d_BadPlace_init,
      d_BadSize_init := d_BadSize_init,
      d_is_int := d_is_int,
      m_is_int := PySem.W.mg_of X G m_is_int,
      k_is_int := k_is_int,
      d_check_size := d_check_size,
      m_check_size := PySem.W.mg_of X G m_check_size,
      k_check_size := k_check_size,
      d_Place_init := d_Place_init,
      d_Place_slope := d_Place_slope,
      d_Place_offset := d_Place_offset,
      d_Place_odd := d_Place_odd,
      d_Place_call := d_Place_call,
      d__law_heard := d__law_heard,
      m__law_heard := PySem.W.mg_of X G m__law_heard,
      k__law_heard := k__law_heard,
      d__law_bag := d__law_bag,
      m__law_bag := PySem.W.mg_of X G m__law_bag,
      k__law_bag := k__law_bag,
      d__law_draw := d__law_draw,
      m__law_draw := PySem.W.mg_of X G m__law_draw,
      k__law_draw := k__law_draw,
      d__law_at := d__law_at,
      m__law_at := PySem.W.mg_of X G m__law_at,
      k__law_at := k__law_at,
      d__law_number := d__law_number,
      m__law_number := PySem.W.mg_of X G m__law_number,
      k__law_number := k__law_number,
      d__law_odd := d__law_odd,
      m__law_odd := PySem.W.mg_of X G m__law_odd,
      k__law_odd := k__law_odd,
      d_from_left := d_from_left,
      m_from_left := PySem.W.mg_of X G m_from_left,
      k_from_left := k_from_left,
      d_from_right := d_from_right,
      m_from_right := PySem.W.mg_of X G m_from_right,
      k_from_right := k_from_right,
      d_from_middle := d_from_middle,
      m_from_middle := PySem.W.mg_of X G m_from_middle,
      k_from_middle := k_from_middle,
      d_parts_of := d_parts_of,
      m_parts_of := PySem.W.mg_of X G m_parts_of,
      k_parts_of := k_parts_of,
      d_Place_eq := d_Place_eq,
      d__law_sorts_right := d__law_sorts_right,
      m__law_sorts_right := PySem.W.mg_of X G m__law_sorts_right,
      k__law_sorts_right := k__law_sorts_right,
      d_law := d_law,
      m_law := PySem.W.mg_of X G m_law,
      k_law := k_law,
      m_Place := PySem.W.mg_of X G m_Place,
      c_Place := c_Place,
      M_Place := M_Place,
      a_Place__slope := a_Place__slope,
      a_Place__offset := a_Place__offset,
      a_Place__odd := a_Place__odd,
      p_Place_slope := p_Place_slope,
      p_Place_offset := p_Place_offset,
      p_Place_odd := p_Place_odd,
      o_Place_eq := o_Place_eq,
      f_Place_eq := f_Place_eq,
      o_Place_call := o_Place_call,
      f_Place_call := f_Place_call,
      s_Place_not := s_Place_not,
      s_Place_obj := s_Place_obj,
      o_ne := o_ne,
      s_Place_int := s_Place_int,
      s_Place_tuple := s_Place_tuple,
      fi_Place_call := fi_Place_call,
      s_Place_first := s_Place_first,
      m_HoldError := PySem.W.mg_of X G m_HoldError,
      xf_BadPlace := xf_BadPlace,
      xc_BadPlace := xc_BadPlace,
      xi_BadPlace := xi_BadPlace,
      xt_BadPlace := xt_BadPlace,
      xm_BadPlace_HoldError := xm_BadPlace_HoldError,
      xs_BadPlace_BadSize := xs_BadPlace_BadSize,
      xn_BadPlace_BadSize := xn_BadPlace_BadSize,
      xf_BadSize := xf_BadSize,
      xc_BadSize := xc_BadSize,
      xi_BadSize := xi_BadSize,
      xt_BadSize := xt_BadSize,
      xm_BadSize_HoldError := xm_BadSize_HoldError,
      xs_BadSize_BadPlace := xs_BadSize_BadPlace,
      xn_BadSize_BadPlace := xn_BadSize_BadPlace,
      m_BadPlace := PySem.W.mg_of X G m_BadPlace,
      e_BadPlace := e_BadPlace,
      a_BadPlace_part := a_BadPlace_part,
      m_BadSize := PySem.W.mg_of X G m_BadSize,
      e_BadSize := e_BadSize,
      a_BadSize_part := a_BadSize_part }
  exact ⟨c, Tb, spLaw K Tb, eT, nT, CT, fun H a ns hl hT hS => ⟨a, ns, rfl, hS, hl, hT, fun _ => rfl⟩, fun base _ _ TB => ok_law T FC TB⟩
end Pf
end
open PySem PySem.W PyProof.Rows
set_option maxRecDepth 100000 in
set_option maxHeartbeats 0 in
theorem PySem.Challenge.cw_heldfloods_k02_places_at_sizes_holds : PySem.Challenge.rw_heldfloods_k02_places_at_sizes.Holds := by
  w_on; o_law; k_head; (case hw => w_witness2)
  k_fill
  refine Ow.walk_ofTG (l := PySem.Challenge.rw_heldfloods_k02_places_at_sizes) (k := 9) (n := 63) rfl (by decide) rfl ⟨rfl, by decide, by decide⟩ (fun w h Y => PySem.W.km_in_of Y) ?F
  case F =>
    intro w mg fa h Y KX G hmg
    refine' Pf.all_mk KX G hmg ?n_len ?n_int ?n_abs ?n_list ?n_isinstance ?n_bool ?n_range ?n_repr ?n_tuple ?n_min ?m_is_int ?m_check_size ?m__law_heard ?m__law_bag ?m__law_draw ?m__law_at ?m__law_number ?m__law_odd ?m_from_left ?m_from_right ?m_from_middle ?m_parts_of ?m__law_sorts_right ?m_law ?m_Place ?c_Place ?M_Place ?a_Place__slope ?a_Place__offset ?a_Place__odd ?p_Place_slope ?p_Place_offset ?p_Place_odd ?o_Place_eq ?f_Place_eq ?o_Place_call ?f_Place_call ?s_Place_not ?s_Place_obj ?o_ne ?s_Place_int ?s_Place_tuple ?fi_Place_call ?s_Place_first ?m_BadPlace ?e_BadPlace ?a_BadPlace_part ?m_BadSize ?e_BadSize ?a_BadSize_part ?m_HoldError ?xf_BadPlace ?xc_BadPlace ?xi_BadPlace ?xt_BadPlace ?xm_BadPlace_HoldError ?xs_BadPlace_BadSize ?xn_BadPlace_BadSize ?xf_BadSize ?xc_BadSize ?xi_BadSize ?xt_BadSize ?xm_BadSize_HoldError ?xs_BadSize_BadPlace ?xn_BadSize_BadPlace ?d_BadPlace_init ?d_BadSize_init ?d_is_int ?k_is_int ?d_check_size ?k_check_size ?d_Place_init ?d_Place_slope ?d_Place_offset ?d_Place_odd ?d_Place_call ?d__law_heard ?k__law_heard ?d__law_bag ?k__law_bag ?d__law_draw ?k__law_draw ?d__law_at ?k__law_at ?d__law_number ?k__law_number ?d__law_odd ?k__law_odd ?d_from_left ?k_from_left ?d_from_right ?k_from_right ?d_from_middle ?k_from_middle ?d_parts_of ?k_parts_of ?d_Place_eq ?d__law_sorts_right ?k__law_sorts_right ?d_law ?k_law ?FC ?CT ?nT ?eT
    (case n_len => k_is)
    (case n_int => k_is)
    (case n_abs => k_is)
    (case n_list => k_is)
    (case n_isinstance => k_is)
    (case n_bool => k_is)
    (case n_range => k_is)
    (case n_repr => k_is)
    (case n_tuple => k_is)
    (case n_min => k_is)
    (case m_is_int => k_is)
    (case m_check_size => k_is)
    (case m__law_heard => k_is)
    (case m__law_bag => k_is)
    (case m__law_draw => k_is)
    (case m__law_at => k_is)
    (case m__law_number => k_is)
    (case m__law_odd => k_is)
    (case m_from_left => k_is)
    (case m_from_right => k_is)
    (case m_from_middle => k_is)
    (case m_parts_of => k_is)
    (case m__law_sorts_right => k_is)
    (case m_law => k_is)
    (case m_Place => k_is)
    (case c_Place => (refine' ⟨⟨?_, ?_, ?_, ?_⟩, ?_, ?_, ?_, ?_, ?_, ?_⟩ <;> k_is))
    (case M_Place => (refine' ⟨?a, ?b, ?c, ?d⟩; (case a => k_is); (case b => k_is); (case c => k_is); (case d => k_is)))
    (case a_Place__slope => k_is)
    (case a_Place__offset => k_is)
    (case a_Place__odd => k_is)
    (case p_Place_slope => (refine' Pf.propR_mk ?a ?b ?c ?d; (case a => k_is); (case b => k_is); (case c => k_is); (case d => k_is)))
    (case p_Place_offset => (refine' Pf.propR_mk ?a ?b ?c ?d; (case a => k_is); (case b => k_is); (case c => k_is); (case d => k_is)))
    (case p_Place_odd => (refine' Pf.propR_mk ?a ?b ?c ?d; (case a => k_is); (case b => k_is); (case c => k_is); (case d => k_is)))
    (case o_Place_eq => k_is)
    (case f_Place_eq => k_is)
    (case o_Place_call => k_is)
    (case f_Place_call => k_is)
    (case s_Place_not => k_is)
    (case s_Place_obj => k_is)
    (case o_ne => k_is)
    (case s_Place_int => k_is)
    (case s_Place_tuple => k_is)
    (case fi_Place_call => k_is)
    (case s_Place_first => k_is)
    (case m_BadPlace => k_is)
    (case e_BadPlace => (refine' Pf.errF_mk ?l ?r ?s ?x ?t ?k ?i ?f; (case l => k_is); (case r => rfl); (case s => k_is); (case x => k_is); (case t => k_is); (case k => k_is); (case i => k_is); (case f => k_is)))
    (case a_BadPlace_part => k_is)
    (case m_BadSize => k_is)
    (case e_BadSize => (refine' Pf.errF_mk ?l ?r ?s ?x ?t ?k ?i ?f; (case l => k_is); (case r => rfl); (case s => k_is); (case x => k_is); (case t => k_is); (case k => k_is); (case i => k_is); (case f => k_is)))
    (case a_BadSize_part => k_is)
    (case m_HoldError => k_is)
    (case xf_BadPlace => (refine' ⟨?a, ?b, ?c, ?d⟩; (case a => k_is); (case b => k_is); (case c => k_is); (case d => k_is)))
    (case xc_BadPlace => (refine' ⟨?a, ?b, ?c, ?d, ?e, ?f, ?g, ?h⟩; (case a => k_is); (case b => k_is); (case c => k_is); (case d => k_is); (case e => k_is); (case f => k_is); (case g => k_is); (case h => k_is)))
    (case xi_BadPlace => k_is)
    (case xt_BadPlace => k_is)
    (case xm_BadPlace_HoldError => (refine' PySem.W.exm_ref ?a ?b ?c ?d; (case a => k_is); (case b => k_is); (case c => k_is); (case d => k_is)))
    (case xs_BadPlace_BadSize => k_is)
    (case xn_BadPlace_BadSize => first | rfl | decide)
    (case xf_BadSize => (refine' ⟨?a, ?b, ?c, ?d⟩; (case a => k_is); (case b => k_is); (case c => k_is); (case d => k_is)))
    (case xc_BadSize => (refine' ⟨?a, ?b, ?c, ?d, ?e, ?f, ?g, ?h⟩; (case a => k_is); (case b => k_is); (case c => k_is); (case d => k_is); (case e => k_is); (case f => k_is); (case g => k_is); (case h => k_is)))
    (case xi_BadSize => k_is)
    (case xt_BadSize => k_is)
    (case xm_BadSize_HoldError => (refine' PySem.W.exm_ref ?a ?b ?c ?d; (case a => k_is); (case b => k_is); (case c => k_is); (case d => k_is)))
    (case xs_BadSize_BadPlace => k_is)
    (case xn_BadSize_BadPlace => first | rfl | decide)
    (case d_BadPlace_init => (refine' Pf.fnt_mk ?l ?c ?k; (case l => k_is); (case c => k_is); (case k => k_is)))
    (case d_BadSize_init => (refine' Pf.fnt_mk ?l ?c ?k; (case l => k_is); (case c => k_is); (case k => k_is)))
    (case d_is_int => (refine' Pf.fnt_mk ?l ?c ?k; (case l => k_is); (case c => k_is); (case k => k_is)))
    (case k_is_int => k_is)
    (case d_check_size => (refine' Pf.fnt_mk ?l ?c ?k; (case l => k_is); (case c => k_is); (case k => k_is)))
    (case k_check_size => k_is)
    (case d_Place_init => (refine' Pf.fntD1_mk ?l ?c ?k ?t ?v; (case l => k_is); (case c => k_is); (case k => k_is); (case t => k_is); (case v => first | exact ⟨_, rfl⟩ | rfl)))
    (case d_Place_slope => (refine' Pf.fnt_mk ?l ?c ?k; (case l => k_is); (case c => k_is); (case k => k_is)))
    (case d_Place_offset => (refine' Pf.fnt_mk ?l ?c ?k; (case l => k_is); (case c => k_is); (case k => k_is)))
    (case d_Place_odd => (refine' Pf.fnt_mk ?l ?c ?k; (case l => k_is); (case c => k_is); (case k => k_is)))
    (case d_Place_call => (refine' Pf.fnt_mk ?l ?c ?k; (case l => k_is); (case c => k_is); (case k => k_is)))
    (case d__law_heard => (refine' Pf.fnt_mk ?l ?c ?k; (case l => k_is); (case c => k_is); (case k => k_is)))
    (case k__law_heard => k_is)
    (case d__law_bag => (refine' Pf.fnt_mk ?l ?c ?k; (case l => k_is); (case c => k_is); (case k => k_is)))
    (case k__law_bag => k_is)
    (case d__law_draw => (refine' Pf.fnt_mk ?l ?c ?k; (case l => k_is); (case c => k_is); (case k => k_is)))
    (case k__law_draw => k_is)
    (case d__law_at => (refine' Pf.fnt_mk ?l ?c ?k; (case l => k_is); (case c => k_is); (case k => k_is)))
    (case k__law_at => k_is)
    (case d__law_number => (refine' Pf.fnt_mk ?l ?c ?k; (case l => k_is); (case c => k_is); (case k => k_is)))
    (case k__law_number => k_is)
    (case d__law_odd => (refine' Pf.fnt_mk ?l ?c ?k; (case l => k_is); (case c => k_is); (case k => k_is)))
    (case k__law_odd => k_is)
    (case d_from_left => (refine' Pf.fntD1_mk ?l ?c ?k ?t ?v; (case l => k_is); (case c => k_is); (case k => k_is); (case t => k_is); (case v => first | exact ⟨_, rfl⟩ | rfl)))
    (case k_from_left => k_is)
    (case d_from_right => (refine' Pf.fntD1_mk ?l ?c ?k ?t ?v; (case l => k_is); (case c => k_is); (case k => k_is); (case t => k_is); (case v => first | exact ⟨_, rfl⟩ | rfl)))
    (case k_from_right => k_is)
    (case d_from_middle => (refine' Pf.fntD1_mk ?l ?c ?k ?t ?v; (case l => k_is); (case c => k_is); (case k => k_is); (case t => k_is); (case v => first | exact ⟨_, rfl⟩ | rfl)))
    (case k_from_middle => k_is)
    (case d_parts_of => (refine' Pf.fnt_mk ?l ?c ?k; (case l => k_is); (case c => k_is); (case k => k_is)))
    (case k_parts_of => k_is)
    (case d_Place_eq => (refine' Pf.fnt_mk ?l ?c ?k; (case l => k_is); (case c => k_is); (case k => k_is)))
    (case d__law_sorts_right => (refine' Pf.fnt_mk ?l ?c ?k; (case l => k_is); (case c => k_is); (case k => k_is)))
    (case k__law_sorts_right => k_is)
    (case d_law => (refine' Pf.fnt_mk ?l ?c ?k; (case l => k_is); (case c => k_is); (case k => k_is)))
    (case k_law => k_is)
    (case FC => (refine' Ow.FnC.mk ?l ?c; (case l => k_is); (case c => k_is)))
    (case CT => (refine' Ow.codeHd_mk KX ?l ?e1 ?e2 ?e3 ?e4 ?e5 ?e6 ?ne; (case l => k_is); (case e1 => rfl); (case e2 => rfl); (case e3 => rfl); (case e4 => rfl); (case e5 => rfl); (case e6 => rfl); (case ne => decide)))
    (case nT => exact Ow.km_none Y (by decide +kernel))
    (case eT => exact PySem.W.km_tabs_of Y _ (by simp))
