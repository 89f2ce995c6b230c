import PyProof.Rows.All
import Wide.All
import OpenK.AllK
import Wide.FinOn
import PyProof.EqAt
import PyProof.EqKinds
import PyProof.TupleCall
import PyProof.InstNe
import KE.KOpsOwn
import HandS.Base
import HandS.Call
import HandS.List
import HandS.More
import PyProof.TwoTypesSub
import PyProof.AutoIntOps
import PyProof.StrReplace2
import HandS.Words
import HandS.Star
import HandS.IsInst
import HandS.Defaults
import HandS.Property
import HandS.OwnEq
import HandS.Lambda
import HandS.Ends
import PyProof.ReprRoads
import HandS.ExcInit
import HandS.ExcField
import HandS.CallSlots
import HandS.ForExc
import HandS.ExcIs
import KE.KExcIs
import HandS.EndTab
import HandS.MakeKwOnly
import HandS.FStr
import KE.KCallOwn
import HandS.RaiseMore
import HandS.ForMost
import HandS.Wide
import PySem.Challenge.RW_heldfloods_k09_rows_of_sizes
set_option Elab.async false
set_option linter.all false
set_option maxRecDepth 100000
section
set_option maxHeartbeats 4000000
/-! Operators that an own class defines, over instances that are tracked. -/
namespace Ow
open PySem PySem.Spec PyProof.Rows L2

/-- an instance of the class at C stands at a -/
def InsAt (H : Hp) (a C : Addr) : Prop := ∃ dx fs, H a = some (.ins C dx fs)

section
variable {X : Cx} {CX : CXT} {n : Nat} {C g : Addr} {sp : Sp} {E : XK}

theorem inst_of {pins : List (Addr × Obj)} {σ : L2.St} {H : Hp} {s : Shared} {a : Addr} (I : Inv X pins σ H s) (h : InsAt H a C) : ∃ ox od, PySem.W.InstAt s.heap a ox C od := by
  obtain ⟨dx, fs, ea⟩ := h
  obtain ⟨mA, O, _⟩ := ins_get I.hok ea
  obtain ⟨od, J, _⟩ := O.look
  exact ⟨_, _, J⟩

theorem cmpbackR {Q : Value → Shared → Prop} {v : V} {u : Value} {s : Shared} (r : RelV v u) (q : Q u s) : PySem.W.CmpBack Q u s := by
  cases v <;> first
    | (cases r; exact q)
    | (obtain ⟨t, rfl⟩ := r; exact q)

/-- x op y, both instances of C -/
def rBin (C : Addr) (sp : Sp) (E : XK) : R2 := fun x y H Q => ∃ a b, x = .ref a ∧ y = .ref b ∧ InsAt H a C ∧ InsAt H b C ∧ sp [x, y] H Q E
theorem op_bin {op : Operator} (hc : PySem.W.selfFirst X.K C = true) (hs : PySem.W.findIn X.K (.ref C) (PySem.dunder op.info.2) = some (some (.ref g))) (hf : PySem.W.isFn X.K (.ref g) = true)
    (F : FnR X.prog X.w X.K X.mg X.base CX n g sp) (hr : Room n X.A) (hx : Passes CX X E) : OpR X (binaryOp op) (rBin C sp E) := by
  intro pins s σ H x y v u Q I rx ry h
  obtain ⟨a, b, rfl, rfl, ha, hb, q⟩ := h
  cases (show v = Value.ref a from rx)
  cases (show u = Value.ref b from ry)
  obtain ⟨ox, od, J⟩ := inst_of I ha
  obtain ⟨oy, od', J'⟩ := inst_of I hb
  obtain ⟨m, hF⟩ := I.fr
  refine PySem.W.binop_K (op := op) hF I.ok.mod.kin J J'.type hc hs hf ?_
  refine wpAny_mono (wpAny_call (run_fnR (us := [.ref a, .ref b]) (vs := [.ref a, .ref b]) F hr hx I (.cons rfl (.cons rfl .nil)) q)) (fun w s' z => ?_) fun _ _ x => x
  obtain ⟨z', H', I', rz, qz⟩ := z
  exact cmpbackR rz ⟨z', H', I', rz, qz⟩

/-- x op n, an instance of C and an int -/
def rBinI (C : Addr) (sp : Sp) (E : XK) : R2 := fun x y H Q => ∃ a i, x = .ref a ∧ y = .int i ∧ InsAt H a C ∧ sp [x, y] H Q E
theorem op_binI {op : Operator} {fo ro rc : Option Value} (hc : PySem.W.selfFirst X.K C = true) (hs : PySem.W.findIn X.K (.ref C) (PySem.dunder op.info.2) = some (some (.ref g))) (hf : PySem.W.isFn X.K (.ref g) = true)
    (hrr : PySem.W.findIn X.K (.ref C) (dunderR op.info.2) = some rc) (hp : rc = none ∨ ∃ g : Addr, rc = some (.ref g))
    (h1 : PySem.W.findIn X.K (.type "int") (PySem.dunder op.info.2) = some fo) (h2 : PySem.W.findIn X.K (.type "int") (dunderR op.info.2) = some ro) (hsub : PySem.W.subIn X.K (.type "int") (.ref C) = some false)
    (F : FnR X.prog X.w X.K X.mg X.base CX n g sp) (hr : Room n X.A) (hx : Passes CX X E) : OpR X (binaryOp op) (rBinI C sp E) := by
  intro pins s σ H x y v u Q I rx ry h
  obtain ⟨a, i, rfl, rfl, ha, q⟩ := h
  cases (show v = Value.ref a from rx)
  obtain ⟨t, rfl⟩ := ry
  obtain ⟨ox, od, J⟩ := inst_of I ha
  obtain ⟨m, hF⟩ := I.fr
  refine PySem.W.ksp_binT (op := op) (T := "int") hF I.ok.mod.kin J rfl hc hs hf hrr hp h1 h2 hsub ?_
  refine wpAny_mono (wpAny_call (run_fnR (us := [.ref a, .int i t]) (vs := [.ref a, .int i]) F hr hx I (.cons rfl (.cons ⟨t, rfl⟩ .nil)) q)) (fun w s' z => ?_) fun _ _ x => x
  obtain ⟨z', H', I', rz, qz⟩ := z
  exact cmpbackR rz ⟨z', H', I', rz, qz⟩

/-- ~x -/
def rUn (C : Addr) (sp : Sp) (E : XK) : V → Hp → VK → Prop := fun x H Q => ∃ a, x = .ref a ∧ InsAt H a C ∧ sp [x] H Q E
theorem un_inv_own (hs : PySem.W.findIn X.K (.ref C) "__invert__" = some (some (.ref g))) (hf : PySem.W.isFn X.K (.ref g) = true)
    (F : FnR X.prog X.w X.K X.mg X.base CX n g sp) (hr : Room n X.A) (hx : Passes CX X E) : UnR X (unaryOp .Invert) (rUn C sp E) := by
  intro pins s σ H x v Q I rx h
  obtain ⟨a, rfl, ha, q⟩ := h
  cases (show v = Value.ref a from rx)
  obtain ⟨ox, od, J⟩ := inst_of I ha
  obtain ⟨m, hF⟩ := I.fr
  refine PySem.W.ksp_inv hF I.ok.mod.kin J hs hf ?_
  exact wpAny_call (run_fnR (us := [.ref a]) (vs := [.ref a]) F hr hx I (.cons rfl .nil) q)

/-- x op y, a comparison whose def stands at g; y an instance of C too -/
theorem op_cmp {op : CmpOp} (hop : ∀ a b, compareOp op a b = richCompare op a b) (hs : PySem.W.findIn X.K (.ref C) (cmpInfo op).2.1 = some (some (.ref g))) (hf : PySem.W.isFn X.K (.ref g) = true) (hn : PySem.W.notFirst X.K C (.ref C) = true)
    (F : FnR X.prog X.w X.K X.mg X.base CX n g sp) (hr : Room n X.A) (hx : Passes CX X E) : OpR X (compareOp op) (rBin C sp E) := by
  intro pins s σ H x y v u Q I rx ry h
  obtain ⟨a, b, rfl, rfl, ha, hb, q⟩ := h
  cases (show v = Value.ref a from rx)
  cases (show u = Value.ref b from ry)
  obtain ⟨ox, od, J⟩ := inst_of I ha
  obtain ⟨oy, od', J'⟩ := inst_of I hb
  obtain ⟨m, hF⟩ := I.fr
  rw [hop]
  refine PySem.W.cmp_K (op := op) (tb := .ref C) hr.units0 hF I.ok.mod.kin J J'.type hn hs hf ?_
  refine wpAny_mono (wpAny_call (run_fnR (us := [.ref a, .ref b]) (vs := [.ref a, .ref b]) F hr hx I (.cons rfl (.cons rfl .nil)) q)) (fun w s' z => ?_) fun _ _ x => x
  obtain ⟨z', H', I', rz, qz⟩ := z
  exact cmpbackR rz ⟨z', H', I', rz, qz⟩
end
end Ow
end
section
set_option maxHeartbeats 4000000
namespace Ow
open PySem PySem.Spec PyProof.Rows L2 PySem.W

section
variable {prog : Program} {w : World} {M : Model} {A : Around} {E : Value → Shared → Prop} {s : Shared} {K : Frag} {x C L f : Addr} {h₀ : Heap} {m : Str → Option Value} {ox : Obj} {od : Option Obj} {nm : String}

theorem add_ref_at {i : Int} {t : Tok} {x C dx : Addr} : GivesAt (fun s => s.heap.get? x = some (instObj C dx)) (Builtin.«int.__add__» ⟨[.int i t, .ref x], []⟩) (.val Value.notImplemented) := by
  intro prog w A R s hx h
  obtain ⟨hp, g, d, tk, os⟩ := s
  have hl : ∀ {M : Model} {A : Around} {E : Value → Shared → Prop} {Q : Option Int → Shared → Prop}, Q none ⟨hp, g, d, tk, os⟩ → wpAny M A (asInt? (.ref x)) Q E ⟨hp, g, d, tk, os⟩ := by
    intro M A E Q q
    unfold asInt?
    exact wpAny_bind (wpAny_load hx (wpAny_pure q))
  unfold Builtin.«int.__add__»
  wp_walk using hl
  exact h
theorem int_add_ref {i : Int} {t : Tok} {x C dx : Addr} {s : Shared} {Q : Value → Shared → Prop} (hx : s.heap.get? x = some (instObj C dx)) (h : Q .notImplemented s) :
    wpAny (model prog w) A (call (.builtin "int.__add__") [.int i t, .ref x]) Q E s :=
  call_givesAt F.slot_int_add (typeIs_int s i t) F.entry_int_add (F.args_int_add_2 _ _) add_ref_at hx h
theorem int_add_own {i : Int} {t : Tok} {x C dx f fa : Addr} {cd : ClassData} {rest : List Value} {Q : Value → Shared → Prop} (X : K.In s.heap) (hx : s.heap.get? x = some (instObj C dx)) (I : InstAt s.heap x ox C od) (hcd : clsIn K C = some cd) (hm : cd.mro = .ref C :: rest)
    (ha : findIn K (.ref C) (PySem.dunder "add") = some (some (.ref fa))) (hs : findIn K (.ref C) (dunderR "add") = some (some (.ref f))) (hf : isFn K (.ref f) = true) (hsub : subIn K (.ref C) (.type "int") = some false)
    (h : wpAny (model prog w) A (call (.ref f) [.ref x, .int i t]) (PySem.W.CmpBack Q) E s) : wpAny (model prog w) A (binaryOp .Add (.int i t) (.ref x)) Q E s := by
  have one := ksp_try X I hs hf h
  have two : ∀ {Q' : Option Value → Shared → Prop}, Q' none s → wpAny (model prog w) A (tryMethod (.int i t) (PySem.dunder "add") (.ref x)) Q' E s := by
    intro Q' q
    unfold tryMethod
    exact wpAny_bind (wpAny_callSpecial?_slot (typeIs_int s i t) F.slot_int_add (int_add_ref hx (wpAny_pure q)))
  obtain ⟨hh, g, d, tt, os⟩ := s
  have L1 : Looks (model prog w) hh (typeOf (.int i t)) (.type "int") := Looks.of_pure rfl
  have L2 : Looks (model prog w) hh (typeOf (.ref x)) (.ref C) := I.type
  have L3 : Looks (model prog w) hh (fillsNumberSlot (.type "int") "add") true := Looks.of_pure F.fills_int_add
  have L4 : Looks (model prog w) hh (fillsNumberSlot (.ref C) "add") true := fills_K X hcd hm ha
  have L5 : Looks (model prog w) hh (isSubtype (.ref C) (.type "int")) false := looks_subIn X hsub
  have L7 : Looks (model prog w) hh (numberSlotInPython (.type "int") "add") false := Looks.of_pure rfl
  have hne : (Value.type "int" == Value.ref C) = false := Bool.eq_false_iff.mpr fun q => by cases beq_iff_eq.mp q
  show wpAny (model prog w) A (binaryOp .Add (.int i t) (.ref x)) Q E _
  have hi : Operator.info .Add = ("+", "add") := rfl
  simp only [binaryOp, hi]
  refine wpAny_holding (wpAny_bind ?_)
  unfold binaryOp1
  refine wpAny_bind (L1.at (wpAny_bind (L2.at (wpAny_bind (L3.at ?_)))))
  simp only [hne, Bool.false_eq_true, if_false]
  ksp_lk
  refine two ?_
  ksp_lk
  refine wpAny_mono one (fun r s' hr' => ?_) fun _ _ e => e
  obtain ⟨v, rfl, hq⟩ := hr'
  ksp_lk
  exact hq
end
end Ow
end
section
set_option maxHeartbeats 4000000
namespace Ow
open PySem PySem.Spec PyProof.Rows L2 PySem.W

section
variable {prog : Program} {w : World} {M : Model} {A : Around} {E : Value → Shared → Prop} {s : Shared} {K : Frag} {x C L f : Addr} {h₀ : Heap} {m : Str → Option Value} {ox : Obj} {od : Option Obj} {nm T : String}
/-- no += of one's own: C over object alone -/
theorem noI_own {h : Heap} {cd : ClassData} {add : Bool} (X : K.In h) (hc : clsIn K C = some cd) (hm : cd.mro = [.ref C, .type "object"]) (hs : findIn K (.ref C) (dunderI nm) = some none)
    (ho : typeLookup (.type "object") (dunderI nm) = pure none) : Looks M h (fillsInplaceSlot (.ref C) nm add) false := by
  intro A Q E s k q
  have Lm : Looks M h (mroOf (.ref C)) cd.mro := (looks_clsIn X hc).andThen (f := fun cd => pure cd.mro) .now
  have Lm' := Lm.keeps k
  obtain ⟨hh, g, d, tt, os⟩ := s
  have X' : K.In hh := X.keeps k
  have L1 : Looks M hh (typeLookup (.ref C) (dunderI nm)) none := looks_findIn X' hs
  have L2 : Looks M hh (typeLookup (.type "object") (dunderI nm)) none := Looks.of_pure ho
  unfold fillsInplaceSlot
  refine wpAny_bind (Lm'.at ?_)
  rw [hm, List.anyM_cons]
  refine wpAny_bind (wpAny_bind (L1.at ?_))
  refine wpAny_pure ?_
  simp only [Bool.false_eq_true, if_false]
  rw [List.anyM_cons]
  refine wpAny_bind (wpAny_bind (L2.at ?_))
  refine wpAny_pure ?_
  simp only [Bool.false_eq_true, if_false]
  exact wpAny_pure q

theorem iadd_own {op : Operator} {b : Value} {cd : ClassData} {fo ro rc : Option Value} {Q : Value → Shared → Prop} (X : K.In s.heap) (I : InstAt s.heap x ox C od) (hb : typeOf b = pure (.type T)) (hcd : clsIn K C = some cd) (hm : cd.mro = [.ref C, .type "object"])
    (hni : findIn K (.ref C) (dunderI op.info.2) = some none) (hno : typeLookup (.type "object") (dunderI op.info.2) = pure none)
    (hs : findIn K (.ref C) (PySem.dunder op.info.2) = some (some (.ref f))) (hf : isFn K (.ref f) = true) (hr : findIn K (.ref C) (dunderR op.info.2) = some rc) (hp : rc = none ∨ ∃ g : Addr, rc = some (.ref g))
    (h1 : findIn K (.type T) (PySem.dunder op.info.2) = some fo) (h2 : findIn K (.type T) (dunderR op.info.2) = some ro) (hsub : subIn K (.type T) (.ref C) = some false)
    (h : wpAny (model prog w) A (call (.ref f) [.ref x, b]) (PySem.W.CmpBack Q) E s) : wpAny (model prog w) A (inplaceOp op (.ref x) b) Q E s := by
  rcases hi : op.info with ⟨sym, nm'⟩
  rw [hi] at hs hr h1 h2 hni hno
  dsimp only at hs hr h1 h2 hni hno
  have one := ksp_try X I hs hf h
  obtain ⟨hh, g, d, tt, os⟩ := s
  have L0 : Looks (model prog w) hh (fillsInplaceSlot (.ref C) nm' (op == .Add)) false := noI_own X hcd hm hni hno
  have L1 : Looks (model prog w) hh (typeOf (.ref x)) (.ref C) := I.type
  have L2 : Looks (model prog w) hh (typeOf b) (.type T) := Looks.of_pure hb
  have L3 : Looks (model prog w) hh (fillsNumberSlot (.ref C) nm') true := fills_K X hcd hm hs
  have L4 : Looks (model prog w) hh (fillsNumberSlot (.type T) nm') ((fo.isSome && !isSeqSlot fo) || (ro.isSome && !isSeqSlot ro)) := ksp_fillsT X h1 h2
  have L5 : Looks (model prog w) hh (isSubtype (.type T) (.ref C)) false := looks_subIn X hsub
  have L6 : Looks (model prog w) hh (numberSlotInPython (.ref C) nm') true := ksp_inPy X hs hr hp
  have L7 : Looks (model prog w) hh (numberSlotInPython (.type T) nm') false := Looks.of_pure rfl
  have L8 : Looks (model prog w) hh (typeLookup (.type T) (dunderR nm')) ro := looks_findIn X h2
  generalize ((fo.isSome && !isSeqSlot fo) || (ro.isSome && !isSeqSlot ro)) = right at L4
  have hne : (Value.ref C == Value.type T) = false := Bool.eq_false_iff.mpr fun q => by cases beq_iff_eq.mp q
  unfold inplaceOp
  simp only [hi]
  refine wpAny_holding (wpAny_bind (L1.at (wpAny_bind (L0.at ?_))))
  simp only [Bool.false_eq_true, if_false]
  refine wpAny_bind ?_
  unfold binaryOp1
  refine wpAny_bind (L1.at (wpAny_bind (L2.at (wpAny_bind (L3.at ?_)))))
  simp only [hne, Bool.false_eq_true, if_false]
  cases right with
  | false =>
    ksp_lk
    refine wpAny_mono one (fun r s' hr' => ?_) fun _ _ e => e
    obtain ⟨v, rfl, hq⟩ := hr'
    ksp_lk
    exact hq
  | true =>
    ksp_lk
    refine wpAny_mono one (fun r s' hr' => ?_) fun _ _ e => e
    obtain ⟨v, rfl, hq⟩ := hr'
    ksp_lk
    exact hq
end
end Ow
end
section
set_option maxHeartbeats 4000000
namespace Ow
open PySem PySem.Spec PyProof.Rows L2 PySem.W

section
variable {prog : Program} {w : World} {M : Model} {A : Around} {E : Value → Shared → Prop} {s : Shared} {K : Frag} {x y C L f : Addr} {ox oy : Obj} {od od' : Option Obj}

theorem objNe_K {Q : PySem.Fin → Shared → Prop} (X : K.In s.heap) (I : InstAt s.heap x ox C od) (hs : findIn K (.ref C) "__eq__" = some (some (.ref f))) (hf : isFn K (.ref f) = true) (hu : A.units < cLine)
    (hcall : wpAny (model prog w) A (call (.ref f) [.ref x, .ref y]) (fun v s' => ∃ b, v = .bool b ∧ Q (.done (.ret (.bool (!b)))) s') E s) :
    wpAny (model prog w) A (Builtin.«object.__ne__» ⟨[.ref x, .ref y], []⟩) Q E s := by
  unfold Builtin.«object.__ne__»
  repeat (first
    | with_reducible refine wpAny_cRoomFor hu ?_
    | (refine wpAny_bind (m := callSpecialIfBound? (.ref x) (Str.ofString "__eq__") [.ref y])
        (ifBound_K X I hs hf (wpAny_mono hcall (fun r s' hr => by
          obtain ⟨b, rfl, hq⟩ := hr
          repeat (first | exact hq | exact wpAny_pure hq | exact wpAny_truthy_bool hq | (refine wpAny_bind (m := truthy (.bool _)) (wpAny_truthy_bool ?_)) | wp_step)) fun _ _ e => e)))
    | wp_step)

theorem check_K {id owner n : String} {rest : List Value} {Q : Unit → Shared → Prop} (X : K.In s.heap) (I : InstAt s.heap x ox C od) (hk : builtinKind id = some .slot) (hs : splitId id = some (owner, n))
    (ha : argsOk id ⟨.ref x :: rest, []⟩) (hob : subIn K (.ref C) (.type owner) = some true) (hq : Q () s) :
    wpAny M A (checkBuiltinCall id ⟨.ref x :: rest, []⟩) Q E s := by
  obtain ⟨h, g, d, t, os⟩ := s
  have Ls : Looks M h (isSubtype (.ref C) (.type owner)) true := looks_subIn X hob
  have hx := I.at_
  have hc := I.cls
  have X0 := X
  simp only [checkBuiltinCall, hk, hs]
  refine wpAny_bind ?_
  unfold isInstance
  repeat (first | (with_reducible refine wpAny_loadPart_at hx ?_; rw [hc]) | (with_reducible refine Ls.here ?_) | wp_step)
  cases hsig : Manifest.signature? id with
  | none => exact wpAny_pure hq
  | some sig =>
    simp only [argsOk, hsig] at ha
    have h2 : Bind.checkArgs id sig ⟨.ref x :: rest, []⟩ = pure () := ha
    show wpAny M A (Bind.checkArgs id sig ⟨.ref x :: rest, []⟩) Q E _
    rw [h2]; exact wpAny_pure hq

theorem ne_own {Q : Value → Shared → Prop} (hu : A.units + 1 < cLine) (X : K.In s.heap) (I : InstAt s.heap x ox C od) (J : InstAt s.heap y oy C od') (hne : findIn K (.ref C) "__ne__" = some (some (.builtin "object.__ne__")))
    (hs : findIn K (.ref C) "__eq__" = some (some (.ref f))) (hf : isFn K (.ref f) = true) (hob : subIn K (.ref C) (.type "object") = some true)
    (hcall : wpAny (model prog w) A.in1 (call (.ref f) [.ref x, .ref y]) (fun v s' => ∃ b, v = .bool b ∧ Q (.bool (!b)) s') E s) :
    wpAny (model prog w) A (compareOp .NotEq (.ref x) (.ref y)) Q E s := by
  have S := F.cmp_object.ne
  have one : wpAny (model prog w) A (tryCompare (.ref x) "__ne__" (.ref y)) (fun r s' => ∃ v, r = some v ∧ Q v s') E s := by
    unfold tryCompare
    refine wpAny_bind ?_
    simp only [callSpecialIfBound?, bindSpecialIfBound?]
    refine wpAny_holding (wpAny_bind (wpAny_bind (wpAny_bind (I.type.here ((looks_findIn X hne).here ?_)))))
    simp only [S.bind]
    have fin : ∀ {R : Option Value → Shared → Prop}, (∀ b s', Q (.bool (!b)) s' → R (some (.bool (!b))) s') → wpAny (model prog w) A (call (.builtin "object.__ne__") ([.ref x] ++ [.ref y]) >>= fun v => pure (some v)) R E s := by
      intro R hR
      refine wpAny_bind (wpAny_call (codeAny_call_builtin S.plain F.cmpEntry_ne (check_K X I F.cmpKind_ne F.cmpSplit_ne (F.cmpArgs_ne _ _) hob (objNe_K (A := A.in1) X I hs hf hu (wpAny_mono hcall (fun v s' hv => ?_) fun _ _ e => e)))))
      obtain ⟨b, rfl, hq⟩ := hv
      exact ⟨b, rfl, wpAny_pure (hR b _ hq)⟩
    refine wpAny_bind (wpAny_askSetting (wpAny_ite ?_))
    split
    · exact wpAny_bind (wpAny_pure (wpAny_pure (fin fun b s' hq => wpAny_pure ⟨_, rfl, hq⟩)))
    · exact wpAny_tryCatch (wpAny_bind (wpAny_pure (wpAny_pure (fin fun b s' hq => wpAny_pure ⟨_, rfl, hq⟩))))
  show wpAny (model prog w) A (richCompare .NotEq (.ref x) (.ref y)) Q E s
  unfold richCompare
  simp only [oneThing_ref]
  refine wpAny_holding (wpAny_bind (wpAny_cRoomFor (Nat.lt_of_succ_lt hu) ?_))
  refine wpAny_bind (I.type.here (wpAny_bind (J.type.here ?_)))
  rw [show (Value.ref C != Value.ref C) = false from by simp]
  simp only [Bool.false_eq_true, if_false]
  refine wpAny_bind (wpAny_pure ?_)
  simp only [Bool.false_eq_true, if_false]
  refine wpAny_bind (wpAny_mono one (fun r s' z => ?_) fun _ _ e => e)
  obtain ⟨v, rfl, hq⟩ := z
  exact wpAny_pure hq
end

section
variable {X : Cx} {CX : CXT} {n : Nat} {C g : Addr} {sp : Sp} {E : XK}
/-- x != y, both instances of C, which has == alone -/
def rNeOwn (C : Addr) (sp : Sp) (E : XK) : R2 := fun x y H Q => ∃ a b, x = .ref a ∧ y = .ref b ∧ InsAt H a C ∧ InsAt H b C ∧ sp [x, y] H (fun v H' => ∃ k, v = .bl k ∧ Q (.bl (!k)) H') E
theorem op_ne_own (hne : PySem.W.findIn X.K (.ref C) "__ne__" = some (some (.builtin "object.__ne__"))) (hs : PySem.W.findIn X.K (.ref C) "__eq__" = some (some (.ref g))) (hf : PySem.W.isFn X.K (.ref g) = true) (hob : PySem.W.subIn X.K (.ref C) (.type "object") = some true)
    (F : FnR X.prog X.w X.K X.mg X.base CX n g sp) (hr : Room (n + 1) X.A) (hx : Passes CX X E) : OpR X (compareOp .NotEq) (rNeOwn C sp E) := by
  intro pins s σ H x y v u Q I rx ry h
  obtain ⟨a, b, rfl, rfl, ha, hb, q⟩ := h
  cases (show v = Value.ref a from rx)
  cases (show u = Value.ref b from ry)
  obtain ⟨ox, od, J⟩ := inst_of I ha
  obtain ⟨oy, od', J'⟩ := inst_of I hb
  have hu : X.A.units + 1 < cLine := hu_of hr
  refine ne_own hu I.kIn J J' hne hs hf hob ?_
  refine wpAny_call ?_
  refine codeAny_mono (F X.A.in1 X.stack s H [.ref a, .ref b] [.ref a, .ref b] _ E hr.in1 I.env0.in1 (.cons rfl (.cons rfl .nil)) q) fun r s' hq => ?_
  cases r with
  | error e => exact hx pins σ H s e s' I hq
  | ok fl =>
    cases fl with
    | ret u =>
      obtain ⟨v, H', I2, rv, k, ev, qq⟩ := I.after hq
      subst ev
      cases (show u = Value.bool k from rv)
      exact ⟨k, rfl, .bl (!k), H', I2, rfl, qq⟩
    | next => exact False.elim hq
    | brk => exact False.elim hq
    | cont => exact False.elim hq
end
end Ow
end
section
set_option maxHeartbeats 4000000
namespace Ow
open PySem PySem.Spec PyProof.Rows L2 StX

section
variable {X : Cx} {CX : CXT} {n : Nat} {C g fa : Addr} {sp : Sp} {E : XK}

theorem inst_of2 {pins : List (Addr × Obj)} {σ : L2.St} {H : Hp} {s : Shared} {a : Addr} (I : Inv X pins σ H s) (h : InsAt H a C) : ∃ dx od, s.heap.get? a = some (PySem.W.instObj C dx) ∧ PySem.W.InstAt s.heap a (PySem.W.instObj C dx) C od := by
  obtain ⟨dx, fs, ea⟩ := h
  obtain ⟨mA, O, _⟩ := ins_get I.hok ea
  obtain ⟨od, J, _⟩ := O.look
  exact ⟨dx, _, J.at_, J⟩

/-- n + x: the instance's __radd__ -/
def rBinR (C : Addr) (sp : Sp) (E : XK) : R2 := fun x y H Q => ∃ a i, x = .int i ∧ y = .ref a ∧ InsAt H a C ∧ sp [y, x] H Q E
theorem op_radd (hc : PySem.W.selfFirst X.K C = true) (ha : PySem.W.findIn X.K (.ref C) (PySem.dunder "add") = some (some (.ref fa))) (hs : PySem.W.findIn X.K (.ref C) (dunderR "add") = some (some (.ref g))) (hf : PySem.W.isFn X.K (.ref g) = true)
    (hsub : PySem.W.subIn X.K (.ref C) (.type "int") = some false)
    (F : FnR X.prog X.w X.K X.mg X.base CX n g sp) (hr : Room n X.A) (hx : Passes CX X E) : OpR X (binaryOp .Add) (rBinR C sp E) := by
  intro pins s σ H x y v u Q I rx ry h
  obtain ⟨a, i, rfl, rfl, hia, q⟩ := h
  obtain ⟨t, rfl⟩ := rx
  cases (show u = Value.ref a from ry)
  obtain ⟨dx, od, hx', J⟩ := inst_of2 I hia
  obtain ⟨cd, rest, hcd, hm⟩ := PySem.W.ksp_first hc
  refine int_add_own I.kIn hx' J hcd hm ha hs hf hsub ?_
  refine wpAny_mono (wpAny_call (run_fnR (us := [.ref a, .int i t]) (vs := [.ref a, .int i]) F hr hx I (.cons rfl (.cons ⟨t, rfl⟩ .nil)) q)) (fun w s' z => ?_) fun _ _ x => x
  obtain ⟨z', H', I', rz, qz⟩ := z
  exact cmpbackR rz ⟨z', H', I', rz, qz⟩

def mro2 (K : PySem.W.Frag) (C : Addr) : Bool := (PySem.W.clsIn K C).any fun cd => cd.mro == [.ref C, .type "object"]
theorem mro2_of {K : PySem.W.Frag} {C : Addr} (h : mro2 K C = true) : ∃ cd, PySem.W.clsIn K C = some cd ∧ cd.mro = [.ref C, .type "object"] := by
  obtain ⟨cd, hcd, hm⟩ := PySem.W.any_some h
  exact ⟨cd, hcd, beq_iff_eq.mp hm⟩
theorem noI_obj_add : typeLookup (.type "object") (dunderI "add") = pure none := by rw [typeLookup_type, builtinLookup_eq_fast]; kernel_rfl
/-- x += n, the class has no __iadd__ -/
theorem iop_addI {fo ro rc : Option Value} (hc : mro2 X.K C = true) (hni : PySem.W.findIn X.K (.ref C) (dunderI "add") = some none) (hs : PySem.W.findIn X.K (.ref C) (PySem.dunder "add") = some (some (.ref g))) (hf : PySem.W.isFn X.K (.ref g) = true)
    (hrr : PySem.W.findIn X.K (.ref C) (dunderR "add") = some rc) (hp : rc = none ∨ ∃ g : Addr, rc = some (.ref g))
    (h1 : PySem.W.findIn X.K (.type "int") (PySem.dunder "add") = some fo) (h2 : PySem.W.findIn X.K (.type "int") (dunderR "add") = some ro) (hsub : PySem.W.subIn X.K (.type "int") (.ref C) = some false)
    (F : FnR X.prog X.w X.K X.mg X.base CX n g sp) (hr : Room n X.A) (hx : Passes CX X E) : OpR X (inplaceOp .Add) (rBinI C sp E) := by
  intro pins s σ H x y v u Q I rx ry h
  obtain ⟨a, i, rfl, rfl, hia, q⟩ := h
  cases (show v = Value.ref a from rx)
  obtain ⟨t, rfl⟩ := ry
  obtain ⟨ox, od, J⟩ := inst_of I hia
  obtain ⟨cd, hcd, hm⟩ := mro2_of hc
  refine iadd_own (op := .Add) (T := "int") I.kIn J rfl hcd hm hni noI_obj_add hs hf hrr hp h1 h2 hsub ?_
  refine wpAny_mono (wpAny_call (run_fnR (us := [.ref a, .int i t]) (vs := [.ref a, .int i]) F hr hx I (.cons rfl (.cons ⟨t, rfl⟩ .nil)) q)) (fun w s' z => ?_) fun _ _ x => x
  obtain ⟨z', H', I', rz, qz⟩ := z
  exact cmpbackR rz ⟨z', H', I', rz, qz⟩

/-- f(e, ..), a def of the module, by its positional promise -/
def tCallR (sp : Sp) (E : XK) (t : TA) : TE := fun σ H Q => t σ H fun vs H1 => sp vs H1 Q E
theorem pe_callR {x : Str} {f : Addr} {e : Expr} {es : List Expr} {t : TA} {p pos : Pos} (F : FnR X.prog X.w X.K X.mg X.base CX n f sp) (hr : Room n X.A) (hm : X.mg x = some (.ref f)) (hk : PySem.W.keepIn X.K (.ref f) = true) (hx : Passes CX X E)
    (ha : PA X (e :: es) t) (hg : Gl X x := by rfl) (hdb : (x == ("__debug__" : Str)) = false := by decide) (he : starEach (e :: es) X.env = (false, eval e X.env) :: starEach es X.env := by rfl) (hpl : (backTo pos (starEach es X.env)).any (·.1) = false := by rfl) :
    PE X (.Call (.Name x p) (e :: es) [] pos) (tCallR sp E t) := by
  refine ⟨fun pins s σ H Q I h => ?_⟩
  refine wpAny_Call_Name_kw (ld_glob I hg hm ?_ hdb)
  refine PySem.W.callWith_K (h₀ := X.base) I.ok.mod.kin hk (thn (ha.run pos pins s σ H _ I h) fun us s1 ⟨vs, H1, I1, r, q⟩ => ⟨I1.kIn, ?_⟩) he hpl
  exact wpAny_call (run_fnR F hr hx I1 r q)

/-- C(e, ..): a new instance, by the positional promise of __init__ -/
theorem pe_makeRR {x : Str} {e : Expr} {es : List Expr} {t : TA} {p pos : Pos} (M : Mk X.K C g) (F : FnR X.prog X.w X.K X.mg X.base CX n g sp) (hr : Room (n + 1) X.A) (hm : X.mg x = some (.ref C)) (hx : Passes CX X E) (ha : PA X (e :: es) t) (hg : Gl X x := by rfl) (hdb : (x == ("__debug__" : Str)) = false := by decide)
    (he : starEach (e :: es) X.env = (false, eval e X.env) :: starEach es X.env := by rfl) (hpl : (backTo pos (starEach es X.env)).any (·.1) = false := by rfl) : PE X (.Call (.Name x p) (e :: es) [] pos) (tMakeR C sp E t) :=
  pe_makeR M F hr hg hm hx ha hdb he hpl
end
end Ow
end
section
set_option maxHeartbeats 4000000
namespace Ow
open PySem PySem.Spec PyProof.Rows L2 StX

/-- what the walk asks of an own class -/
structure ClsF (K : PySem.W.Frag) (C : Addr) : Prop where
  cl : Cls K C
  ca : PySem.W.findIn K (.ref C) "__class__" = some (some (.builtin "object.__class__"))
  cn : PySem.W.specialIn K (.builtin "object.__class__") "__get__" = some (some (.builtin "getset_descriptor.__get__"))
  ct : PySem.W.takesIn K (.builtin "object.__class__") = some true
  cm : PySem.W.mroIn K C (.type "object") = some true
  ic : PySem.W.isClsIn K C = true
  ty : PySem.W.typeIn K (.ref C) = some (.type "type")
theorem ClsF.tyOf {K : PySem.W.Frag} {C p dx : Addr} {H : Hp} {fs : List (Str × V)} (c : ClsF K C) (h : H p = some (.ins C dx fs)) : TyX K H (.ref p) (.ref C) := .base (.ins h c.cl c.ca c.cn c.ct c.cm)
theorem kit_self {K : PySem.W.Frag} {t : Value} : PySem.W.kitOne K t t = some true := by
  unfold PySem.W.kitOne
  rw [if_pos (beq_self_eq_true t)]
/-- t is not below the own class at C -/
theorem kit_own {K : PySem.W.Frag} {C : Addr} {t : Value} {b : Bool} (c : ClsF K C) (h : PySem.W.subIn K t (.ref C) = some b) (hb : (t == Value.ref C) = false) : PySem.W.kitOne K t (.ref C) = some b := by
  unfold PySem.W.kitOne
  rw [if_neg (by rw [hb]; exact Bool.false_ne_true)]
  show (if ((PySem.W.clsIn K C).isSome && PySem.W.typeIn K (.ref C) == some (.type "type")) = true then PySem.W.subIn K t (.ref C) else none) = some b
  have h1 : (PySem.W.clsIn K C).isSome = true := c.ic
  rw [h1, c.ty]
  rw [if_pos (by rfl)]
  exact h
/-- an instance of C against a built-in type -/
theorem kit_bty {K : PySem.W.Frag} {C : Addr} {T : String} {b : Bool} (hm : PySem.W.kitMeta T = true) (h : PySem.W.subIn K (.ref C) (.type T) = some b) : PySem.W.kitOne K (.ref C) (.type T) = some b := by
  unfold PySem.W.kitOne
  rw [if_neg (by intro z; cases beq_iff_eq.mp z)]
  show (if PySem.W.kitMeta T = true then PySem.W.subIn K (.ref C) (.type T) else none) = some b
  rw [if_pos hm]
  exact h
theorem kit_int_int {K : PySem.W.Frag} : PySem.W.kitOne K (.type "int") (.type "int") = some true := kit_self
theorem kit_int_bool {K : PySem.W.Frag} : PySem.W.kitOne K (.type "int") (.type "bool") = some false := kit_ty (by decide +kernel)

section
variable {X : Cx} {CX : CXT} {k : Nat} {C p g a dx : Addr} {fs : List (Str × V)} {f : Str} {sp : Sp} {E : XK} {e : Expr} {pos : Pos} {ta : TE}
structure PropR (K : PySem.W.Frag) (C : Addr) (f : Str) (p g : Addr) : Prop where
  at_ : PySem.W.findIn K (.ref C) f = some (some (.ref p))
  get : PySem.W.specialIn K (.ref p) "__get__" = some (some (.builtin "property.__get__"))
  tak : PySem.W.takesIn K (.ref p) = some true
  rec_ : ∃ rest, PySem.W.recIn K p "property" = some (.ref g :: rest)
theorem getprop_R {pins : List (Addr × Obj)} {σ : L2.St} {H : Hp} {s : Shared} {Q : VK} {b : Bool} (I : Inv X pins σ H s) (ea : H a = some (.ins C dx fs)) (c : Cls X.K C) (hp : PropR X.K C f p g)
    (F : FnR X.prog X.w X.K X.mg X.base CX k g sp) (hr : Room (k + 1) X.A) (hx : Passes CX X.nox E) (h : sp [.ref a] H Q E) :
    wpAny (model X.prog X.w) X.A (getAttr (.ref a) f b) (EP X pins σ Q) X.xe s := by
  obtain ⟨mA, O, _, _, _, _⟩ := ins_get I.hok ea
  obtain ⟨od, J, _⟩ := O.look
  obtain ⟨rest, hrec⟩ := hp.rec_
  have I1 := I.tok (s.toks + 1)
  have hc : (PySem.W.clsIn X.K C).isSome = true := by
    obtain ⟨cd, hc, _⟩ := PySem.W.any_some c.hd
    rw [hc]
    rfl
  refine PySem.W.get_bind I.kIn J (PySem.W.plainGet_of (c.get f)).1 (PySem.W.findObj_data hc hp.at_ hp.get hp.tak) (PySem.W.plainGet_of (c.get f)).2 (wpAny_call (PySem.W.prop_get (s := { s with toks := s.toks + 1 }) I.kIn hrec ?_))
  refine codeAny_mono (F X.A.in1 X.stack { s with toks := s.toks + 1 } H [.ref a] [.ref a] Q E hr.in1 I1.env0.in1 (.cons rfl .nil) h) fun r s' hq => ?_
  cases r with
  | error er => exact False.elim (hx pins σ H { s with toks := s.toks + 1 } er s' (I1.wish _) hq)
  | ok fl =>
    cases fl with
    | ret u =>
      obtain ⟨v, H', I3, rv, q3⟩ := I1.after hq
      show wpAny _ _ (handedOut u) _ _ _
      rw [PySem.W.handedOut_of (handed_of rv)]
      exact wpAny_pure ⟨v, H', I3, rv, q3⟩
    | next => exact False.elim hq
    | brk => exact False.elim hq
    | cont => exact False.elim hq
def tPropR (C : Addr) (sp : Sp) (E : XK) (ta : TE) : TE := fun σ H Q => ta σ H fun x H1 => ∃ a dx fs, x = .ref a ∧ H1 a = some (.ins C dx fs) ∧ sp [.ref a] H1 Q E
/-- e.f, f a property -/
theorem pe_propR (he : PE X e ta) (c : Cls X.K C) (hp : PropR X.K C f p g) (F : FnR X.prog X.w X.K X.mg X.base CX k g sp) (hr : Room (k + 1) X.A) (hx : Passes CX X.nox E)
    (hab : attributeBase e f X.env (eval e X.env) = eval e X.env := by rfl) : PE X (.Attribute e f pos) (tPropR C sp E ta) := by
  refine ⟨fun pins s σ H Q I h => ?_⟩
  refine attr_of hab (thn (he.run pins s σ H _ I h) fun u s1 ⟨x, H1, I1, rx, a, dx, fs, ex, ea, q⟩ => ?_)
  subst ex
  obtain rfl : u = Value.ref a := rx
  exact getprop_R I1 ea c hp F hr hx q
end

/-- a def of the text, as the top left it: dvs its defaults -/
def FnT (K : PySem.W.Frag) (x qual : Str) (st : Stmt) (dvs : List V) (f : Addr) : Prop := ∃ fd, FunD K x qual (defArgs st) (defBody st) (defScope st) dvs [] f fd
section
variable {P : Program} {w : World} {K : PySem.W.Frag} {mg : Str → Option Value} {base : Heap} {x qual : Str} {st : Stmt} {dvs : List V} {f : Addr}
theorem FnT.kp (F : FnT K x qual st dvs f) : PySem.W.keepIn K (.ref f) = true := F.elim fun _ z => z.kp
/-- a def without defaults that lets nothing out -/
theorem FnT.ok {N ps : List Str} {k : Nat} {sp : Sp} (F : FnT K x qual st [] f) (S : FnScope N ps (defScope st))
    (hb : ∀ (kV doc pm : Value) (an : Option Addr) (cdv ct : Value) (us : List Value), us.length = ps.length → bindArgs (PySem.W.fnOf x qual (defArgs st) (defBody st) (defScope st) .none kV doc pm an cdv ct) ⟨us, []⟩ = pure (ps.zip us))
    (len : ∀ vs H Q E, sp vs H Q E → vs.length = ps.length)
    (hbody : ∀ (cdv : Value) (A : Around) (outer : List Env) (s : Shared) (H : Hp) (vs : List V) (Q : VK) (E : XK), Room k (A.deeper (envOfC qual (defScope st) s.heap.objs.size f cdv)) → sp vs H Q E →
      ∃ t, PSs (cxOf CX0 P w K mg base N qual (defScope st) f cdv A outer s H E).nox (defBody st) t ∧ t { nx := fun _ H' => Q .non H', rt := Q } (start N vs) H) : FnR P w K mg base CX0 (k + 1) f sp := by
  obtain ⟨fd, F⟩ := F
  have ok : FnOk P w K mg base CX0 (k + 1) f fd ps sp := F.ok S len fun cdv A outer s H vs Q E hr hsp => by
    obtain ⟨t, h, q⟩ := hbody cdv A outer s H vs Q E hr hsp
    exact ⟨t, h.nox, q⟩
  have b : Binds K fd ps [] := F.bindsN hb
  have r := ok.raw b .nil
  exact r.imp fun vs H Q E h => by rw [List.append_nil]; exact h
/-- .. with defaults, all of its arguments told; or the last ones filled up: j of the defaults are not used -/
theorem FnT.okD {N ps : List Str} {k n j : Nat} {sp : Sp} (F : FnT K x qual st dvs f) (S : FnScope N ps (defScope st)) (hd : dvs ≠ []) (hn : n + (dvs.length - j) = ps.length)
    (hb : ∀ (T : Addr) (kV doc pm : Value) (an : Option Addr) (cdv ct : Value) (us its : List Value), us.length = n → its.length = dvs.length →
      ∃ k, bindArgs (PySem.W.fnOf x qual (defArgs st) (defBody st) (defScope st) (.ref T) kV doc pm an cdv ct) ⟨us, []⟩ = seqItems? (.ref T) >>= k ∧ k (some its.toArray) = pure (ps.zip (us ++ its.drop j)))
    (len : ∀ vs H Q E, sp vs H Q E → vs.length = ps.length)
    (hbody : ∀ (cdv : Value) (A : Around) (outer : List Env) (s : Shared) (H : Hp) (vs : List V) (Q : VK) (E : XK), Room k (A.deeper (envOfC qual (defScope st) s.heap.objs.size f cdv)) → sp vs H Q E →
      ∃ t, PSs (cxOf CX0 P w K mg base N qual (defScope st) f cdv A outer s H E).nox (defBody st) t ∧ t { nx := fun _ H' => Q .non H', rt := Q } (start N vs) H) : FnR P w K mg base CX0 (k + 1) f (fun vs H Q E => sp (vs ++ dvs.drop j) H Q E) := by
  obtain ⟨fd, F⟩ := F
  have ok : FnOk P w K mg base CX0 (k + 1) f fd ps sp := F.ok S len fun cdv A outer s H vs Q E hr hsp => by
    obtain ⟨t, h, q⟩ := hbody cdv A outer s H vs Q E hr hsp
    exact ⟨t, h.nox, q⟩
  obtain ⟨ds, hds, b⟩ := F.binds1 n j hd hn hb
  exact ok.raw b hds
end
end Ow
end
section
set_option maxHeartbeats 4000000
namespace Ow
open PySem PySem.SeqAt
open AutoSeq1 (wpAny_loadPart')
open MeetsSeq MeetsSeq2 MeetsSeq3 SeqRoads2

section
variable {prog : Program} {w : World} {A : Around} {R : Result → Shared → Prop}
theorem ne_loopG (l b : Addr) (N : Nat) (I : Nat → Shared → Prop) (hl : GQ.ListI prog w A (fun e s' => R (.error e) s') l b N I)
    (fin : ∀ s, I N s → R (.ok (.ret (.bool false))) s) (k : Nat) :
    ∀ i : Nat, N - i = k → i ≤ N → ∀ s, I i s →
      wpAny (model prog w) A.in1 (Builtin.«list.__eq__.loop» ⟨[.ref l, .ref b, rawInt i, rawInt 3], []⟩) (GQ.FinOf prog w A R) (fun e s' => R (.error e) s') s := by
  induction k with
  | zero =>
    intro i hk hi s h
    obtain ⟨items, items2, n, n2, hl1, hb1, hs1, hs2, _⟩ := hl _ _ h
    have hi' : i = N := by omega
    have hR : R (.ok (.ret (.bool false))) s := fin s (hi' ▸ h)
    obtain ⟨hp, g, d, tk, os⟩ := s
    wp_walk using wpAny_loadPart' hl1, wpAny_loadPart' hb1
    have hi1 : items[((i : Nat) : Int).toNat]? = none := by simp; omega
    have hi2 : items2[((i : Nat) : Int).toNat]? = none := by simp; omega
    rw [hi1, hi2]
    wp_walk using wpAny_loadPart' hl1, wpAny_loadPart' hb1
    show R (.ok (.ret (.bool (items.size != items2.size)))) _
    rw [hs1, hs2]
    simpa using hR
  | succ k ih =>
    intro i hk hi s h
    obtain ⟨items, items2, n, n2, hl1, hb1, hs1, hs2, turn⟩ := hl _ _ h
    have hlt : i < items.size := by omega
    have hlt2 : i < items2.size := by omega
    have ht := turn hlt hlt2
    obtain ⟨hp, g, d, tk, os⟩ := s
    wp_walk using wpAny_loadPart' hl1, wpAny_loadPart' hb1
    have hi1 : items[((i : Nat) : Int).toNat]? = some items[i] := by simp [hlt]
    have hi2 : items2[((i : Nat) : Int).toNat]? = some items2[i] := by simp [hlt2]
    have hc : ((i : Int) + 1) = ((i + 1 : Nat) : Int) := by omega
    rw [hi1, hi2]
    refine wpAny_bind (wpAny_mono ht (fun r s2 h2 => ?_) fun _ _ x => x)
    obtain ⟨hr, h2⟩ := h2
    subst hr
    have hrec := ih (i + 1) (by omega) (by omega) s2 h2
    obtain ⟨hp2, g2, d2, tk2, os2⟩ := s2
    wp_walk
    rw [hc]
    exact ⟨plainId_quiet plain_eq_loop _, codeAny_builtin entry_eq_loop (by
      rw [Around.under_plainId plain_eq_loop _]
      exact hrec)⟩

theorem list_neG (l b : Addr) (N : Nat) (I : Nat → Shared → Prop) (hl : GQ.ListI prog w A (fun e s' => R (.error e) s') l b N I)
    (fin : ∀ s, I N s → R (.ok (.ret (.bool false))) s) {s : Shared} (h : I 0 s) :
    wpAny (model prog w) A.in1 (Builtin.«list.__ne__» ⟨[.ref l, .ref b], []⟩) (GQ.FinOf prog w A R) (fun e s' => R (.error e) s') s := by
  obtain ⟨items, items2, n, n2, hl1, hb1, hs1, hs2, _⟩ := hl _ _ h
  have hrec := ne_loopG (A := A) (R := R) l b N I hl fin _ 0 rfl (Nat.zero_le _) s h
  obtain ⟨hp, g, d, tk, os⟩ := s
  have f3 := AutoSeq1.sub_list_list
  have hne : ¬ (items.size != items2.size) = true := by simp [hs1, hs2]
  wp_walk using wpAny_loadPart' hl1, wpAny_loadPart' hb1
  exact ⟨plainId_quiet plain_eq_loop _, codeAny_builtin entry_eq_loop (by
    rw [Around.under_plainId plain_eq_loop _]
    exact hrec)⟩
theorem rn_listG {E : Value → Shared → Prop} {s : Shared} {l b : Addr} {N : Nat} {Q : Value → Shared → Prop} (hu : A.units < cLine) (I : Nat → Shared → Prop) (hl : GQ.ListI prog w A E l b N I)
    (fin : ∀ s, I N s → Q (.bool false) s) (h : I 0 s) : wpAny (model prog w) A (richCompare .NotEq (.ref l) (.ref b)) Q E s := by
  obtain ⟨items, items2, n, n2, hl1, hb1, _, _, _⟩ := hl _ _ h
  refine wpAny_richCompare_same_room (op := .NotEq) ⟨_, hl1, rfl⟩ ⟨_, hb1, rfl⟩ F.slot_list_ne (GQ.call_here F.slot_list_ne ⟨_, hl1, rfl⟩ F.entry_list_ne (F.args_list_ne_2 _ _) ?_) hu
  exact list_neG (R := wants (fun v s' => v ≠ .notImplemented ∧ Q v s') E) l b N I hl (fun s' q => ⟨(fun x => nomatch x), fin s' q⟩) h
end
end Ow
namespace Ow
open PySem PySem.Spec PyProof.Rows L2 StX
section
variable {X : Cx} {n m : Nat} {D D' : Eqv}
/-- two lists, equal item by item: != gives False -/
def rNeL (D : Eqv) : R2 := fun x y H Q => DList D x y H ∧ ∀ H', Ext H H' → Q (.bl false) H'
theorem op_neL (hD : Mon D) (h : EqG X n D) (hr : Room (n + 1) X.A) : OpR X (compareOp .NotEq) (rNeL D) := by
  intro pins s σ H x y v u Q I rx ry hq
  obtain ⟨⟨a, b, xs, ys, rfl, rfl, ha, hb, p⟩, q⟩ := hq
  cases rx
  cases ry
  show wpAny (model X.prog X.w) X.A (richCompare .NotEq (.ref a) (.ref b)) (EP X pins σ Q) X.xe s
  have sb : Sub X (n + 1) X.A := ⟨hr, rfl⟩
  refine rn_listG (N := xs.length) hr.units0 (fun _ s' => LoopI X pins σ H s') (fun i s' q => ?_) (fun s' q' => ?_) ⟨H, I, Ext.rfl'⟩
  · obtain ⟨H1, I1, e1⟩ := id q
    obtain ⟨z, its, k, r, e⟩ := I1.hok a _ (e1 _ _ ha)
    obtain ⟨z2, its2, k2, r2, e2⟩ := I1.hok b _ (e1 _ _ hb)
    refine ⟨its.toArray, its2.toArray, k, k2, e, e2, by rw [List.size_toArray, ← r.length], by rw [List.size_toArray, ← r2.length, ← p.1], fun h1 h2 => ?_⟩
    exact turnG hD h sb p r r2 i h1 h2 s' q
  · obtain ⟨H1, I1, e1⟩ := q'
    exact ⟨.bl false, H1, I1, rfl, q H1 e1⟩
/-- instances of C by their own ==, a positional promise -/
theorem eqG_insR {CX : CXT} {C f : Addr} {R : Addr → Addr → Hp → Prop} {E : XK} (F : FnR X.prog X.w X.K X.mg X.base CX n f (spEq R))
    (hs : PySem.W.findIn X.K (.ref C) "__eq__" = some (some (.ref f))) (hf : PySem.W.isFn X.K (.ref f) = true) (hx : Passes CX X E) : EqG X n (DIns C R) := by
  have rc : RcG X n (DIns C R) := by
    intro A pins s σ H x y u v sb I rx ry d
    obtain ⟨a, b, dx, dy, fs, gs, rfl, rfl, ha, hb', hr⟩ := d
    cases rx
    cases ry
    obtain ⟨mA, J, _⟩ := ins_get I.hok ha
    obtain ⟨mB, J', _⟩ := ins_get I.hok hb'
    obtain ⟨od, J, _⟩ := J.look
    obtain ⟨od', J', _⟩ := J'.look
    obtain ⟨m, hF⟩ := I.fr
    refine PySem.W.cmp_K (op := .Eq) (tb := .ref C) sb.room.units0 hF I.ok.mod.kin J J'.type (by simp [PySem.W.notFirst]) hs hf ?_
    have hsp : spEq R [.ref a, .ref b] H (fun v H' => v = .bl true ∧ Ext H H') E := ⟨a, b, rfl, hr, fun H' e => ⟨rfl, e⟩⟩
    have e0 : Env0 X.prog X.w X.K X.mg X.base A X.stack s H := by
      have e := I.env0
      exact ⟨by rw [sb.fr]; exact e.frames, e.mod, e.bs, e.bsz, e.funs, e.frf, e.hok, e.bare⟩
    have r2 : Vals [V.ref a, V.ref b] [Value.ref a, Value.ref b] := .cons rfl (.cons rfl .nil)
    refine wpAny_call (codeAny_mono (F A X.stack s H [.ref a, .ref b] [.ref a, .ref b] _ E sb.room e0 r2 hsp) fun r s' hq => ?_)
    cases r with
    | error e => exact hx pins σ H s e s' I hq
    | ok fl =>
      cases fl with
      | ret w =>
        obtain ⟨z, H', I', rz, ez, ex⟩ := I.after hq
        subst ez
        cases rz
        exact ⟨rfl, H', I', ex⟩
      | next => exact False.elim hq
      | brk => exact False.elim hq
      | cont => exact False.elim hq
  exact rc.eqG fun _ _ _ d => let ⟨a, b, _, _, _, _, hx, hy, _⟩ := d; ⟨a, b, hx, hy⟩
end
end Ow
end
section
set_option maxHeartbeats 4000000
/-! Defs that are called while nothing is being shown (repr of containers asks it), and the end of a law whose def asks it. -/
namespace Ow
open PySem PySem.Spec PyProof.Rows L2 StX

/-- a promise by positional values, of calls while no repr runs -/
def FnG (P : Program) (w : World) (K : PySem.W.Frag) (mg : Str → Option Value) (base : Heap) (CX : CXT) (k : Nat) (f : Addr) (sp : Sp) : Prop :=
  ∀ (A : Around) (outer : List Env) (s : Shared) (H : Hp) (us : List Value) (vs : List V) (Q : VK) (E : XK), Room k A → A.guards = some [] → Env0 P w K mg base A outer s H → Vals vs us → sp vs H Q E →
    codeAny (model P w) A (.call (.ref f) ⟨us, []⟩) (CR CX outer P w H s Q E) s
section
variable {P : Program} {w : World} {K : PySem.W.Frag} {mg : Str → Option Value} {base : Heap} {CX : CXT} {j k : Nat} {f : Addr} {sp sp' : Sp} {x qual : Str} {st : Stmt}
theorem FnG.mono (F : FnG P w K mg base CX j f sp) (h : j ≤ k) : FnG P w K mg base CX k f sp := fun A outer s H us vs Q E hr => F A outer s H us vs Q E (hr.mono h)
theorem FnG.imp (F : FnG P w K mg base CX k f sp) (h : ∀ vs H Q E, sp' vs H Q E → sp vs H Q E) : FnG P w K mg base CX k f sp' := fun A outer s H us vs Q E hr g e0 r hs => F A outer s H us vs Q E hr g e0 r (h _ _ _ _ hs)
theorem FnT.okG {N ps : List Str} (F : FnT K x qual st [] f) (S : FnScope N ps (defScope st))
    (hb : ∀ (kV doc pm : Value) (an : Option Addr) (cdv ct : Value) (us : List Value), us.length = ps.length → bindArgs (PySem.W.fnOf x qual (defArgs st) (defBody st) (defScope st) .none kV doc pm an cdv ct) ⟨us, []⟩ = pure (ps.zip us))
    (len : ∀ vs H Q E, sp vs H Q E → vs.length = ps.length)
    (hbody : ∀ (cdv : Value) (A : Around) (outer : List Env) (s : Shared) (H : Hp) (vs : List V) (Q : VK) (E : XK), Room k (A.deeper (envOfC qual (defScope st) s.heap.objs.size f cdv)) → A.guards = some [] → sp vs H Q E →
      ∃ t, PSs (cxOf CX0 P w K mg base N qual (defScope st) f cdv A outer s H E).nox (defBody st) t ∧ t { nx := fun _ H' => Q .non H', rt := Q } (start N vs) H) : FnG P w K mg base CX0 (k + 1) f sp := by
  obtain ⟨fd, F⟩ := F
  intro A outer s H us vs Q E hr hg e0 r hs
  have b := F.bindsN hb
  obtain ⟨oc, od, dV, kV, doc, pm, an, cdv, ct, osl, rfl, lk, hcd, _, _⟩ := F.ex
  have hv := len _ _ _ _ hs
  have hu : us.length = ps.length := r.length.symm.trans hv
  have b1 : BindsTo s (PySem.W.fnOf x qual (defArgs st) (defBody st) (defScope st) dV kV doc pm an cdv ct) ⟨us, []⟩ (ps.zip us) := by
    have := b s us (e0.mod.kin.keeps fun b o e => (e0.bs b o e).1) (by rw [List.append_nil]; exact hu)
    rw [List.append_nil] at this
    exact this
  refine LamX.run_ofS lk hcd S hr e0 b1 r hv fun hr2 => ?_
  obtain ⟨t, h, q⟩ := hbody cdv A outer s H vs Q E hr2 hg hs
  exact ⟨t, h.nox, q⟩
end
section
variable {X : Cx} {CX : CXT} {n : Nat} {sp : Sp} {E : XK}
theorem pe_callG {x : Str} {f : Addr} {e : Expr} {es : List Expr} {t : TA} {p pos : Pos} (F : FnG X.prog X.w X.K X.mg X.base CX n f sp) (hr : Room n X.A) (gd : X.A.guards = some []) (hm : X.mg x = some (.ref f)) (hk : PySem.W.keepIn X.K (.ref f) = true) (hx : Passes CX X E)
    (ha : PA X (e :: es) t) (hg : Gl X x := by rfl) (hdb : (x == ("__debug__" : Str)) = false := by decide) (he : starEach (e :: es) X.env = (false, eval e X.env) :: starEach es X.env := by rfl) (hpl : (backTo pos (starEach es X.env)).any (·.1) = false := by rfl) :
    PE X (.Call (.Name x p) (e :: es) [] pos) (tCallR sp E t) := by
  refine ⟨fun pins s σ H Q I h => ?_⟩
  refine wpAny_Call_Name_kw (ld_glob I hg hm ?_ hdb)
  refine PySem.W.callWith_K (h₀ := X.base) I.ok.mod.kin hk (thn (ha.run pos pins s σ H _ I h) fun us s1 ⟨vs, H1, I1, r, q⟩ => ⟨I1.kIn, ?_⟩) he hpl
  refine wpAny_call (codeAny_mono (F X.A X.stack s1 H1 us vs Q E hr gd I1.env0 r q) fun r s' hq => ?_)
  cases r with
  | error e => exact hx pins σ H1 s1 e s' I1 hq
  | ok fl =>
    cases fl with
    | ret u => exact I1.after hq
    | next => exact False.elim hq
    | brk => exact False.elim hq
    | cont => exact False.elim hq

/-- repr of data: its text -/
def rReprD (K : PySem.W.Frag) : List V → Hp → VK → Prop := fun xs H Q => ∃ (x : V) (d : PyData), xs = [x] ∧ Dp K H x d ∧ d.showable = true ∧ d.hasDict = false ∧ d.depth ≤ 8 ∧ d.shown.length ≤ sizeLine ∧ Q (.str d.shown) H
theorem call_reprD (gd : X.A.guards = some []) (hu : X.A.units + 64 < cLine) : CallR X (.builtin "repr") (rReprD X.K) := by
  intro pins s σ H xs us Q I r h
  obtain ⟨x, d, rfl, hd, hs, hnd, hdp, hsz, q⟩ := h
  obtain ⟨u, rfl, ru⟩ := vals1 r
  have fin : ∀ (h' : Heap) (tk : Nat) (u : Tok), (∀ b o, s.heap.get? b = some o → h'.get? b = some o) → EP X pins σ Q (.str d.shown u) { s with heap := h', toks := tk } := fun h' tk u k => ⟨.str d.shown, H, I.kept (t' := tk) k, ⟨u, rfl⟩, q⟩
  cases hd with
  | non => cases ru; exact PySem.P.repr_of_none (fin s.heap _ _ fun _ _ e => e)
  | bl b => cases ru; exact PySem.P.repr_of_bool (by cases b <;> exact fin s.heap _ _ fun _ _ e => e)
  | int i =>
    obtain ⟨t, rfl⟩ := ru
    have hi : i.natAbs.log2 < 1920 := of_decide_eq_true hs
    exact PySem.P.repr_of_int hi (fin s.heap _ _ fun _ _ e => e)
  | str z => obtain ⟨t, rfl⟩ := ru; exact PySem.P.repr_of_str (fin s.heap _ _ fun _ _ e => e) hsz
  | @lst a zs ds hq ha =>
    cases ru
    obtain ⟨as, rd⟩ := Dp.reads I _ _ _ (.lst hq ha) rfl
    exact repr_of_reads' rd hs (PyData.noDict_hsm hnd) gd (by omega) (fun _ _ e => e) (fun h' u tk k => fin h' tk u k) hsz
  | @tup a zs ds hq ha =>
    cases ru
    obtain ⟨as, rd⟩ := Dp.reads I _ _ _ (.tup hq ha) rfl
    exact repr_of_reads' rd hs (PyData.noDict_hsm hnd) gd (by omega) (fun _ _ e => e) (fun h' u tk k => fin h' tk u k) hsz
end

/-! ### the end of a law whose def wants to know that nothing is being shown -/
section
variable {P : Program} {w : World} {K : PySem.W.Frag} {mg mb : Str → Option Value} {k : Nat} {fa a : Addr} {sp : Sp} {s1 : Shared} {vs : List Value} {ns : List Int}
/-- the call, from one abstract heap that tracks the script alone, or nothing -/
theorem end_from (KX : K.In s1.heap) (hns : s1.heap.Ns mainGlobals mg) (hb : s1.heap.Ns builtinsNs mb) (hbb : ∀ x : Str, x ≠ "__name__" → mb x = bootBuiltins x) (hlim : s1.heap.NoLimit) (hg : s1.gens = #[]) (hr : Room k callerA)
    (F : ∀ base : Heap, K.In base → base.Ns mainGlobals mg → FnG P w K mg base CX0 k fa sp) {H : Hp} (hO : Only H) (hok : HOk P w H s1.heap) (dom : ∀ b u, H b = some u → K.lookup b = none ∧ ∃ o items n, s1.heap.get? b = some o ∧ o.data = .seq items n)
    (hsp : sp [.ref a] H (fun v _ => v = .bl true) fun _ _ _ => False) :
    codeAny (model P w) callerA (.call (.ref fa) ⟨[.ref a], []⟩) (fun r s' => r = .ok (.ret (.bool true)) ∧ OldK s1.heap s'.heap ∧ s'.os = s1.os ∧ AllBare s'.gens) s1 := by
  let base := hidT s1.heap H
  have dicts : ∀ {b : Addr} {o : Obj} {es : Array DictEntry} {ep : Nat}, s1.heap.get? b = some o → o.data = .dict es ep → base.get? b = some o := fun {b o es ep} e d => by
    refine hidT_get e ?_
    cases q : H b with
    | none => rfl
    | some u =>
      obtain ⟨_, o2, items, n, e2, d2⟩ := dom b u q
      rw [e2] at e
      cases e
      rw [d2] at d
      cases d
  have names : ∀ {b : Addr} {m : Str → Option Value}, s1.heap.Ns b m → base.Ns b m := fun z => by
    obtain ⟨o, es, ep, e, d, r⟩ := z
    exact ⟨o, es, ep, dicts e d, d, r⟩
  have hK : K.In base := fun b o e => by
    refine hidT_get (KX b o e) ?_
    cases q : H b with
    | none => rfl
    | some u =>
      have z := (dom b u q).1
      rw [e] at z
      cases z
  have lim : base.NoLimit := by
    obtain ⟨m, h1, h2⟩ := hlim
    exact ⟨m, names h1, h2⟩
  have e0 : Env0 P w K mg base callerA [] s1 H :=
    { frames := rfl, mod := ⟨hK, names hns, ⟨mb, names hb, hbb⟩, lim⟩, bs := fun b o e => of_hidT e, bsz := Nat.le_of_eq (hidT_size _ _), funs := trivial, frf := fun b hb => (List.not_mem_nil hb).elim, hok := hok, bare := .of_eq hg }
  refine codeAny_mono (F base hK (names hns) callerA [] s1 H [.ref a] [.ref a] _ _ hr rfl e0 (.cons rfl .nil) hsp) fun r s' h => ?_
  cases r with
  | error e => exact False.elim h
  | ok fl =>
    cases fl with
    | ret u =>
      obtain ⟨v, H2, os, bare, un, ok2, rv, q⟩ := h
      subst q
      cases rv
      refine ⟨rfl, OldK.of_keep fun b o e => ?_, os, bare⟩
      cases q : H b with
      | none => exact un.keep b o e q (fun z => List.not_mem_nil z) (fun z => List.not_mem_nil z)
      | some u =>
        rcases hO b with z | ⟨ob, xs, z⟩
        · rw [q] at z
          cases z
        · have e1 := (hok b _ z).1
          have e2 := (ok2 b _ (un.frzs b ob _ z)).1
          rw [e] at e1
          cases e1
          exact e2
    | next => exact False.elim h
    | brk => exact False.elim h
    | cont => exact False.elim h
theorem end_callG (KX : K.In s1.heap) (hns : s1.heap.Ns mainGlobals mg) (hb : s1.heap.Ns builtinsNs mb) (hbb : ∀ x : Str, x ≠ "__name__" → mb x = bootBuiltins x) (hlim : s1.heap.NoLimit) (hg : s1.gens = #[]) (hr : Room k callerA)
    (ha : s1.heap.get? a = some { cls := .type "list", data := .seq vs.toArray }) (hi : IntsAre vs ns) (hl : ns.length ≤ sizeLine) (F : ∀ base : Heap, K.In base → base.Ns mainGlobals mg → FnG P w K mg base CX0 k fa sp)
    (hsp : ∀ H : Hp, Only H → SqL K H a (ns.map V.int) → sp [.ref a] H (fun v _ => v = .bl true) fun _ _ _ => False) :
    codeAny (model P w) callerA (.call (.ref fa) ⟨[.ref a], []⟩) (fun r s' => r = .ok (.ret (.bool true)) ∧ OldK s1.heap s'.heap ∧ s'.os = s1.os ∧ AllBare s'.gens) s1 := by
  have rv := vals_ints hi
  have hl2 : (ns.map V.int).length ≤ sizeLine := by rw [List.length_map]; exact hl
  cases hk : K.lookup a with
  | some o =>
    have e := KX a o hk
    rw [ha] at e
    cases e
    refine end_from KX hns hb hbb hlim hg hr F (H := fun _ => none) (fun _ => .inl rfl) (fun b u z => by cases z) (fun b u z => by cases z) (hsp _ (fun _ => .inl rfl) ?_)
    exact .inr ⟨_, vs.toArray, _, hk, rfl, rfl, rfl, by rw [List.size_toArray, hi.length]; exact hl, by simpa using rv⟩
  | none =>
    let o : Obj := { cls := .type "list", data := .seq vs.toArray }
    let H : Hp := fun b => if b = a then some (.frz o (.lst (ns.map V.int))) else none
    have H1 : H a = some (.frz o (.lst (ns.map V.int))) := if_pos rfl
    have H0 : ∀ b u, H b = some u → b = a ∧ u = .frz o (.lst (ns.map V.int)) := fun b u z => by
      by_cases e : b = a
      · subst e
        rw [H1] at z
        cases z
        exact ⟨rfl, rfl⟩
      · have z0 : H b = none := if_neg e
        rw [z0] at z
        cases z
    have hO : Only H := fun b => by
      by_cases e : b = a
      · subst e; exact .inr ⟨_, _, H1⟩
      · exact .inl (if_neg e)
    refine end_from KX hns hb hbb hlim hg hr F (H := H) hO (fun b u z => ?_) (fun b u z => ?_) (hsp _ hO (.inl (.inr ⟨_, H1⟩)))
    · obtain ⟨rfl, rfl⟩ := H0 b u z
      exact ⟨ha, hl2, vs, _, rv, ha⟩
    · obtain ⟨rfl, rfl⟩ := H0 b u z
      exact ⟨hk, _, _, _, ha, rfl⟩
end
theorem walk_ofG {l : PySem.W.OpenLaw} {n k : Nat} {q : Program} {loose : List Str} {XP : (Str → Option Value) → Heap → Prop} {YP : World → Heap → Prop} {d : DefRec} {K : Params → PySem.W.Frag} {sp : World → Sp}
    (hn : l.most = some n) (hn2 : n ≤ sizeLine) (hdf : d.params.defaults = []) (hr : Room k callerA) (hY : ∀ (w : World) (h : Heap), YP w h → (K w.params).In h)
    (F : ∀ (w : World) (mg : Str → Option Value) (fa : Addr) (h : Heap), (K w.params).In h → h.Ns mainGlobals mg → mg d.name = some (.ref fa) →
      ∀ base : Heap, (K w.params).In base → base.Ns mainGlobals mg → FnG l.prog w (K w.params) mg base CX0 k fa (sp w))
    (hsp : ∀ (w : World) (H : Hp) (a : Addr) (ns : List Int), ns.length ≤ n → Only H → SqL (K w.params) H a (ns.map V.int) → sp w [.ref a] H (fun v _ => v = .bl true) fun _ _ _ => False) :
    PySem.W.WalkO q loose XP YP l.row.toRowW d [] (fun f vs => PySem.call f vs) := by
  refine Att.attach_call hn hdf fun w s0 s1 mg mb fa o pm cd doc a vs ns G Y ho hd hcd hmg hobj hints hlen hg => ?_
  have KX := hY w _ Y
  exact end_callG KX G.T.g G.T.b G.T.builtins G.T.nolimit hg hr hobj hints (Nat.le_trans hlen hn2) (F w mg fa _ KX G.T.g hmg) fun H hO hS => hsp w H a ns hlen hO hS
end Ow
end
section
set_option maxHeartbeats 4000000
/-! Own errors with a def of their own that keeps the fields: raise C(e), raise C(e, e'). -/
namespace Ow
open PySem PySem.Spec PyProof.Rows L2 StX
section
variable {P : Program} {w : World} {K : PySem.W.Frag} {mg : Str → Option Value} {base : Heap} {x qual : Str} {st : Stmt} {f : Addr}
/-- a def without defaults that may let errors out -/
theorem FnT.okX {N ps : List Str} {k : Nat} {sp : Sp} (F : FnT K x qual st [] f) (S : FnScope N ps (defScope st))
    (hb : ∀ (kV doc pm : Value) (an : Option Addr) (cdv ct : Value) (us : List Value), us.length = ps.length → bindArgs (PySem.W.fnOf x qual (defArgs st) (defBody st) (defScope st) .none kV doc pm an cdv ct) ⟨us, []⟩ = pure (ps.zip us))
    (len : ∀ vs H Q E, sp vs H Q E → vs.length = ps.length)
    (hbody : ∀ (cdv : Value) (A : Around) (outer : List Env) (s : Shared) (H : Hp) (vs : List V) (Q : VK) (E : XK), Room k (A.deeper (envOfC qual (defScope st) s.heap.objs.size f cdv)) → sp vs H Q E →
      ∃ t, PSs (cxOf (CX P w) P w K mg base N qual (defScope st) f cdv A outer s H E) (defBody st) t ∧ t { nx := fun _ H' => Q .non H', rt := Q } (start N vs) H) : FnR P w K mg base (CX P w) (k + 1) f sp := by
  obtain ⟨fd, F⟩ := F
  have ok : FnOk P w K mg base (CX P w) (k + 1) f fd ps sp := F.ok S len hbody
  have b : Binds K fd ps [] := F.bindsN hb
  exact (ok.raw b .nil).imp fun vs H Q E h => by rw [List.append_nil]; exact h
/-- .. with defaults -/
theorem FnT.okDX {N ps : List Str} {k n j : Nat} {sp : Sp} {dvs : List V} (F : FnT K x qual st dvs f) (S : FnScope N ps (defScope st)) (hd : dvs ≠ []) (hn : n + (dvs.length - j) = ps.length)
    (hb : ∀ (T : Addr) (kV doc pm : Value) (an : Option Addr) (cdv ct : Value) (us its : List Value), us.length = n → its.length = dvs.length →
      ∃ k, bindArgs (PySem.W.fnOf x qual (defArgs st) (defBody st) (defScope st) (.ref T) kV doc pm an cdv ct) ⟨us, []⟩ = seqItems? (.ref T) >>= k ∧ k (some its.toArray) = pure (ps.zip (us ++ its.drop j)))
    (len : ∀ vs H Q E, sp vs H Q E → vs.length = ps.length)
    (hbody : ∀ (cdv : Value) (A : Around) (outer : List Env) (s : Shared) (H : Hp) (vs : List V) (Q : VK) (E : XK), Room k (A.deeper (envOfC qual (defScope st) s.heap.objs.size f cdv)) → sp vs H Q E →
      ∃ t, PSs (cxOf (CX P w) P w K mg base N qual (defScope st) f cdv A outer s H E) (defBody st) t ∧ t { nx := fun _ H' => Q .non H', rt := Q } (start N vs) H) : FnR P w K mg base (CX P w) (k + 1) f (fun vs H Q E => sp (vs ++ dvs.drop j) H Q E) := by
  obtain ⟨fd, F⟩ := F
  have ok : FnOk P w K mg base (CX P w) (k + 1) f fd ps sp := F.ok S len hbody
  obtain ⟨ds, hds, b⟩ := F.binds1 n j hd hn hb
  exact ok.raw b hds
/-- an own error's class, whose __init__ stands at g -/
structure ErrF (K : PySem.W.Frag) (C g : Addr) : Prop where
  ox : OexC K C
  iC : PySem.W.findIn K (.ref C) "__init__" = some (some (.ref g))
  tI : PySem.W.typeIn K (.ref g) = some (.type "function")
/-- __init__(self, v): self.f = v -/
def spErr1 (C : Addr) (n : Str) : Sp := fun vs H Q _ => ∃ (a : Addr) (v : V), vs = [.ref a, v] ∧ H a = some (exo a C none) ∧ ∀ dx, H dx = none → dx ≠ a → Q .non (upd (upd H dx (exd dx [(n, v)])) a (exo a C (some dx)))
/-- __init__(self, v, u): self.f = v; self.g = u -/
def spErr2 (C : Addr) (n m : Str) : Sp := fun vs H Q _ => ∃ (a : Addr) (v u : V), vs = [.ref a, v, u] ∧ H a = some (exo a C none) ∧ ∀ dx, H dx = none → dx ≠ a → Q .non (upd (upd H dx (exd dx [(m, u), (n, v)])) a (exo a C (some dx)))
theorem raise_heap {H : Hp} {a d : Addr} {C : Addr} {fs : List (Str × V)} (ha : H a = none) (hne : d ≠ a) :
    upd (del (upd (upd (upd H a (exo a C none)) d (exd d fs)) a (exo a C (some d))) a) d (.xd fs) = upd H d (.xd fs) := by
  funext b
  by_cases e : b = d
  · subst e; rw [upd_same, upd_same]
  · rw [upd_ne e, upd_ne e]
    by_cases e2 : b = a
    · subst e2
      rw [ha]
      exact if_pos rfl
    · show (if b = a then none else _) = _
      rw [if_neg e2, upd_ne e2, upd_ne e, upd_ne e2]
/-- what making such an error asks: the reading of pmk_oex, its fields told -/
theorem err1_made {Q : XK} {H1 : Hp} {v : V} {C : Addr} {n : Str} (k : ∀ d, H1 d = none → Q (.ref C) (some d) (upd H1 d (.xd [(n, v)]))) :
    [v].length ≤ 1000 ∧ ∀ a, H1 a = none → spErr1 C n (.ref a :: ([v] ++ [])) (upd H1 a (exo a C none)) (fun u H2 => u = .non ∧ ∃ (d : Addr) (fs : List (Str × V)), H2 a = some (exo a C (some d)) ∧ H2 d = some (exd d fs) ∧ H1 d = none ∧ Q (.ref C) (some d) (upd (del H2 a) d (.xd fs))) (fun _ _ _ => False) := by
  refine ⟨Nat.le_of_ble_eq_true rfl, fun a ha => ⟨a, v, rfl, upd_same, fun dx hdx ne => ⟨rfl, dx, _, upd_same, by rw [upd_ne ne]; exact upd_same, by rw [upd_ne ne] at hdx; exact hdx, ?_⟩⟩⟩
  rw [raise_heap ha ne]
  refine k dx ?_
  rw [upd_ne ne] at hdx
  exact hdx
theorem err2_made {Q : XK} {H1 : Hp} {v u : V} {C : Addr} {n m : Str} (k : ∀ d, H1 d = none → Q (.ref C) (some d) (upd H1 d (.xd [(m, u), (n, v)]))) :
    [v, u].length ≤ 1000 ∧ ∀ a, H1 a = none → spErr2 C n m (.ref a :: ([v, u] ++ [])) (upd H1 a (exo a C none)) (fun u H2 => u = .non ∧ ∃ (d : Addr) (fs : List (Str × V)), H2 a = some (exo a C (some d)) ∧ H2 d = some (exd d fs) ∧ H1 d = none ∧ Q (.ref C) (some d) (upd (del H2 a) d (.xd fs))) (fun _ _ _ => False) := by
  refine ⟨Nat.le_of_ble_eq_true rfl, fun a ha => ⟨a, v, u, rfl, upd_same, fun dx hdx ne => ⟨rfl, dx, _, upd_same, by rw [upd_ne ne]; exact upd_same, by rw [upd_ne ne] at hdx; exact hdx, ?_⟩⟩⟩
  rw [raise_heap ha ne]
  refine k dx ?_
  rw [upd_ne ne] at hdx
  exact hdx
/-- a def without defaults that lets nothing out: its promise by binds, for makings of errors -/
theorem FnT.okB {N ps : List Str} {k : Nat} {sp : Sp} (F : FnT K x qual st [] f) (S : FnScope N ps (defScope st))
    (hb : ∀ (kV doc pm : Value) (an : Option Addr) (cdv ct : Value) (us : List Value), us.length = ps.length → bindArgs (PySem.W.fnOf x qual (defArgs st) (defBody st) (defScope st) .none kV doc pm an cdv ct) ⟨us, []⟩ = pure (ps.zip us))
    (len : ∀ vs H Q E, sp vs H Q E → vs.length = ps.length)
    (hbody : ∀ (cdv : Value) (A : Around) (outer : List Env) (s : Shared) (H : Hp) (vs : List V) (Q : VK) (E : XK), Room k (A.deeper (envOfC qual (defScope st) s.heap.objs.size f cdv)) → sp vs H Q E →
      ∃ t, PSs (cxOf CX0 P w K mg base N qual (defScope st) f cdv A outer s H E).nox (defBody st) t ∧ t { nx := fun _ H' => Q .non H', rt := Q } (start N vs) H) : ∃ fd, FnOk P w K mg base CX0 (k + 1) f fd ps sp ∧ Binds K fd ps [] := by
  obtain ⟨fd, F⟩ := F
  exact ⟨fd, F.ok S len fun cdv A outer s H vs Q E hr hsp => by
    obtain ⟨t, h, q⟩ := hbody cdv A outer s H vs Q E hr hsp
    exact ⟨t, h.nox, q⟩, F.bindsN hb⟩
/-- v is no integer (a bool is none) -/
def NoInt (K : PySem.W.Frag) (H : Hp) (v : V) : Prop := (∃ b, v = .bl b) ∨ ∃ T : String, TyX K H v (.type T) ∧ PySem.W.kitOne K (.type T) (.type "int") = some false
theorem kit_bool_int {K : PySem.W.Frag} : PySem.W.kitOne K (.type "bool") (.type "int") = some true := kit_ty (by decide +kernel)
theorem NoInt.non {H : Hp} : NoInt K H .non := .inr ⟨_, .base .non, kit_ty (by decide +kernel)⟩
theorem NoInt.bl {H : Hp} {b : Bool} : NoInt K H (.bl b) := .inl ⟨b, rfl⟩
theorem NoInt.str {H : Hp} {z : Str} : NoInt K H (.str z) := .inr ⟨_, .base (.str z), kit_ty (by decide +kernel)⟩
theorem NoInt.lst {H : Hp} {l : Addr} {xs : List V} (h : H l = some (.lst xs)) : NoInt K H (.ref l) := .inr ⟨_, .base (.lst h), kit_ty (by decide +kernel)⟩
theorem NoInt.tup {H : Hp} {l : Addr} {xs : List V} (h : H l = some (.tup xs)) : NoInt K H (.ref l) := .inr ⟨_, .base (.tup h), kit_ty (by decide +kernel)⟩
theorem NoInt.dict {H : Hp} {l : Addr} {kvs : List (Key × V)} (h : H l = some (.dK kvs)) : NoInt K H (.ref l) := .inr ⟨_, .base (.dK h), kit_ty (by decide +kernel)⟩
/-- is_int of any value -/
def spIntV (K : PySem.W.Frag) : Sp := fun vs H Q _ => ∃ v, vs = [v] ∧ ((∃ i : Int, v = .int i ∧ Q (.bl true) H) ∨ (NoInt K H v ∧ Q (.bl false) H))
/-- the error of the class at B lets out, with one field -/
def Out1 (B : Addr) (n : Str) (H : Hp) (E : XK) (v : V) : Prop := ∀ d, H d = none → E (.ref B) (some d) (upd H d (.xd [(n, v)]))
theorem TyOf.same {H H' : Hp} {v : V} {t : Value} (h : TyOf K H v t) (m : ∀ b o, H b = some o → H' b = some o) : TyOf K H' v t := by
  cases h with
  | non => exact .non
  | bl x => exact .bl x
  | int i => exact .int i
  | str x => exact .str x
  | flt x => exact .flt x
  | lst h => exact .lst (m _ _ h)
  | frz h => exact .frz (m _ _ h)
  | tup h => exact .tup (m _ _ h)
  | dK h => exact .dK (m _ _ h)
  | dT h => exact .dT (m _ _ h)
  | ins h c a b d e => exact .ins (m _ _ h) c a b d e
theorem TyX.same {H H' : Hp} {v : V} {t : Value} (h : TyX K H v t) (m : ∀ b o, H b = some o → H' b = some o) : TyX K H' v t := by
  cases h with
  | base h => exact .base (TyOf.same h m)
  | byt b => exact .byt b
  | set h => exact .set (m _ _ h)
  | kList h c => exact .kList h c
  | kTuple h c => exact .kTuple h c
  | kDict h c => exact .kDict h c
  | fTuple h => exact .fTuple (m _ _ h)
  | fDict h => exact .fDict (m _ _ h)
theorem NoInt.same {H H' : Hp} {v : V} (h : NoInt K H v) (m : ∀ b o, H b = some o → H' b = some o) : NoInt K H' v := by
  rcases h with h | ⟨t, h, q⟩
  · exact .inl h
  · exact .inr ⟨t, TyX.same h m, q⟩
/-- .. from a heap that has grown -/
def OutS (B : Addr) (n : Str) (H : Hp) (E : XK) (v : V) : Prop := ∀ H', (∀ b o, H b = some o → H' b = some o) → Out1 B n H' E v
end
/-- what a callee lets out leaves the def -/
theorem passUp {X : Cx} {E : XK} (tk : Takes X fun cls d _ H => E cls d H) : Passes (CX X.prog X.w) X E := fun pins σ H s e s' I h => passAt tk σ pins H s e s' I h
end Ow
end
section
set_option maxHeartbeats 4000000
/-! isinstance of a caught own error that keeps fields; what a def that tries its argument tells. -/
namespace Ow
open PySem PySem.Spec PyProof.Rows L2 StX
section
variable {X : Cx} {a : Addr} {oe : Obj} {cls : Value} {d : Option Addr} {pn : List (Addr × Obj)}
/-- isinstance(error, T): error the caught one, with its fields at dd -/
def rIsEX (K : PySem.W.Frag) (a : Addr) (cls : Value) (d : Option Addr) : List V → Hp → VK → Prop := fun xs H Q => ∃ (c : V) (cv : Value) (b : Bool) (D dd : Addr) (fs : List (Str × V)),
  xs = [.ref a, c] ∧ cls = .ref D ∧ ExcC K D ∧ (PySem.W.clsIn K D).isSome = true ∧ d = some dd ∧ H dd = some (.xd fs) ∧ (∀ u, RelV c u → u = cv) ∧ PySem.W.kitOne K (.ref D) cv = some b ∧ Q (.bl b) H
theorem call_isEX (hz : Zc cls d oe) (hf : ∃ vs, oe.data = .fields vs) : CallR (X.suite a ((a, oe) :: pn)) (.builtin "isinstance") (rIsEX X.K a cls d) := by
  intro pins s σ H xs us Q I r h
  obtain ⟨c, cv, b, D, dd, fs, rfl, rfl, C, hci, rfl, hdd, hcv, hk, q⟩ := h
  cases r with
  | cons rx r2 =>
    cases r2 with
    | cons rc r3 =>
      cases r3
      cases rx
      cases hcv _ rc
      obtain ⟨hget, _⟩ := I.pin (a, oe) (List.mem_append.mpr (.inl List.mem_cons_self))
      obtain ⟨vs, hv⟩ := hf
      obtain ⟨z1, z2⟩ := hz
      obtain ⟨od, hod⟩ : ∃ o, s.heap.get? dd = some o := by
        have := I.hok dd _ hdd
        obtain ⟨mA, ⟨o, _, _, e, _⟩, _⟩ := this
        exact ⟨o, e⟩
      have J : PySem.W.InstAt s.heap a oe D (some od) := ⟨hget, z1, by unfold PySem.W.notCls; rw [hv], by rw [z2]; exact hod⟩
      refine PySem.W.kia_one (PySem.W.kitx_exc (x := a) (ox := oe) (od := some od) hci C.hg C.hk C.hs C.ha C.hn C.ht C.hm) I.kIn J hk (fun z => by cases z) fun tk => ?_
      exact ⟨.bl b, H, I.kept fun _ _ e => e, rfl, q⟩
end
/-- return (z, ask()), ask a handed lambda that may raise -/
theorem ret_told {X : Cx} {f c' : Addr} {q z : Str} {tl : XK → Hp → VK → Prop} {W : WX} {n : Str} {j ct : Nat} {p0 p1 p2 pt ps : Pos}
    (act : ∀ E : XK, (∀ cls d σ' H', E cls d H' → W cls d σ' H') → PE X (.Call (.Name n p1) [] [] p2) (fun σZ HZ Q => σZ[0]? = some (some (.ref f)) ∧ HZ c' = some (LamX.CodeO c' q) ∧ tl E HZ Q)) :
    PSs X [.Return (some (.Tuple [.Constant (.str z) j p0, .Call (.Name n p1) [] [] p2] ct pt)) ps] (fun D σ H => ∃ Ech : XK, (∀ cls d σ' H', Ech cls d H' → W cls d σ' H') ∧ σ[0]? = some (some (.ref f)) ∧ H c' = some (LamX.CodeO c' q) ∧
      tl Ech H (fun v H1 => [V.str z, v].length ≤ sizeLine ∧ ∀ p, H1 p = none → D.rt (.ref p) (upd H1 p (.tup [.str z, v])))) := by
  refine ⟨fun pins s' σ H' D I ⟨Ech, hW, h1, h2, h3⟩ => ?_⟩
  exact (pss_one (ps_ret (pe_tup (pa_cons pe_str (pa_cons (act Ech hW) pa_nil))))).run pins s' σ H' D I ⟨h1, h2, h3⟩
/-- as many slots as names stand at each statement -/
theorem pss_len {X : Cx} {b : List Stmt} {t : TS} (n : Nat) (hn : X.N.length = n) (h : PSs X b t) : PSs X b (fun D σ H => σ.length = n → t D σ H) := ⟨fun pins s σ H D I q => h.run pins s σ H D I (q (I.len.trans hn))⟩
/-- an own class against another one -/
theorem kit_err {K : PySem.W.Frag} {C : Addr} {t : Value} {b : Bool} (hi : (PySem.W.clsIn K C).isSome = true) (ht : PySem.W.typeIn K (.ref C) = some (.type "type")) (h : PySem.W.subIn K t (.ref C) = some b) (hb : (t == Value.ref C) = false) : PySem.W.kitOne K t (.ref C) = some b := by
  unfold PySem.W.kitOne
  rw [if_neg (by rw [hb]; exact Bool.false_ne_true)]
  show (if ((PySem.W.clsIn K C).isSome && PySem.W.typeIn K (.ref C) == some (.type "type")) = true then PySem.W.subIn K t (.ref C) else none) = some b
  rw [hi, ht]
  rw [if_pos (by rfl)]
  exact h
end Ow
end
section
set_option maxHeartbeats 4000000
/-! A comparison of an own instance with a value of another kind. -/
namespace Ow
open PySem PySem.Spec PyProof.Rows L2 StX
section
variable {X : Cx} {CX : CXT} {n : Nat} {C g : Addr} {sp : Sp} {E : XK}
/-- x op y: x an instance of C, y of the type t, that is not below C -/
def rBinT (K : PySem.W.Frag) (C : Addr) (sp : Sp) (E : XK) : R2 := fun x y H Q => ∃ (a : Addr) (t : Value), x = .ref a ∧ InsAt H a C ∧ TyX K H y t ∧ PySem.W.notFirst K C t = true ∧ sp [x, y] H Q E
theorem op_cmpT {op : CmpOp} (hop : ∀ a b, compareOp op a b = richCompare op a b) (hs : PySem.W.findIn X.K (.ref C) (cmpInfo op).2.1 = some (some (.ref g))) (hf : PySem.W.isFn X.K (.ref g) = true)
    (F : FnR X.prog X.w X.K X.mg X.base CX n g sp) (hr : Room n X.A) (hx : Passes CX X E) : OpR X (compareOp op) (rBinT X.K C sp E) := by
  intro pins s σ H x y v u Q I rx ry h
  obtain ⟨a, t, rfl, ha, ht, hn, q⟩ := h
  cases (show v = Value.ref a from rx)
  obtain ⟨ox, od, J⟩ := inst_of I ha
  obtain ⟨m, hF⟩ := I.fr
  obtain ⟨Pk, k, hk, _⟩ := kit_of I ry ht
  rw [hop]
  refine PySem.W.cmp_K (op := op) (tb := t) hr.units0 hF I.ok.mod.kin J (k.ty _ _ I.kIn hk) hn hs hf ?_
  refine wpAny_mono (wpAny_call (run_fnR (us := [.ref a, u]) (vs := [.ref a, y]) F hr hx I (.cons rfl (.cons ry .nil)) q)) (fun w s' z => ?_) fun _ _ x => x
  obtain ⟨z', H', I', rz, qz⟩ := z
  exact cmpbackR rz ⟨z', H', I', rz, qz⟩
theorem notFirst_of {K : PySem.W.Frag} {T : String} (h : PySem.W.subIn K (.type T) (.ref C) = some false) : PySem.W.notFirst K C (.type T) = true := by
  unfold PySem.W.notFirst
  rw [h]
  simp
end
end Ow
end
section
set_option maxHeartbeats 4000000
/-! A law whose def hands lambdas over: its code is told, and the code's table. -/
namespace Ow
open PySem PySem.Spec PyProof.Rows L2 StX
section
variable {P : Program} {w : World} {K : PySem.W.Frag} {mg : Str → Option Value} {base : Heap} {x qual : Str} {st : Stmt} {f c : Addr}
/-- a def of the text without defaults, its code at c -/
def FnC (K : PySem.W.Frag) (x qual : Str) (st : Stmt) (f c : Addr) : Prop := ∃ (oc : Value) (od an : Option Addr) (kV doc pm ct : Value) (osl : Array (Option Value)),
  K.lookup f = some ⟨oc, od, .func (PySem.W.fnOf x qual (defArgs st) (defBody st) (defScope st) .none kV doc pm an (.ref c) ct), osl⟩ ∧ PySem.W.codeIn K (.ref c) qual = true
theorem FnC.mk {oc : Value} {od an : Option Addr} {kV doc pm ct : Value} {osl : Array (Option Value)} (l : K.lookup f = some ⟨oc, od, .func (PySem.W.fnOf x qual (defArgs st) (defBody st) (defScope st) .none kV doc pm an (.ref c) ct), osl⟩) (h : PySem.W.codeIn K (.ref c) qual = true) : FnC K x qual st f c := ⟨oc, od, an, kV, doc, pm, ct, osl, l, h⟩
theorem FnC.ok {N ps : List Str} (F : FnC K x qual st f c) (S : FnScope N ps (defScope st))
    (hb : ∀ (kV doc pm : Value) (an : Option Addr) (cdv ct : Value) (us : List Value), us.length = ps.length → bindArgs (PySem.W.fnOf x qual (defArgs st) (defBody st) (defScope st) .none kV doc pm an cdv ct) ⟨us, []⟩ = pure (ps.zip us)) :
    ∃ fd : FuncData, (∀ (s : Shared) (us : List Value), us.length = ps.length → BindsTo s fd ⟨us, []⟩ (ps.zip us)) ∧ ∀ (P : Program) (w : World) (mg : Str → Option Value) (base : Heap) (k : Nat) (sp : Sp), (∀ vs H Q E, sp vs H Q E → vs.length = ps.length) →
      (∀ (A : Around) (outer : List Env) (s : Shared) (H : Hp) (vs : List V) (Q : VK) (E : XK), Room k (A.deeper (envOfC qual (defScope st) s.heap.objs.size f (.ref c))) → sp vs H Q E →
        ∃ t, PSs (cxOf CX0 P w K mg base N qual (defScope st) f (.ref c) A outer s H E).nox (defBody st) t ∧ t { nx := fun _ H' => Q .non H', rt := Q } (start N vs) H) → FnOk P w K mg base CX0 (k + 1) f fd ps sp := by
  obtain ⟨oc, od, an, kV, doc, pm, ct, osl, lk, hcd⟩ := F
  refine ⟨_, fun s us hu => BindsTo.of_eq (hb kV doc pm an (.ref c) ct us hu), fun P w mg base k sp len hbody => ⟨len, fun A outer s H args us vs Q E hr e0 b r hs => ?_⟩⟩
  refine LamX.run_ofS lk hcd S hr e0 b r (len _ _ _ _ hs) fun hr2 => ?_
  obtain ⟨t, h, q⟩ := hbody A outer s H vs Q E hr2 hs
  exact ⟨t, h.nox, q⟩
/-- a code object, its table at T -/
theorem codeHd_mk {h : Heap} {T : Addr} {od : Option Addr} {vs : Array Value} {osl : Array (Option Value)} {file : Str} {tf : Tok} {flags text : Int} {tg tt : Tok} {inF : Bool} (X : K.In h) (l : K.lookup c = some ⟨.type "code", od, .fields vs, osl⟩)
    (e1 : vs[11]? = some (.ref T)) (e2 : vs.getD 11 .none = .ref T) (e3 : vs.getD 18 .none = .str file tf) (e4 : vs.getD 7 .none = .int flags tg) (e5 : vs.getD 9 .none = .bool inF) (e6 : vs.getD 10 .none = .int text tt) (ne : c ≠ T) : PySem.W.CodeHd h c T :=
  ⟨_, vs, file, tf, flags, tg, inF, text, tt, X _ _ l, rfl, rfl, e1, e2, e3, e4, e5, e6, ne⟩
end
/-- a table is not of the written part -/
theorem km_none {K : Params → PySem.W.Frag} {as ts : List Addr} {e : ∀ P, as = (K P).map fun x => x.1} {w : World} {h : Heap} (_ : (PySem.W.kmHook K as e ts).says w h) {T : Addr} (n : as.contains T = false) : List.lookup T (K w.params) = none := by
  rw [List.lookup_eq_none_iff]
  intro p hp
  have m : p.1 ∈ as := by rw [e w.params]; exact List.mem_map.mpr ⟨p, hp, rfl⟩
  refine bne_iff_ne.mpr fun q => ?_
  rw [← q] at m
  have := List.contains_iff_mem.mpr m
  rw [n] at this
  cases this
end Ow
end
section
set_option maxHeartbeats 4000000
/-! A def with defaults and without keyword-only parameters, called by keywords. -/
namespace Ow
open PySem PySem.Spec PyProof.Rows L2 StX
section
variable {K : PySem.W.Frag} {x qual : Str} {params : Arguments} {body : List Stmt} {scope : PySem.Scope} {dvs : List V} {kws : List (Str × V)} {f : Addr} {fd : FuncData} {ps : List Str}
/-- n arguments by place, ks by keyword; g puts the defaults in -/
theorem kbnD (F : FunD K x qual params body scope dvs kws f fd) (n : Nat) (ks : List Str) (g : {α : Type} → List α → List α → List α → List α) (hd : dvs ≠ [])
    (hg : ∀ {vs ds zs : List V} {us its ws : List Value}, Vals vs us → Vals ds its → Vals zs ws → Vals (g vs ds zs) (g us its ws))
    (h : ∀ (T : Addr) (kV doc pm : Value) (an : Option Addr) (cdv ct : Value) (us its ws : List Value), us.length = n → its.length = dvs.length → ws.length = ks.length →
      ∃ k, bindArgs (PySem.W.fnOf x qual params body scope (.ref T) kV doc pm an cdv ct) ⟨us, ks.zip ws⟩ = seqItems? (.ref T) >>= k ∧ k (some its.toArray) = pure (ps.zip (g us its ws))) :
    ∃ its, KBn K fd ps n ks (fun us ws => g us its ws) fun vs zs => g vs dvs zs := by
  obtain ⟨oc, od, dV, kV, doc, pm, an, cdv, ct, osl, rfl, lk, hcd, hD, hK⟩ := F.ex
  rcases hD with ⟨e, _⟩ | ⟨_, T, o, its, m, rfl, lT, oT, rT⟩
  · exact absurd e hd
  refine ⟨its, ⟨fun s us ws X hu hw => ?_, fun r1 r2 => hg r1 rT r2⟩⟩
  obtain ⟨k, e1, e2⟩ := h T kV doc pm an cdv ct us its ws hu rT.length.symm hw
  exact BindsTo.of_looks fun M => by
    rw [e1]
    exact looks_items X lT oT (PySem.W.Looks.of_pure e2)
end
section
variable {X : Cx} {CX : CXT} {k : Nat} {f : Addr} {fd : FuncData} {ps ks : List Str} {sp : Sp} {E : XK} {x : Str} {p pos : Pos} {kws : List Keyword} {tk : TA} {g : List Value → List Value → List Value} {gV : List V → List V → List V}
/-- f(k=e, ..): by keywords alone -/
def tCallKO (m : Nat) (sp : Sp) (gV : List V → List V → List V) (E : XK) (tk : TA) : TE := fun σ H Q => tk σ H fun zs H2 => zs.length = m ∧ sp (gV [] zs) H2 Q E
theorem pe_callKO (F : FnOk X.prog X.w X.K X.mg X.base CX k f fd ps sp) (hr : Room k X.A) (hg : Gl X x) (hm : X.mg x = some (.ref f)) (hk : PySem.W.keepIn X.K (.ref f) = true) (hb : KBn X.K fd ps 0 ks g gV) (hx : Passes CX X E) (hkw : PK X kws tk)
    (hall : ((backToKw pos (keywordEach kws X.env)).all fun x => x.1.isSome) = true := by rfl) (hks : List.filterMap (fun x => x.1) (backToKw pos (keywordEach kws X.env)) = ks := by rfl) (hdb : (x == Str.ofString "__debug__") = false := by decide)
    (hpl : (((backTo pos (starEach [] X.env)).any fun x => x.1) || (backToKw pos (keywordEach kws X.env)).any fun x => x.1.isNone) = false := by rfl) :
    PE X (.Call (.Name x p) [] kws pos) (tCallKO ks.length sp gV E tk) := by
  refine ⟨fun pins s σ H Q I h => ?_⟩
  refine wpAny_Call_Name_kw (ld_glob I hg hm ?_ hdb)
  refine PySem.W.callWith_KW0 I.ok.mod.kin hk hall (thn (hkw.run pos pins s σ H _ I h) fun ws s2 z => ?_) hpl
  obtain ⟨zs, H2, I2, rz, l2, q2⟩ := z
  refine ⟨I2.kIn, ?_⟩
  rw [hks]
  exact run_fnN (us := []) (vs := []) F hr hb hx I2 .nil rz rfl l2 q2
end
end Ow
end
section
set_option maxHeartbeats 4000000
/-! `x in o`, `x not in o` and `str(o)` where o is an instance of an own class that defines them. -/
namespace Ow
open PySem PySem.Spec PyProof.Rows L2

theorem unlessNone_fn {K : PySem.W.Frag} {M : Model} {A : Around} {E : Value → Shared → Prop} {s : Shared} {x C f : Addr} {ox : Obj} {od : Option Obj} {name : Str} {args : List Value} {refuse : Sem Value} {Q : Option Value → Shared → Prop}
    (X : K.In s.heap) (I : PySem.W.InstAt s.heap x ox C od) (hs : PySem.W.findIn K (.ref C) name = some (some (.ref f))) (hf : PySem.W.typeIn K (.ref f) = some (.type "function"))
    (h : wpAny M A (call (.ref f) (.ref x :: args)) (fun v => Q (some v)) E s) : wpAny M A (callSpecialUnlessNone? (.ref x) name args refuse) Q E s :=
  wpAny_bind (wpAny_bind (I.type.here ((PySem.W.looks_findIn X hs).here (wpAny_holding (wpAny_bind ((PySem.W.bind_fn X _ hf).here (wpAny_bind (wpAny_mono h (fun _ _ z => wpAny_pure z) fun _ _ z => z))))))))

theorem contains_own {K : PySem.W.Frag} {M : Model} {A : Around} {E : Value → Shared → Prop} {s : Shared} {x C f : Addr} {ox : Obj} {od : Option Obj} {v : Value} {Q : Bool → Shared → Prop}
    (X : K.In s.heap) (I : PySem.W.InstAt s.heap x ox C od) (hs : PySem.W.findIn K (.ref C) "__contains__" = some (some (.ref f))) (hf : PySem.W.isFn K (.ref f) = true)
    (h : wpAny M A (call (.ref f) [.ref x, v]) (fun r s' => ∃ b, r = .bool b ∧ Q b s') E s) : wpAny M A (contains (.ref x) v) Q E s := by
  unfold contains
  refine wpAny_holding ?_
  refine wpAny_bind (m := specialOf (.ref x) "__contains__") (wpAny_bind (I.type.here ((PySem.W.looks_findIn X hs).here ?_)))
  dsimp only
  rw [if_neg (show ¬ (some (Value.ref f) == some Value.none) = true from fun z => by cases z)]
  refine wpAny_bind (m := callSpecialUnlessNone? (.ref x) (Str.ofString "__contains__") [v] _) (unlessNone_fn X I hs (beq_iff_eq.mp hf) (wpAny_mono h (fun r s' z => ?_) fun _ _ z => z))
  obtain ⟨b, rfl, q⟩ := z
  exact wpAny_truthy_bool q

section
variable {X : Cx} {CX : CXT} {n : Nat} {C g : Addr} {sp : Sp} {E : XK}
/-- x in o, o an instance of C -/
def rInO (C : Addr) (sp : Sp) (E : XK) (f : Bool → Bool) : R2 := fun x y H Q => ∃ a, y = .ref a ∧ InsAt H a C ∧ sp [y, x] H (fun v H' => ∃ b, v = .bl b ∧ Q (.bl (f b)) H') E
theorem op_inO (hs : PySem.W.findIn X.K (.ref C) "__contains__" = some (some (.ref g))) (hf : PySem.W.isFn X.K (.ref g) = true)
    (F : FnR X.prog X.w X.K X.mg X.base CX n g sp) (hr : Room n X.A) (hx : Passes CX X E) : OpR X (compareOp .In) (rInO C sp E id) := by
  intro pins s σ H x y v u Q I rx ry h
  obtain ⟨a, rfl, ha, q⟩ := h
  cases (show u = Value.ref a from ry)
  obtain ⟨ox, od, J⟩ := inst_of I ha
  obtain ⟨m, hF⟩ := I.fr
  refine wpAny_bind (contains_own (I.ok.mod.kin.keeps hF.keep) J hs hf ?_)
  refine wpAny_mono (wpAny_call (run_fnR (us := [.ref a, v]) (vs := [.ref a, x]) F hr hx I (.cons rfl (.cons rx .nil)) q)) (fun w s' z => ?_) fun _ _ x => x
  obtain ⟨z', H', I', rz, b, rfl, qz⟩ := z
  exact ⟨b, rz, wpAny_pure ⟨.bl b, H', I', rfl, qz⟩⟩
theorem op_notInO (hs : PySem.W.findIn X.K (.ref C) "__contains__" = some (some (.ref g))) (hf : PySem.W.isFn X.K (.ref g) = true)
    (F : FnR X.prog X.w X.K X.mg X.base CX n g sp) (hr : Room n X.A) (hx : Passes CX X E) : OpR X (compareOp .NotIn) (rInO C sp E fun b => !b) := by
  intro pins s σ H x y v u Q I rx ry h
  obtain ⟨a, rfl, ha, q⟩ := h
  cases (show u = Value.ref a from ry)
  obtain ⟨ox, od, J⟩ := inst_of I ha
  obtain ⟨m, hF⟩ := I.fr
  refine wpAny_bind (contains_own (I.ok.mod.kin.keeps hF.keep) J hs hf ?_)
  refine wpAny_mono (wpAny_call (run_fnR (us := [.ref a, v]) (vs := [.ref a, x]) F hr hx I (.cons rfl (.cons rx .nil)) q)) (fun w s' z => ?_) fun _ _ x => x
  obtain ⟨z', H', I', rz, b, rfl, qz⟩ := z
  exact ⟨b, rz, wpAny_pure ⟨.bl (!b), H', I', rfl, qz⟩⟩
/-- a callee runs further down than the body -/
theorem run_fnRS {pins : List (Addr × Obj)} {σ : L2.St} {H : Hp} {s : Shared} {A : Around} {Q : VK} {us : List Value} {vs : List V} (F : FnR X.prog X.w X.K X.mg X.base CX n g sp) (hr : Room n A) (hfr : A.frames = X.A.frames) (hx : Passes CX X E) (I : Inv X pins σ H s) (r : Vals vs us) (h : sp vs H Q E) :
    codeAny (model X.prog X.w) A (.call (.ref g) ⟨us, []⟩) (fun r s' => match r with | .ok (.ret v) => EP X pins σ Q v s' | .ok _ => False | .error e => X.xe e s') s := by
  have e0 : Env0 X.prog X.w X.K X.mg X.base A X.stack s H := by
    have e := I.env0
    exact ⟨by rw [hfr]; exact e.frames, e.mod, e.bs, e.bsz, e.funs, e.frf, e.hok, e.bare⟩
  refine codeAny_mono (F A X.stack s H us vs Q E hr e0 r h) fun r s' hq => ?_
  cases r with
  | error e => exact hx pins σ H s e s' I hq
  | ok fl =>
    cases fl with
    | ret u => exact I.after hq
    | next => exact False.elim hq
    | brk => exact False.elim hq
    | cont => exact False.elim hq
/-- str(o), o an instance of C that has a __str__ -/
def rStrO (C : Addr) (sp : Sp) (E : XK) : List V → Hp → VK → Prop := fun xs H Q => ∃ a, xs = [.ref a] ∧ InsAt H a C ∧ sp [.ref a] H (fun v H' => ∃ t, v = .str t ∧ Q (.str t) H') E
theorem call_strO (hs : PySem.W.findIn X.K (.ref C) "__str__" = some (some (.ref g))) (hf : PySem.W.isFn X.K (.ref g) = true)
    (F : FnR X.prog X.w X.K X.mg X.base CX n g sp) (hr : Room (n + 2) X.A) (hx : Passes CX X E) : CallR X (.type "str") (rStrO C sp E) := by
  intro pins s σ H xs us Q I r h
  obtain ⟨a, rfl, ha, q⟩ := h
  obtain ⟨u, rfl, ru⟩ := vals1 r
  cases (show u = Value.ref a from ru)
  obtain ⟨ox, od, J⟩ := inst_of I ha
  obtain ⟨m, hF⟩ := I.fr
  refine PySem.W.kso_call hr.in1.in1.units0 (I.ok.mod.kin.keeps hF.keep) J hs hf ?_
  refine wpAny_mono (wpAny_call (run_fnRS (us := [.ref a]) (vs := [.ref a]) F hr.in1.in1 rfl hx I (.cons rfl .nil) q)) (fun w s' z => ?_) fun _ _ x => x
  obtain ⟨z', H', I', rz, t, rfl, qz⟩ := z
  obtain ⟨tk, rfl⟩ := rz
  exact ⟨.str t, H', I', ⟨tk, rfl⟩, qz⟩
end
end Ow
end
section
set_option maxHeartbeats 4000000
/-! The end of a law whose def hands lambdas over and asks repr of containers: nothing is being shown, and the codes' tables are told. -/
namespace Ow
open PySem PySem.Spec PyProof.Rows L2 StX
section
variable {P : Program} {w : World} {K : PySem.W.Frag} {mg mb : Str → Option Value} {k : Nat} {fa a c T : Addr} {sp : Sp} {s1 : Shared} {vs : List Value} {ns : List Int}
/-- a table that is still empty -/
abbrev tab0 : Obj := { cls := .none, data := .fields #[] }
/-- what stands in the abstract heap at the begin: the table, and perhaps the script -/
structure Begin (K : PySem.W.Frag) (h : Heap) (T : Addr) (H : Hp) : Prop where
  tab : H T = some (.tbl #[])
  rest : ∀ b, b ≠ T → H b = none ∨ ∃ o xs items n, H b = some (.frz o (.lst xs)) ∧ K.lookup b = none ∧ h.get? b = some o ∧ o.data = .seq items n
theorem end_fromT (KX : K.In s1.heap) (hns : s1.heap.Ns mainGlobals mg) (hb : s1.heap.Ns builtinsNs mb) (hbb : ∀ x : Str, x ≠ "__name__" → mb x = bootBuiltins x) (hlim : s1.heap.NoLimit) (hg : s1.gens = #[]) (hr : Room k callerA)
    (eT : s1.heap.get? T = some tab0) (nT : K.lookup T = none) (cT : PySem.W.CodeHd s1.heap c T)
    (main : ∃ (m : Addr) (o : Obj), mg "__builtins__" = some (.ref m) ∧ m ≠ builtinsNs ∧ s1.heap.get? m = some o ∧ o.cls = .type "module" ∧ o.dict = some builtinsNs ∧ o.data = .plain)
    (F : ∀ base : Heap, K.In base → base.Ns mainGlobals mg → LamX.TabB base mg c T → FnG P w K mg base CX0 k fa sp) {H : Hp} (B : Begin K s1.heap T H) (hok : HOk P w H s1.heap)
    (hsp : sp [.ref a] H (fun v _ => v = .bl true) fun _ _ _ => False) :
    codeAny (model P w) callerA (.call (.ref fa) ⟨[.ref a], []⟩) (fun r s' => r = .ok (.ret (.bool true)) ∧ OldK s1.heap s'.heap ∧ s'.os = s1.os ∧ AllBare s'.gens) s1 := by
  let base := hidT s1.heap H
  have free : ∀ {b : Addr} {o : Obj}, s1.heap.get? b = some o → (∀ items n, o.data ≠ .seq items n) → o.data ≠ .fields #[] → base.get? b = some o := fun {b o} e d1 d2 => by
    refine hidT_get e ?_
    by_cases q : b = T
    · rw [q, eT] at e
      cases e
      exact (d2 rfl).elim
    · rcases B.rest b q with z | ⟨o2, xs, items, n, _, _, e2, z⟩
      · exact z
      · rw [e] at e2
        cases e2
        exact (d1 _ _ z).elim
  have names : ∀ {b : Addr} {m : Str → Option Value}, s1.heap.Ns b m → base.Ns b m := fun z => by
    obtain ⟨o, es, ep, e, d, r⟩ := z
    exact ⟨o, es, ep, free e (fun _ _ y => by rw [d] at y; cases y) (fun y => by rw [d] at y; cases y), d, r⟩
  have hK : K.In base := fun b o e => by
    refine hidT_get (KX b o e) ?_
    by_cases q : b = T
    · rw [q, nT] at e
      cases e
    · rcases B.rest b q with z | ⟨o2, xs, items, n, _, z, _⟩
      · exact z
      · rw [e] at z
        cases z
  have lim : base.NoLimit := by
    obtain ⟨m, h1, h2⟩ := hlim
    exact ⟨m, names h1, h2⟩
  have TB : LamX.TabB base mg c T := by
    refine ⟨?_, ?_, fun z => ?_⟩
    · obtain ⟨o, us, file, tf, flags, tg, inF, text, tt, e1, p1, p2, p3, p4, p5, p6, p7, p8, p9⟩ := cT
      exact ⟨o, us, file, tf, flags, tg, inF, text, tt, free e1 (fun _ _ y => by rw [p2] at y; cases y) (fun y => by rw [p2] at y; cases y; simp at p3), p1, p2, p3, p4, p5, p6, p7, p8, p9⟩
    · obtain ⟨m, o, q1, q2, q3, q4, q5, q6⟩ := main
      refine ⟨m, o, q1, q2, fun y => ?_, fun y => ?_, free q3 (fun _ _ y => by rw [q6] at y; cases y) (fun y => by rw [q6] at y; cases y), q4, q5, q6⟩
      · obtain ⟨og, es, ep, e, d, _⟩ := hns
        rw [y, e] at q3
        cases q3
        rw [q6] at d
        cases d
      · rw [y, eT] at q3
        cases q3
        cases q6
    · obtain ⟨og, es, ep, e, d, _⟩ := hns
      rw [z, eT] at e
      cases e
      cases d
  have e0 : Env0 P w K mg base callerA [] s1 H :=
    { frames := rfl, mod := ⟨hK, names hns, ⟨mb, names hb, hbb⟩, lim⟩, bs := fun b o e => of_hidT e, bsz := Nat.le_of_eq (hidT_size _ _), funs := trivial, frf := fun b hb => (List.not_mem_nil hb).elim, hok := hok, bare := .of_eq hg }
  refine codeAny_mono (F base hK (names hns) TB callerA [] s1 H [.ref a] [.ref a] _ _ hr rfl e0 (.cons rfl .nil) hsp) fun r s' h => ?_
  cases r with
  | error e => exact False.elim h
  | ok fl =>
    cases fl with
    | next => exact False.elim h
    | brk => exact False.elim h
    | cont => exact False.elim h
    | ret u =>
      obtain ⟨v, H2, os, bare, un, ok2, rv, q⟩ := h
      subst q
      cases rv
      have still : ∀ b o, b ≠ T → s1.heap.get? b = some o → s'.heap.get? b = some o := fun b o nb e => by
        rcases B.rest b nb with z | ⟨o2, xs, items, n, z, _⟩
        · exact un.keep b o e z (fun y => List.not_mem_nil y) (fun y => List.not_mem_nil y)
        · have e1 := (hok b _ z).1
          have e2 := (ok2 b _ (un.frzs b o2 _ z)).1
          rw [e] at e1
          cases e1
          exact e2
      obtain ⟨more, z⟩ := un.tbls T #[] B.tab
      have wide := ok2 T _ z
      refine ⟨rfl, ⟨fun b o e => ?_, fun b o e => ?_⟩, os, bare⟩
      · by_cases q : b = T
        · subst q
          rw [eT] at e
          cases e
          exact .inr (.inl ⟨(cT.tab eT).isCodeTable, rfl, #[], _, rfl, by rw [Array.empty_append]; exact wide⟩)
        · exact .inl (still b o q e)
      · by_cases q : b = T
        · subst q
          exact ⟨_, wide⟩
        · exact ⟨o, still b o q e⟩
theorem end_callT (KX : K.In s1.heap) (hns : s1.heap.Ns mainGlobals mg) (hb : s1.heap.Ns builtinsNs mb) (hbb : ∀ x : Str, x ≠ "__name__" → mb x = bootBuiltins x) (hlim : s1.heap.NoLimit) (hg : s1.gens = #[]) (hr : Room k callerA)
    (eT : s1.heap.get? T = some tab0) (nT : K.lookup T = none) (cT : PySem.W.CodeHd s1.heap c T)
    (main : ∃ (m : Addr) (o : Obj), mg "__builtins__" = some (.ref m) ∧ m ≠ builtinsNs ∧ s1.heap.get? m = some o ∧ o.cls = .type "module" ∧ o.dict = some builtinsNs ∧ o.data = .plain)
    (ha : s1.heap.get? a = some { cls := .type "list", data := .seq vs.toArray }) (hi : IntsAre vs ns) (hl : ns.length ≤ sizeLine) (F : ∀ base : Heap, K.In base → base.Ns mainGlobals mg → LamX.TabB base mg c T → FnG P w K mg base CX0 k fa sp)
    (hsp : ∀ H : Hp, H T = some (.tbl #[]) → SqL K H a (ns.map V.int) → sp [.ref a] H (fun v _ => v = .bl true) fun _ _ _ => False) :
    codeAny (model P w) callerA (.call (.ref fa) ⟨[.ref a], []⟩) (fun r s' => r = .ok (.ret (.bool true)) ∧ OldK s1.heap s'.heap ∧ s'.os = s1.os ∧ AllBare s'.gens) s1 := by
  have rv := vals_ints hi
  have hl2 : (ns.map V.int).length ≤ sizeLine := by rw [List.length_map]; exact hl
  have naT : a ≠ T := fun z => by
    rw [z, eT] at ha
    cases ha
  cases hk : K.lookup a with
  | some o =>
    have e := KX a o hk
    rw [ha] at e
    cases e
    let H : Hp := fun b => if b = T then some (.tbl #[]) else none
    have HT : H T = some (.tbl #[]) := if_pos rfl
    have HN : ∀ b, b ≠ T → H b = none := fun b n => if_neg n
    refine end_fromT KX hns hb hbb hlim hg hr eT nT cT main F (H := H) ⟨HT, fun b n => .inl (HN b n)⟩ (fun b u z => ?_) (hsp H HT ?_)
    · by_cases q : b = T
      · subst q
        rw [HT] at z
        cases z
        exact eT
      · rw [HN b q] at z
        cases z
    · exact .inr ⟨_, vs.toArray, _, hk, rfl, rfl, rfl, by rw [List.size_toArray, hi.length]; exact hl, by simpa using rv⟩
  | none =>
    let o : Obj := { cls := .type "list", data := .seq vs.toArray }
    let H : Hp := fun b => if b = a then some (.frz o (.lst (ns.map V.int))) else if b = T then some (.tbl #[]) else none
    have HA : H a = some (.frz o (.lst (ns.map V.int))) := if_pos rfl
    have HT : H T = some (.tbl #[]) := by show (if T = a then _ else _) = _; rw [if_neg (Ne.symm naT), if_pos rfl]
    have HN : ∀ b, b ≠ a → b ≠ T → H b = none := fun b n n2 => by show (if b = a then _ else _) = _; rw [if_neg n, if_neg n2]
    refine end_fromT KX hns hb hbb hlim hg hr eT nT cT main F (H := H) ⟨HT, fun b n => ?_⟩ (fun b u z => ?_) (hsp H HT (.inl (.inr ⟨_, HA⟩)))
    · by_cases q : b = a
      · subst q
        exact .inr ⟨o, _, _, _, HA, hk, ha, rfl⟩
      · exact .inl (HN b q n)
    · by_cases q : b = a
      · subst q
        rw [HA] at z
        cases z
        exact ⟨ha, hl2, vs, _, rv, ha⟩
      · by_cases q2 : b = T
        · subst q2
          rw [HT] at z
          cases z
          exact eT
        · rw [HN b q q2] at z
          cases z
end
/-- what is to be known of the law's promise at the head's heap -/
def LawT (l : PySem.W.OpenLaw) (w : World) (K : PySem.W.Frag) (k n : Nat) (mg : Str → Option Value) (fa : Addr) (h : Heap) : Prop :=
  ∃ (c T : Addr) (sp : Sp), h.get? T = some tab0 ∧ K.lookup T = none ∧ PySem.W.CodeHd h c T ∧
    (∀ (H : Hp) (a : Addr) (ns : List Int), ns.length ≤ n → H T = some (.tbl #[]) → SqL K H a (ns.map V.int) → sp [.ref a] H (fun v _ => v = .bl true) fun _ _ _ => False) ∧
    ∀ base : Heap, K.In base → base.Ns mainGlobals mg → LamX.TabB base mg c T → FnG l.prog w K mg base CX0 k fa sp
theorem walk_ofTG {l : PySem.W.OpenLaw} {n k : Nat} {q : Program} {loose : List Str} {XP : (Str → Option Value) → Heap → Prop} {YP : World → Heap → Prop} {d : DefRec} {K : Params → PySem.W.Frag}
    (hn : l.most = some n) (hn2 : n ≤ sizeLine) (hdf : d.params.defaults = []) (hr : Room k callerA) (hY : ∀ (w : World) (h : Heap), YP w h → (K w.params).In h)
    (F : ∀ (w : World) (mg : Str → Option Value) (fa : Addr) (h : Heap), YP w h → (K w.params).In h → h.Ns mainGlobals mg → mg d.name = some (.ref fa) → LawT l w (K w.params) k n mg fa h) :
    PySem.W.WalkO q loose XP YP l.row.toRowW d [] (fun f vs => PySem.call f vs) := by
  refine Att.attach_call hn hdf fun w s0 s1 mg mb fa o pm cd doc a vs ns G Y ho hd hcd hmg hobj hints hlen hg => ?_
  have KX := hY w _ Y
  obtain ⟨c, T, sp, eT, nT, cT, hsp, hF⟩ := F w mg fa _ Y KX G.T.g hmg
  exact end_callT KX G.T.g G.T.b G.T.builtins G.T.nolimit hg hr eT nT cT G.T.bmain hobj hints (Nat.le_trans hlen hn2) hF fun H hH hS => hsp H a ns hlen hH hS
end Ow
end
section
set_option maxHeartbeats 4000000
/-! A law's def, its code told, called while nothing is being shown; what stays when a lambda is made. -/
namespace Ow
open PySem PySem.Spec PyProof.Rows L2 StX
section
variable {P : Program} {w : World} {K : PySem.W.Frag} {mg : Str → Option Value} {base : Heap} {x qual : Str} {st : Stmt} {f c : Addr}
theorem FnC.okG {N ps : List Str} {k : Nat} {sp : Sp} (F : FnC K x qual st f c) (S : FnScope N ps (defScope st))
    (hb : ∀ (kV doc pm : Value) (an : Option Addr) (cdv ct : Value) (us : List Value), us.length = ps.length → bindArgs (PySem.W.fnOf x qual (defArgs st) (defBody st) (defScope st) .none kV doc pm an cdv ct) ⟨us, []⟩ = pure (ps.zip us))
    (len : ∀ vs H Q E, sp vs H Q E → vs.length = ps.length)
    (hbody : ∀ (A : Around) (outer : List Env) (s : Shared) (H : Hp) (vs : List V) (Q : VK) (E : XK), Room k (A.deeper (envOfC qual (defScope st) s.heap.objs.size f (.ref c))) → A.guards = some [] → sp vs H Q E →
      ∃ t, PSs (cxOf CX0 P w K mg base N qual (defScope st) f (.ref c) A outer s H E).nox (defBody st) t ∧ t { nx := fun _ H' => Q .non H', rt := Q } (start N vs) H) : FnG P w K mg base CX0 (k + 1) f sp := by
  obtain ⟨oc, od, an, kV, doc, pm, ct, osl, lk, hcd⟩ := F
  intro A outer s H us vs Q E hr hg e0 r hs
  have hv := len _ _ _ _ hs
  refine LamX.run_ofS lk hcd S hr e0 (BindsTo.of_eq (hb kV doc pm an (.ref c) ct us (r.length.symm.trans hv))) r hv fun hr2 => ?_
  obtain ⟨t, h, q⟩ := hbody A outer s H vs Q E hr2 hg hs
  exact ⟨t, h.nox, q⟩
end
section
variable {K : PySem.W.Frag} {H H' : Hp} {v : V} {t : Value}
theorem TyOf.extN (h : TyOf K H v t) (m : LamX.ExtN H H') : TyOf K H' v t := by
  cases h with
  | non => exact .non
  | bl x => exact .bl x
  | int i => exact .int i
  | str x => exact .str x
  | flt x => exact .flt x
  | lst h => exact .lst (m _ _ h fun _ z => by cases z)
  | frz h => exact .frz (m _ _ h fun _ z => by cases z)
  | tup h => exact .tup (m _ _ h fun _ z => by cases z)
  | dK h => exact .dK (m _ _ h fun _ z => by cases z)
  | dT h => exact .dT (m _ _ h fun _ z => by cases z)
  | ins h c a b d e => exact .ins (m _ _ h fun _ z => by cases z) c a b d e
theorem TyX.extN (h : TyX K H v t) (m : LamX.ExtN H H') : TyX K H' v t := by
  cases h with
  | base h => exact .base (TyOf.extN h m)
  | byt b => exact .byt b
  | set h => exact .set (m _ _ h fun _ z => by cases z)
  | kList h c => exact .kList h c
  | kTuple h c => exact .kTuple h c
  | kDict h c => exact .kDict h c
  | fTuple h => exact .fTuple (m _ _ h fun _ z => by cases z)
  | fDict h => exact .fDict (m _ _ h fun _ z => by cases z)
theorem NoInt.extN (h : NoInt K H v) (m : LamX.ExtN H H') : NoInt K H' v := by
  rcases h with h | ⟨t, h, q⟩
  · exact .inl h
  · exact .inr ⟨t, TyX.extN h m, q⟩
end
end Ow
end
section
set_option maxHeartbeats 4000000
/-! A def with defaults: its promise as FnOk, by place and by keywords. -/
namespace Ow
open PySem PySem.Spec PyProof.Rows L2 StX
section
variable {P : Program} {w : World} {K : PySem.W.Frag} {mg : Str → Option Value} {base : Heap} {CX : CXT} {x qual : Str} {params : Arguments} {body : List Stmt} {scope : PySem.Scope} {dvs : List V} {f : Addr} {fd : FuncData} {ps : List Str} {k : Nat} {sp : Sp}
/-- n arguments by place, the defaults behind the first j fill up -/
theorem posR (F : FunD K x qual params body scope dvs [] f fd) (ok : FnOk P w K mg base CX k f fd ps sp) (n j : Nat) (hd : dvs ≠ []) (hn : n + (dvs.length - j) = ps.length)
    (hb : ∀ (T : Addr) (kV doc pm : Value) (an : Option Addr) (cdv ct : Value) (us its : List Value), us.length = n → its.length = dvs.length →
      ∃ k, bindArgs (PySem.W.fnOf x qual params body scope (.ref T) kV doc pm an cdv ct) ⟨us, []⟩ = seqItems? (.ref T) >>= k ∧ k (some its.toArray) = pure (ps.zip (us ++ its.drop j))) : FnR P w K mg base CX k f (fun vs H Q E => sp (vs ++ dvs.drop j) H Q E) := by
  obtain ⟨ds, hds, b⟩ := F.binds1 n j hd hn hb
  exact ok.raw b hds
end
end Ow
end
section
namespace Pf
open PySem PySem.Spec PyProof.Rows L2 Ow
def topS (i : Nat) : Stmt := PySem.Challenge.pw_heldfloods_k09_rows_of_sizes.main.body.getD i (.Pass ⟨0, 0, 0, 0⟩)
abbrev s_BadClass_init : Stmt := inClass (topS 2) 0
theorem sc_BadClass_init : FnScope ["self", "part"] ["self", "part"] (defScope s_BadClass_init) := ⟨rfl, rfl, rfl, by decide +kernel, rfl, by decide +kernel, by decide +kernel⟩
abbrev s_is_int : Stmt := topS 4
theorem sc_is_int : FnScope ["value"] ["value"] (defScope s_is_int) := ⟨rfl, rfl, rfl, by decide +kernel, rfl, by decide +kernel, by decide +kernel⟩
abbrev s_Sizes_init : Stmt := inClass (topS 6) 0
theorem sc_Sizes_init : FnScope ["self", "low", "high"] ["self", "low", "high"] (defScope s_Sizes_init) := ⟨rfl, rfl, rfl, by decide +kernel, rfl, by decide +kernel, by decide +kernel⟩
abbrev s_Sizes_contains : Stmt := inClass (topS 6) 1
theorem sc_Sizes_contains : FnScope ["self", "x"] ["self", "x"] (defScope s_Sizes_contains) := ⟨rfl, rfl, rfl, by decide +kernel, rfl, by decide +kernel, by decide +kernel⟩
abbrev s_Sizes_eq : Stmt := inClass (topS 6) 2
theorem sc_Sizes_eq : FnScope ["self", "other"] ["self", "other"] (defScope s_Sizes_eq) := ⟨rfl, rfl, rfl, by decide +kernel, rfl, by decide +kernel, by decide +kernel⟩
abbrev s_Sizes_str : Stmt := inClass (topS 6) 3
theorem sc_Sizes_str : FnScope ["self"] ["self"] (defScope s_Sizes_str) := ⟨rfl, rfl, rfl, by decide +kernel, rfl, by decide +kernel, by decide +kernel⟩
abbrev s__law_heard : Stmt := topS 10
theorem sc__law_heard : FnScope ["_law_ask", "error"] ["_law_ask"] (defScope s__law_heard) := ⟨rfl, rfl, rfl, by decide +kernel, rfl, by decide +kernel, by decide +kernel⟩
abbrev s__law_bag : Stmt := topS 8
theorem sc__law_bag : FnScope ["_law_script", "_law_state", "_law_cell"] ["_law_script"] (defScope s__law_bag) := ⟨rfl, rfl, rfl, by decide +kernel, rfl, by decide +kernel, by decide +kernel⟩
abbrev s__law_draw : Stmt := topS 9
theorem sc__law_draw : FnScope ["_law_bag_here", "_law_limit", "_law_cell", "_law_mixed", "_law_found"] ["_law_bag_here", "_law_limit"] (defScope s__law_draw) := ⟨rfl, rfl, rfl, by decide +kernel, rfl, by decide +kernel, by decide +kernel⟩
abbrev s__law_value : Stmt := topS 11
theorem sc__law_value : FnScope ["_law_bag_here", "_law_base", "_law_some"] ["_law_bag_here", "_law_base"] (defScope s__law_value) := ⟨rfl, rfl, rfl, by decide +kernel, rfl, by decide +kernel, by decide +kernel⟩
abbrev s__law_is_size : Stmt := topS 12
theorem sc__law_is_size : FnScope ["_law_value_here"] ["_law_value_here"] (defScope s__law_is_size) := ⟨rfl, rfl, rfl, by decide +kernel, rfl, by decide +kernel, by decide +kernel⟩
abbrev s__law_due : Stmt := topS 13
theorem sc__law_due : FnScope ["_law_first", "_law_last"] ["_law_first", "_law_last"] (defScope s__law_due) := ⟨rfl, rfl, rfl, by decide +kernel, rfl, by decide +kernel, by decide +kernel⟩
abbrev s__law_written : Stmt := topS 14
theorem sc__law_written : FnScope ["_law_first", "_law_last"] ["_law_first", "_law_last"] (defScope s__law_written) := ⟨rfl, rfl, rfl, by decide +kernel, rfl, by decide +kernel, by decide +kernel⟩
abbrev s_law : Stmt := topS 15
theorem sc_law : FnScope ["_law_script", "_law_bag_here", "_law_turn", "_law_base", "_law_due_here", "_law_found", "_law_made", "_law_near", "_law_n", "_law_due_in", "_law_first", "_law_last", "_law_value_here"] ["_law_script"] (defScope s_law) := ⟨rfl, rfl, rfl, by decide +kernel, rfl, by decide +kernel, by decide +kernel⟩
structure Adr where
  BadClass_init : Addr
  is_int : Addr
  Sizes_init : Addr
  Sizes_contains : Addr
  Sizes_eq : Addr
  Sizes_str : Addr
  _law_heard : Addr
  _law_bag : Addr
  _law_draw : Addr
  _law_value : Addr
  _law_is_size : Addr
  _law_due : Addr
  _law_written : Addr
  law : Addr
  Sizes : Addr
  BadClass : Addr
  HoldError : Addr
structure Txt (K : PySem.W.Frag) (mg : Str → Option Value) (a : Adr) : Prop where
  n_len : mg "len" = none
  n_int : mg "int" = none
  n_abs : mg "abs" = none
  n_list : mg "list" = none
  n_isinstance : mg "isinstance" = none
  n_bool : mg "bool" = none
  n_range : mg "range" = none
  n_repr : mg "repr" = none
  n_str : mg "str" = none
  n_type : mg "type" = none
  d_BadClass_init : FnT K "__init__" "BadClass.__init__" s_BadClass_init [] a.BadClass_init
  d_is_int : FnT K "is_int" "is_int" s_is_int [] a.is_int
  m_is_int : mg "is_int" = some (.ref a.is_int)
  k_is_int : PySem.W.keepIn K (.ref a.is_int) = true
  d_Sizes_init : FnT K "__init__" "Sizes.__init__" s_Sizes_init [.non] a.Sizes_init
  d_Sizes_contains : FnT K "__contains__" "Sizes.__contains__" s_Sizes_contains [] a.Sizes_contains
  d_Sizes_eq : FnT K "__eq__" "Sizes.__eq__" s_Sizes_eq [] a.Sizes_eq
  d_Sizes_str : FnT K "__str__" "Sizes.__str__" s_Sizes_str [] a.Sizes_str
  d__law_heard : FnT K "_law_heard" "_law_heard" s__law_heard [] a._law_heard
  m__law_heard : mg "_law_heard" = some (.ref a._law_heard)
  k__law_heard : PySem.W.keepIn K (.ref a._law_heard) = true
  d__law_bag : FnT K "_law_bag" "_law_bag" s__law_bag [] a._law_bag
  m__law_bag : mg "_law_bag" = some (.ref a._law_bag)
  k__law_bag : PySem.W.keepIn K (.ref a._law_bag) = true
  d__law_draw : FnT K "_law_draw" "_law_draw" s__law_draw [] a._law_draw
  m__law_draw : mg "_law_draw" = some (.ref a._law_draw)
  k__law_draw : PySem.W.keepIn K (.ref a._law_draw) = true
  d__law_value : FnT K "_law_value" "_law_value" s__law_value [] a._law_value
  m__law_value : mg "_law_value" = some (.ref a._law_value)
  k__law_value : PySem.W.keepIn K (.ref a._law_value) = true
  d__law_is_size : FnT K "_law_is_size" "_law_is_size" s__law_is_size [] a._law_is_size
  m__law_is_size : mg "_law_is_size" = some (.ref a._law_is_size)
  k__law_is_size : PySem.W.keepIn K (.ref a._law_is_size) = true
  d__law_due : FnT K "_law_due" "_law_due" s__law_due [] a._law_due
  m__law_due : mg "_law_due" = some (.ref a._law_due)
  k__law_due : PySem.W.keepIn K (.ref a._law_due) = true
  d__law_written : FnT K "_law_written" "_law_written" s__law_written [] a._law_written
  m__law_written : mg "_law_written" = some (.ref a._law_written)
  k__law_written : PySem.W.keepIn K (.ref a._law_written) = true
  d_law : FnT K "law" "law" s_law [] a.law
  m_law : mg "law" = some (.ref a.law)
  k_law : PySem.W.keepIn K (.ref a.law) = true
  m_Sizes : mg "Sizes" = some (.ref a.Sizes)
  c_Sizes : ClsF K a.Sizes
  M_Sizes : Mk K a.Sizes a.Sizes_init
  a_Sizes_low : NoAttr K a.Sizes "low"
  a_Sizes_high : NoAttr K a.Sizes "high"
  o_Sizes_contains : PySem.W.findIn K (.ref a.Sizes) "__contains__" = some (some (.ref a.Sizes_contains))
  f_Sizes_contains : PySem.W.isFn K (.ref a.Sizes_contains) = true
  o_Sizes_eq : PySem.W.findIn K (.ref a.Sizes) "__eq__" = some (some (.ref a.Sizes_eq))
  f_Sizes_eq : PySem.W.isFn K (.ref a.Sizes_eq) = true
  o_Sizes_str : PySem.W.findIn K (.ref a.Sizes) "__str__" = some (some (.ref a.Sizes_str))
  f_Sizes_str : PySem.W.isFn K (.ref a.Sizes_str) = true
  s_Sizes_not : PySem.W.notFirst K a.Sizes (.ref a.Sizes) = true
  s_Sizes_obj : PySem.W.subIn K (.ref a.Sizes) (.type "object") = some true
  o_ne : PySem.W.findIn K (.ref a.Sizes) "__ne__" = some (some (.builtin "object.__ne__"))
  s_Sizes_tuple : PySem.W.subIn K (.type "tuple") (.ref a.Sizes) = some false
  m_HoldError : mg "HoldError" = some (.ref a.HoldError)
  xf_BadClass : XfC K a.BadClass
  xc_BadClass : ExcC K a.BadClass
  xi_BadClass : (PySem.W.clsIn K a.BadClass).isSome = true
  xt_BadClass : PySem.W.typeIn K (.ref a.BadClass) = some (.type "type")
  xm_BadClass_HoldError : PySem.W.exmOne K (.ref a.BadClass) (.ref a.HoldError) = some true
  m_BadClass : mg "BadClass" = some (.ref a.BadClass)
  e_BadClass : ErrF K a.BadClass a.BadClass_init
  a_BadClass_part : PySem.W.findIn K (.ref a.BadClass) "part" = some none
/-! ### the bag of draws -/
/-- the pairs of a bag: its cells' list at c, where it stands, what rests, its state -/
def bagK (c : Addr) (i r st : Int) : List (Key × V) := [(Sum.inr "cells", V.ref c), (Sum.inr "at", V.int i), (Sum.inr "rest", V.int r), (Sum.inr "state", V.int st)]
theorem bagK_len (c : Addr) (i r st : Int) : (bagK c i r st).length < sizeLine := Nat.lt_of_le_of_lt (show 4 ≤ 4 from Nat.le_refl 4) (by decide +kernel)
theorem kAC : ¬ (("cells" : Str) = "at") := by decide +kernel
theorem kRC : ¬ (("cells" : Str) = "rest") := by decide +kernel
theorem kSC : ¬ (("cells" : Str) = "state") := by decide +kernel
theorem kAR : ¬ (("at" : Str) = "rest") := by decide +kernel
theorem kAS : ¬ (("at" : Str) = "state") := by decide +kernel
theorem kRS : ¬ (("rest" : Str) = "state") := by decide +kernel
theorem inr_ne {x y : Str} (h : ¬ x = y) : ¬ ((Sum.inr x : Key) = Sum.inr y) := fun e => h (Sum.inr.inj e)
theorem bag_cells (c : Addr) (i r st : Int) : valV (bagK c i r st) (Sum.inr "cells") = some (V.ref c) := valV_pos rfl
theorem bag_at (c : Addr) (i r st : Int) : valV (bagK c i r st) (Sum.inr "at") = some (V.int i) := (valV_neg (inr_ne kAC)).trans (valV_pos rfl)
theorem bag_rest (c : Addr) (i r st : Int) : valV (bagK c i r st) (Sum.inr "rest") = some (V.int r) := (valV_neg (inr_ne kRC)).trans ((valV_neg (inr_ne kAR)).trans (valV_pos rfl))
theorem bag_state (c : Addr) (i r st : Int) : valV (bagK c i r st) (Sum.inr "state") = some (V.int st) := (valV_neg (inr_ne kSC)).trans ((valV_neg (inr_ne kAS)).trans ((valV_neg (inr_ne kRS)).trans (valV_pos rfl)))
theorem put_at (c : Addr) (i r st j : Int) : putK (bagK c i r st) (Sum.inr "at") (V.int j) = bagK c j r st := by
  have e1 : ¬ ((Sum.inr ("cells" : Str) : Key) = Sum.inr ("at" : Str)) := inr_ne kAC
  have e2 : ¬ ((Sum.inr ("rest" : Str) : Key) = Sum.inr ("at" : Str)) := inr_ne fun z => kAR z.symm
  have e3 : ¬ ((Sum.inr ("state" : Str) : Key) = Sum.inr ("at" : Str)) := inr_ne fun z => kAS z.symm
  unfold putK bagK
  simp [e1, e2, e3]
theorem put_rest (c : Addr) (i r st j : Int) : putK (bagK c i r st) (Sum.inr "rest") (V.int j) = bagK c i j st := by
  have e1 : ¬ ((Sum.inr ("cells" : Str) : Key) = Sum.inr ("rest" : Str)) := inr_ne kRC
  have e2 : ¬ ((Sum.inr ("at" : Str) : Key) = Sum.inr ("rest" : Str)) := inr_ne kAR
  have e3 : ¬ ((Sum.inr ("state" : Str) : Key) = Sum.inr ("rest" : Str)) := inr_ne fun z => kRS z.symm
  unfold putK bagK
  simp [e1, e2, e3]
theorem put_state (c : Addr) (i r st j : Int) : putK (bagK c i r st) (Sum.inr "state") (V.int j) = bagK c i r j := by
  have e1 : ¬ ((Sum.inr ("cells" : Str) : Key) = Sum.inr ("state" : Str)) := inr_ne kSC
  have e2 : ¬ ((Sum.inr ("at" : Str) : Key) = Sum.inr ("state" : Str)) := inr_ne kAS
  have e3 : ¬ ((Sum.inr ("rest" : Str) : Key) = Sum.inr ("state" : Str)) := inr_ne kRS
  unfold putK bagK
  simp [e1, e2, e3]
theorem merge_bag (c : Addr) (i r st : Int) : mergeK [] (bagK c i r st) = bagK c i r st := by
  have e1 : ¬ ((Sum.inr ("cells" : Str) : Key) = Sum.inr ("at" : Str)) := inr_ne kAC
  have e2 : ¬ ((Sum.inr ("cells" : Str) : Key) = Sum.inr ("rest" : Str)) := inr_ne kRC
  have e3 : ¬ ((Sum.inr ("cells" : Str) : Key) = Sum.inr ("state" : Str)) := inr_ne kSC
  have e4 : ¬ ((Sum.inr ("at" : Str) : Key) = Sum.inr ("rest" : Str)) := inr_ne kAR
  have e5 : ¬ ((Sum.inr ("at" : Str) : Key) = Sum.inr ("state" : Str)) := inr_ne kAS
  have e6 : ¬ ((Sum.inr ("rest" : Str) : Key) = Sum.inr ("state" : Str)) := inr_ne kRS
  unfold mergeK bagK putK
  simp [e1, e2, e3, e4, e5, e6]
/-- what holds of a bag at d whose cells stand at c -/
structure BagN (c : Addr) (ns : List Int) (i : Nat) (r st : Int) : Prop where
  hi : i ≤ ns.length
  r0 : 0 ≤ r
  s0 : 0 ≤ st
  s1 : st < 2147483647
def BagIs (o : HO) (c : Addr) (ns : List Int) : Prop := ∃ (i : Nat) (r st : Int), o = .dK (bagK c i r st) ∧ BagN c ns i r st
/-- a bag stands at d -/
def Bag (H : Hp) (d : Addr) : Prop := ∃ (c : Addr) (ns : List Int) (o : HO), H d = some o ∧ BagIs o c ns ∧ H c = some (.lst (ns.map V.int)) ∧ ns.length ≤ 63
theorem Bag.ne {H : Hp} {d b : Addr} {o : HO} (B : Bag H d) (h : H b = some o) (n : ∀ kvs, o ≠ .dK kvs) : b ≠ d := by
  obtain ⟨c, ns, o', hd, ⟨i, r, st, e, _⟩, _⟩ := B
  subst e
  exact ne_of h hd (n _)
theorem Bag.same {H H' : Hp} {d : Addr} (B : Bag H d) (s : Same H H') : Bag H' d := by
  obtain ⟨c, ns, o, hd, bi, hc, hl⟩ := B
  exact ⟨c, ns, o, s _ _ hd, bi, s _ _ hc, hl⟩
theorem Bag.there {H : Hp} {d : Addr} (B : Bag H d) : ∃ o, H d = some o := by
  obtain ⟨c, ns, o, hd, _⟩ := B
  exact ⟨o, hd⟩
theorem upd_self {H : Hp} {a : Addr} {o : HO} (h : H a = some o) : upd H a o = H := by
  funext b
  by_cases e : b = a
  · subst e; rw [upd_same, h]
  · rw [upd_ne e]
/-- draw: an int below the limit, the bag goes on, nothing else is touched -/
def spDraw : Sp := fun vs H Q _ => ∃ (d : Addr) (n : Int), vs = [.ref d, .int n] ∧ Bag H d ∧ 0 < n ∧ n < 1073741824 ∧
  ∀ (z : Int) (o : HO), 0 ≤ z → z < n → Bag (upd H d o) d → Q (.int z) (upd H d o)
/-- the bag's cells stand at c -/
def CellsAt (H : Hp) (d c : Addr) : Prop := ∃ (i : Nat) (r st : Int), H d = some (.dK (bagK c i r st))
theorem cells_one {H : Hp} {d c c' : Addr} (h : CellsAt H d c) (h' : CellsAt H d c') : c = c' := by
  obtain ⟨i, r, st, e⟩ := h
  obtain ⟨i', r', st', e'⟩ := h'
  rw [e] at e'
  have q : bagK c i r st = bagK c' i' r' st' := by injection e' with q; injection q
  have a := bag_cells c i r st
  rw [q, bag_cells] at a
  injection a with a
  injection a with a
  exact a.symm
theorem CellsAt.same {H H' : Hp} {d c : Addr} (h : CellsAt H d c) (s : Same H H') : CellsAt H' d c := by
  obtain ⟨i, r, st, e⟩ := h
  exact ⟨i, r, st, s _ _ e⟩
/-- draw, told with the cells -/
def spDrawC : Sp := fun vs H Q _ => ∃ (d : Addr) (n : Int), vs = [.ref d, .int n] ∧ Bag H d ∧ 0 < n ∧ n < 1073741824 ∧
  ∀ (z : Int) (o : HO), 0 ≤ z → z < n → Bag (upd H d o) d → (∀ c, CellsAt H d c → CellsAt (upd H d o) d c) → Q (.int z) (upd H d o)
theorem dg_cells {H : Hp} {d c : Addr} {i r st : Int} (h : H d = some (.dK (bagK c i r st))) : DGet H d (.str "cells") (some (.ref c)) := .inl ⟨_, Sum.inr "cells", .inl h, rfl, (bag_cells c i r st).symm⟩
theorem dg_at {H : Hp} {d c : Addr} {i r st : Int} (h : H d = some (.dK (bagK c i r st))) : DGet H d (.str "at") (some (.int i)) := .inl ⟨_, Sum.inr "at", .inl h, rfl, (bag_at c i r st).symm⟩
theorem dg_rest {H : Hp} {d c : Addr} {i r st : Int} (h : H d = some (.dK (bagK c i r st))) : DGet H d (.str "rest") (some (.int r)) := .inl ⟨_, Sum.inr "rest", .inl h, rfl, (bag_rest c i r st).symm⟩
theorem dg_state {H : Hp} {d c : Addr} {i r st : Int} (h : H d = some (.dK (bagK c i r st))) : DGet H d (.str "state") (some (.int st)) := .inl ⟨_, Sum.inr "state", .inl h, rfl, (bag_state c i r st).symm⟩
theorem dp_at {H : Hp} {d c : Addr} {i r st : Int} (j : Int) (h : H d = some (.dK (bagK c i r st))) : DPut H d (.str "at") (.int j) (upd H d (.dK (bagK c j r st))) := by
  have := DPut.k (k := Sum.inr "at") (v := V.int j) h (bagK_len c i r st)
  rw [put_at] at this
  exact this
theorem dp_rest {H : Hp} {d c : Addr} {i r st : Int} (j : Int) (h : H d = some (.dK (bagK c i r st))) : DPut H d (.str "rest") (.int j) (upd H d (.dK (bagK c i j st))) := by
  have := DPut.k (k := Sum.inr "rest") (v := V.int j) h (bagK_len c i r st)
  rw [put_rest] at this
  exact this
theorem dp_state {H : Hp} {d c : Addr} {i r st : Int} (j : Int) (h : H d = some (.dK (bagK c i r st))) : DPut H d (.str "state") (.int j) (upd H d (.dK (bagK c i r j))) := by
  have := DPut.k (k := Sum.inr "state") (v := V.int j) h (bagK_len c i r st)
  rw [put_state] at this
  exact this
theorem while_inv {c : TT} {tb : TS} {D : Ends} {σ : L2.St} {H : Hp} (W : Nat → L2.St → Hp → Prop) (h0 : ∃ m, W m σ H) (hexit : ∀ m σ H, W m σ H → D.nx σ H)
    (hturn : (∀ m σ H, W m σ H → D.nx σ H) → ∀ m σ H, W m σ H → c σ H fun b H1 => if b = true then ∃ N : L2.St → Hp → Prop, (∀ σ' H', N σ' H' → ∃ m', m' < m ∧ W m' σ' H') ∧ tb { D with nx := N, ct := N, bk := D.nx } σ H1 else D.nx σ H1) : tWhile c tb D σ H :=
  ⟨W, h0, hturn hexit⟩
section
variable {P : Program} {w : World} {K : PySem.W.Frag} {mg : Str → Option Value} {base : Heap} {a : Adr}
set_option maxHeartbeats 4000000
theorem ok_drawC (T : Txt K mg a) : FnR P w K mg base CX0 1 a._law_draw spDrawC := by
  refine T.d__law_draw.ok sc__law_draw (fun _ _ _ _ _ _ us hl => match us, hl with | [_, _], _ => rfl) (fun vs H Q E h => ?_) (fun cdv A outer s H vs Q E hr h => ?_)
  · obtain ⟨d, n, rfl, _⟩ := h
    rfl
  · obtain ⟨d, n, rfl, B, hn, hn2, k⟩ := h
    have hu := hu_of hr
    have pos1 : (0 : Int) < 2147483647 := by decide
    have pos2 : (0 : Int) < 2147483629 := by decide
    refine ⟨_, (pss_cons (ps_while PassesOwn.never (PW.pt (pw_and (pt_cmpR op_lt (pe_dget hu (pv 0) pe_str (fun _ _ => rfl)) pe_int (nomark _)) (pw_and1 (pt_cmpR op_lt (pe_dget hu (pv 0) pe_str (fun _ _ => rfl)) (pe_callB call_len_seq (by rfl) T.n_len (by decide +kernel) (pa_cons (pe_dget hu (pv 0) pe_str (fun _ _ => rfl)) pa_nil)) (nomark _)))))
          (pss_cons (ps_set (i := 2) sc__law_draw.nd rfl (Or.inl rfl) (pe_callB call_abs (by rfl) T.n_abs (by decide +kernel) (pa_cons (pe_ix ix_list (pe_dget hu (pv 0) pe_str (fun _ _ => rfl)) (pe_dget hu (pv 0) pe_str (fun _ _ => rfl)) (fun _ _ => rfl)) pa_nil)))
          (pss_cons (ps_dput hu (pv 0) pe_str (pe_op op_add (pe_dget hu (pv 0) pe_str (fun _ _ => rfl)) pe_int) rfl)
          (pss_cons (ps_if (pt_cmpR op_lt (pv 2) (pe_op op_pow pe_int pe_int) (nomark _))
              (pss_cons (ps_set (i := 3) sc__law_draw.nd rfl (Or.inl rfl) (pe_op op_mod (pe_callTy call_int1 (by rfl) T.n_int (by decide +kernel) (pa_cons (pe_op op_add (pe_op op_pow (pe_op op_add (pv 2) pe_int) pe_int) (pe_op op_mul (pe_dget hu (pv 0) pe_str (fun _ _ => rfl)) (pe_op op_add (pe_dget hu (pv 0) pe_str (fun _ _ => rfl)) pe_int))) pa_nil)) pe_int))
              (pss_one (ps_ret (pe_op op_mod (pv 3) (pv 1)))))
              pss_nil)
          (pss_one (ps_dput hu (pv 0) pe_str (pv 2) rfl))))))
      (pss_cons (ps_if (pt_cmpR op_ge (pe_dget hu (pv 0) pe_str (fun _ _ => rfl)) pe_int (nomark _))
          (pss_cons (ps_set (i := 4) sc__law_draw.nd rfl (Or.inl rfl) (pe_op op_mod (pe_callTy call_int1 (by rfl) T.n_int (by decide +kernel) (pa_cons (pe_dget hu (pv 0) pe_str (fun _ _ => rfl)) pa_nil)) (pv 1)))
          (pss_cons (ps_dput hu (pv 0) pe_str (pe_op op_fdiv (pe_dget hu (pv 0) pe_str (fun _ _ => rfl)) (pv 1)) rfl)
          (pss_one (ps_ret (pv 4)))))
          pss_nil)
      (pss_cons (ps_dput hu (pv 0) pe_str (pe_op op_mod (pe_callTy call_int1 (by rfl) T.n_int (by decide +kernel) (pa_cons (pe_op op_add (pe_op op_mul (pe_dget hu (pv 0) pe_str (fun _ _ => rfl)) pe_int) pe_int) pa_nil)) pe_int) rfl)
      (pss_one (ps_ret (pe_op op_mod (pe_op op_mod (pe_callTy call_int1 (by rfl) T.n_int (by decide +kernel) (pa_cons (pe_op op_pow (pe_dget hu (pv 0) pe_str (fun _ _ => rfl)) pe_int) pa_nil)) pe_int) (pv 1))))))), ?_⟩
    obtain ⟨c, ns, o, hd, ⟨i0, r0, st0, eo, N0⟩, hc, hns⟩ := B
    subst eo
    have hcd : c ≠ d := ne_of hc hd (fun z => by cases z)
    have bagU : ∀ (i : Nat) (r st : Int), BagN c ns i r st → Bag (upd H d (.dK (bagK c i r st))) d := fun i r st N =>
      ⟨c, ns, _, upd_same, ⟨i, r, st, rfl, N⟩, by rw [upd_ne hcd]; exact hc, hns⟩
    have kk : ∀ (z : Int) (i : Nat) (r st : Int), 0 ≤ z → z < n → BagN c ns i r st → Q (.int z) (upd H d (.dK (bagK c i r st))) := fun z i r st h0 h1 N => k z _ h0 h1 (bagU i r st N) fun c' hc' => by
      rw [cells_one hc' ⟨i0, r0, st0, hd⟩]
      exact ⟨i, r, st, upd_same⟩
    refine while_inv (fun m σ H' => ∃ (i : Nat) (r st : Int) (v2 v3 v4 : Option V), m = ns.length - i ∧ σ = [some (.ref d), some (.int n), v2, v3, v4] ∧ H' = upd H d (.dK (bagK c i r st)) ∧ BagN c ns i r st)
      ⟨_, i0, r0, st0, _, _, _, rfl, rfl, (upd_self hd).symm, N0⟩ ?_ ?_
    · -- behind the loop
      rintro m σ H' ⟨i, r, st, v2, v3, v4, _, rfl, rfl, N⟩
      refine ⟨_, rfl, d, _, rfl, dg_rest upd_same, _, _, rfl, rfl, _, rfl, ?_⟩
      refine ite2 (fun hb => ?_) (fun hb => ?_)
      · have h2 : 2 ≤ r := of_decide_eq_true hb
        refine ⟨_, rfl, d, _, rfl, dg_rest upd_same, .inl ⟨_, rfl, _, rfl, _, _, rfl, rfl, hn, ?_⟩⟩
        refine ⟨_, rfl, d, _, rfl, dg_rest upd_same, _, rfl, _, _, rfl, rfl, ⟨hn, hn2⟩, _, rfl, d, _, rfl, dp_rest _ upd_same, ?_⟩
        rw [upd_upd]
        refine ⟨_, rfl, kk _ i _ st (Int.emod_nonneg _ (by omega)) (Int.emod_lt_of_pos _ hn) ⟨N.hi, Int.ediv_nonneg N.r0 (by omega), N.s0, N.s1⟩⟩
      · have s64 : (-(2 ^ 64) < st ∧ st < 2 ^ 64) := ⟨by have := N.s0; omega, by have := N.s1; omega⟩
        refine ⟨_, rfl, d, _, rfl, dg_state upd_same, _, _, rfl, rfl, .inl s64, _, _, rfl, rfl, .inl ⟨_, rfl, _, _, rfl, rfl, pos1, _, rfl, d, _, rfl, dp_state _ upd_same, ?_⟩⟩
        rw [upd_upd]
        have t0 : 0 ≤ (st * 48271 + 13) % 2147483647 := Int.emod_nonneg _ (by decide)
        have t1 : (st * 48271 + 13) % 2147483647 < 2147483647 := Int.emod_lt_of_pos _ (by decide)
        refine ⟨_, rfl, d, _, rfl, dg_state upd_same, _, _, rfl, rfl, ⟨by decide, by decide, by omega⟩, .inl ⟨_, rfl, _, _, rfl, rfl, pos2, _, rfl, _, _, rfl, rfl, hn, ?_⟩⟩
        exact kk _ i _ _ (Int.emod_nonneg _ (by omega)) (Int.emod_lt_of_pos _ hn) ⟨N.hi, N.r0, t0, t1⟩
    · rintro ex m σ H' ⟨i, r, st, v2, v3, v4, rfl, rfl, rfl, N⟩
      have hc' : ∀ o, (upd H d o) c = some (.lst (ns.map V.int)) := fun o => by rw [upd_ne hcd]; exact hc
      refine ⟨_, rfl, d, _, rfl, dg_rest upd_same, _, _, rfl, rfl, _, rfl, ?_⟩
      refine ite2 (fun hb => ?_) (fun hb => iteF (ex _ _ _ ⟨i, r, st, v2, v3, v4, rfl, rfl, rfl, N⟩))
      refine ⟨_, rfl, d, _, rfl, dg_at upd_same, _, rfl, d, _, rfl, dg_cells upd_same, c, _, rfl, .inl (SqL.of (hc' _)), _, _, rfl, rfl, _, rfl, ?_⟩
      refine ite2 (fun hb2 => ?_) (fun hb2 => ex _ _ _ ⟨i, r, st, v2, v3, v4, rfl, rfl, rfl, N⟩)
      have hil : i < ns.length := by
        have := of_decide_eq_true hb2
        rw [List.length_map] at this
        omega
      refine ⟨fun σ' H' => ∃ m', m' < ns.length - i ∧ ∃ (i : Nat) (r st : Int) (v2 v3 v4 : Option V), m' = ns.length - i ∧ σ' = [some (.ref d), some (.int n), v2, v3, v4] ∧ H' = upd H d (.dK (bagK c i r st)) ∧ BagN c ns i r st, fun _ _ h => h, ?_⟩
      -- cell = abs(cells[at]); at = at + 1
      have ei : (ns.map V.int)[i]? = some (V.int ns[i]) := by simp [hil]
      have s64 : (-(2 ^ 64) < st ∧ st < 2 ^ 64) := ⟨by have := N.s0; omega, by have := N.s1; omega⟩
      have ea : (i : Int) + 1 = ((i + 1 : Nat) : Int) := by omega
      refine ⟨_, rfl, d, _, rfl, dg_cells upd_same, _, rfl, d, _, rfl, dg_at upd_same, c, _, _, _, rfl, rfl, SqL.of (hc' _), atI_nat ei, _, rfl, ?_⟩
      have hc0 : 0 ≤ (if ns[i] < 0 then -ns[i] else ns[i]) := by split <;> omega
      generalize (if ns[i] < 0 then -ns[i] else ns[i]) = cell at hc0
      refine ⟨_, rfl, d, _, rfl, dg_at upd_same, _, _, rfl, rfl, _, rfl, d, _, rfl, dp_at _ upd_same, ?_⟩
      rw [upd_upd, ea]
      refine ⟨_, rfl, _, _, rfl, rfl, ⟨by decide, by decide, by decide⟩, _, _, rfl, rfl, _, rfl, ?_⟩
      refine ite2 (fun h18 => ?_) (fun h18 => ?_)
      · have h18' : cell < 10 ^ 18 := of_decide_eq_true h18
        have hq : (10 : Int) ^ 18 = 1000000000000000000 := by decide
        rw [hq] at h18'
        refine ⟨_, rfl, _, _, rfl, rfl, _, _, rfl, rfl, ⟨by decide, by decide, by omega⟩, _, rfl, d, _, rfl, dg_state upd_same, _, rfl, d, _, rfl, dg_at upd_same, _, _, rfl, rfl, _, _, rfl, rfl, .inl s64, _, _, rfl, rfl, .inl ⟨_, rfl, _, _, rfl, rfl, pos2, ?_⟩⟩
        refine ⟨_, rfl, _, rfl, _, _, rfl, rfl, hn, ?_⟩
        exact kk _ (i + 1) _ _ (Int.emod_nonneg _ (by omega)) (Int.emod_lt_of_pos _ hn) ⟨hil, N.r0, N.s0, N.s1⟩
      · refine ⟨_, rfl, _, rfl, d, _, rfl, dp_rest _ upd_same, ?_⟩
        rw [upd_upd]
        exact ⟨_, Nat.sub_lt_sub_left hil (Nat.lt_succ_self i), i + 1, cell, st, _, _, _, rfl, rfl, rfl, ⟨hil, hc0, N.s0, N.s1⟩⟩
theorem ok_draw (T : Txt K mg a) : FnR P w K mg base CX0 1 a._law_draw spDraw := (ok_drawC T).imp fun vs H Q E h => by
  obtain ⟨d, n, rfl, B, h1, h2, k⟩ := h
  exact ⟨d, n, rfl, B, h1, h2, fun z o a b c _ => k z o a b c⟩
/-- bag: a new bag of the script -/
def spBag (K : PySem.W.Frag) : Sp := fun vs H Q _ => ∃ (sa : Addr) (ns : List Int), vs = [.ref sa] ∧ SqL K H sa (ns.map V.int) ∧ ns.length ≤ 63 ∧
  ∀ (d : Addr) (H' : Hp), Same H H' → H d = none → Bag H' d → Q (.ref d) H'
theorem cut63 {ns : List Int} (h : ns.length ≤ 63) : cutV (ns.map V.int) none (some 63) = ns.map V.int := by
  have e1 : HT.sIx (ns.map V.int).length 0 none = 0 := rfl
  have e2 : (ns.map V.int).length ≤ HT.sIx (ns.map V.int).length (ns.map V.int).length (some 63) := by
    rw [List.length_map]
    unfold HT.sIx
    simp
    omega
  unfold cutV
  rw [e1, List.drop_zero, Nat.sub_zero]
  exact List.take_of_length_le e2
theorem ok_bag (T : Txt K mg a) : FnR P w K mg base CX0 1 a._law_bag (spBag K) := by
  refine T.d__law_bag.ok sc__law_bag (fun _ _ _ _ _ _ us hl => match us, hl with | [_], _ => rfl) (fun vs H Q E h => ?_) (fun cdv A outer s H vs Q E hr h => ?_)
  · obtain ⟨sa, ns, rfl, _⟩ := h
    rfl
  · obtain ⟨sa, ns, rfl, hS, hns, k⟩ := h
    have hu := hu_of hr
    have pos1 : (0 : Int) < 2147483647 := by decide
    have pos2 : (0 : Int) < 2147483629 := by decide
    refine ⟨_, (pss_cons (ps_set (i := 1) sc__law_bag.nd rfl (Or.inl rfl) pe_int)
      (pss_cons (ps_for PassesOwn.never rfl (pi_list (pe_slice sl_list (pv 0) po_none (po_some pe_int))) (pg_name (i := 2) sc__law_bag.nd rfl (Or.inl rfl))
          (pss_one (ps_set (i := 1) sc__law_bag.nd rfl (Or.inl rfl) (pe_op op_mod (pe_callTy call_int1 (by rfl) T.n_int (by decide +kernel) (pa_cons (pe_op op_add (pe_op op_add (pe_op op_mul (pv 1) pe_int) (pe_op op_mod (pe_callB call_abs (by rfl) T.n_abs (by decide +kernel) (pa_cons (pv 2) pa_nil)) pe_int)) pe_int) pa_nil)) pe_int))))
      (pss_one (ps_ret (pe_disp (pps_cons pe_str (pe_callTy call_list_of (by rfl) T.n_list (by decide +kernel) (pa_cons (pe_slice sl_list (pv 0) po_none (po_some pe_int)) pa_nil)) (pps_cons pe_str pe_int (pps_cons pe_str pe_int (pps_cons pe_str (pv 1) pps_nil)))) (by rfl) (by rfl) (fun z => by cases z) (by decide)))))), ?_⟩
    refine ⟨_, rfl, _, rfl, sa, _, rfl, hS, fun p hp => ?_⟩
    rw [cut63 hns]
    refine ⟨p, rfl, ⟨_, SqL.of upd_same⟩, for_list (K := K) (a := p) (xs := ns.map V.int) (fun i σ H' => ∃ (st : Int) (v : Option V), σ = [some (.ref sa), some (.int st), v] ∧ H' = upd H p (.lst (ns.map V.int)) ∧ 0 ≤ st ∧ st < 2147483647)
      ⟨7, none, rfl, rfl, by decide, by decide⟩ (fun i σ H' _ ⟨_, _, _, e, _⟩ => by rw [e]; exact SqL.of upd_same) ?_ ?_⟩
    · rintro i y σ H' hi ⟨st, v, rfl, rfl, s0, s1⟩
      obtain ⟨z, rfl⟩ : ∃ z, y = V.int z := by
        rw [List.getElem?_map] at hi
        cases e : ns[i]? with
        | none =>
          rw [e] at hi
          cases hi
        | some z =>
          rw [e] at hi
          exact ⟨z, (Option.some.inj hi).symm⟩
      have s64 : (-(2 ^ 64) < st ∧ st < 2 ^ 64) := ⟨by omega, by omega⟩
      refine ⟨_, rfl, _, _, rfl, rfl, .inl s64, _, rfl, _, rfl, _, _, rfl, rfl, pos2, _, _, rfl, rfl, _, _, rfl, rfl, .inl ⟨_, rfl, _, _, rfl, rfl, pos1, ?_⟩⟩
      exact ⟨_, _, rfl, rfl, Int.emod_nonneg _ (by decide), Int.emod_lt_of_pos _ pos1⟩
    · rintro σ H' ⟨st, v, rfl, rfl, s0, s1⟩
      have s1' : Same H (upd H p (.lst (ns.map V.int))) := fun b o e => by rw [upd_ne (ne_of_none e hp)]; exact e
      intro d hd
      have hdp : p ≠ d := ne_of_none (upd_same (H := H) (o := .lst (ns.map V.int))) hd
      have hd0 : H d = none := s1'.free hd
      have hS2 : SqL K (upd (upd H p (.lst (ns.map V.int))) d (.dK [])) sa (ns.map V.int) := by
        refine Same.seq (fun b o e => ?_) (s1'.seq hS)
        rw [upd_ne (ne_of_none e hd)]
        exact e
      refine ⟨_, rfl, _, rfl, sa, _, rfl, hS2, fun p2 hp2 => ?_⟩
      rw [cut63 hns]
      refine ⟨p2, _, rfl, .inl (SqL.of upd_same), fun l hl => ?_⟩
      have hpd : p2 ≠ d := fun e => by rw [e, upd_same] at hp2; cases hp2
      have hld : l ≠ d := fun e => by rw [e, upd_ne (fun z => hpd z.symm), upd_same] at hl; cases hl
      refine ⟨_, rfl, by rw [upd_ne (fun z => hld z.symm), upd_ne (fun z => hpd z.symm), upd_same], bagK l 0 0 st, rfl, (by show 4 ≤ 15; decide), ?_⟩
      rw [merge_bag]
      refine k d _ (fun b o e => ?_) hd0 ⟨l, ns, _, upd_same, ⟨0, 0, st, rfl, ⟨Nat.zero_le _, Int.le_refl _, s0, s1⟩⟩, by rw [upd_ne hld, upd_same], hns⟩
      have e1 := s1' _ _ e
      have nb : b ≠ d := ne_of_none e1 hd
      have e2 : (upd (upd H p (.lst (ns.map V.int))) d (.dK [])) b = some o := by rw [upd_ne nb]; exact e1
      have e3 : (upd (upd (upd H p (.lst (ns.map V.int))) d (.dK [])) p2 (.lst (ns.map V.int))) b = some o := by rw [upd_ne (ne_of_none e2 hp2)]; exact e2
      rw [upd_ne nb, upd_ne (ne_of_none e3 hl)]
      exact e3
end
/-! ### rows of sizes -/
theorem kLH : ¬ (("low" : Str) = "high") := by decide +kernel
/-- the end of a row: none, or an integer -/
def hV : Option Int → V
  | none => .non
  | some i => .int i
def szF (l : Int) (o : Option Int) : List (Str × V) := putF "high" (hV o) (putF "low" (.int l) [])
theorem szF_low (l : Int) (o : Option Int) : (szF l o).lookup ("low" : Str) = some (.int l) := by
  unfold szF
  rw [lookup_putF, if_neg kLH, lookup_putF, if_pos rfl]
theorem szF_high (l : Int) (o : Option Int) : (szF l o).lookup ("high" : Str) = some (hV o) := by
  unfold szF
  rw [lookup_putF, if_pos rfl]
theorem kit_ty_own {K : PySem.W.Frag} {C : Addr} {T : String} {b : Bool} (c : ClsF K C) (h : PySem.W.subIn K (.type T) (.ref C) = some b) : PySem.W.kitOne K (.type T) (.ref C) = some b :=
  kit_own c h (Bool.eq_false_iff.mpr fun q => by cases beq_iff_eq.mp q)
/-- a row of sizes stands at p -/
def SzAt (H : Hp) (C p : Addr) (l : Int) (o : Option Int) : Prop := ∃ dx, H p = some (.ins C dx (szF l o))
theorem SzAt.same {H H' : Hp} {C p : Addr} {l : Int} {o : Option Int} (h : SzAt H C p l o) (e : Same H H') : SzAt H' C p l o := h.elim fun dx z => ⟨dx, e _ _ z⟩
theorem SzAt.ins {H : Hp} {C p : Addr} {l : Int} {o : Option Int} (h : SzAt H C p l o) : InsAt H p C := h.elim fun dx z => ⟨dx, _, z⟩
/-- no least size -/
def Low (K : PySem.W.Frag) (H : Hp) (v : V) : Prop := NoInt K H v ∨ ∃ i : Int, v = .int i ∧ i < 1
/-- no greatest size behind l -/
def BadH (K : PySem.W.Frag) (H : Hp) (l : Int) (v : V) : Prop := (v ≠ .non ∧ NoInt K H v) ∨ ∃ i : Int, v = .int i ∧ ¬ (l ≤ i ∧ (i - l) % 2 = 0)
theorem scal_hV (o o' : Option Int) : scal (hV o) (hV o') = true := by cases o <;> cases o' <;> rfl
theorem hV_inj {o o' : Option Int} (h : hV o = hV o') : o = o' := by
  cases o <;> cases o'
  · rfl
  · cases h
  · cases h
  · cases h
    rfl
theorem dec_hV (o o' : Option Int) : decide (hV o = hV o') = decide (o = o') := by
  by_cases e : o = o'
  · rw [decide_eq_true e, decide_eq_true (by rw [e])]
  · rw [decide_eq_false e, decide_eq_false fun z => e (hV_inj z)]
def OkH (l : Int) (o : Option Int) : Prop := ∀ i, o = some i → l ≤ i ∧ (i - l) % 2 = 0
def spSInit (K : PySem.W.Frag) (C B : Addr) : Sp := fun vs H Q E => ∃ (p dx : Addr) (v1 v2 : V), vs = [.ref p, v1, v2] ∧ H p = some (.ins C dx []) ∧
  ((Low K H v1 ∧ Out1 B "part" H E (.str "low")) ∨ ∃ l : Int, v1 = .int l ∧ 1 ≤ l ∧
    ((BadH K H l v2 ∧ Out1 B "part" H E (.str "high")) ∨ ∃ o, v2 = hV o ∧ OkH l o ∧ Q .non (upd H p (.ins C dx (szF l o)))))
/-- whether a row has a size -/
def upTo : Option Int → Int → Bool
  | none, _ => true
  | some h, n => decide (n ≤ h)
def inS (l : Int) (o : Option Int) (n : Int) : Bool := decide (l ≤ n) && (decide ((n - l) % 2 = 0) && upTo o n)
theorem inS_up {l n : Int} {o : Option Int} (h1 : l ≤ n) (h2 : (n - l) % 2 = 0) : inS l o n = upTo o n := by
  unfold inS
  rw [decide_eq_true h1, decide_eq_true h2]
  rfl
def NoTy (K : PySem.W.Frag) (H : Hp) (v : V) : Prop := ∃ T, TyB K H v T ∧ T ≠ "int"
def spCont (K : PySem.W.Frag) (C : Addr) : Sp := fun vs H Q _ => ∃ (p : Addr) (l : Int) (o : Option Int) (v : V), vs = [.ref p, v] ∧ SzAt H C p l o ∧ ((NoTy K H v ∧ Q (.bl false) H) ∨ ∃ n : Int, v = .int n ∧ Q (.bl (inS l o n)) H)
def spSEq (C : Addr) : Sp := fun vs H Q _ => ∃ (p : Addr) (l : Int) (o : Option Int) (v : V), vs = [.ref p, v] ∧ SzAt H C p l o ∧
  ((∃ (q : Addr) (l' : Int) (o' : Option Int), v = .ref q ∧ SzAt H C q l' o' ∧ Q (.bl (decide (l = l' ∧ o = o'))) H) ∨ ∃ (t : Addr) (xs : List V), v = .ref t ∧ H t = some (.tup xs) ∧ Q (.bl false) H)
/-- the text of a row -/
def txS (l : Int) : Option Int → Str
  | none => Str.ofString (toString l) ++ ".."
  | some h => if h = l then Str.ofString (toString l) else Str.ofString (toString l) ++ ".." ++ Str.ofString (toString h)
def Fit (i : Int) : Prop := i.natAbs < 2 ^ 150
def FitO (o : Option Int) : Prop := ∀ i, o = some i → Fit i
theorem fit_log {i : Int} (h : Fit i) : i.natAbs.log2 < 1920 := by
  by_cases z : i.natAbs = 0
  · rw [z]; decide
  · exact Nat.lt_of_lt_of_le ((Nat.log2_lt z).2 h) (by decide)
theorem fit_len {i : Int} (h : Fit i) : (Str.ofString (toString i)).length ≤ 151 := by
  rw [PySem.ofString_length]
  refine int_text_length_le (k := 150) (by decide) ?_
  by_cases z : i.natAbs = 0
  · rw [z]; decide
  · exact (Nat.log2_lt z).2 h
theorem len_app (x y : Str) : (x ++ y).length = x.length + y.length := Str.length_append x y
def spSStr (C : Addr) : Sp := fun vs H Q _ => ∃ (p : Addr) (l : Int) (o : Option Int), vs = [.ref p] ∧ SzAt H C p l o ∧ Fit l ∧ FitO o ∧ Q (.str (txS l o)) H
section
variable {P : Program} {w : World} {K : PySem.W.Frag} {mg : Str → Option Value} {base : Heap} {a : Adr}
set_option maxHeartbeats 4000000
theorem ok_badclass (T : Txt K mg a) : ∃ fd, FnOk P w K mg base CX0 1 a.BadClass_init fd ["self", "part"] (spErr1 a.BadClass "part") ∧ Binds K fd ["self", "part"] [] := by
  refine T.d_BadClass_init.okB sc_BadClass_init (fun _ _ _ _ _ _ us hl => match us, hl with | [_, _], _ => rfl) (fun vs H Q E h => by obtain ⟨b, v, rfl, _⟩ := h; rfl) (fun cdv A outer s H vs Q E hr h => ?_)
  obtain ⟨b, v, rfl, hb, k⟩ := h
  exact ⟨_, (pss_one (ps_ost (pv 0) (pv 1))), _, rfl, _, rfl, b, _, rfl, T.e_BadClass.ox, T.a_BadClass_part, .inl ⟨hb, k⟩⟩
theorem ok_intV (T : Txt K mg a) : FnR P w K mg base CX0 1 a.is_int (spIntV K) := by
  refine T.d_is_int.ok sc_is_int (fun _ _ _ _ _ _ us hl => match us, hl with | [_], _ => rfl) (fun vs H Q E h => by obtain ⟨v, rfl, _⟩ := h; rfl) (fun cdv A outer s H vs Q E hr h => ?_)
  obtain ⟨v, rfl, h⟩ := h
  refine ⟨_, (pss_one (ps_ret (pe_and (pe_callB call_isi (by rfl) T.n_isinstance (by decide +kernel) (pa_cons (pv 0) (pa_cons (pe_bltn (v := .ty "int") (by rfl) T.n_int (by decide +kernel) rfl) pa_nil))) (pe_one (pe_not (pe_callB call_isi (by rfl) T.n_isinstance (by decide +kernel) (pa_cons (pv 0) (pa_cons (pe_bltn (v := .ty "bool") (by rfl) T.n_bool (by decide +kernel) rfl) pa_nil)))))))), ?_⟩
  rcases h with ⟨i, rfl, k⟩ | ⟨⟨b, rfl⟩ | ⟨t, ht, hk⟩, k⟩
  · exact ⟨_, rfl, _, _, _, _, _, rfl, .ty _, .base (.int _), kit_int_int, true, rfl, _, rfl, _, _, _, _, _, rfl, .ty _, .base (.int _), kit_int_bool, false, rfl, k⟩
  · exact ⟨_, rfl, _, _, _, _, _, rfl, .ty _, .base (.bl _), kit_bool_int, true, rfl, _, rfl, _, _, _, _, _, rfl, .ty _, .base (.bl _), kit_self, true, rfl, k⟩
  · exact ⟨_, rfl, _, _, _, _, _, rfl, .ty _, ht, hk, false, rfl, k⟩
theorem ok_s_fn (T : Txt K mg a) {fd : FuncData} (F : FunD K "__init__" "Sizes.__init__" (defArgs s_Sizes_init) (defBody s_Sizes_init) (defScope s_Sizes_init) [.non] [] a.Sizes_init fd) : FnOk P w K mg base (CX P w) 3 a.Sizes_init fd ["self", "low", "high"] (spSInit K a.Sizes a.BadClass) := by
  have G_is_int : FnR P w K mg base CX0 1 a.is_int (spIntV K) := ok_intV T
  obtain ⟨_, O_BadClass, B_BadClass⟩ := ok_badclass (P := P) (w := w) (base := base) T
  refine F.ok sc_Sizes_init (fun vs H Q E h => by obtain ⟨p, dx, v1, v2, rfl, _⟩ := h; rfl) (fun cdv A outer s H vs Q E hr h => ?_)
  obtain ⟨p, dx, v1, v2, rfl, hp, h⟩ := h
  refine ⟨_, (pss_cons (ps_if (PW.pt (pw_or (pt_not (pt_val (pe_callR G_is_int (hr.mono (by decide)) T.m_is_int T.k_is_int pass0 (pa_cons (pv 1) pa_nil)))) (pw_or1 (pt_cmpR op_lt (pv 1) pe_int (nomark _)))))
          (pss_one (ps_raise rfl (takes_of rfl rfl rfl rfl) (pmk_oex T.e_BadClass.ox T.e_BadClass.iC T.e_BadClass.tI O_BadClass (hr.mono (by decide)) B_BadClass .nil pass0 rfl T.m_BadClass (pa_cons pe_str pa_nil))))
          pss_nil)
      (pss_cons (ps_if (PW.pt (pw_and (pt_cmpR op_notN (pv 2) pe_non (nomark _)) (pw_and1 (pt_not (PW.pt (pw_and (pt_val (pe_callR G_is_int (hr.mono (by decide)) T.m_is_int T.k_is_int pass0 (pa_cons (pv 2) pa_nil))) (pw_and (pt_cmpR op_ge (pv 2) (pv 1) (nomark _)) (pw_and1 (pt_cmpR op_eq (pe_op op_mod (pe_op op_sub (pv 2) (pv 1)) pe_int) pe_int (nomark _))))))))))
          (pss_one (ps_raise rfl (takes_of rfl rfl rfl rfl) (pmk_oex T.e_BadClass.ox T.e_BadClass.iC T.e_BadClass.tI O_BadClass (hr.mono (by decide)) B_BadClass .nil pass0 rfl T.m_BadClass (pa_cons pe_str pa_nil))))
          pss_nil)
      (pss_cons (ps_fld (pv 0) (pv 1) rfl)
      (pss_one (ps_fld (pv 0) (pv 2) rfl))))), ?_⟩
  rcases h with ⟨hn | ⟨i, rfl, hi⟩, k⟩ | ⟨l, rfl, hl, h⟩
  · exact ⟨_, rfl, _, rfl, .inr ⟨hn, false, rfl, iteT (iteT (err1_made k))⟩⟩
  · exact ⟨_, rfl, _, rfl, .inl ⟨i, rfl, true, rfl, iteF ⟨_, rfl, _, _, rfl, rfl, _, rfl, ite2 (fun _ => err1_made k) fun z => absurd (decide_eq_true hi) z⟩⟩⟩
  refine ⟨_, rfl, _, rfl, .inl ⟨l, rfl, true, rfl, iteF ⟨_, rfl, _, _, rfl, rfl, _, rfl, ite2 (fun z => by have := of_decide_eq_true z; omega) fun _ => ?_⟩⟩⟩
  rcases h with ⟨⟨h0, hn⟩ | ⟨i, rfl, hi⟩, k⟩ | ⟨o, rfl, ho, k⟩
  · exact ⟨_, rfl, rfl, _, rfl, ite2 (fun _ => ⟨_, rfl, _, rfl, .inr ⟨hn, false, rfl, iteF (iteT (err1_made k))⟩⟩) fun z => absurd (by rw [decide_eq_false h0]; rfl) z⟩
  · refine ⟨_, rfl, rfl, _, rfl, ite2 (fun _ => ⟨_, rfl, _, rfl, .inl ⟨i, rfl, true, rfl, iteT ⟨_, rfl, _, rfl, _, _, rfl, rfl, _, rfl, ite2 (fun z1 => ?_) fun _ => iteT (err1_made k)⟩⟩⟩) fun z => absurd (by rw [decide_eq_false (fun y => by cases y)]; rfl) z⟩
    exact ⟨_, rfl, _, rfl, _, _, rfl, rfl, _, _, rfl, rfl, (by show (0 : Int) < 2; decide), rfl, _, rfl, ite2 (fun _ => err1_made k) fun z => absurd (by
      have z1 := of_decide_eq_true z1
      rw [decide_eq_false (fun y => by
        have y := V.int.inj y
        exact hi ⟨z1, y⟩)]
      rfl) z⟩
  · have fin : ∀ v, v = hV o → tSeq (sFld K (tVar 0) (tVar 1) "low") (sFld K (tVar 0) (tVar 2) "high") { nx := fun x H' => Q V.non H', rt := Q } (L2.start ["self", "low", "high"] [V.ref p, .int l, v]) H := fun v e => by
      subst e
      refine ⟨_, rfl, _, rfl, p, _, dx, [], rfl, hp, T.c_Sizes.cl, T.a_Sizes_low, (by show 0 < 1000; decide), ?_⟩
      refine ⟨_, rfl, _, rfl, p, _, dx, _, rfl, upd_same, T.c_Sizes.cl, T.a_Sizes_high, (by show 1 < 1000; decide), ?_⟩
      rw [upd_upd]
      exact k
    cases o with
    | none => exact ⟨_, rfl, rfl, _, rfl, ite2 (fun z => by cases z) fun _ => fin _ rfl⟩
    | some i =>
      obtain ⟨o1, o2⟩ := ho i rfl
      refine ⟨_, rfl, rfl, _, rfl, ite2 (fun _ => ⟨_, rfl, _, rfl, .inl ⟨i, rfl, true, rfl, iteT ⟨_, rfl, _, rfl, _, _, rfl, rfl, _, rfl, ite2 (fun z1 => ?_) fun z => absurd (decide_eq_true o1) z⟩⟩⟩) fun z => absurd (by rfl) z⟩
      exact ⟨_, rfl, _, rfl, _, _, rfl, rfl, _, _, rfl, rfl, (by show (0 : Int) < 2; decide), rfl, _, rfl, ite2 (fun z => by
        have z : (!decide (V.int ((i - l) % 2) = V.int 0)) = true := z
        rw [o2] at z
        cases z) fun _ => fin _ rfl⟩
theorem ok_s_init (T : Txt K mg a) : FnR P w K mg base (CX P w) 3 a.Sizes_init (spSInit K a.Sizes a.BadClass) := by
  obtain ⟨fd, F⟩ := id T.d_Sizes_init
  refine (posR F (ok_s_fn T F) 3 1 (by simp) rfl (fun T kV doc pm an cdv ct us its hu hi => match us, its, hu, hi with | [_, _, _], [_], _, _ => ⟨_, rfl, rfl⟩)).imp fun vs H Q E h => ?_
  show spSInit K a.Sizes a.BadClass (vs ++ []) H Q E
  rw [List.append_nil]
  exact h
theorem ok_s_init1 (T : Txt K mg a) : FnR P w K mg base (CX P w) 3 a.Sizes_init (fun vs H Q E => spSInit K a.Sizes a.BadClass (vs ++ [.non]) H Q E) := by
  obtain ⟨fd, F⟩ := id T.d_Sizes_init
  exact posR F (ok_s_fn T F) 2 0 (by simp) rfl (fun T kV doc pm an cdv ct us its hu hi => match us, its, hu, hi with | [_, _], [_], _, _ => ⟨_, rfl, rfl⟩)
/-- Sizes(high=.., low=..) -/
def kwG {α : Type} (us _ : List α) : List α → List α
  | [h, l] => us ++ [l, h]
  | _ => us
theorem kb_s_init {fd : FuncData} (F : FunD K "__init__" "Sizes.__init__" (defArgs s_Sizes_init) (defBody s_Sizes_init) (defScope s_Sizes_init) [.non] [] a.Sizes_init fd) :
    ∃ its, KBn K fd ["self", "low", "high"] 1 ["high", "low"] (fun us ws => kwG us its ws) fun vs zs => kwG vs [.non] zs :=
  kbnD F 1 ["high", "low"] kwG (by simp) (fun {vs ds zs us its ws} r1 _ r3 => by
    cases r3 with
    | nil => exact r1
    | cons h1 r3 => cases r3 with
      | nil => exact r1
      | cons h2 r3 => cases r3 with
        | nil => exact r1.append (.cons h2 (.cons h1 .nil))
        | cons h3 r3 => exact r1)
    (fun T kV doc pm an cdv ct us its ws hu hi hw => match us, its, ws, hu, hi, hw with | [_], [_], [_, _], _, _, _ => ⟨_, rfl, rfl⟩)
theorem ok_s_cont (T : Txt K mg a) : FnR P w K mg base CX0 3 a.Sizes_contains (spCont K a.Sizes) := by
  refine FnR.mono (j := 1) ?_ (by decide)
  refine T.d_Sizes_contains.ok sc_Sizes_contains (fun _ _ _ _ _ _ us hl => match us, hl with | [_, _], _ => rfl) (fun vs H Q E h => by obtain ⟨p, l, o, v, rfl, _⟩ := h; rfl) (fun cdv A outer s H vs Q E hr h => ?_)
  obtain ⟨p, l, o, v, rfl, ⟨dx, hp⟩, h⟩ := h
  refine ⟨_, (pss_cons (ps_if (PW.pt (pw_or (pt_cmpR op_notTyB (pe_callTy call_type1 (by rfl) T.n_type (by decide +kernel) (pa_cons (pv 1) pa_nil)) (pe_bltn (v := .ty "int") (by rfl) T.n_int (by decide +kernel) rfl) (nomark _)) (pw_or1 (pt_cmpR op_lt (pv 1) (pe_fld (pv 0) rfl) (nomark _)))))
          (pss_one (ps_ret pe_bl))
          pss_nil)
      (pss_cons (ps_if (PW.pt (pw_and (pt_cmpR op_notN (pe_fld (pv 0) rfl) pe_non (nomark _)) (pw_and1 (pt_cmpR op_gt (pv 1) (pe_fld (pv 0) rfl) (nomark _)))))
          (pss_one (ps_ret pe_bl))
          pss_nil)
      (pss_one (ps_ret (pe_cmpR op_eq (pe_op op_mod (pe_op op_sub (pv 1) (pe_fld (pv 0) rfl)) pe_int) pe_int (nomark _)))))), ?_⟩
  rcases h with ⟨⟨ty, hty, hne⟩, k⟩ | ⟨n, rfl, k⟩
  · refine ⟨_, rfl, _, ty, rfl, hty, _, _, rfl, rfl, _, rfl, ?_⟩
    rw [decide_eq_false hne]
    exact iteT (iteT k)
  · refine ⟨_, rfl, _, _, rfl, .int n, _, _, rfl, rfl, _, rfl, ?_⟩
    rw [decide_eq_true rfl]
    refine iteF ?_
    refine ⟨_, rfl, _, rfl, p, _, dx, _, _, rfl, hp, T.c_Sizes.cl, T.a_Sizes_low, szF_low _ _, _, _, rfl, rfl, _, rfl, ite2 (fun z => ?_) fun z => ?_⟩
    · have z := of_decide_eq_true z
      rw [show inS l o n = false from by unfold inS; rw [decide_eq_false (by omega : ¬ l ≤ n)]; rfl] at k
      exact k
    · have z1 : l ≤ n := by
        by_cases y : n < l
        · exact absurd (decide_eq_true y) z
        · omega
      refine ⟨_, rfl, p, _, dx, _, _, rfl, hp, T.c_Sizes.cl, T.a_Sizes_high, szF_high _ _, rfl, _, rfl, ?_⟩
      have fin : ∀ m : Bool, inS l o n = m → (decide ((n - l) % 2 = 0)) = m → Q (.bl (decide (V.int ((n - l) % 2) = V.int 0))) H := fun m e1 e2 => by
        rw [e1, ← e2] at k
        rw [show decide (V.int ((n - l) % 2) = V.int 0) = decide ((n - l) % 2 = 0) from decide_eq_decide.mpr ⟨fun x => V.int.inj x, fun x => congrArg V.int x⟩]
        exact k
      cases o with
      | none =>
        refine iteF ?_
        refine iteF ?_
        refine ⟨_, rfl, _, rfl, p, _, dx, _, _, rfl, hp, T.c_Sizes.cl, T.a_Sizes_low, szF_low _ _, _, _, rfl, rfl, _, _, rfl, rfl, (by show (0 : Int) < 2; decide), rfl, ?_⟩
        exact fin _ (by unfold inS; rw [decide_eq_true z1, show upTo none n = true from rfl]; simp) rfl
      | some h =>
        refine iteT ?_
        refine ⟨_, rfl, _, rfl, p, _, dx, _, _, rfl, hp, T.c_Sizes.cl, T.a_Sizes_high, szF_high _ _, _, _, rfl, rfl, _, rfl, ite2 (fun z => ?_) fun z => ?_⟩
        · have z := of_decide_eq_true z
          rw [show inS l (some h) n = false from by unfold inS; rw [show upTo (some h) n = false from decide_eq_false (by omega)]; simp] at k
          exact k
        · have z2 : n ≤ h := by
            by_cases y : h < n
            · exact absurd (decide_eq_true y) z
            · omega
          refine ⟨_, rfl, _, rfl, p, _, dx, _, _, rfl, hp, T.c_Sizes.cl, T.a_Sizes_low, szF_low _ _, _, _, rfl, rfl, _, _, rfl, rfl, (by show (0 : Int) < 2; decide), rfl, ?_⟩
          exact fin _ (by unfold inS; rw [decide_eq_true z1, show upTo (some h) n = true from decide_eq_true z2]; simp) rfl
theorem ok_s_eq (T : Txt K mg a) : FnR P w K mg base CX0 3 a.Sizes_eq (spSEq a.Sizes) := by
  refine T.d_Sizes_eq.ok sc_Sizes_eq (fun _ _ _ _ _ _ us hl => match us, hl with | [_, _], _ => rfl) (fun vs H Q E h => by obtain ⟨p, l, o, v, rfl, _⟩ := h; rfl) (fun cdv A outer s H vs Q E hr h => ?_)
  obtain ⟨p, l, o, v, rfl, ⟨dx, hp⟩, h⟩ := h
  refine ⟨_, (pss_one (ps_ret (pe_and (pe_callB call_isi (by rfl) T.n_isinstance (by decide +kernel) (pa_cons (pv 1) (pa_cons (pe_glob (v := .ref a.Sizes) rfl T.m_Sizes rfl) pa_nil))) (pe_and (pe_cmpR op_eq (pe_fld (pv 0) rfl) (pe_fld (pv 1) rfl) (nomark _)) (pe_one (pe_cmpR op_eq (pe_fld (pv 0) rfl) (pe_fld (pv 1) rfl) (nomark _))))))), ?_⟩
  rcases h with ⟨q, l', o', rfl, ⟨dy, hq⟩, k⟩ | ⟨t, xs, rfl, ht, k⟩
  · refine ⟨_, rfl, _, _, _, _, _, rfl, .own _, T.c_Sizes.tyOf hq, kit_self, true, rfl, iteT ?_⟩
    refine ⟨_, rfl, p, _, dx, _, _, rfl, hp, T.c_Sizes.cl, T.a_Sizes_low, szF_low _ _, _, rfl, q, _, dy, _, _, rfl, hq, T.c_Sizes.cl, T.a_Sizes_low, szF_low _ _, rfl, _, rfl, ite2 (fun z => ?_) fun z => ?_⟩
    · have z := V.int.inj (of_decide_eq_true z)
      refine ⟨_, rfl, p, _, dx, _, _, rfl, hp, T.c_Sizes.cl, T.a_Sizes_high, szF_high _ _, _, rfl, q, _, dy, _, _, rfl, hq, T.c_Sizes.cl, T.a_Sizes_high, szF_high _ _, scal_hV o o', ?_⟩
      rw [dec_hV, show decide (o = o') = decide (l = l' ∧ o = o') from by simp [z]]
      exact k
    · rw [show decide (l = l' ∧ o = o') = false from decide_eq_false fun y => z (decide_eq_true (by rw [y.1]))] at k
      exact k
  · exact ⟨_, rfl, _, _, _, _, _, rfl, .own _, .base (.tup ht), kit_ty_own T.c_Sizes T.s_Sizes_tuple, false, rfl, iteF k⟩
theorem ok_s_str (T : Txt K mg a) : FnR P w K mg base CX0 1 a.Sizes_str (spSStr a.Sizes) := by
  refine T.d_Sizes_str.ok sc_Sizes_str (fun _ _ _ _ _ _ us hl => match us, hl with | [_], _ => rfl) (fun vs H Q E h => by obtain ⟨p, l, o, rfl, _⟩ := h; rfl) (fun cdv A outer s H vs Q E hr h => ?_)
  obtain ⟨p, l, o, rfl, ⟨dx, hp⟩, hl, ho, k⟩ := h
  refine ⟨_, (pss_cons (ps_if (pt_cmpR op_isN (pe_fld (pv 0) rfl) pe_non (nomark _))
          (pss_one (ps_ret (pe_joined (.cons (pe_fmt (pe_fld (pv 0) rfl)) (.cons pe_str .nil)))))
          pss_nil)
      (pss_cons (ps_if (pt_cmpR op_eq (pe_fld (pv 0) rfl) (pe_fld (pv 0) rfl) (nomark _))
          (pss_one (ps_ret (pe_callTy call_str_int (by rfl) T.n_str (by decide +kernel) (pa_cons (pe_fld (pv 0) rfl) pa_nil))))
          pss_nil)
      (pss_one (ps_ret (pe_joined (.cons (pe_fmt (pe_fld (pv 0) rfl)) (.cons pe_str (.cons (pe_fmt (pe_fld (pv 0) rfl)) .nil)))))))), ?_⟩
  have l1 := fit_log hl
  have t1 := fit_len hl
  refine ⟨_, rfl, p, _, dx, _, _, rfl, hp, T.c_Sizes.cl, T.a_Sizes_high, szF_high _ _, ?_⟩
  refine ⟨rfl, _, rfl, ?_⟩
  cases o with
  | none =>
    refine iteT ?_
    refine ⟨_, rfl, p, _, dx, _, _, rfl, hp, T.c_Sizes.cl, T.a_Sizes_low, szF_low _ _, ?_⟩
    refine .inr ⟨l, rfl, l1, _, rfl, ?_, _, rfl, ?_, ?_⟩
    · rw [Str.empty_append]
      exact Nat.le_trans t1 (by decide)
    · rw [Str.empty_append, len_app]
      exact Nat.le_trans (Nat.add_le_add_right t1 _) (by decide +kernel)
    · rw [Str.empty_append]
      exact k
  | some h =>
    have hh := ho h rfl
    refine iteF ?_
    refine ⟨_, rfl, p, _, dx, _, _, rfl, hp, T.c_Sizes.cl, T.a_Sizes_high, szF_high _ _, ?_⟩
    refine ⟨_, rfl, p, _, dx, _, _, rfl, hp, T.c_Sizes.cl, T.a_Sizes_low, szF_low _ _, ?_⟩
    refine ⟨rfl, _, rfl, ite2 (fun z => ?_) fun z => ?_⟩
    · have z := V.int.inj (of_decide_eq_true z)
      rw [show txS l (some h) = Str.ofString (toString l) from if_pos z] at k
      refine ⟨_, rfl, p, _, dx, _, _, rfl, hp, T.c_Sizes.cl, T.a_Sizes_low, szF_low _ _, ?_⟩
      exact ⟨l, rfl, l1, k⟩
    · rw [show txS l (some h) = Str.ofString (toString l) ++ ".." ++ Str.ofString (toString h) from if_neg fun y => z (decide_eq_true (by rw [y]; rfl))] at k
      refine ⟨_, rfl, p, _, dx, _, _, rfl, hp, T.c_Sizes.cl, T.a_Sizes_low, szF_low _ _, ?_⟩
      refine .inr ⟨l, rfl, l1, _, rfl, ?_, _, rfl, ?_, ?_⟩
      rotate_left 2
      refine ⟨_, rfl, p, _, dx, _, _, rfl, hp, T.c_Sizes.cl, T.a_Sizes_high, szF_high _ _, ?_⟩
      refine .inr ⟨h, rfl, fit_log hh, _, rfl, ?_, ?_⟩
      rotate_left 2
      · rw [Str.empty_append]
        exact Nat.le_trans t1 (by decide)
      · rw [Str.empty_append, len_app]
        exact Nat.le_trans (Nat.add_le_add_right t1 _) (by decide +kernel)
      · rw [Str.empty_append, len_app, len_app]
        exact Nat.le_trans (Nat.add_le_add (Nat.add_le_add_right t1 _) (fit_len hh)) (by decide +kernel)
      · rw [Str.empty_append]
        exact k
end
end Pf
end
section
namespace Pf
open PySem PySem.Spec PyProof.Rows L2 Ow StX
/-! ### a lambda that is tried, the drawn values, what is due -/
/-- what `_law_heard` makes of what it asks -/
def TTh (BC : Addr) (tl : XK → Hp → VK → Prop) (H : Hp) (Q : VK) : Prop :=
  tl (fun cls d H1 => cls = .ref BC ∧ ∃ (dd : Addr) (fs : List (Str × V)) (v : V), d = some dd ∧ H1 dd = some (.xd fs) ∧ fs.lookup ("part" : Str) = some v ∧ ∀ p, H1 p = none → Q (.ref p) (upd H1 p (.tup [.str "class", v])))
    H (fun v H1 => [V.str "told", v].length ≤ sizeLine ∧ ∀ p, H1 p = none → Q (.ref p) (upd H1 p (.tup [.str "told", v])))
theorem heard_gives {X : Cx} {a : Adr} {g : Addr} {cdv : Value} {q : Str} (T : Txt X.K X.mg a) : LamX.GivesTo X ["_law_ask", "error"] "_law_heard" (defScope s__law_heard) g cdv (defBody s__law_heard) "_law_ask" q (TTh a.BadClass) := by
  intro f c' s H Q tl act hc h
  refine ⟨_, pss_one (ps_try_as (i := 1) rfl rfl sc__law_heard.nd rfl rfl ⟨rfl, by decide, .inl T.m_HoldError⟩ LamX.takes0 (fun W pn xe tk _ => ret_told fun E hW => act W pn xe E _ _ tk hW) (fun b oe cls d pn hz hf => pss_len 2 (by rfl)
      (pss_one (ps_ret (pe_ifExp (pt_val (pe_callB (call_isEX hz hf) (by rfl) T.n_isinstance (by decide +kernel) (pa_cons (pv 1) (pa_cons (pe_glob (v := .ref a.BadClass) (by rfl) T.m_BadClass (by rfl)) pa_nil))))
        (pe_tup (pa_cons pe_str (pa_cons (pe_xf T.xf_BadClass T.a_BadClass_part hz hf (pv 1)) pa_nil)))
        (pe_tup (pa_cons pe_str (pa_cons pe_non pa_nil)))))))), ?_⟩
  refine ⟨_, fun cls d σ' H' hE => ?_, rfl, hc, h⟩
  obtain ⟨rfl, dd, fs, v, rfl, hdd, hv, k⟩ := hE
  refine ⟨true, T.xm_BadClass_HoldError, fun _ x hx hlen => ?_, fun z => by cases z⟩
  have hs : (σ'.set 1 (some (V.ref x)))[1]? = some (some (V.ref x)) := by
    rw [List.length_set] at hlen
    rw [List.getElem?_set_self (by rw [hlen]; decide)]
  refine ⟨_, hs, .ref a.BadClass, .ref a.BadClass, true, a.BadClass, dd, fs, rfl, rfl, T.xc_BadClass, T.xi_BadClass, rfl, hdd, fun u r => by cases r; rfl, kit_self, _, rfl, iteT ?_⟩
  exact ⟨_, hs, rfl, rfl, dd, fs, v, rfl, hdd, hv, (by show 2 ≤ sizeLine; decide), k⟩
/-- _law_heard(lambda: body) -/
theorem pe_heard {X : Cx} {a : Adr} {c T : Addr} {k : Nat} {TL : List (Addr × Str)} {params : Arguments} {body : Expr} {scope : Scope} {t : XK → TE} {p lpos pos : Pos} (D : Txt X.K X.mg a) (hg : Gl X "_law_heard") (TB : LamX.TabB X.base X.mg c T) (hcode : X.env.code = .ref c) (hmT : (T, X.env.qual ++ Str.ofString "<lambda>") ∈ TL)
    (hu : ∀ p : Addr × Str, p ∈ TL → p.1 = T → p.2 = X.env.qual ++ Str.ofString "<lambda>") (hr : Room (k + 2) X.A) (L : LamX.LamS X.env.scope scope) (hdef : defaultsOf params X.env = ([], []))
    (hbind : ∀ (q : Str) (cl : List (Str × Addr)) (pm cv ctv : Value), bindArgs (PySem.W.kla_fn (Str.ofString "<lambda>") q params body scope cl pm cv ctv) ⟨[], []⟩ = pure [])
    (hbody : ∀ (A : Around) (outer : List Env) (s : Shared) (H : Hp) (E : XK) (f c' : Addr), Room k (A.deeper (LamX.lamEnv X scope s.heap.objs.size f c')) → PE (LamX.lamCx X A outer s H E scope f c') body (t E)) :
    PE X (.Call (.Name "_law_heard" p) [.Lambda params body scope lpos] [] pos) (LamX.tLam TL (TTh a.BadClass) t) := by
  obtain ⟨fd, FD⟩ := id D.d__law_heard
  have hb : Binds X.K fd ["_law_ask"] [] := FD.bindsN (fun _ _ _ _ _ _ us hl => match us, hl with | [_], _ => rfl)
  obtain ⟨oc, od, dV, kV, doc, pm, an, cdv, ct, osl, rfl, lk, hcd, _, _⟩ := FD.ex
  exact LamX.pe_lamcall hg D.m__law_heard D.k__law_heard lk hcd hb sc__law_heard rfl (Or.inl rfl) (heard_gives D) TB hcode hmT hu hr L hdef hbind hbody
def SameBut (d : Addr) (H H' : Hp) : Prop := ∀ b o, b ≠ d → H b = some o → H' b = some o
theorem SameBut.of {d : Addr} {H H' : Hp} (s : Same H H') : SameBut d H H' := fun b o _ e => s b o e
theorem SameBut.trans {d : Addr} {H H1 H2 : Hp} (x : SameBut d H H1) (y : SameBut d H1 H2) : SameBut d H H2 := fun b o n e => y b o n (x b o n e)
theorem SameBut.upd {d : Addr} {H : Hp} {o : HO} : SameBut d H (upd H d o) := fun b u n e => by rw [upd_ne n]; exact e
theorem same_new {H : Hp} {p : Addr} {o : HO} (h : H p = none) : Same H (upd H p o) := fun b u e => by rw [upd_ne (ne_of_none e h)]; exact e
theorem atI_any {xs : List V} {z : Int} (h0 : 0 ≤ z) (h1 : z < xs.length) : ∃ v, v ∈ xs ∧ atI xs z = some v := by
  obtain ⟨k, rfl⟩ : ∃ k : Nat, z = (k : Int) := ⟨z.toNat, by omega⟩
  have hk : k < xs.length := by omega
  exact ⟨xs[k], List.getElem_mem hk, atI_nat (List.getElem?_eq_getElem hk)⟩
/-- a drawn value -/
def Val (K : PySem.W.Frag) (H : Hp) (v : V) : Prop := NoInt K H v ∨ ∃ i : Int, v = .int i ∧ i.natAbs < 2 ^ 120
def spVal (K : PySem.W.Frag) : Sp := fun vs H Q _ => ∃ (d : Addr) (b : Int), vs = [.ref d, .int b] ∧ Bag H d ∧ b.natAbs < 2 ^ 110 ∧ ∀ (v : V) (H' : Hp), SameBut d H H' → Bag H' d → Val K H' v → Q v H'
def spIsSz (K : PySem.W.Frag) : Sp := fun vs H Q _ => ∃ v, vs = [v] ∧ ((∃ i : Int, v = .int i ∧ Q (.bl (decide (0 < i))) H) ∨ (NoInt K H v ∧ Q (.bl false) H))
def spDue (K : PySem.W.Frag) : Sp := fun vs H Q _ => ∃ v1 v2, vs = [v1, v2] ∧ ((Low K H v1 ∧ Q (.str "low") H) ∨ ∃ l : Int, v1 = .int l ∧ 1 ≤ l ∧ Fit l ∧ ((BadH K H l v2 ∧ (∀ i, v2 = .int i → Fit i) ∧ Q (.str "high") H) ∨ ∃ o, v2 = hV o ∧ FitO o ∧ OkH l o ∧ Q .non H))
def spWritten : Sp := fun vs H Q _ => ∃ (l : Int) (o : Option Int), vs = [.int l, hV o] ∧ Fit l ∧ FitO o ∧ Q (.str (txS l o)) H
section
variable {P : Program} {w : World} {K : PySem.W.Frag} {mg : Str → Option Value} {base : Heap} {a : Adr}
set_option maxHeartbeats 4000000
theorem ok_issz (T : Txt K mg a) : FnR P w K mg base CX0 1 a._law_is_size (spIsSz K) := by
  refine T.d__law_is_size.ok sc__law_is_size (fun _ _ _ _ _ _ us hl => match us, hl with | [_], _ => rfl) (fun vs H Q E h => by obtain ⟨v, rfl, _⟩ := h; rfl) (fun cdv A outer s H vs Q E hr h => ?_)
  obtain ⟨v, rfl, h⟩ := h
  refine ⟨_, (pss_one (ps_ret (pe_and (pe_callB call_isi (by rfl) T.n_isinstance (by decide +kernel) (pa_cons (pv 0) (pa_cons (pe_bltn (v := .ty "int") (by rfl) T.n_int (by decide +kernel) rfl) pa_nil))) (pe_and (pe_not (pe_callB call_isi (by rfl) T.n_isinstance (by decide +kernel) (pa_cons (pv 0) (pa_cons (pe_bltn (v := .ty "bool") (by rfl) T.n_bool (by decide +kernel) rfl) pa_nil)))) (pe_one (pe_cmpR op_gt (pv 0) pe_int (nomark _))))))), ?_⟩
  rcases h with ⟨i, rfl, k⟩ | ⟨⟨b, rfl⟩ | ⟨t, ht, hk⟩, k⟩
  · exact ⟨_, rfl, _, _, _, _, _, rfl, .ty _, .base (.int _), kit_int_int, true, rfl, iteT ⟨_, rfl, _, _, _, _, _, rfl, .ty _, .base (.int _), kit_int_bool, false, rfl, _, rfl, iteT ⟨_, rfl, _, _, rfl, rfl, k⟩⟩⟩
  · exact ⟨_, rfl, _, _, _, _, _, rfl, .ty _, .base (.bl _), kit_bool_int, true, rfl, iteT ⟨_, rfl, _, _, _, _, _, rfl, .ty _, .base (.bl _), kit_self, true, rfl, _, rfl, iteF k⟩⟩
  · exact ⟨_, rfl, _, _, _, _, _, rfl, .ty _, ht, hk, false, rfl, iteF k⟩
theorem ok_due (T : Txt K mg a) : FnR P w K mg base CX0 2 a._law_due (spDue K) := by
  have G__law_is_size : FnR P w K mg base CX0 1 a._law_is_size (spIsSz K) := ok_issz T
  refine T.d__law_due.ok sc__law_due (fun _ _ _ _ _ _ us hl => match us, hl with | [_, _], _ => rfl) (fun vs H Q E h => by obtain ⟨v1, v2, rfl, _⟩ := h; rfl) (fun cdv A outer s H vs Q E hr h => ?_)
  obtain ⟨v1, v2, rfl, h⟩ := h
  refine ⟨_, (pss_cons (ps_if (pt_not (pt_val (pe_callR G__law_is_size (hr.mono (by decide)) T.m__law_is_size T.k__law_is_size pass0 (pa_cons (pv 0) pa_nil))))
          (pss_one (ps_ret pe_str))
          pss_nil)
      (pss_cons (ps_if (pt_cmpR op_isN (pv 1) pe_non (nomark _))
          (pss_one (ps_ret pe_non))
          pss_nil)
      (pss_cons (ps_if (PW.pt (pw_or (pt_not (pt_val (pe_callR G__law_is_size (hr.mono (by decide)) T.m__law_is_size T.k__law_is_size pass0 (pa_cons (pv 1) pa_nil)))) (pw_or (pt_cmpR op_lt (pv 1) (pv 0) (nomark _)) (pw_or1 (pt_cmpR op_ne (pe_op op_sub (pe_op op_mul (pe_op op_fdiv (pv 1) pe_int) pe_int) (pv 1)) (pe_op op_sub (pe_op op_mul (pe_op op_fdiv (pv 0) pe_int) pe_int) (pv 0)) (nomark _))))))
          (pss_one (ps_ret pe_str))
          pss_nil)
      (pss_one (ps_ret pe_non))))), ?_⟩
  rcases h with ⟨hn | ⟨i, rfl, hi⟩, k⟩ | ⟨l, rfl, hl, fl, h⟩
  · exact ⟨_, rfl, _, rfl, .inr ⟨hn, false, rfl, iteT k⟩⟩
  · exact ⟨_, rfl, _, rfl, .inl ⟨i, rfl, _, rfl, by rw [decide_eq_false (by omega : ¬ 0 < i)]; exact iteT k⟩⟩
  have big : tSeq (tIfS (tTest (tOp (fun x y H Q => y = V.non ∧ Q (V.bl (decide (x = V.non))) H) (tVar 1) (tC V.non))) (tRet (tC V.non)) tNext)
      (tSeq (tIfS (tOr (tNot (tB (tCallR (spIsSz K) E0 (tCons (tVar 1) tNil)))) (tOr (tTest (tOp (rI0 fun i j => V.bl (decide (i < j))) (tVar 1) (tVar 0)))
        (tTest (tOp rNe (tOp (rI0 fun i j => V.int (i - j)) (tOp (rI CMul fun i j => V.int (i * j)) (tOp (rI CDiv fun i j => V.int (i / j)) (tVar 1) (tC (V.int 2))) (tC (V.int 2))) (tVar 1))
          (tOp (rI0 fun i j => V.int (i - j)) (tOp (rI CMul fun i j => V.int (i * j)) (tOp (rI CDiv fun i j => V.int (i / j)) (tVar 0) (tC (V.int 2))) (tC (V.int 2))) (tVar 0)))))) (tRet (tC (V.str "high"))) tNext) (tRet (tC V.non)))
      { nx := fun x H' => Q V.non H', rt := Q } (L2.start ["_law_first", "_law_last"] [V.int l, v2]) H := by
    rcases h with ⟨⟨h0, hn⟩ | ⟨i, rfl, hi⟩, _, k⟩ | ⟨o, rfl, fo, ho, k⟩
    · exact ⟨_, rfl, rfl, _, rfl, ite2 (fun z => absurd (of_decide_eq_true z) h0) fun _ => ⟨_, rfl, _, rfl, .inr ⟨hn, false, rfl, iteT (iteT k)⟩⟩⟩
    · refine ⟨_, rfl, rfl, _, rfl, ite2 (fun z => by cases of_decide_eq_true z) fun _ => ⟨_, rfl, _, rfl, .inl ⟨i, rfl, _, rfl, ite2 (fun _ => iteT k) fun z => ?_⟩⟩⟩
      refine ⟨_, rfl, _, rfl, _, _, rfl, rfl, _, rfl, ite2 (fun _ => iteT k) fun z1 => ?_⟩
      refine ⟨_, rfl, _, _, rfl, rfl, ⟨by decide, by decide⟩, _, _, rfl, rfl, .inr ⟨by decide, by decide⟩, _, rfl, _, _, rfl, rfl, _, rfl, _, _, rfl, rfl, ⟨by decide, by decide⟩, _, _, rfl, rfl, .inr ⟨by decide, by decide⟩, _, rfl, _, _, rfl, rfl, rfl, _, rfl, ite2 (fun _ => k) fun z2 => ?_⟩
      refine absurd ?_ hi
      have z1 : ¬ i < l := fun y => z1 (decide_eq_true y)
      by_cases y : i / 2 * 2 - i = l / 2 * 2 - l
      · exact ⟨by omega, by omega⟩
      · exact absurd (by rw [decide_eq_false fun x => y (V.int.inj x)]; rfl) z2
    · cases o with
      | none => exact ⟨_, rfl, rfl, _, rfl, ite2 (fun _ => k) fun z => absurd (decide_eq_true rfl) z⟩
      | some i =>
        obtain ⟨o1, o2⟩ := ho i rfl
        refine ⟨_, rfl, rfl, _, rfl, ite2 (fun z => by cases of_decide_eq_true z) fun _ => ⟨_, rfl, _, rfl, .inl ⟨i, rfl, _, rfl, ite2 (fun z => by rw [decide_eq_true (by omega : 0 < i)] at z; cases z) fun z => ?_⟩⟩⟩
        refine ⟨_, rfl, _, rfl, _, _, rfl, rfl, _, rfl, ite2 (fun z1 => by have := of_decide_eq_true z1; omega) fun z1 => ?_⟩
        refine ⟨_, rfl, _, _, rfl, rfl, ⟨by decide, by decide⟩, _, _, rfl, rfl, .inr ⟨by decide, by decide⟩, _, rfl, _, _, rfl, rfl, _, rfl, _, _, rfl, rfl, ⟨by decide, by decide⟩, _, _, rfl, rfl, .inr ⟨by decide, by decide⟩, _, rfl, _, _, rfl, rfl, rfl, _, rfl, ite2 (fun z2 => ?_) fun _ => k⟩
        have e : i / 2 * 2 - i = l / 2 * 2 - l := by omega
        have z2 : (!decide (V.int (i / 2 * 2 - i) = V.int (l / 2 * 2 - l))) = true := z2
        rw [e, decide_eq_true rfl] at z2
        cases z2
  exact ⟨_, rfl, _, rfl, .inl ⟨l, rfl, _, rfl, by
    rw [decide_eq_true (by omega : 0 < l)]
    exact iteF big⟩⟩
theorem ok_written (T : Txt K mg a) : FnR P w K mg base CX0 1 a._law_written spWritten := by
  refine T.d__law_written.ok sc__law_written (fun _ _ _ _ _ _ us hl => match us, hl with | [_, _], _ => rfl) (fun vs H Q E h => by obtain ⟨l, o, rfl, _⟩ := h; rfl) (fun cdv A outer s H vs Q E hr h => ?_)
  obtain ⟨l, o, rfl, fl, fo, k⟩ := h
  refine ⟨_, (pss_cons (ps_if (pt_cmpR op_isN (pv 1) pe_non (nomark _))
          (pss_one (ps_ret (pe_op op_add_str (pe_callTy call_str_int (by rfl) T.n_str (by decide +kernel) (pa_cons (pv 0) pa_nil)) pe_str)))
          pss_nil)
      (pss_one (ps_ret (pe_ifExp (pt_cmpR op_eq (pv 0) (pv 1) (nomark _)) (pe_callTy call_str_int (by rfl) T.n_str (by decide +kernel) (pa_cons (pv 0) pa_nil)) (pe_op op_add_str (pe_op op_add_str (pe_callTy call_str_int (by rfl) T.n_str (by decide +kernel) (pa_cons (pv 0) pa_nil)) pe_str) (pe_callTy call_str_int (by rfl) T.n_str (by decide +kernel) (pa_cons (pv 1) pa_nil))))))), ?_⟩
  have t1 := fit_len fl
  cases o with
  | none => exact ⟨_, rfl, rfl, _, rfl, ite2 (fun _ => ⟨_, rfl, l, rfl, fit_log fl, _, _, rfl, rfl, Nat.le_trans (Nat.add_le_add_right t1 _) (by decide +kernel), k⟩) fun z => absurd (decide_eq_true rfl) z⟩
  | some h =>
    have hh := fo h rfl
    refine ⟨_, rfl, rfl, _, rfl, ite2 (fun z => by cases of_decide_eq_true z) fun _ => ⟨_, rfl, _, rfl, rfl, _, rfl, ite2 (fun z => ?_) fun z => ?_⟩⟩
    · have z := V.int.inj (of_decide_eq_true z)
      rw [show txS l (some h) = Str.ofString (toString l) from if_pos z.symm] at k
      exact ⟨_, rfl, l, rfl, fit_log fl, k⟩
    · rw [show txS l (some h) = Str.ofString (toString l) ++ ".." ++ Str.ofString (toString h) from if_neg fun y => z (decide_eq_true (by rw [y]; rfl))] at k
      refine ⟨_, rfl, l, rfl, fit_log fl, _, _, rfl, rfl, Nat.le_trans (Nat.add_le_add_right t1 _) (by decide +kernel), _, rfl, h, rfl, fit_log hh, _, _, rfl, rfl, ?_, k⟩
      rw [len_app]
      exact Nat.le_trans (Nat.add_le_add (Nat.add_le_add_right t1 _) (fit_len hh)) (by decide +kernel)
theorem ok_val (T : Txt K mg a) : FnR P w K mg base CX0 2 a._law_value (spVal K) := by
  have G__law_draw : FnR P w K mg base CX0 1 a._law_draw spDraw := ok_draw T
  refine T.d__law_value.ok sc__law_value (fun _ _ _ _ _ _ us hl => match us, hl with | [_, _], _ => rfl) (fun vs H Q E h => by obtain ⟨d, b, rfl, _⟩ := h; rfl) (fun cdv A outer s H vs Q E hr h => ?_)
  obtain ⟨d, b, rfl, B, hb, k⟩ := h
  refine ⟨_, (pss_cons (ps_set (i := 2) sc__law_value.nd rfl (Or.inl rfl) (pe_lst (pa_cons pe_non (pa_cons pe_bl (pa_cons pe_bl (pa_cons pe_int (pa_cons (pe_un un_neg pe_int) (pa_cons pe_str (pa_cons pe_str (pa_cons (pe_tup pa_nil) (pa_cons (pe_lst (pa_cons pe_int pa_nil)) (pa_cons pe_dnewK (pa_cons (pv 1) (pa_cons (pe_op op_add (pv 1) pe_int) (pa_cons (pe_op op_sub (pv 1) pe_int) (pa_cons (pe_op op_add (pv 1) pe_int) (pa_cons (pe_op op_pow pe_int pe_int) (pa_cons pe_int pa_nil))))))))))))))))))
      (pss_one (ps_ret (pe_ix ix_list (pv 2) (pe_callR G__law_draw (hr.mono (by decide)) T.m__law_draw T.k__law_draw pass0 (pa_cons (pv 0) (pa_cons (pe_callB call_len_seq (by rfl) T.n_len (by decide +kernel) (pa_cons (pv 2) pa_nil)) pa_nil))) (fun _ _ => rfl))))), ?_⟩
  refine ⟨_, rfl, (by show 0 ≤ sizeLine; decide), fun p1 h1 => ⟨(by show 1 ≤ sizeLine; decide), fun p2 h2 => fun p3 h3 => ⟨_, rfl, _, rfl, _, _, rfl, rfl, _, rfl, _, _, rfl, rfl, _, rfl, _, _, rfl, rfl, _, _, rfl, rfl, ⟨by decide, by decide, by decide⟩, (by show 16 ≤ sizeLine; decide), fun L hL => ?_⟩⟩⟩
  have m1 := same_new (o := .tup []) h1
  have m2 := same_new (o := .lst [.int 1]) h2
  have m3 := same_new (o := .dK []) h3
  have mL := same_new (o := .lst [.non, .bl true, .bl false, .int 0, .int (-1), .str "", .str "3", .ref p1, .ref p2, .ref p3, .int b, .int (b + 1), .int (b - 1), .int (b + 2), .int (10 ^ Int.toNat 30), .int 1]) hL
  have e1 := mL _ _ (m3 _ _ (m2 _ _ (upd_same (H := H) (o := .tup []) (a := p1))))
  have e2 := mL _ _ (m3 _ _ (upd_same (H := upd H p1 (.tup [])) (o := .lst [.int 1]) (a := p2)))
  have e3 := mL _ _ (upd_same (H := upd (upd H p1 (.tup [])) p2 (.lst [.int 1])) (o := .dK []) (a := p3))
  have eL : (upd (upd (upd (upd H p1 (.tup [])) p2 (.lst [.int 1])) p3 (.dK [])) L (.lst [.non, .bl true, .bl false, .int 0, .int (-1), .str "", .str "3", .ref p1, .ref p2, .ref p3, .int b, .int (b + 1), .int (b - 1), .int (b + 2), .int (10 ^ Int.toNat 30), .int 1])) L = _ := upd_same
  have mm := m1.trans (m2.trans (m3.trans mL))
  have B6 := B.same mm
  have n3 : p3 ≠ d := fun e => by
    obtain ⟨o, ho⟩ := ((B.same m1).same m2).there
    rw [e, ho] at h3
    cases h3
  clear m1 m2 m3 mL
  generalize upd (upd (upd (upd H p1 (.tup [])) p2 (.lst [.int 1])) p3 (.dK [])) L (.lst [.non, .bl true, .bl false, .int 0, .int (-1), .str "", .str "3", .ref p1, .ref p2, .ref p3, .int b, .int (b + 1), .int (b - 1), .int (b + 2), .int (10 ^ Int.toNat 30), .int 1]) = HL at *
  refine ⟨_, rfl, _, rfl, _, rfl, L, _, rfl, .inl (SqL.of eL), d, 16, rfl, B6, by decide, by decide, fun z o z0 z1 B7 => ?_⟩
  obtain ⟨v, hv, hat⟩ := atI_any (xs := [.non, .bl true, .bl false, .int 0, .int (-1), .str "", .str "3", .ref p1, .ref p2, .ref p3, .int b, .int (b + 1), .int (b - 1), .int (b + 2), .int (10 ^ Int.toNat 30), .int 1]) z0 z1
  have up : ∀ {b : Addr} {u : HO}, HL b = some u → (∀ kvs, u ≠ .dK kvs) → (upd HL d o) b = some u := fun {b u} h n => by rw [upd_ne (B6.ne h n)]; exact h
  refine ⟨L, _, _, _, rfl, rfl, SqL.of (up eL fun _ z => by cases z), hat, k v _ ((SameBut.of mm).trans SameBut.upd) B7 ?_⟩
  have e110 : (2 : Nat) ^ 110 = 1298074214633706907132624082305024 := by decide
  have e120 : (2 : Nat) ^ 120 = 1329227995784915872903807060280344576 := by decide
  rw [e110] at hb
  simp only [List.mem_cons, List.not_mem_nil, or_false] at hv
  rcases hv with rfl | rfl | rfl | rfl | rfl | rfl | rfl | rfl | rfl | rfl | rfl | rfl | rfl | rfl | rfl | rfl
  · exact .inl .non
  · exact .inl .bl
  · exact .inl .bl
  · exact .inr ⟨_, rfl, by decide⟩
  · exact .inr ⟨_, rfl, by decide⟩
  · exact .inl .str
  · exact .inl .str
  · exact .inl (.tup (up e1 fun _ z => by cases z))
  · exact .inl (.lst (up e2 fun _ z => by cases z))
  · exact .inl (.dict (by rw [upd_ne n3]; exact e3))
  · exact .inr ⟨_, rfl, by rw [e120]; omega⟩
  · exact .inr ⟨_, rfl, by rw [e120]; omega⟩
  · exact .inr ⟨_, rfl, by rw [e120]; omega⟩
  · exact .inr ⟨_, rfl, by rw [e120]; omega⟩
  · exact .inr ⟨_, rfl, by decide⟩
  · exact .inr ⟨_, rfl, by decide⟩
end
end Pf
end
section
namespace Pf
open PySem PySem.Spec PyProof.Rows L2 Ow StX
/-! ### the law -/
/-- the lambda's long name -/
abbrev lamQ : Str := (Str.ofString "law" ++ Str.ofString ".<locals>.") ++ Str.ofString "<lambda>"
theorem tabs_but {TL : List (Addr × Str)} {H H' : Hp} {d : Addr} (t : LamX.Tabs TL H) (B : Bag H d) (s : SameBut d H H') : LamX.Tabs TL H' := fun p hp => by
  obtain ⟨ps, h1, h2, h3⟩ := t p hp
  refine ⟨ps, s _ _ (B.ne h1 fun _ z => by cases z) h1, h2, fun pos cv hc => ?_⟩
  obtain ⟨c, e1, e2⟩ := h3 pos cv hc
  exact ⟨c, e1, s _ _ (B.ne e2 fun _ z => by unfold LamX.CodeO at z; cases z) e2⟩
theorem Bag.dict {H : Hp} {d : Addr} (B : Bag H d) : ∃ kvs, H d = some (.dK kvs) := by
  obtain ⟨c, ns, o, hd, ⟨i, r, st, e, _⟩, _⟩ := B
  exact ⟨_, by rw [hd, e]⟩
theorem bag_ext {H H' : Hp} {d : Addr} (B : Bag H d) (e : LamX.ExtN H H') : Bag H' d := by
  obtain ⟨c, ns, o, hd, ⟨i, r, st, eo, eq⟩, hc, hl⟩ := B
  exact ⟨c, ns, o, e _ _ hd (fun _ z => by rw [eo] at z; cases z), ⟨i, r, st, eo, eq⟩, e _ _ hc (fun _ z => by cases z), hl⟩
theorem noInt_but {K : PySem.W.Frag} {H H' : Hp} {d : Addr} (B : Bag H d) (B' : Bag H' d) (s : SameBut d H H') {v : V} (h : NoInt K H v) : NoInt K H' v := by
  rcases h with h | ⟨t, h, q⟩
  · exact .inl h
  · refine .inr ⟨t, ?_, q⟩
    cases h with
    | base h =>
      refine .base ?_
      cases h with
      | non => exact .non
      | bl x => exact .bl x
      | int i => exact .int i
      | str x => exact .str x
      | flt x => exact .flt x
      | lst h => exact .lst (s _ _ (B.ne h fun _ z => by cases z) h)
      | frz h => exact .frz (s _ _ (B.ne h fun _ z => by cases z) h)
      | tup h => exact .tup (s _ _ (B.ne h fun _ z => by cases z) h)
      | @dK a kvs h =>
        by_cases e : a = d
        · subst e
          obtain ⟨kvs', h'⟩ := B'.dict
          exact .dK h'
        · exact .dK (s _ _ e h)
      | dT h => exact .dT (s _ _ (B.ne h fun _ z => by cases z) h)
    | byt b => exact .byt b
    | set h => exact .set (s _ _ (B.ne h fun _ z => by cases z) h)
    | kList h c => exact .kList h c
    | kTuple h c => exact .kTuple h c
    | kDict h c => exact .kDict h c
    | fTuple h => exact .fTuple (s _ _ (B.ne h fun _ z => by cases z) h)
    | fDict h => exact .fDict (s _ _ (B.ne h fun _ z => by cases z) h)
/-- the two values are refused, s says which -/
def Wrong (K : PySem.W.Frag) (H : Hp) (f v : V) (s : Str) : Prop := (Low K H f ∧ s = "low") ∨ ∃ l : Int, f = .int l ∧ 1 ≤ l ∧ Fit l ∧ BadH K H l v ∧ (∀ i, v = .int i → Fit i) ∧ s = "high"
theorem Wrong.go {K : PySem.W.Frag} {H H' : Hp} {f v : V} {s : Str} (h : Wrong K H f v s) (n : ∀ v, NoInt K H v → NoInt K H' v) : Wrong K H' f v s := by
  rcases h with ⟨h | h, e⟩ | ⟨l, e1, h1, h2, ⟨h3, h4⟩ | h3, h5, h6⟩
  · exact .inl ⟨.inl (n _ h), e⟩
  · exact .inl ⟨.inr h, e⟩
  · exact .inr ⟨l, e1, h1, h2, .inl ⟨h3, n _ h4⟩, h5, h6⟩
  · exact .inr ⟨l, e1, h1, h2, .inr h3, h5, h6⟩
theorem due_wrong {K : PySem.W.Frag} {H : Hp} {f v : V} {s : Str} {Q : VK} {E : XK} (h : Wrong K H f v s) (q : Q (.str s) H) : spDue K [f, v] H Q E := by
  rcases h with ⟨h, e⟩ | ⟨l, e1, h1, h2, h3, h5, h6⟩
  · subst e
    exact ⟨f, v, rfl, .inl ⟨h, q⟩⟩
  · subst h6
    exact ⟨f, v, rfl, .inr ⟨l, e1, h1, h2, .inl ⟨h3, h5, q⟩⟩⟩
theorem init_wrong {K : PySem.W.Frag} {H : Hp} {C B p dx : Addr} {f v : V} {s : Str} {Q : VK} {E : XK} (hp : H p = some (.ins C dx [])) (h : Wrong K H f v s) (q : Out1 B "part" H E (.str s)) : spSInit K C B [.ref p, f, v] H Q E := by
  rcases h with ⟨h, e⟩ | ⟨l, e1, h1, h2, h3, h5, h6⟩
  · subst e
    exact ⟨p, dx, f, v, rfl, hp, .inl ⟨h, q⟩⟩
  · subst h6
    exact ⟨p, dx, f, v, rfl, hp, .inr ⟨l, e1, h1, .inl ⟨h3, q⟩⟩⟩
/-- the same, told by what is wrong -/
def spDueW (K : PySem.W.Frag) : Sp := fun vs H Q _ => ∃ v1 v2, vs = [v1, v2] ∧ ((∃ s, Wrong K H v1 v2 s ∧ Q (.str s) H) ∨ ∃ (l : Int) (o : Option Int), v1 = .int l ∧ v2 = hV o ∧ 1 ≤ l ∧ Fit l ∧ FitO o ∧ OkH l o ∧ Q .non H)
def spSInitW (K : PySem.W.Frag) (C B : Addr) : Sp := fun vs H Q E => ∃ (p dx : Addr) (v1 v2 : V), vs = [.ref p, v1, v2] ∧ H p = some (.ins C dx []) ∧
  ((∃ s, Wrong K H v1 v2 s ∧ Out1 B "part" H E (.str s)) ∨ ∃ (l : Int) (o : Option Int), v1 = .int l ∧ v2 = hV o ∧ 1 ≤ l ∧ OkH l o ∧ Q .non (upd H p (.ins C dx (szF l o))))
theorem dueW {K : PySem.W.Frag} {vs : List V} {H : Hp} {Q : VK} {E : XK} (h : spDueW K vs H Q E) : spDue K vs H Q E := by
  obtain ⟨v1, v2, rfl, ⟨s, hw, q⟩ | ⟨l, o, rfl, rfl, h1, h2, h3, h4, q⟩⟩ := h
  · exact due_wrong hw q
  · exact ⟨_, _, rfl, .inr ⟨l, rfl, h1, h2, .inr ⟨o, rfl, h3, h4, q⟩⟩⟩
theorem initW {K : PySem.W.Frag} {C B : Addr} {vs : List V} {H : Hp} {Q : VK} {E : XK} (h : spSInitW K C B vs H Q E) : spSInit K C B vs H Q E := by
  obtain ⟨p, dx, v1, v2, rfl, hp, ⟨s, hw, q⟩ | ⟨l, o, rfl, rfl, h1, h4, q⟩⟩ := h
  · exact init_wrong hp hw q
  · exact ⟨p, dx, _, _, rfl, hp, .inr ⟨l, rfl, h1, .inr ⟨o, rfl, h4, q⟩⟩⟩
theorem wrong_two {K : PySem.W.Frag} {H : Hp} {f v : V} {s : Str} (h : Wrong K H f v s) : SeqAt.shaped (.tuple [.str "class", .str s]) = true := by
  rcases h with ⟨_, e⟩ | ⟨_, _, _, _, _, _, e⟩ <;> subst e <;> decide +kernel
theorem eq2 (x y : Str) : PyData.eqv (.tuple [.str x, .str y]) (.tuple [.str x, .str y]) = true := by simp [PyData.eqv, PyData.eqvAll]
theorem fit_of {i : Int} (h : i.natAbs < 2 ^ 120) : Fit i := Nat.lt_of_lt_of_le h (by decide)
theorem sort_of {K : PySem.W.Frag} {H : Hp} {f v : V} (hf : Val K H f) (hv : Val K H v) : (∃ s, Wrong K H f v s) ∨ ∃ (l : Int) (o : Option Int), f = .int l ∧ v = hV o ∧ 1 ≤ l ∧ l.natAbs < 2 ^ 120 ∧ (∀ i, o = some i → i.natAbs < 2 ^ 120) ∧ OkH l o := by
  rcases hf with hf | ⟨l, rfl, hl⟩
  · exact .inl ⟨_, .inl ⟨.inl hf, rfl⟩⟩
  by_cases h1 : 1 ≤ l
  · by_cases hn : v = .non
    · exact .inr ⟨l, none, rfl, hn, h1, hl, (fun _ z => by cases z), fun _ z => by cases z⟩
    · rcases hv with hv | ⟨i, rfl, hi⟩
      · refine .inl ⟨_, .inr ⟨l, rfl, h1, fit_of hl, .inl ⟨hn, hv⟩, fun i z => ?_, rfl⟩⟩
        subst z
        rcases hv with ⟨b, z⟩ | ⟨t, h, q⟩
        · cases z
        · cases h with
          | base h => cases h with
            | int i => rw [kit_int_int] at q; cases q
      · by_cases hg : l ≤ i ∧ (i - l) % 2 = 0
        · exact .inr ⟨l, some i, rfl, rfl, h1, hl, (fun _ z => by cases z; exact hi), fun _ z => by cases z; exact hg⟩
        · exact .inl ⟨_, .inr ⟨l, rfl, h1, fit_of hl, .inr ⟨i, rfl, hg⟩, fun _ z => by cases z; exact fit_of hi, rfl⟩⟩
  · exact .inl ⟨_, .inl ⟨.inr ⟨l, rfl, by omega⟩, rfl⟩⟩
/-- the end of a row as data -/
def hD : Option Int → PyData
  | none => .none
  | some i => .int i
theorem dpH {K : PySem.W.Frag} {H : Hp} : ∀ o : Option Int, Dp K H (hV o) (hD o)
  | none => .non
  | some i => .int i
theorem list2_len (a b : Str) : (listText [a, b]).length ≤ a.length + b.length + 4 := by
  have e : listText [a, b] = ((((Str.ofString "[" ++ Str.ofString "") ++ a) ++ Str.ofString ", ") ++ b) ++ Str.ofString "]" := rfl
  have e1 : (Str.ofString "[").length = 1 := by decide +kernel
  have e2 : (Str.ofString "").length = 0 := by decide +kernel
  have e3 : (Str.ofString ", ").length = 2 := by decide +kernel
  have e4 : (Str.ofString "]").length = 1 := by decide +kernel
  rw [e]
  simp only [len_app, e1, e2, e3, e4]
  omega
theorem dat {l : Int} {o : Option Int} (hl : Fit l) (ho : FitO o) : (PyData.list [.int l, hD o]).showable = true ∧ (PyData.list [.int l, hD o]).hasDict = false ∧ (PyData.list [.int l, hD o]).depth ≤ 8 ∧ (PyData.list [.int l, hD o]).shown.length ≤ sizeLine := by
  have key : (PyData.int l).showable = true := decide_eq_true (fit_log hl)
  have k2 : (hD o).showable = true ∧ (hD o).hasDict = false ∧ (hD o).depth ≤ 1 ∧ (hD o).shown.length ≤ 151 := by
    cases o with
    | none => exact ⟨rfl, rfl, by decide, by decide +kernel⟩
    | some h => exact ⟨decide_eq_true (fit_log (ho h rfl)), rfl, by simp [hD, PyData.depth], fit_len (ho h rfl)⟩
  obtain ⟨a, b, c, d⟩ := k2
  refine ⟨by simp [PyData.showable, PyData.showableAll, a]; simpa [PyData.showable] using key, by simp [PyData.hasDict, PyData.hasDictAll, b], ?_, ?_⟩
  · simp only [PyData.depth, PyData.depthAll]; omega
  · refine Nat.le_trans (list2_len (PyData.int l).shown (hD o).shown) (Nat.le_trans (Nat.add_le_add_right (Nat.add_le_add (fit_len hl) d) 4) (by decide +kernel))
theorem new_grown {H : Hp} {x dx : Addr} {C : Addr} (nx : H x = none) (nd : H dx = none) : ∀ b o, H b = some o → (upd (upd H dx (.own x)) x (.ins C dx [])) b = some o := fun b o e => by
  rw [upd_ne (ne_of_none e nx), upd_ne (ne_of_none e nd)]
  exact e
def spLaw (K : PySem.W.Frag) (Tb : Addr) : Sp := fun vs H Q _ => ∃ (sa : Addr) (ns : List Int), vs = [.ref sa] ∧ SqL K H sa (ns.map V.int) ∧ ns.length ≤ 63 ∧ H Tb = some (.tbl #[]) ∧ ∀ H', Q (.bl true) H'
section
variable {P : Program} {w : World} {K : PySem.W.Frag} {mg : Str → Option Value} {base : Heap} {a : Adr}
set_option maxHeartbeats 4000000
theorem ok_law (T : Txt K mg a) {c Tb : Addr} (FC : FnC K "law" "law" s_law a.law c) (TB : LamX.TabB base mg c Tb) : FnG P w K mg base CX0 7 a.law (spLaw K Tb) := by
  have G__law_draw : FnR P w K mg base CX0 1 a._law_draw spDraw := ok_draw T
  have G__law_bag : FnR P w K mg base CX0 1 a._law_bag (spBag K) := ok_bag T
  have G__law_value : FnR P w K mg base CX0 2 a._law_value (spVal K) := ok_val T
  have G__law_due : FnR P w K mg base CX0 2 a._law_due (spDueW K) := (ok_due T).imp fun _ _ _ _ => dueW
  have G__law_written : FnR P w K mg base CX0 1 a._law_written spWritten := ok_written T
  have G_eq : FnR P w K mg base CX0 3 a.Sizes_eq (spSEq a.Sizes) := ok_s_eq T
  have G_str : FnR P w K mg base CX0 1 a.Sizes_str (spSStr a.Sizes) := ok_s_str T
  have G_contains : FnR P w K mg base CX0 3 a.Sizes_contains (spCont K a.Sizes) := ok_s_cont T
  have G_init : FnR P w K mg base (CX P w) 3 a.Sizes_init (spSInitW K a.Sizes a.BadClass) := (ok_s_init T).imp fun _ _ _ _ => initW
  have G_init1 : FnR P w K mg base (CX P w) 3 a.Sizes_init (fun vs H Q E => spSInit K a.Sizes a.BadClass (vs ++ [.non]) H Q E) := ok_s_init1 T
  obtain ⟨fdS, FS⟩ := id T.d_Sizes_init
  have O_init : FnOk P w K mg base (CX P w) 3 a.Sizes_init fdS ["self", "low", "high"] (spSInit K a.Sizes a.BadClass) := ok_s_fn T FS
  obtain ⟨itsS, KB⟩ := kb_s_init (a := a) FS
  refine FC.okG sc_law (fun _ _ _ _ _ _ us hl => match us, hl with | [_], _ => rfl) (fun vs H Q E h => by obtain ⟨sa, ns, rfl, _⟩ := h; rfl) (fun A outer s H vs Q E hr hg h => ?_)
  obtain ⟨sa, ns, rfl, hS, hns, hT, k⟩ := h
  refine ⟨_, (pss_cons (ps_set (i := 1) sc_law.nd rfl (Or.inl rfl) (pe_callR G__law_bag (hr.mono (by decide)) T.m__law_bag T.k__law_bag pass0 (pa_cons (pv 0) pa_nil)))
      (pss_cons (ps_for PassesOwn.never rfl (pi_range1 rfl T.n_range (pa_cons pe_int pa_nil)) (pg_name (i := 2) sc_law.nd rfl (Or.inl rfl))
          (pss_cons (ps_set (i := 3) sc_law.nd rfl (Or.inl rfl) (pe_ix ix_list (pe_lst (pa_cons pe_int (pa_cons pe_int (pa_cons (pe_op op_add pe_int (pe_callR G__law_draw (hr.mono (by decide)) T.m__law_draw T.k__law_draw pass0 (pa_cons (pv 1) (pa_cons pe_int pa_nil)))) (pa_cons (pe_op op_add (pe_op op_pow pe_int pe_int) (pe_callR G__law_draw (hr.mono (by decide)) T.m__law_draw T.k__law_draw pass0 (pa_cons (pv 1) (pa_cons pe_int pa_nil)))) pa_nil))))) (pe_callR G__law_draw (hr.mono (by decide)) T.m__law_draw T.k__law_draw pass0 (pa_cons (pv 1) (pa_cons pe_int pa_nil))) (fun _ _ => rfl)))
          (pss_cons (ps_asg (pe_tup (pa_cons (pe_ix ix_list (pe_lst (pa_cons (pv 3) (pa_cons (pv 3) (pa_cons (pe_callR G__law_value (hr.mono (by decide)) T.m__law_value T.k__law_value pass0 (pa_cons (pv 1) (pa_cons (pv 3) pa_nil))) pa_nil)))) (pe_callR G__law_draw (hr.mono (by decide)) T.m__law_draw T.k__law_draw pass0 (pa_cons (pv 1) (pa_cons pe_int pa_nil))) (fun _ _ => rfl)) (pa_cons (pe_callR G__law_value (hr.mono (by decide)) T.m__law_value T.k__law_value pass0 (pa_cons (pv 1) (pa_cons (pv 3) pa_nil))) pa_nil))) (pg_tup rfl (pgs_cons (pg_name (i := 10) sc_law.nd rfl (Or.inr rfl)) (pgs_cons (pg_name (i := 11) sc_law.nd rfl (Or.inr rfl)) pgs_nil))))
          (pss_cons (ps_set (i := 4) sc_law.nd rfl (Or.inl rfl) (pe_callR G__law_due (hr.mono (by decide)) T.m__law_due T.k__law_due pass0 (pa_cons (pv 10) (pa_cons (pv 11) pa_nil))))
          (pss_cons (ps_set (i := 5) sc_law.nd rfl (Or.inl rfl) (pe_heard (k := 4) (TL := [(Tb, lamQ)]) T rfl TB rfl (List.mem_singleton.mpr rfl) (fun p hp _ => by rw [List.mem_singleton.mp hp]; rfl) (hr.mono (by decide)) (LamX.lamS_by (sc := defScope s_law) (by decide +kernel)) rfl (fun _ _ _ _ _ => rfl) (fun A outer s H E f c' hr' => pe_makeRR T.M_Sizes G_init (hr'.mono (by decide)) T.m_Sizes (passUp (takes_of rfl rfl rfl rfl)) (pa_cons (pv 10) (pa_cons (pv 11) pa_nil)))))
          (pss_cons (ps_if (PW.pt (pw_or (PW.pt (pw_and (pt_cmpR op_notN (pv 4) pe_non (nomark _)) (pw_and1 (pt_cmpR (op_neD hr.units) (pv 5) (pe_tup (pa_cons pe_str (pa_cons (pv 4) pa_nil))) (nomark _))))) (pw_or1 (PW.pt (pw_and (pt_cmpR op_isN (pv 4) pe_non (nomark _)) (pw_and1 (pt_cmpR op_ne (pe_ix ix_tup (pv 5) pe_int (fun _ _ => rfl)) pe_str (nomark _))))))))
              (pss_one (ps_ret pe_bl))
              pss_nil)
          (pss_one (ps_if (pt_cmpR op_isN (pv 4) pe_non (nomark _))
              (pss_cons (ps_set (i := 6) sc_law.nd rfl (Or.inr rfl) (pe_ix ix_tup (pv 5) pe_int (fun _ _ => rfl)))
              (pss_cons (ps_if (PW.pt (pw_or (pt_cmpR op_ne (pe_callB (call_reprD (by exact hg) hr.units) (by rfl) T.n_repr (by decide +kernel) (pa_cons (pe_lst (pa_cons (pe_fld (pv 6) rfl) (pa_cons (pe_fld (pv 6) rfl) pa_nil))) pa_nil)) (pe_callB (call_reprD (by exact hg) hr.units) (by rfl) T.n_repr (by decide +kernel) (pa_cons (pe_lst (pa_cons (pv 10) (pa_cons (pv 11) pa_nil))) pa_nil)) (nomark _)) (pw_or1 (pt_cmpR op_ne (pe_callTy (call_strO T.o_Sizes_str T.f_Sizes_str G_str (hr.mono (by decide)) pass0) (by rfl) T.n_str (by decide +kernel) (pa_cons (pv 6) pa_nil)) (pe_callR G__law_written (hr.mono (by decide)) T.m__law_written T.k__law_written pass0 (pa_cons (pv 10) (pa_cons (pv 11) pa_nil))) (nomark _)))))
                  (pss_one (ps_ret pe_bl))
                  pss_nil)
              (pss_cons (ps_set (i := 7) sc_law.nd rfl (Or.inl rfl) (pe_lst (pa_cons (pv 10) (pa_cons (pe_op op_add (pv 10) pe_int) (pa_cons (pe_op op_add (pv 10) pe_int) (pa_cons (pe_op op_sub (pv 10) pe_int) (pa_cons (pe_op op_sub (pv 10) pe_int) (pa_cons (pe_op op_add (pv 10) (pe_op op_mul pe_int (pe_callR G__law_draw (hr.mono (by decide)) T.m__law_draw T.k__law_draw pass0 (pa_cons (pv 1) (pa_cons pe_int pa_nil))))) pa_nil))))))))
              (pss_cons (ps_for PassesOwn.never rfl (pi_list (pe_op op_cat (pv 7) (pe_lst (pa_cons (pe_op op_pow pe_int pe_int) (pa_cons (pe_op op_add (pe_op op_pow pe_int pe_int) pe_int) pa_nil))))) (pg_name (i := 8) sc_law.nd rfl (Or.inl rfl))
                  (pss_cons (ps_set (i := 9) sc_law.nd rfl (Or.inl rfl) (pe_and (pe_cmpR op_ge (pv 8) (pv 10) (nomark _)) (pe_and (pe_cmpR op_eq (pe_op op_sub (pe_op op_mul (pe_op op_fdiv (pv 8) pe_int) pe_int) (pv 8)) (pe_op op_sub (pe_op op_mul (pe_op op_fdiv (pv 10) pe_int) pe_int) (pv 10)) (nomark _)) (pe_one (pe_or (pe_cmpR op_isN (pv 11) pe_non (nomark _)) (pe_one (pe_cmpR op_le (pv 8) (pv 11) (nomark _))))))))
                  (pss_one (ps_if (pt_cmpR op_ne (pe_cmpR (op_inO T.o_Sizes_contains T.f_Sizes_contains G_contains (hr.mono (by decide)) pass0) (pv 8) (pv 6) (by rfl)) (pv 9) (nomark _))
                      (pss_one (ps_ret pe_bl))
                      pss_nil))))
              (pss_cons (ps_if (pt_cmpR (op_neD hr.units) (pe_lc (own := [("_law_value_here", 12)]) (g := gName 12) (by rfl) sc_law.nd (pi_list (pe_lst (pa_cons pe_non (pa_cons pe_bl (pa_cons pe_str (pa_cons (pe_tup (pa_cons (pv 10) pa_nil)) (pa_cons (pe_lst (pa_cons (pv 10) pa_nil)) (pa_cons pe_dnewK pa_nil)))))))) (blkOk_by (own := [("_law_value_here", 12)]) (N := ["_law_script", "_law_bag_here", "_law_turn", "_law_base", "_law_due_here", "_law_found", "_law_made", "_law_near", "_law_n", "_law_due_in", "_law_first", "_law_last", "_law_value_here"]) (sc := defScope s_law) (by decide +kernel)) (fun _ _ _ _ _ => (pg_name (i := 12) sc_law.nd rfl (Or.inl rfl))) (fun _ _ _ _ _ => (pts_one (pt_cmpR (op_inO T.o_Sizes_contains T.f_Sizes_contains G_contains (hr.mono (by decide)) pass0) (pv 12) (pv 6) (by rfl)))) (fun _ _ _ _ _ => (pv 12))) (pe_lst pa_nil) (nomark _))
                  (pss_one (ps_ret pe_bl))
                  pss_nil)
              (pss_cons (ps_if (pt_cmpR (op_cmp (op := .Eq) (fun _ _ => rfl) T.o_Sizes_eq T.f_Sizes_eq T.s_Sizes_not G_eq (hr.mono (by decide)) pass0) (pv 6) (pe_makeRR T.M_Sizes G_init (hr.mono (by decide)) T.m_Sizes (passUp LamX.takes0) (pa_cons (pv 10) (pa_cons (pe_ifExp (pt_cmpR op_isN (pv 11) pe_non (nomark _)) (pe_op op_add (pv 10) pe_int) (pe_op op_add (pv 11) pe_int)) pa_nil))) (nomark _))
                  (pss_one (ps_ret pe_bl))
                  pss_nil)
              (pss_one (ps_if (PW.pt (pw_or (pt_cmpR (op_ne_own T.o_ne T.o_Sizes_eq T.f_Sizes_eq T.s_Sizes_obj G_eq (hr.mono (by decide)) pass0) (pv 6) (pe_makeK0 T.M_Sizes O_init (hr.mono (by decide)) rfl T.m_Sizes KB (passUp LamX.takes0) (pk_cons (pv 11) (pk_cons (pv 10) pk_nil))) (nomark _)) (pw_or (pt_cmpR (op_cmp (op := .Eq) (fun _ _ => rfl) T.o_Sizes_eq T.f_Sizes_eq T.s_Sizes_not G_eq (hr.mono (by decide)) pass0) (pv 6) (pe_makeRR T.M_Sizes G_init (hr.mono (by decide)) T.m_Sizes (passUp LamX.takes0) (pa_cons (pe_op op_add (pv 10) pe_int) (pa_cons pe_non pa_nil))) (nomark _)) (pw_or1 (pt_cmpR (op_cmpT (op := .Eq) (fun _ _ => rfl) T.o_Sizes_eq T.f_Sizes_eq G_eq (hr.mono (by decide)) pass0) (pv 6) (pe_tup (pa_cons (pv 10) (pa_cons (pv 11) pa_nil))) (nomark _))))))
                  (pss_one (ps_ret pe_bl))
                  pss_nil))))))))
              pss_nil))))))))
      (pss_one (ps_ret (pe_and (pe_cmpR (op_cmp (op := .Eq) (fun _ _ => rfl) T.o_Sizes_eq T.f_Sizes_eq T.s_Sizes_not G_eq (hr.mono (by decide)) pass0) (pe_makeRR T.M_Sizes G_init1 (hr.mono (by decide)) T.m_Sizes (passUp LamX.takes0) (pa_cons pe_int pa_nil)) (pe_makeRR T.M_Sizes G_init (hr.mono (by decide)) T.m_Sizes (passUp LamX.takes0) (pa_cons pe_int (pa_cons pe_non pa_nil))) (nomark _)) (pe_and (pe_cmpR op_eq (pe_callTy (call_strO T.o_Sizes_str T.f_Sizes_str G_str (hr.mono (by decide)) pass0) (by rfl) T.n_str (by decide +kernel) (pa_cons (pe_makeRR T.M_Sizes G_init (hr.mono (by decide)) T.m_Sizes (passUp LamX.takes0) (pa_cons pe_int (pa_cons pe_int pa_nil))) pa_nil)) pe_str (nomark _)) (pe_one (pe_cmpR (op_notInO T.o_Sizes_contains T.f_Sizes_contains G_contains (hr.mono (by decide)) pass0) pe_int (pe_makeRR T.M_Sizes G_init1 (hr.mono (by decide)) T.m_Sizes (passUp LamX.takes0) (pa_cons pe_int pa_nil)) (by rfl))))))))), ?_⟩
  refine ⟨_, rfl, sa, ns, rfl, hS, hns, fun d H0 sm0 hd0 B0 => ?_⟩
  have T0 : LamX.Tabs [(Tb, lamQ)] H0 := fun p hp => by
    rw [List.mem_singleton.mp hp]
    exact LamX.TabS.nil (sm0 _ _ hT)
  refine ⟨10, rfl, by decide, by decide, for_range (n := 10) (fun i σ H' => ∃ v2 v3 v4 v5 v6 v7 v8 v9 v10 v11 v12 : Option V, σ = [some (.ref sa), some (.ref d), v2, v3, v4, v5, v6, v7, v8, v9, v10, v11, v12] ∧ Bag H' d ∧ LamX.Tabs [(Tb, lamQ)] H')
    ⟨_, _, _, _, _, _, _, _, _, _, _, rfl, B0, T0⟩ ?_ ?_⟩
  · rintro i σ H1 hi ⟨v2, v3, v4, v5, v6, v7, v8, v9, v10, v11, v12, rfl, B1, T1⟩
    refine ⟨_, rfl, d, 40, rfl, B1, by decide, by decide, fun z1 o1 a0 a1 B2 => ?_⟩
    refine ⟨_, _, rfl, rfl, _, _, rfl, rfl, ⟨by decide, by decide, by decide⟩, _, rfl, d, 9, rfl, B2, by decide, by decide, fun z2 o2 b0 b1 B3 => ?_⟩
    refine ⟨_, _, rfl, rfl, (by show 4 ≤ sizeLine; decide), fun L hL => ?_⟩
    have mL := same_new (o := .lst [.int 1, .int 2, .int (1 + z1), .int (10 ^ Int.toNat 29 + z2)]) hL
    have eL : (upd (upd (upd H1 d o1) d o2) L (.lst [.int 1, .int 2, .int (1 + z1), .int (10 ^ Int.toNat 29 + z2)])) L = _ := upd_same
    have B4 := B3.same mL
    refine ⟨_, rfl, d, 4, rfl, B4, by decide, by decide, fun z o c0 c1 B5 => ?_⟩
    obtain ⟨v, hv, hat⟩ := atI_any (xs := [.int 1, .int 2, .int (1 + z1), .int (10 ^ Int.toNat 29 + z2)]) c0 c1
    obtain ⟨b, rfl, hb1, hb⟩ : ∃ b : Int, v = .int b ∧ 1 ≤ b ∧ b.natAbs < 2 ^ 110 := by
      have e1 : (10 : Int) ^ Int.toNat 29 = 100000000000000000000000000000 := by decide
      have e2 : (2 : Nat) ^ 110 = 1298074214633706907132624082305024 := by decide
      rw [e1] at hv
      rw [e2]
      simp only [List.mem_cons, List.not_mem_nil, or_false] at hv
      rcases hv with h | h | h | h <;> exact ⟨_, h, by omega, by omega⟩
    refine ⟨L, _, _, _, rfl, rfl, SqL.of (by rw [upd_ne (B4.ne eL fun _ z => by cases z)]; exact eL), hat, ?_⟩
    have sb : SameBut d H1 (upd (upd (upd (upd H1 d o1) d o2) L (.lst [.int 1, .int 2, .int (1 + z1), .int (10 ^ Int.toNat 29 + z2)])) d o) := SameBut.upd.trans (SameBut.upd.trans ((SameBut.of mL).trans SameBut.upd))
    have T5 := tabs_but T1 B1 sb
    clear mL eL B4 B3 B2 hat hv sb
    generalize upd (upd (upd (upd H1 d o1) d o2) L (.lst [.int 1, .int 2, .int (1 + z1), .int (10 ^ Int.toNat 29 + z2)])) d o = H5 at *
    -- the two values
    refine ⟨_, rfl, _, rfl, _, rfl, _, rfl, d, b, rfl, B5, hb, fun u1 H6 s6 B6 V6 => ⟨(by show 3 ≤ sizeLine; decide), fun L2 hL2 => ?_⟩⟩
    have T6 := tabs_but T5 B5 s6
    have mL2 := same_new (o := .lst [.int b, .int b, u1]) hL2
    have eL2 : (upd H6 L2 (.lst [.int b, .int b, u1])) L2 = _ := upd_same
    have B7 := B6.same mL2
    have T7 := T6.ext mL2
    refine ⟨_, rfl, d, 3, rfl, B7, by decide, by decide, fun y o3 d0 d1 B8 => ?_⟩
    obtain ⟨f, hf, hatf⟩ := atI_any (xs := [.int b, .int b, u1]) d0 d1
    refine ⟨L2, _, _, _, rfl, rfl, SqL.of (by rw [upd_ne (B7.ne eL2 fun _ z => by cases z)]; exact eL2), hatf, ?_⟩
    have s8 : SameBut d H6 (upd (upd H6 L2 (.lst [.int b, .int b, u1])) d o3) := (SameBut.of mL2).trans SameBut.upd
    have T8 := tabs_but T6 B6 s8
    have F8 : Val K (upd (upd H6 L2 (.lst [.int b, .int b, u1])) d o3) f := by
      have hb' : Val K (upd (upd H6 L2 (.lst [.int b, .int b, u1])) d o3) (.int b) := .inr ⟨b, rfl, Nat.lt_of_lt_of_le hb (by decide)⟩
      simp only [List.mem_cons, List.not_mem_nil, or_false] at hf
      rcases hf with rfl | rfl | rfl
      · exact hb'
      · exact hb'
      · rcases V6 with h | h
        · exact .inl (noInt_but B6 B8 s8 h)
        · exact .inr h
    clear mL2 eL2 B7 T7 hatf hf V6 s8 T6 B6
    generalize upd (upd H6 L2 (.lst [.int b, .int b, u1])) d o3 = H8 at *
    refine ⟨_, rfl, _, rfl, d, b, rfl, B8, hb, fun u2 H9 s9 B9 V9 => ⟨(by show 2 ≤ sizeLine; decide), fun tp htp => ?_⟩⟩
    have T9 := tabs_but T8 B8 s9
    have F9 : Val K H9 f := by
      rcases F8 with h | h
      · exact .inl (noInt_but B8 B9 s9 h)
      · exact .inr h
    have mt := same_new (o := .tup [f, u2]) htp
    refine ⟨tp, _, rfl, SqT.of upd_same, rfl, ?_⟩
    refine ⟨_, _, rfl, _, _, rfl, rfl, ?_⟩
    have B10 := B9.same mt
    have T10 := T9.ext mt
    have F10 : Val K (upd H9 tp (.tup [f, u2])) f := F9.elim (fun h => .inl (h.same mt)) .inr
    have V10 : Val K (upd H9 tp (.tup [f, u2])) u2 := V9.elim (fun h => .inl (h.same mt)) .inr
    clear F9 V9 T9 B9 s9 F8 T8 B8 mt
    generalize upd H9 tp (.tup [f, u2]) = HA at *
    rcases sort_of F10 V10 with ⟨sw, hw⟩ | ⟨l, oo, rfl, rfl, h1, hl, ho, hok⟩
    · -- refused
      refine ⟨_, rfl, _, rfl, f, u2, rfl, .inl ⟨sw, hw, ?_⟩⟩
      refine ⟨T10, fun HB eB TB' => ?_⟩
      have BB := bag_ext B10 eB
      have hwB := hw.go fun _ z => NoInt.extN z eB
      refine ⟨_, rfl, _, rfl, fun x dx nx nd ne => ⟨x, dx, f, u2, rfl, upd_same, .inl ⟨sw, hwB.go fun _ z => z.same (new_grown nx nd), fun dd hdd => ⟨rfl, dd, _, _, rfl, upd_same, rfl, fun p hp => ?_⟩⟩⟩⟩
      have mG := (show Same HB _ from new_grown nx nd).trans ((same_new (o := .xd [("part", .str sw)]) hdd).trans (same_new (o := .tup [.str "class", .str sw]) hp))
      have e5 : (upd (upd (upd (upd HB dx (.own x)) x (.ins a.Sizes dx [])) dd (.xd [("part", .str sw)])) p (.tup [.str "class", .str sw])) p = some (.tup [.str "class", .str sw]) := upd_same
      have BC := BB.same mG
      have TC := TB'.ext mG
      clear mG BB hwB
      generalize upd (upd (upd (upd HB dx (.own x)) x (.ins a.Sizes dx [])) dd (.xd [("part", .str sw)])) p (.tup [.str "class", .str sw]) = HC at *
      refine ⟨_, rfl, rfl, _, rfl, ite2 (fun _ => ?_) fun z => absurd (by rw [decide_eq_false (fun y => by cases y)]; rfl) z⟩
      refine ⟨_, rfl, _, rfl, (by show 2 ≤ sizeLine; decide), fun q hq => ?_⟩
      have mq := same_new (o := .tup [.str "class", .str sw]) hq
      refine ⟨.tuple [.str "class", .str sw], .tuple [.str "class", .str sw], .tup (SqT.of (mq _ _ e5)) (.cons (.str _) (.cons (.str _) .nil)), .tup (SqT.of upd_same) (.cons (.str _) (.cons (.str _) .nil)), wrong_two hw, wrong_two hw, _, rfl, ?_⟩
      rw [eq2]
      refine iteF ⟨_, rfl, rfl, _, rfl, ite2 (fun z => by cases of_decide_eq_true z) fun _ => iteF ?_⟩
      refine ⟨_, rfl, rfl, _, rfl, ite2 (fun z => by cases of_decide_eq_true z) fun _ => ?_⟩
      exact ⟨_, _, _, _, _, _, _, _, _, _, _, rfl, BC.same mq, TC.ext mq⟩
    · refine ⟨_, rfl, _, rfl, _, _, rfl, .inr ⟨l, oo, rfl, rfl, h1, fit_of hl, fun i z => fit_of (ho i z), hok, ?_⟩⟩
      refine ⟨T10, fun HB eB TB' => ?_⟩
      have BB := bag_ext B10 eB
      refine ⟨_, rfl, _, rfl, fun x dx nx nd ne => ⟨x, dx, _, _, rfl, upd_same, .inr ⟨l, oo, rfl, rfl, h1, hok, rfl, (by show 2 ≤ sizeLine; decide), fun p hp => ?_⟩⟩⟩
      have mG : Same HB (upd (upd (upd (upd HB dx (.own x)) x (.ins a.Sizes dx [])) x (.ins a.Sizes dx (szF l oo))) p (.tup [.str "told", .ref x])) := by
        have nx' : (upd HB dx (.own x)) x = none := by rw [upd_ne (Ne.symm ne)]; exact nx
        rw [upd_upd] at hp ⊢
        exact (same_new nd).trans ((same_new nx').trans (same_new hp))
      have eX : (upd (upd (upd (upd HB dx (.own x)) x (.ins a.Sizes dx [])) x (.ins a.Sizes dx (szF l oo))) p (.tup [.str "told", .ref x])) x = some (.ins a.Sizes dx (szF l oo)) := same_new hp _ _ upd_same
      have eP : (upd (upd (upd (upd HB dx (.own x)) x (.ins a.Sizes dx [])) x (.ins a.Sizes dx (szF l oo))) p (.tup [.str "told", .ref x])) p = some (.tup [.str "told", .ref x]) := upd_same
      have BC := BB.same mG
      have TC := TB'.ext mG
      clear mG BB hp
      generalize upd (upd (upd (upd HB dx (.own x)) x (.ins a.Sizes dx [])) x (.ins a.Sizes dx (szF l oo))) p (.tup [.str "told", .ref x]) = HC at *
      have fl := fit_of hl
      have fo : FitO oo := fun i z => fit_of (ho i z)
      obtain ⟨dt1, dt2, dt3, dt4⟩ := dat fl fo
      refine ⟨_, rfl, rfl, _, rfl, ite2 (fun z => by rw [decide_eq_true rfl] at z; cases z) fun _ => iteF ?_⟩
      refine ⟨_, rfl, rfl, _, rfl, ite2 (fun _ => ?_) fun z => absurd (decide_eq_true rfl) z⟩
      refine ⟨_, rfl, p, _, _, _, rfl, rfl, SqT.of eP, rfl, rfl, _, rfl, ite2 (fun z => by rw [decide_eq_true rfl] at z; cases z) fun _ => ?_⟩
      refine ⟨_, rfl, rfl, _, rfl, ite2 (fun _ => ?_) fun z => absurd (decide_eq_true rfl) z⟩
      refine ⟨_, rfl, p, _, _, _, rfl, rfl, SqT.of eP, rfl, ?_⟩
      -- repr, str
      refine ⟨_, rfl, x, _, dx, _, _, rfl, eX, T.c_Sizes.cl, T.a_Sizes_low, szF_low _ _, _, rfl, x, _, dx, _, _, rfl, eX, T.c_Sizes.cl, T.a_Sizes_high, szF_high _ _, (by show 2 ≤ sizeLine; decide), fun q1 hq1 => ?_⟩
      have m1 := same_new (o := .lst [.int l, hV oo]) hq1
      refine ⟨_, .list [.int l, hD oo], rfl, .lst (SqL.of upd_same) (.cons (.int _) (.cons (dpH _) .nil)), dt1, dt2, dt3, dt4, ?_⟩
      refine ⟨_, rfl, _, rfl, (by show 2 ≤ sizeLine; decide), fun q2 hq2 => ?_⟩
      have m2 := m1.trans (same_new (o := .lst [.int l, hV oo]) hq2)
      refine ⟨_, .list [.int l, hD oo], rfl, .lst (SqL.of upd_same) (.cons (.int _) (.cons (dpH _) .nil)), dt1, dt2, dt3, dt4, rfl, _, rfl, ite2 (fun z => by rw [decide_eq_true rfl] at z; cases z) fun _ => ?_⟩
      have S2 : SzAt (upd (upd HC q1 (.lst [.int l, hV oo])) q2 (.lst [.int l, hV oo])) a.Sizes x l oo := ⟨dx, m2 _ _ eX⟩
      refine ⟨_, rfl, x, rfl, S2.ins, x, l, oo, rfl, S2, fl, fo, _, rfl, _, rfl, _, rfl, l, oo, rfl, fl, fo, rfl, _, rfl, ite2 (fun z => by rw [decide_eq_true rfl] at z; cases z) fun _ => ?_⟩
      have BD := BC.same m2
      have TD := TC.ext m2
      clear m1 m2 eX eP BC TC
      generalize upd (upd HC q1 (.lst [.int l, hV oo])) q2 (.lst [.int l, hV oo]) = HD at *
      -- sizes near by
      refine ⟨_, rfl, _, rfl, _, _, rfl, rfl, _, rfl, _, _, rfl, rfl, _, rfl, _, _, rfl, rfl, _, rfl, _, _, rfl, rfl, _, rfl, _, rfl, d, 30, rfl, BD, by decide, by decide, fun zd od e0 e1 BE => ?_⟩
      refine ⟨_, _, rfl, rfl, .inl ⟨by decide, by decide⟩, _, _, rfl, rfl, (by show 6 ≤ sizeLine; decide), fun q3 hq3 => ?_⟩
      have B3 : Bag (upd (upd HD d od) q3 (.lst [.int l, .int (l + 1), .int (l + 2), .int (l - 1), .int (l - 2), .int (l + 2 * zd)])) d := BE.same (same_new hq3)
      have nx : x ≠ d := by obtain ⟨dz, hz⟩ := S2; exact BD.ne hz fun _ z => by cases z
      have sE : SameBut d HD (upd (upd HD d od) q3 (.lst [.int l, .int (l + 1), .int (l + 2), .int (l - 1), .int (l - 2), .int (l + 2 * zd)])) := SameBut.upd.trans (SameBut.of (same_new hq3))
      have S3 : SzAt (upd (upd HD d od) q3 (.lst [.int l, .int (l + 1), .int (l + 2), .int (l - 1), .int (l - 2), .int (l + 2 * zd)])) a.Sizes x l oo := by obtain ⟨dz, hz⟩ := S2; exact ⟨dz, sE _ _ nx hz⟩
      have T3 := tabs_but TD BD sE
      have e3 : (upd (upd HD d od) q3 (.lst [.int l, .int (l + 1), .int (l + 2), .int (l - 1), .int (l - 2), .int (l + 2 * zd)])) q3 = some (.lst [.int l, .int (l + 1), .int (l + 2), .int (l - 1), .int (l - 2), .int (l + 2 * zd)]) := upd_same
      clear sE BE S2 TD
      generalize upd (upd HD d od) q3 (.lst [.int l, .int (l + 1), .int (l + 2), .int (l - 1), .int (l - 2), .int (l + 2 * zd)]) = HE at *
      refine ⟨_, rfl, _, _, rfl, rfl, ⟨by decide, by decide, by decide⟩, _, _, rfl, rfl, ⟨by decide, by decide, by decide⟩, _, _, rfl, rfl, (by show 2 ≤ sizeLine; decide), fun q4 hq4 => ?_⟩
      have m4 := same_new (o := .lst [.int (10 ^ Int.toNat 40), .int (10 ^ Int.toNat 40 + 1)]) hq4
      refine ⟨q3, q4, _, _, rfl, rfl, m4 _ _ e3, upd_same, (by show 6 + 2 ≤ sizeLine; decide), fun q5 hq5 => ?_⟩
      have m5 := m4.trans (same_new (o := .lst ([.int l, .int (l + 1), .int (l + 2), .int (l - 1), .int (l - 2), .int (l + 2 * zd)] ++ [.int (10 ^ Int.toNat 40), .int (10 ^ Int.toNat 40 + 1)])) hq5)
      have e5 : (upd (upd HE q4 (.lst [.int (10 ^ Int.toNat 40), .int (10 ^ Int.toNat 40 + 1)])) q5 (.lst ([.int l, .int (l + 1), .int (l + 2), .int (l - 1), .int (l - 2), .int (l + 2 * zd)] ++ [.int (10 ^ Int.toNat 40), .int (10 ^ Int.toNat 40 + 1)]))) q5 = some (.lst ([.int l, .int (l + 1), .int (l + 2), .int (l - 1), .int (l - 2), .int (l + 2 * zd)] ++ [.int (10 ^ Int.toNat 40), .int (10 ^ Int.toNat 40 + 1)])) := upd_same
      have SL := S3.same m5
      have BL := B3.same m5
      have TL := T3.ext m5
      clear m4 m5 e3 S3 B3 T3 hq5
      generalize upd (upd HE q4 (.lst [.int (10 ^ Int.toNat 40), .int (10 ^ Int.toNat 40 + 1)])) q5 (.lst ([.int l, .int (l + 1), .int (l + 2), .int (l - 1), .int (l - 2), .int (l + 2 * zd)] ++ [.int (10 ^ Int.toNat 40), .int (10 ^ Int.toNat 40 + 1)])) = HL at *
      refine ⟨q5, rfl, ⟨_, SqL.of e5⟩, for_list (K := K) (a := q5) (xs := [.int l, .int (l + 1), .int (l + 2), .int (l - 1), .int (l - 2), .int (l + 2 * zd)] ++ [.int (10 ^ Int.toNat 40), .int (10 ^ Int.toNat 40 + 1)])
        (fun j σ H' => ∃ v8 v9 v12 : Option V, σ = [some (.ref sa), some (.ref d), some (.int (0 + (i : Int))), some (.int b), some .non, some (.ref p), some (.ref x), some (.ref q3), v8, v9, some (.int l), some (hV oo), v12] ∧ H' = HL)
        ⟨_, _, _, rfl, rfl⟩ (fun _ _ _ _ h => by obtain ⟨_, _, _, _, rfl⟩ := h; exact SqL.of e5) ?_ ?_⟩
      · rintro j xv σ H' hx ⟨v8, v9, v12, rfl, rfl⟩
        obtain ⟨n, rfl⟩ : ∃ n : Int, xv = .int n := by
          have hx := List.mem_of_getElem? hx
          simp only [List.cons_append, List.nil_append, List.mem_cons, List.not_mem_nil, or_false] at hx
          rcases hx with h | h | h | h | h | h | h | h <;> exact ⟨_, h⟩
        refine ⟨_, rfl, _, rfl, _, _, rfl, rfl, _, rfl, ite2 (fun z1 => ?_) fun z1 => ?_⟩
        · have z1 : l ≤ n := of_decide_eq_true z1
          refine ⟨_, rfl, _, _, rfl, rfl, ⟨by decide, by decide⟩, _, _, rfl, rfl, .inr ⟨by decide, by decide⟩, _, rfl, _, _, rfl, rfl, _, rfl, _, _, rfl, rfl, ⟨by decide, by decide⟩, _, _, rfl, rfl, .inr ⟨by decide, by decide⟩, _, rfl, _, _, rfl, rfl, rfl, _, rfl, ite2 (fun z2 => ?_) fun z2 => ?_⟩
          · have z2 : n / 2 * 2 - n = l / 2 * 2 - l := V.int.inj (of_decide_eq_true z2)
            refine ⟨_, rfl, rfl, _, rfl, ?_⟩
            have z3 : (n - l) % 2 = 0 := by omega
            cases oo with
            | none =>
              have e0 : inS l none n = true := inS_up z1 z3
              refine ite2 (fun _ => ?_) fun z => absurd (decide_eq_true rfl) z
              refine ⟨_, rfl, _, rfl, x, rfl, SL.ins, x, l, none, .int n, rfl, SL, .inr ⟨n, rfl, _, rfl, _, rfl, rfl, _, rfl, ite2 (fun z => ?_) fun _ => ⟨_, _, _, rfl, rfl⟩⟩⟩
              have z : (!decide (V.bl (inS l none n) = V.bl true)) = true := z
              rw [e0, decide_eq_true rfl] at z
              cases z
            | some h =>
              have e0 : inS l (some h) n = decide (n ≤ h) := inS_up z1 z3
              refine ite2 (fun z => by cases of_decide_eq_true z) fun _ => ⟨_, rfl, _, rfl, _, _, rfl, rfl, ?_⟩
              refine ⟨_, rfl, _, rfl, x, rfl, SL.ins, x, l, some h, .int n, rfl, SL, .inr ⟨n, rfl, _, rfl, _, rfl, rfl, _, rfl, ite2 (fun z => ?_) fun _ => ⟨_, _, _, rfl, rfl⟩⟩⟩
              have z : (!decide (V.bl (inS l (some h) n) = V.bl (decide (n ≤ h)))) = true := z
              rw [e0, decide_eq_true rfl] at z
              cases z
          · have z2 : ¬ (n - l) % 2 = 0 := fun y => z2 (decide_eq_true (by show V.int _ = V.int _; congr 1; omega))
            have e0 : inS l oo n = false := by unfold inS; rw [decide_eq_false z2]; simp
            refine ⟨_, rfl, _, rfl, x, rfl, SL.ins, x, l, oo, .int n, rfl, SL, .inr ⟨n, rfl, _, rfl, _, rfl, rfl, _, rfl, ite2 (fun z => ?_) fun _ => ⟨_, _, _, rfl, rfl⟩⟩⟩
            have z : (!decide (V.bl (inS l oo n) = V.bl (false))) = true := z
            rw [e0, decide_eq_true rfl] at z
            cases z
        · have z1 : ¬ l ≤ n := fun y => z1 (decide_eq_true y)
          have e0 : inS l oo n = false := by unfold inS; rw [decide_eq_false z1]; rfl
          refine ⟨_, rfl, _, rfl, x, rfl, SL.ins, x, l, oo, .int n, rfl, SL, .inr ⟨n, rfl, _, rfl, _, rfl, rfl, _, rfl, ite2 (fun z => ?_) fun _ => ⟨_, _, _, rfl, rfl⟩⟩⟩
          have z : (!decide (V.bl (inS l oo n) = V.bl (false))) = true := z
          rw [e0, decide_eq_true rfl] at z
          cases z
      · rintro σ H' ⟨v8, v9, v12, rfl, rfl⟩
        refine ⟨_, rfl, (by show 1 ≤ sizeLine; decide), fun t1 ht1 => ⟨_, rfl, (by show 1 ≤ sizeLine; decide), fun t2 ht2 => fun t3 ht3 => ⟨(by show 6 ≤ sizeLine; decide), fun t4 ht4 => ?_⟩⟩⟩
        have n1 := same_new (o := .tup [.int l]) ht1
        have n2 := same_new (o := .lst [.int l]) ht2
        have n3 := same_new (o := .dK []) ht3
        have n4 := same_new (o := .lst [.non, .bl true, .str "1", .ref t1, .ref t2, .ref t3]) ht4
        have f1 := n4 _ _ (n3 _ _ (n2 _ _ (upd_same (H := H') (o := .tup [.int l]) (a := t1))))
        have f2 := n4 _ _ (n3 _ _ (upd_same (H := upd H' t1 (.tup [.int l])) (o := .lst [.int l]) (a := t2)))
        have f3 := n4 _ _ (upd_same (H := upd (upd H' t1 (.tup [.int l])) t2 (.lst [.int l])) (o := .dK []) (a := t3))
        have f4 : (upd (upd (upd (upd H' t1 (.tup [.int l])) t2 (.lst [.int l])) t3 (.dK [])) t4 (.lst [.non, .bl true, .str "1", .ref t1, .ref t2, .ref t3])) t4 = _ := upd_same
        have nn := n1.trans (n2.trans (n3.trans n4))
        have SM := SL.same nn
        have BM := BL.same nn
        have TM := TL.ext nn
        clear n1 n2 n3 n4 nn e5 SL BL TL
        generalize upd (upd (upd (upd H' t1 (.tup [.int l])) t2 (.lst [.int l])) t3 (.dK [])) t4 (.lst [.non, .bl true, .str "1", .ref t1, .ref t2, .ref t3]) = HM at *
        refine ⟨t4, rfl, ⟨_, SqL.of f4⟩, fun D hD => lc_list (K := K) (a := t4) (xs := [.non, .bl true, .str "1", .ref t1, .ref t2, .ref t3]) (fun _ H' => H' = upd HM D (.lst [])) rfl (fun _ _ _ h => by subst h; exact SqL.of (same_new hD _ _ f4)) ?_ ?_⟩
        · rintro j xv H' hx rfl
          have nD := same_new (o := .lst []) hD
          have nv : NoTy K (upd HM D (.lst [])) xv := by
            have hx := List.mem_of_getElem? hx
            simp only [List.mem_cons, List.not_mem_nil, or_false] at hx
            rcases hx with rfl | rfl | rfl | rfl | rfl | rfl
            · exact ⟨_, .non, by decide⟩
            · exact ⟨_, .bl _, by decide⟩
            · exact ⟨_, .str _, by decide⟩
            · exact ⟨_, .tup (.inl (.inl (nD _ _ f1))), by decide⟩
            · exact ⟨_, .lst (SqL.of (nD _ _ f2)), by decide⟩
            · exact ⟨_, .dK (nD _ _ f3), by decide⟩
          have SD := SM.same nD
          refine ⟨rfl, _, rfl, _, rfl, x, rfl, SD.ins, x, l, oo, xv, rfl, SD, .inl ⟨nv, _, rfl, _, rfl, ?_⟩⟩
          exact iteF rfl
        · rintro H' rfl
          refine ⟨(by show 0 ≤ sizeLine; decide), fun t5 ht5 => ?_⟩
          have nD := same_new (o := .lst []) hD
          have n5 := same_new (o := .lst []) ht5
          refine ⟨.list [], .list [], .lst (SqL.of (n5 _ _ upd_same)) .nil, .lst (SqL.of upd_same) .nil, rfl, rfl, _, rfl, ?_⟩
          rw [show PyData.eqv (.list []) (.list []) = true from by simp [PyData.eqv, PyData.eqvAll]]
          refine iteF ?_
          have nn := nD.trans n5
          have SX := SM.same nn
          have BX := BM.same nn
          have TX := TM.ext nn
          clear nn nD n5 SM BM TM f1 f2 f3 f4 hD ht5
          generalize upd (upd HM D (.lst [])) t5 (.lst []) = HX at *
          refine ⟨_, rfl, _, rfl, _, rfl, rfl, _, rfl, ?_⟩
          cases oo with
          | none =>
            refine ite2 (fun _ => ⟨_, rfl, _, _, rfl, rfl, ?_⟩) fun z => absurd (decide_eq_true rfl) z
            refine fun yA dyA nyA ndyA neyA => ⟨yA, dyA, _, _, rfl, upd_same, .inr ⟨l, some (l + 2), rfl, rfl, h1, (fun _ e => by cases e; exact ⟨by omega, by omega⟩), rfl, ?_⟩⟩
            have mA : Same HX (upd (upd (upd HX dyA (.own yA)) yA (.ins a.Sizes dyA [])) yA (.ins a.Sizes dyA (szF l (some (l + 2))))) := by
              have ny' : (upd HX dyA (.own yA)) yA = none := by rw [upd_ne (Ne.symm neyA)]; exact nyA
              rw [upd_upd]
              exact (same_new ndyA).trans (same_new ny')
            have YA : SzAt (upd (upd (upd HX dyA (.own yA)) yA (.ins a.Sizes dyA [])) yA (.ins a.Sizes dyA (szF l (some (l + 2))))) a.Sizes yA l (some (l + 2)) := ⟨dyA, upd_same⟩
            have SA := SX.same mA
            have BA := BX.same mA
            have TA := TX.ext mA
            clear mA nyA ndyA neyA SX BX TX
            generalize upd (upd (upd HX dyA (.own yA)) yA (.ins a.Sizes dyA [])) yA (.ins a.Sizes dyA (szF l (some (l + 2)))) = HA at *
            refine ⟨x, yA, rfl, rfl, SA.ins, YA.ins, x, l, none, .ref yA, rfl, SA, .inl ⟨yA, l, some (l + 2), rfl, YA, _, rfl, ?_⟩⟩
            rw [decide_eq_false (fun e => by cases e.2)]
            refine iteF ?_
            refine ⟨_, rfl, _, rfl, _, rfl, rfl, rfl, fun yK dyK nyK ndyK neyK => ⟨yK, dyK, _, _, rfl, upd_same, .inr ⟨l, rfl, h1, .inr ⟨none, rfl, hok, rfl, ?_⟩⟩⟩⟩
            have mK : Same HA (upd (upd (upd HA dyK (.own yK)) yK (.ins a.Sizes dyK [])) yK (.ins a.Sizes dyK (szF l none))) := by
              have ny' : (upd HA dyK (.own yK)) yK = none := by rw [upd_ne (Ne.symm neyK)]; exact nyK
              rw [upd_upd]
              exact (same_new ndyK).trans (same_new ny')
            have YK : SzAt (upd (upd (upd HA dyK (.own yK)) yK (.ins a.Sizes dyK [])) yK (.ins a.Sizes dyK (szF l none))) a.Sizes yK l none := ⟨dyK, upd_same⟩
            have SK := SA.same mK
            have BK := BA.same mK
            have TK := TA.ext mK
            clear mK nyK ndyK neyK SA BA TA YA
            generalize upd (upd (upd HA dyK (.own yK)) yK (.ins a.Sizes dyK [])) yK (.ins a.Sizes dyK (szF l none)) = HK at *
            refine ⟨x, yK, rfl, rfl, SK.ins, YK.ins, x, l, none, .ref yK, rfl, SK, .inl ⟨yK, l, none, rfl, YK, _, rfl, _, rfl, ?_⟩⟩
            rw [decide_eq_true ⟨rfl, rfl⟩]
            refine iteF ?_
            refine ⟨_, rfl, _, rfl, _, _, rfl, rfl, fun yC dyC nyC ndyC neyC => ⟨yC, dyC, _, _, rfl, upd_same, .inr ⟨l + 2, none, rfl, rfl, by omega, (fun _ e => by cases e), rfl, ?_⟩⟩⟩
            have mC : Same HK (upd (upd (upd HK dyC (.own yC)) yC (.ins a.Sizes dyC [])) yC (.ins a.Sizes dyC (szF (l + 2) none))) := by
              have ny' : (upd HK dyC (.own yC)) yC = none := by rw [upd_ne (Ne.symm neyC)]; exact nyC
              rw [upd_upd]
              exact (same_new ndyC).trans (same_new ny')
            have YC : SzAt (upd (upd (upd HK dyC (.own yC)) yC (.ins a.Sizes dyC [])) yC (.ins a.Sizes dyC (szF (l + 2) none))) a.Sizes yC (l + 2) none := ⟨dyC, upd_same⟩
            have SC := SK.same mC
            have BC := BK.same mC
            have TC := TK.ext mC
            clear mC nyC ndyC neyC SK BK TK YK
            generalize upd (upd (upd HK dyC (.own yC)) yC (.ins a.Sizes dyC [])) yC (.ins a.Sizes dyC (szF (l + 2) none)) = HC at *
            refine ⟨x, yC, rfl, rfl, SC.ins, YC.ins, x, l, none, .ref yC, rfl, SC, .inl ⟨yC, l + 2, none, rfl, YC, _, rfl, ?_⟩⟩
            rw [decide_eq_false (fun e => by have := e.1; omega)]
            refine iteF ?_
            refine ⟨_, rfl, _, rfl, _, rfl, (by show 2 ≤ sizeLine; decide), fun t6 ht6 => ?_⟩
            have m6 := same_new (o := .tup [.int l, hV none]) ht6
            have S6 := SC.same m6
            refine ⟨x, .type "tuple", rfl, S6.ins, .base (.tup upd_same), notFirst_of T.s_Sizes_tuple, x, l, none, .ref t6, rfl, S6, .inr ⟨t6, _, rfl, upd_same, _, rfl, iteF ?_⟩⟩
            exact ⟨_, _, _, _, _, _, _, _, _, _, _, rfl, BC.same m6, TC.ext m6⟩
          | some h =>
            have hh := hok h rfl
            refine ite2 (fun z => by cases of_decide_eq_true z) fun _ => ⟨_, rfl, _, _, rfl, rfl, ?_⟩
            refine fun yA dyA nyA ndyA neyA => ⟨yA, dyA, _, _, rfl, upd_same, .inr ⟨l, some (h + 2), rfl, rfl, h1, (fun _ e => by cases e; exact ⟨by omega, by omega⟩), rfl, ?_⟩⟩
            have mA : Same HX (upd (upd (upd HX dyA (.own yA)) yA (.ins a.Sizes dyA [])) yA (.ins a.Sizes dyA (szF l (some (h + 2))))) := by
              have ny' : (upd HX dyA (.own yA)) yA = none := by rw [upd_ne (Ne.symm neyA)]; exact nyA
              rw [upd_upd]
              exact (same_new ndyA).trans (same_new ny')
            have YA : SzAt (upd (upd (upd HX dyA (.own yA)) yA (.ins a.Sizes dyA [])) yA (.ins a.Sizes dyA (szF l (some (h + 2))))) a.Sizes yA l (some (h + 2)) := ⟨dyA, upd_same⟩
            have SA := SX.same mA
            have BA := BX.same mA
            have TA := TX.ext mA
            clear mA nyA ndyA neyA SX BX TX
            generalize upd (upd (upd HX dyA (.own yA)) yA (.ins a.Sizes dyA [])) yA (.ins a.Sizes dyA (szF l (some (h + 2)))) = HA at *
            refine ⟨x, yA, rfl, rfl, SA.ins, YA.ins, x, l, some h, .ref yA, rfl, SA, .inl ⟨yA, l, some (h + 2), rfl, YA, _, rfl, ?_⟩⟩
            rw [decide_eq_false (fun e => by have := Option.some.inj e.2; omega)]
            refine iteF ?_
            refine ⟨_, rfl, _, rfl, _, rfl, rfl, rfl, fun yK dyK nyK ndyK neyK => ⟨yK, dyK, _, _, rfl, upd_same, .inr ⟨l, rfl, h1, .inr ⟨some h, rfl, hok, rfl, ?_⟩⟩⟩⟩
            have mK : Same HA (upd (upd (upd HA dyK (.own yK)) yK (.ins a.Sizes dyK [])) yK (.ins a.Sizes dyK (szF l (some h)))) := by
              have ny' : (upd HA dyK (.own yK)) yK = none := by rw [upd_ne (Ne.symm neyK)]; exact nyK
              rw [upd_upd]
              exact (same_new ndyK).trans (same_new ny')
            have YK : SzAt (upd (upd (upd HA dyK (.own yK)) yK (.ins a.Sizes dyK [])) yK (.ins a.Sizes dyK (szF l (some h)))) a.Sizes yK l (some h) := ⟨dyK, upd_same⟩
            have SK := SA.same mK
            have BK := BA.same mK
            have TK := TA.ext mK
            clear mK nyK ndyK neyK SA BA TA YA
            generalize upd (upd (upd HA dyK (.own yK)) yK (.ins a.Sizes dyK [])) yK (.ins a.Sizes dyK (szF l (some h))) = HK at *
            refine ⟨x, yK, rfl, rfl, SK.ins, YK.ins, x, l, some h, .ref yK, rfl, SK, .inl ⟨yK, l, some h, rfl, YK, _, rfl, _, rfl, ?_⟩⟩
            rw [decide_eq_true ⟨rfl, rfl⟩]
            refine iteF ?_
            refine ⟨_, rfl, _, rfl, _, _, rfl, rfl, fun yC dyC nyC ndyC neyC => ⟨yC, dyC, _, _, rfl, upd_same, .inr ⟨l + 2, none, rfl, rfl, by omega, (fun _ e => by cases e), rfl, ?_⟩⟩⟩
            have mC : Same HK (upd (upd (upd HK dyC (.own yC)) yC (.ins a.Sizes dyC [])) yC (.ins a.Sizes dyC (szF (l + 2) none))) := by
              have ny' : (upd HK dyC (.own yC)) yC = none := by rw [upd_ne (Ne.symm neyC)]; exact nyC
              rw [upd_upd]
              exact (same_new ndyC).trans (same_new ny')
            have YC : SzAt (upd (upd (upd HK dyC (.own yC)) yC (.ins a.Sizes dyC [])) yC (.ins a.Sizes dyC (szF (l + 2) none))) a.Sizes yC (l + 2) none := ⟨dyC, upd_same⟩
            have SC := SK.same mC
            have BC := BK.same mC
            have TC := TK.ext mC
            clear mC nyC ndyC neyC SK BK TK YK
            generalize upd (upd (upd HK dyC (.own yC)) yC (.ins a.Sizes dyC [])) yC (.ins a.Sizes dyC (szF (l + 2) none)) = HC at *
            refine ⟨x, yC, rfl, rfl, SC.ins, YC.ins, x, l, some h, .ref yC, rfl, SC, .inl ⟨yC, l + 2, none, rfl, YC, _, rfl, ?_⟩⟩
            rw [decide_eq_false (fun e => by have := e.1; omega)]
            refine iteF ?_
            refine ⟨_, rfl, _, rfl, _, rfl, (by show 2 ≤ sizeLine; decide), fun t6 ht6 => ?_⟩
            have m6 := same_new (o := .tup [.int l, hV (some h)]) ht6
            have S6 := SC.same m6
            refine ⟨x, .type "tuple", rfl, S6.ins, .base (.tup upd_same), notFirst_of T.s_Sizes_tuple, x, l, some h, .ref t6, rfl, S6, .inr ⟨t6, _, rfl, upd_same, _, rfl, iteF ?_⟩⟩
            exact ⟨_, _, _, _, _, _, _, _, _, _, _, rfl, BC.same m6, TC.ext m6⟩
  · rintro σ H' ⟨v2, v3, v4, v5, v6, v7, v8, v9, v10, v11, v12, rfl, BZ, TZ⟩
    refine fun yA dyA nyA ndyA neyA => ⟨yA, dyA, _, _, rfl, upd_same, .inr ⟨3, rfl, by decide, .inr ⟨none, rfl, (fun _ e => by cases e), rfl, ?_⟩⟩⟩
    have mA : Same H' (upd (upd (upd H' dyA (.own yA)) yA (.ins a.Sizes dyA [])) yA (.ins a.Sizes dyA (szF 3 none))) := by
      have ny' : (upd H' dyA (.own yA)) yA = none := by rw [upd_ne (Ne.symm neyA)]; exact nyA
      rw [upd_upd]
      exact (same_new ndyA).trans (same_new ny')
    have YA : SzAt (upd (upd (upd H' dyA (.own yA)) yA (.ins a.Sizes dyA [])) yA (.ins a.Sizes dyA (szF 3 none))) a.Sizes yA 3 none := ⟨dyA, upd_same⟩
    clear mA nyA ndyA neyA
    generalize upd (upd (upd H' dyA (.own yA)) yA (.ins a.Sizes dyA [])) yA (.ins a.Sizes dyA (szF 3 none)) = HA at *
    refine fun yB dyB nyB ndyB neyB => ⟨yB, dyB, _, _, rfl, upd_same, .inr ⟨3, none, rfl, rfl, by decide, (fun _ e => by cases e), rfl, ?_⟩⟩
    have mB : Same HA (upd (upd (upd HA dyB (.own yB)) yB (.ins a.Sizes dyB [])) yB (.ins a.Sizes dyB (szF 3 none))) := by
      have ny' : (upd HA dyB (.own yB)) yB = none := by rw [upd_ne (Ne.symm neyB)]; exact nyB
      rw [upd_upd]
      exact (same_new ndyB).trans (same_new ny')
    have YB : SzAt (upd (upd (upd HA dyB (.own yB)) yB (.ins a.Sizes dyB [])) yB (.ins a.Sizes dyB (szF 3 none))) a.Sizes yB 3 none := ⟨dyB, upd_same⟩
    have SA := YA.same mB
    clear mB nyB ndyB neyB
    generalize upd (upd (upd HA dyB (.own yB)) yB (.ins a.Sizes dyB [])) yB (.ins a.Sizes dyB (szF 3 none)) = HB at *
    refine ⟨yA, yB, rfl, rfl, SA.ins, YB.ins, yA, 3, none, .ref yB, rfl, SA, .inl ⟨yB, 3, none, rfl, YB, _, rfl, ?_⟩⟩
    rw [decide_eq_true ⟨rfl, rfl⟩]
    refine iteT ?_
    refine fun yC dyC nyC ndyC neyC => ⟨yC, dyC, _, _, rfl, upd_same, .inr ⟨4, some 4, rfl, rfl, by decide, (fun _ e => by cases e; exact ⟨by decide, by decide⟩), rfl, ?_⟩⟩
    have mC : Same HB (upd (upd (upd HB dyC (.own yC)) yC (.ins a.Sizes dyC [])) yC (.ins a.Sizes dyC (szF 4 (some 4)))) := by
      have ny' : (upd HB dyC (.own yC)) yC = none := by rw [upd_ne (Ne.symm neyC)]; exact nyC
      rw [upd_upd]
      exact (same_new ndyC).trans (same_new ny')
    have YC : SzAt (upd (upd (upd HB dyC (.own yC)) yC (.ins a.Sizes dyC [])) yC (.ins a.Sizes dyC (szF 4 (some 4)))) a.Sizes yC 4 (some 4) := ⟨dyC, upd_same⟩
    clear mC nyC ndyC neyC
    generalize upd (upd (upd HB dyC (.own yC)) yC (.ins a.Sizes dyC [])) yC (.ins a.Sizes dyC (szF 4 (some 4))) = HC at *
    refine ⟨yC, rfl, YC.ins, yC, 4, some 4, rfl, YC, (by unfold Fit; decide), (fun _ e => by cases e; unfold Fit; decide), _, rfl, rfl, _, rfl, ?_⟩
    rw [show txS 4 (some 4) = Str.ofString "4" from by decide +kernel, decide_eq_true rfl]
    refine iteT ?_
    refine fun yD dyD nyD ndyD neyD => ⟨yD, dyD, _, _, rfl, upd_same, .inr ⟨2, rfl, by decide, .inr ⟨none, rfl, (fun _ e => by cases e), rfl, ?_⟩⟩⟩
    have mD : Same HC (upd (upd (upd HC dyD (.own yD)) yD (.ins a.Sizes dyD [])) yD (.ins a.Sizes dyD (szF 2 none))) := by
      have ny' : (upd HC dyD (.own yD)) yD = none := by rw [upd_ne (Ne.symm neyD)]; exact nyD
      rw [upd_upd]
      exact (same_new ndyD).trans (same_new ny')
    have YD : SzAt (upd (upd (upd HC dyD (.own yD)) yD (.ins a.Sizes dyD [])) yD (.ins a.Sizes dyD (szF 2 none))) a.Sizes yD 2 none := ⟨dyD, upd_same⟩
    clear mD nyD ndyD neyD
    generalize upd (upd (upd HC dyD (.own yD)) yD (.ins a.Sizes dyD [])) yD (.ins a.Sizes dyD (szF 2 none)) = HD at *
    refine ⟨yD, rfl, YD.ins, yD, 2, none, .int 1, rfl, YD, .inr ⟨1, rfl, _, rfl, ?_⟩⟩
    rw [show inS 2 none 1 = false from by decide]
    exact k _
end
end Pf
end
section
namespace Pf
open PySem PySem.Spec PyProof.Rows L2 Ow StX

theorem fnt_mk {K : PySem.W.Frag} {x qual : Str} {st : Stmt} {f : Addr} {oc : Value} {od an : Option Addr} {osl : Array (Option Value)} {kV doc pm cdv ct : Value}
    (l : K.lookup f = some ⟨oc, od, .func (PySem.W.fnOf x qual (defArgs st) (defBody st) (defScope st) .none kV doc pm an cdv ct), osl⟩) (c : PySem.W.codeIn K cdv qual = true) (k : PySem.W.keepIn K (.ref f) = true) : FnT K x qual st [] f :=
  ⟨_, ⟨⟨oc, od, .none, kV, doc, pm, an, cdv, ct, osl, rfl, l, c, .inl ⟨rfl, rfl⟩, .inl rfl⟩, k⟩⟩
theorem fntD_mk {K : PySem.W.Frag} {x qual : Str} {st : Stmt} {f D : Addr} {oc : Value} {od an : Option Addr} {osl : Array (Option Value)} {kV doc pm cdv ct tc : Value} {td : Option Addr} {tn : Nat} {ts : Array (Option Value)} {its : List Value} {dvs : List V}
    (l : K.lookup f = some ⟨oc, od, .func (PySem.W.fnOf x qual (defArgs st) (defBody st) (defScope st) (.ref D) kV doc pm an cdv ct), osl⟩) (c : PySem.W.codeIn K cdv qual = true) (k : PySem.W.keepIn K (.ref f) = true)
    (t : K.lookup D = some ⟨tc, td, .seq its.toArray tn, ts⟩) (hd : dvs ≠ []) (v : Vals dvs its) : FnT K x qual st dvs f :=
  ⟨_, ⟨⟨oc, od, .ref D, kV, doc, pm, an, cdv, ct, osl, rfl, l, c, .inr ⟨hd, D, _, its, tn, rfl, t, rfl, v⟩, .inl rfl⟩, k⟩⟩
theorem fntD1_mk {K : PySem.W.Frag} {x qual : Str} {st : Stmt} {f D : Addr} {oc : Value} {od an : Option Addr} {osl : Array (Option Value)} {kV doc pm cdv ct tc u : Value} {td : Option Addr} {tn : Nat} {ts : Array (Option Value)} {dv : V}
    (l : K.lookup f = some ⟨oc, od, .func (PySem.W.fnOf x qual (defArgs st) (defBody st) (defScope st) (.ref D) kV doc pm an cdv ct), osl⟩) (c : PySem.W.codeIn K cdv qual = true) (k : PySem.W.keepIn K (.ref f) = true)
    (t : K.lookup D = some ⟨tc, td, .seq #[u] tn, ts⟩) (v : RelV dv u) : FnT K x qual st [dv] f := fntD_mk (its := [u]) l c k t (by simp) (.cons v .nil)
theorem propR_mk {K : PySem.W.Frag} {C p g : Addr} {f : Str} {rest : List Value} (h1 : PySem.W.findIn K (.ref C) f = some (some (.ref p))) (h2 : PySem.W.specialIn K (.ref p) "__get__" = some (some (.builtin "property.__get__")))
    (h3 : PySem.W.takesIn K (.ref p) = some true) (h4 : PySem.W.recIn K p "property" = some (.ref g :: rest)) : PropR K C f p g := ⟨h1, h2, h3, rest, h4⟩
theorem mro2_mk {K : PySem.W.Frag} {C : Addr} {cd : PySem.ClassData} (h : PySem.W.clsIn K C = some cd) (m : (cd.mro == [.ref C, .type "object"]) = true) : mro2 K C = true := by
  unfold mro2
  rw [h]
  exact m

theorem errF_mk {K : PySem.W.Frag} {C g : Addr} {nm q N bs bm sn sub ab col dd k0 k1 k2 k3 k5} (l : K.lookup C = some (excClassObj nm q C N bs bm true sn sub ab col dd k0 k1 k2 k3 k5 "ValueError.__new__")) (r : PySem.HandSPX.refsVE bm = true)
    (s : PySem.W.findIn K (.ref C) "__setattr__" = some (some (.builtin "object.__setattr__"))) (x : PySem.W.subIn K (.ref C) (.type "BaseException") = some true) (t : PySem.W.typeIn K (.ref C) = some (.type "type")) (k : PySem.W.keepIn K (.ref C) = true)
    (i : PySem.W.findIn K (.ref C) "__init__" = some (some (.ref g))) (f : PySem.W.typeIn K (.ref g) = some (.type "function")) : ErrF K C g := ⟨⟨⟨_, _, _, _, _, _, _, _, _, _, _, _, _, _, _, l, r⟩, s, x, t, k⟩, i, f⟩
theorem all_mk {l : PySem.W.OpenLaw} {w : World} {K : PySem.W.Frag} {h : Heap} {mg : Str → Option Value} {fa : Addr} (X : K.In h) (G : h.Ns mainGlobals mg) (hfa : mg "law" = some (.ref fa))
    {x_BadClass_init x_is_int x_Sizes_init x_Sizes_contains x_Sizes_eq x_Sizes_str x__law_heard x__law_bag x__law_draw x__law_value x__law_is_size x__law_due x__law_written x_law x_Sizes x_BadClass x_HoldError c Tb : Addr}
    (n_len : PySem.W.nsIn K mainGlobals "len" = some none)
    (n_int : PySem.W.nsIn K mainGlobals "int" = some none)
    (n_abs : PySem.W.nsIn K mainGlobals "abs" = some none)
    (n_list : PySem.W.nsIn K mainGlobals "list" = some none)
    (n_isinstance : PySem.W.nsIn K mainGlobals "isinstance" = some none)
    (n_bool : PySem.W.nsIn K mainGlobals "bool" = some none)
    (n_range : PySem.W.nsIn K mainGlobals "range" = some none)
    (n_repr : PySem.W.nsIn K mainGlobals "repr" = some none)
    (n_str : PySem.W.nsIn K mainGlobals "str" = some none)
    (n_type : PySem.W.nsIn K mainGlobals "type" = some none)
    (m_is_int : PySem.W.nsIn K mainGlobals "is_int" = some (some (.ref x_is_int)))
    (m__law_heard : PySem.W.nsIn K mainGlobals "_law_heard" = some (some (.ref x__law_heard)))
    (m__law_bag : PySem.W.nsIn K mainGlobals "_law_bag" = some (some (.ref x__law_bag)))
    (m__law_draw : PySem.W.nsIn K mainGlobals "_law_draw" = some (some (.ref x__law_draw)))
    (m__law_value : PySem.W.nsIn K mainGlobals "_law_value" = some (some (.ref x__law_value)))
    (m__law_is_size : PySem.W.nsIn K mainGlobals "_law_is_size" = some (some (.ref x__law_is_size)))
    (m__law_due : PySem.W.nsIn K mainGlobals "_law_due" = some (some (.ref x__law_due)))
    (m__law_written : PySem.W.nsIn K mainGlobals "_law_written" = some (some (.ref x__law_written)))
    (m_law : PySem.W.nsIn K mainGlobals "law" = some (some (.ref x_law)))
    (m_Sizes : PySem.W.nsIn K mainGlobals "Sizes" = some (some (.ref x_Sizes)))
    (c_Sizes : ClsF K x_Sizes)
    (M_Sizes : Mk K x_Sizes x_Sizes_init)
    (a_Sizes_low : PySem.W.findIn K (.ref x_Sizes) "low" = some none)
    (a_Sizes_high : PySem.W.findIn K (.ref x_Sizes) "high" = some none)
    (o_Sizes_contains : PySem.W.findIn K (.ref x_Sizes) "__contains__" = some (some (.ref x_Sizes_contains)))
    (f_Sizes_contains : PySem.W.isFn K (.ref x_Sizes_contains) = true)
    (o_Sizes_eq : PySem.W.findIn K (.ref x_Sizes) "__eq__" = some (some (.ref x_Sizes_eq)))
    (f_Sizes_eq : PySem.W.isFn K (.ref x_Sizes_eq) = true)
    (o_Sizes_str : PySem.W.findIn K (.ref x_Sizes) "__str__" = some (some (.ref x_Sizes_str)))
    (f_Sizes_str : PySem.W.isFn K (.ref x_Sizes_str) = true)
    (s_Sizes_not : PySem.W.notFirst K x_Sizes (.ref x_Sizes) = true)
    (s_Sizes_obj : PySem.W.subIn K (.ref x_Sizes) (.type "object") = some true)
    (o_ne : PySem.W.findIn K (.ref x_Sizes) "__ne__" = some (some (.builtin "object.__ne__")))
    (s_Sizes_tuple : PySem.W.subIn K (.type "tuple") (.ref x_Sizes) = some false)
    (m_BadClass : PySem.W.nsIn K mainGlobals "BadClass" = some (some (.ref x_BadClass)))
    (e_BadClass : ErrF K x_BadClass x_BadClass_init)
    (a_BadClass_part : PySem.W.findIn K (.ref x_BadClass) "part" = some none)
    (m_HoldError : PySem.W.nsIn K mainGlobals "HoldError" = some (some (.ref x_HoldError)))
    (xf_BadClass : XfC K x_BadClass)
    (xc_BadClass : ExcC K x_BadClass)
    (xi_BadClass : PySem.W.isClsIn K x_BadClass = true)
    (xt_BadClass : PySem.W.typeIn K (.ref x_BadClass) = some (.type "type"))
    (xm_BadClass_HoldError : PySem.W.exmOne K (.ref x_BadClass) (.ref x_HoldError) = some true)
    (d_BadClass_init : FnT K "__init__" "BadClass.__init__" s_BadClass_init [] x_BadClass_init)
    (d_is_int : FnT K "is_int" "is_int" s_is_int [] x_is_int)
    (k_is_int : PySem.W.keepIn K (.ref x_is_int) = true)
    (d_Sizes_init : FnT K "__init__" "Sizes.__init__" s_Sizes_init [.non] x_Sizes_init)
    (d_Sizes_contains : FnT K "__contains__" "Sizes.__contains__" s_Sizes_contains [] x_Sizes_contains)
    (d_Sizes_eq : FnT K "__eq__" "Sizes.__eq__" s_Sizes_eq [] x_Sizes_eq)
    (d_Sizes_str : FnT K "__str__" "Sizes.__str__" s_Sizes_str [] x_Sizes_str)
    (d__law_heard : FnT K "_law_heard" "_law_heard" s__law_heard [] x__law_heard)
    (k__law_heard : PySem.W.keepIn K (.ref x__law_heard) = true)
    (d__law_bag : FnT K "_law_bag" "_law_bag" s__law_bag [] x__law_bag)
    (k__law_bag : PySem.W.keepIn K (.ref x__law_bag) = true)
    (d__law_draw : FnT K "_law_draw" "_law_draw" s__law_draw [] x__law_draw)
    (k__law_draw : PySem.W.keepIn K (.ref x__law_draw) = true)
    (d__law_value : FnT K "_law_value" "_law_value" s__law_value [] x__law_value)
    (k__law_value : PySem.W.keepIn K (.ref x__law_value) = true)
    (d__law_is_size : FnT K "_law_is_size" "_law_is_size" s__law_is_size [] x__law_is_size)
    (k__law_is_size : PySem.W.keepIn K (.ref x__law_is_size) = true)
    (d__law_due : FnT K "_law_due" "_law_due" s__law_due [] x__law_due)
    (k__law_due : PySem.W.keepIn K (.ref x__law_due) = true)
    (d__law_written : FnT K "_law_written" "_law_written" s__law_written [] x__law_written)
    (k__law_written : PySem.W.keepIn K (.ref x__law_written) = true)
    (d_law : FnT K "law" "law" s_law [] x_law)
    (k_law : PySem.W.keepIn K (.ref x_law) = true)
    (FC : FnC K "law" "law" s_law x_law c)
    (CT : PySem.W.CodeHd h c Tb)
    (nT : List.lookup Tb K = none)
    (eT : h.get? Tb = some { cls := .none, data := .fields #[] })
    : LawT l w K 7 63 mg fa h := by
  have e := hfa.symm.trans (PySem.W.mg_of X G m_law)
  have e2 : x_law = fa := by
    cases e
    rfl
  subst e2
  have T : Txt K mg ⟨x_BadClass_init, x_is_int, x_Sizes_init, x_Sizes_contains, x_Sizes_eq, x_Sizes_str, x__law_heard, x__law_bag, x__law_draw, x__law_value, x__law_is_size, x__law_due, x__law_written, x_law, x_Sizes, x_BadClass, x_HoldError⟩ :=
    { n_len := PySem.W.mg_none_of X G n_len,
      n_int := PySem.W.mg_none_of X G n_int,
      n_abs := PySem.W.mg_none_of X G n_abs,
      n_list := PySem.W.mg_none_of X G n_list,
      n_isinstance := PySem.W.mg_none_of X G n_isinstance,
      n_bool := PySem.W.mg_none_of X G n_bool,
      n_range := PySem.W.mg_none_of X G n_range,
      n_repr := PySem.W.mg_none_of X G n_repr,
      n_str := PySem.W.mg_none_of X G n_str,
      n_type := PySem.W.mg_none_of X G n_type,
      d_BadClass_init := d_BadClass_init,
      d_is_int := d_is_int,
      m_is_int := PySem.W.mg_of X G m_is_int,
      k_is_int := k_is_int,
      d_Sizes_init := d_Sizes_init,
      d_Sizes_contains := d_Sizes_contains,
      d_Sizes_eq := d_Sizes_eq,
      d_Sizes_str := d_Sizes_str,
      d__law_heard := d__law_heard,
      m__law_heard := PySem.W.mg_of X G m__law_heard,
      k__law_heard := k__law_heard,
      d__law_bag := d__law_bag,
      m__law_bag := PySem.W.mg_of X G m__law_bag,
      k__law_bag := k__law_bag,
      d__law_draw := d__law_draw,
      m__law_draw := PySem.W.mg_of X G m__law_draw,
      k__law_draw := k__law_draw,
      d__law_value := d__law_value,
      m__law_value := PySem.W.mg_of X G m__law_value,
      k__law_value := k__law_value,
      d__law_is_size := d__law_is_size,
      m__law_is_size := PySem.W.mg_of X G m__law_is_size,
      k__law_is_size := k__law_is_size,
      d__law_due := d__law_due,
      m__law_due := PySem.W.mg_of X G m__law_due,
      k__law_due := k__law_due,
      d__law_written := d__law_written,
      m__law_written := PySem.W.mg_of X G m__law_written,
      k__law_written := k__law_written,
      d_law := d_law,
      m_law := PySem.W.mg_of X G m_law,
      k_law := k_law,
      m_Sizes := PySem.W.mg_of X G m_Sizes,
      c_Sizes := c_Sizes,
      M_Sizes := M_Sizes,
      a_Sizes_low := a_Sizes_low,
      a_Sizes_high := a_Sizes_high,
      o_Sizes_contains := o_Sizes_contains,
      f_Sizes_contains := f_Sizes_contains,
      o_Sizes_eq := o_Sizes_eq,
      f_Sizes_eq := f_Sizes_eq,
      o_Sizes_str := o_Sizes_str,
      f_Sizes_str := f_Sizes_str,
      s_Sizes_not := s_Sizes_not,
      s_Sizes_obj := s_Sizes_obj,
      o_ne := o_ne,
      s_Sizes_tuple := s_Sizes_tuple,
      m_HoldError := PySem.W.mg_of X G m_HoldError,
      xf_BadClass := xf_BadClass,
      xc_BadClass := xc_BadClass,
      xi_BadClass := xi_BadClass,
      xt_BadClass := xt_BadClass,
      xm_BadClass_HoldError := xm_BadClass_HoldError,
      m_BadClass := PySem.W.mg_of X G m_BadClass,
      e_BadClass := e_BadClass,
      a_BadClass_part := a_BadClass_part }
  exact ⟨c, Tb, spLaw K Tb, eT, nT, CT, fun H a ns hl hT hS => ⟨a, ns, rfl, hS, hl, hT, fun _ => rfl⟩, fun base _ _ TB => ok_law T FC TB⟩
end Pf
end
open PySem PySem.W PyProof.Rows
set_option maxRecDepth 100000 in
set_option maxHeartbeats 0 in
theorem PySem.Challenge.cw_heldfloods_k09_rows_of_sizes_holds : PySem.Challenge.rw_heldfloods_k09_rows_of_sizes.Holds := by
  w_on; o_law; k_head; (case hw => w_witness2)
  k_fill
  refine Ow.walk_ofTG (l := PySem.Challenge.rw_heldfloods_k09_rows_of_sizes) (k := 7) (n := 63) rfl (by decide) rfl ⟨rfl, by decide, by decide⟩ (fun w h Y => PySem.W.km_in_of Y) ?F
  case F =>
    intro w mg fa h Y KX G hmg
    refine' Pf.all_mk KX G hmg ?n_len ?n_int ?n_abs ?n_list ?n_isinstance ?n_bool ?n_range ?n_repr ?n_str ?n_type ?m_is_int ?m__law_heard ?m__law_bag ?m__law_draw ?m__law_value ?m__law_is_size ?m__law_due ?m__law_written ?m_law ?m_Sizes ?c_Sizes ?M_Sizes ?a_Sizes_low ?a_Sizes_high ?o_Sizes_contains ?f_Sizes_contains ?o_Sizes_eq ?f_Sizes_eq ?o_Sizes_str ?f_Sizes_str ?s_Sizes_not ?s_Sizes_obj ?o_ne ?s_Sizes_tuple ?m_BadClass ?e_BadClass ?a_BadClass_part ?m_HoldError ?xf_BadClass ?xc_BadClass ?xi_BadClass ?xt_BadClass ?xm_BadClass_HoldError ?d_BadClass_init ?d_is_int ?k_is_int ?d_Sizes_init ?d_Sizes_contains ?d_Sizes_eq ?d_Sizes_str ?d__law_heard ?k__law_heard ?d__law_bag ?k__law_bag ?d__law_draw ?k__law_draw ?d__law_value ?k__law_value ?d__law_is_size ?k__law_is_size ?d__law_due ?k__law_due ?d__law_written ?k__law_written ?d_law ?k_law ?FC ?CT ?nT ?eT
    (case n_len => k_is)
    (case n_int => k_is)
    (case n_abs => k_is)
    (case n_list => k_is)
    (case n_isinstance => k_is)
    (case n_bool => k_is)
    (case n_range => k_is)
    (case n_repr => k_is)
    (case n_str => k_is)
    (case n_type => k_is)
    (case m_is_int => k_is)
    (case m__law_heard => k_is)
    (case m__law_bag => k_is)
    (case m__law_draw => k_is)
    (case m__law_value => k_is)
    (case m__law_is_size => k_is)
    (case m__law_due => k_is)
    (case m__law_written => k_is)
    (case m_law => k_is)
    (case m_Sizes => k_is)
    (case c_Sizes => (refine' ⟨⟨?_, ?_, ?_, ?_⟩, ?_, ?_, ?_, ?_, ?_, ?_⟩ <;> k_is))
    (case M_Sizes => (refine' ⟨?a, ?b, ?c, ?d⟩; (case a => k_is); (case b => k_is); (case c => k_is); (case d => k_is)))
    (case a_Sizes_low => k_is)
    (case a_Sizes_high => k_is)
    (case o_Sizes_contains => k_is)
    (case f_Sizes_contains => k_is)
    (case o_Sizes_eq => k_is)
    (case f_Sizes_eq => k_is)
    (case o_Sizes_str => k_is)
    (case f_Sizes_str => k_is)
    (case s_Sizes_not => k_is)
    (case s_Sizes_obj => k_is)
    (case o_ne => k_is)
    (case s_Sizes_tuple => k_is)
    (case m_BadClass => k_is)
    (case e_BadClass => (refine' Pf.errF_mk ?l ?r ?s ?x ?t ?k ?i ?f; (case l => k_is); (case r => rfl); (case s => k_is); (case x => k_is); (case t => k_is); (case k => k_is); (case i => k_is); (case f => k_is)))
    (case a_BadClass_part => k_is)
    (case m_HoldError => k_is)
    (case xf_BadClass => (refine' ⟨?a, ?b, ?c, ?d⟩; (case a => k_is); (case b => k_is); (case c => k_is); (case d => k_is)))
    (case xc_BadClass => (refine' ⟨?a, ?b, ?c, ?d, ?e, ?f, ?g, ?h⟩; (case a => k_is); (case b => k_is); (case c => k_is); (case d => k_is); (case e => k_is); (case f => k_is); (case g => k_is); (case h => k_is)))
    (case xi_BadClass => k_is)
    (case xt_BadClass => k_is)
    (case xm_BadClass_HoldError => (refine' PySem.W.exm_ref ?a ?b ?c ?d; (case a => k_is); (case b => k_is); (case c => k_is); (case d => k_is)))
    (case d_BadClass_init => (refine' Pf.fnt_mk ?l ?c ?k; (case l => k_is); (case c => k_is); (case k => k_is)))
    (case d_is_int => (refine' Pf.fnt_mk ?l ?c ?k; (case l => k_is); (case c => k_is); (case k => k_is)))
    (case k_is_int => k_is)
    (case d_Sizes_init => (refine' Pf.fntD1_mk ?l ?c ?k ?t ?v; (case l => k_is); (case c => k_is); (case k => k_is); (case t => k_is); (case v => first | exact ⟨_, rfl⟩ | rfl)))
    (case d_Sizes_contains => (refine' Pf.fnt_mk ?l ?c ?k; (case l => k_is); (case c => k_is); (case k => k_is)))
    (case d_Sizes_eq => (refine' Pf.fnt_mk ?l ?c ?k; (case l => k_is); (case c => k_is); (case k => k_is)))
    (case d_Sizes_str => (refine' Pf.fnt_mk ?l ?c ?k; (case l => k_is); (case c => k_is); (case k => k_is)))
    (case d__law_heard => (refine' Pf.fnt_mk ?l ?c ?k; (case l => k_is); (case c => k_is); (case k => k_is)))
    (case k__law_heard => k_is)
    (case d__law_bag => (refine' Pf.fnt_mk ?l ?c ?k; (case l => k_is); (case c => k_is); (case k => k_is)))
    (case k__law_bag => k_is)
    (case d__law_draw => (refine' Pf.fnt_mk ?l ?c ?k; (case l => k_is); (case c => k_is); (case k => k_is)))
    (case k__law_draw => k_is)
    (case d__law_value => (refine' Pf.fnt_mk ?l ?c ?k; (case l => k_is); (case c => k_is); (case k => k_is)))
    (case k__law_value => k_is)
    (case d__law_is_size => (refine' Pf.fnt_mk ?l ?c ?k; (case l => k_is); (case c => k_is); (case k => k_is)))
    (case k__law_is_size => k_is)
    (case d__law_due => (refine' Pf.fnt_mk ?l ?c ?k; (case l => k_is); (case c => k_is); (case k => k_is)))
    (case k__law_due => k_is)
    (case d__law_written => (refine' Pf.fnt_mk ?l ?c ?k; (case l => k_is); (case c => k_is); (case k => k_is)))
    (case k__law_written => k_is)
    (case d_law => (refine' Pf.fnt_mk ?l ?c ?k; (case l => k_is); (case c => k_is); (case k => k_is)))
    (case k_law => k_is)
    (case FC => (refine' Ow.FnC.mk ?l ?c; (case l => k_is); (case c => k_is)))
    (case CT => (refine' Ow.codeHd_mk KX ?l ?e1 ?e2 ?e3 ?e4 ?e5 ?e6 ?ne; (case l => k_is); (case e1 => rfl); (case e2 => rfl); (case e3 => rfl); (case e4 => rfl); (case e5 => rfl); (case e6 => rfl); (case ne => decide)))
    (case nT => exact Ow.km_none Y (by decide +kernel))
    (case eT => exact PySem.W.km_tabs_of Y _ (by simp))
