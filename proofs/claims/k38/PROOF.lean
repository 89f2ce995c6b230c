import PyProof.Rows.All
import Wide.All
import OpenK.AllK
import Wide.FinOn
import KE.OsRunLaw
import KE.KStateDown
import HandS.Head0
import HandS.Head1
import HandS.Head2
import PyProof.EqAt
import PyProof.EqKinds
import PyProof.TupleCall
import PyProof.InstNe
import KE.KOpsOwn
import HandS.Base
import HandS.Call
import HandS.List
import HandS.More
import PyProof.TwoTypesSub
import PyProof.AutoIntOps
import PyProof.StrReplace2
import HandS.Words
import HandS.Star
import HandS.IsInst
import HandS.Defaults
import HandS.Property
import HandS.OwnEq
import HandS.Lambda
import HandS.Ends
import PyProof.ReprRoads
import HandS.ExcInit
import HandS.ExcField
import HandS.CallSlots
import HandS.ForExc
import HandS.ExcIs
import KE.KExcIs
import HandS.EndTab
import HandS.MakeKwOnly
import HandS.FStr
import KE.KCallOwn
import HandS.RaiseMore
import HandS.ExcInitHot
import HandS.ExcValue
import HandS.Walk
import HandS.ForMost
import HandS.StrMore
import HandS.ClsMeth
import OpenK.KMeth
import KE.GoesMore
import HandS.Codes
import PyProof.StrBlock2
import HandS.TryMany
import HandS.Zip
import KE.GoesZip
import HandS.Deep
import HandS.TupMul
import HandS.CallLocal
import HandS.MapJoin
import HandS.DictTup
import KE.KDictDisplayH
import HandS.TupAny
import PyProof.Rows.Range3
import HandS.Small
import KE.KEqNest
import HandS.MethStar
import KE.KFmtOwn
import HandS.Wide
import HandS.Text
import HandS.Style
import HandS.Flow
import PySem.Challenge.RW_heldfloods_k38_copies_by_pixels
set_option Elab.async false
set_option linter.all false
set_option maxRecDepth 100000
section
namespace HT
open PySem PySem.W PySem.Calls PyProof.Rows HeadRun
abbrev R : OpenRow := OpenLaw.row PySem.Challenge.rw_heldfloods_k38_copies_by_pixels
abbrev qv : Program := view R.prog [105]
def n0 : List PySem.Str := [PySem.Str.ofString "_wall", PySem.Str.ofString "__name__", PySem.Str.ofString "HoldError", PySem.Str.ofString "BadPlace", PySem.Str.ofString "BadSize", PySem.Str.ofString "BadColour", PySem.Str.ofString "BadPixel", PySem.Str.ofString "BadPicture", PySem.Str.ofString "BadDeed", PySem.Str.ofString "Unlike", PySem.Str.ofString "BadText", PySem.Str.ofString "AXES", PySem.Str.ofString "is_int", PySem.Str.ofString "is_int_in", PySem.Str.ofString "is_colour", PySem.Str.ofString "check_colour", PySem.Str.ofString "check_size", PySem.Str.ofString "check_side", PySem.Str.ofString "check_axis", PySem.Str.ofString "BOUND", PySem.Str.ofString "FIGURES", PySem.Str.ofString "NUMBERS", PySem.Str.ofString "Place", PySem.Str.ofString "from_left", PySem.Str.ofString "from_right", PySem.Str.ofString "never_below", PySem.Str.ofString "parts_of", PySem.Str.ofString "mirrored_parts", PySem.Str.ofString "bounded_place", PySem.Str.ofString "checked_place", PySem.Str.ofString "place_words", PySem.Str.ofString "take_parts", PySem.Str.ofString "named_parts", PySem.Str.ofString "is_number", PySem.Str.ofString "Box", PySem.Str.ofString "box_places", PySem.Str.ofString "Deed", PySem.Str.ofString "Boxed", PySem.Str.ofString "Pointed", PySem.Str.ofString "Coloured"]
def n1 : List PySem.Str := [PySem.Str.ofString "Blocked", PySem.Str.ofString "Fill", PySem.Str.ofString "Frame", PySem.Str.ofString "Flood", PySem.Str.ofString "Copy", PySem.Str.ofString "Flip", PySem.Str.ofString "Swap", PySem.Str.ofString "Grow", PySem.Str.ofString "Again", PySem.Str.ofString "When", PySem.Str.ofString "check_box", PySem.Str.ofString "check_deeds", PySem.Str.ofString "do_all", PySem.Str.ofString "deed_texts", PySem.Str.ofString "MARK", PySem.Str.ofString "wrong_row", PySem.Str.ofString "is_row", PySem.Str.ofString "is_pixel", PySem.Str.ofString "check_pixel", PySem.Str.ofString "clipped", PySem.Str.ofString "painted", PySem.Str.ofString "filled_rows", PySem.Str.ofString "copied_rows", PySem.Str.ofString "flipped_rows", PySem.Str.ofString "swapped_rows", PySem.Str.ofString "grown_rows", PySem.Str.ofString "grown_row", PySem.Str.ofString "marked_region", PySem.Str.ofString "add_seeds", PySem.Str.ofString "run_end", PySem.Str.ofString "runs", PySem.Str.ofString "region_pixels", PySem.Str.ofString "Picture", PySem.Str.ofString "row_pairs", PySem.Str.ofString "lies_within", PySem.Str.ofString "laid_over", PySem.Str.ofString "what_agrees", PySem.Str.ofString "what_differs", PySem.Str.ofString "Canvas", PySem.Str.ofString "_law_pen"]
def n2 : List PySem.Str := [PySem.Str.ofString "_law_draw", PySem.Str.ofString "_law_pick", PySem.Str.ofString "_law_place", PySem.Str.ofString "_law_at", PySem.Str.ofString "_law_built_place", PySem.Str.ofString "_law_box", PySem.Str.ofString "_law_built_box", PySem.Str.ofString "_law_ends", PySem.Str.ofString "_law_again", PySem.Str.ofString "_law_built", PySem.Str.ofString "_law_is_pixel", PySem.Str.ofString "_law_spots", PySem.Str.ofString "_law_within", PySem.Str.ofString "_law_copied", PySem.Str.ofString "_law_lines", PySem.Str.ofString "_law_noise", PySem.Str.ofString "_law_near"]
def names : List PySem.Str := n0 ++ n1 ++ n2
theorem byRowAll (row : String) {P : World → Prop} (hf : ∀ w : World, P (w.withFollow row false)) (ht : ∀ w : World, P (w.withFollow row true)) : ∀ w : World, P w := fun w => byRow2 row hf ht w
/-- the addresses of what the walk reads; K comes into being beside -/
def pair (a : List Addr) (_ : False → OpenRow.Holds R) : List Addr := a
section
local macro_rules
  | `(tactic| o_headL ($f $K $a $e)) => `(tactic| (contradiction; exact $a))
set_option maxHeartbeats 0 in
noncomputable def as : List Addr := by
  refine pair ?_ ?_
  rotate_left
  intro h
  k_headL
end
set_option maxHeartbeats 0
theorem ek : ∀ P, as = (as.heap_1 P).map (·.1) := fun _ => by kernel_rfl
abbrev p : Program := R.prog
def Xt : Shared → Bool := fun s => xlAt qv [] s && recOk (RowW.records (OpenRow.toRowW R)) s
def RunA (w : World) : Prop := ∀ os : OsState, (endF (stepQ (denQ tabQ) p w) 20000 p w os).map (fun s => seenQ qv names (importedModules p.main.body) Xt s.abs) = some (openGood qv names)
def RunB (w : World) : Prop := ∀ os : OsState, (endF (stepQ (denQ tabQ) p w) 20000 p w os).map (fun s => (looksF p (boot_heap w.params) s.abs, as.map (getT s))) = some (true, (as.heap_1 w.params).map fun x => some x.2)
theorem runA0 (w : World) : RunA (w.withFollow "special-get-raises" false) := by intro os; kernel_rfl
theorem runB0 (w : World) : RunB (w.withFollow "special-get-raises" false) := by intro os; kernel_rfl
theorem runA1 (w : World) : RunA (w.withFollow "special-get-raises" true) := by intro os; kernel_rfl
theorem runB1 (w : World) : RunB (w.withFollow "special-get-raises" true) := by intro os; kernel_rfl
theorem three {α β γ δ : Type} {x : Option α} {f : α → β} {g : α → γ} {h : α → δ} {b : β} {c : γ} {d : δ} (e1 : x.map g = some c) (e2 : x.map (fun s => (f s, h s)) = some (b, d)) : x.map (fun s => (f s, g s, h s)) = some (b, c, d) := by
  cases x with
  | none => cases e1
  | some s =>
    have q1 := Option.some.inj e1
    have q2 := Prod.mk.inj (Option.some.inj e2)
    exact congrArg some (Prod.ext q2.1 (Prod.ext q1 q2.2))
theorem runA : ∀ w : World, RunA w := byRowAll "special-get-raises" runA0 runA1
theorem runB : ∀ w : World, RunB w := byRowAll "special-get-raises" runB0 runB1
theorem left : LeftO p qv names Xt (Hook.obs (kHook as.heap_1 as ek)) (Hook.val (kHook as.heap_1 as ek)) 41000 true :=
  left_oneK (M := 20000) (by kernel_rfl) (by rfl) (fun s => by kernel_rfl) (by rfl) (fun w os => three (runA w os) (runB w os))
end HT
end
section
set_option maxHeartbeats 4000000
/-! Operators that an own class defines, over instances that are tracked. -/
namespace Ow
open PySem PySem.Spec PyProof.Rows L2

/-- an instance of the class at C stands at a -/
def InsAt (H : Hp) (a C : Addr) : Prop := ∃ dx fs, H a = some (.ins C dx fs)

section
variable {X : Cx} {CX : CXT} {n : Nat} {C g : Addr} {sp : Sp} {E : XK}

theorem inst_of {pins : List (Addr × Obj)} {σ : L2.St} {H : Hp} {s : Shared} {a : Addr} (I : Inv X pins σ H s) (h : InsAt H a C) : ∃ ox od, PySem.W.InstAt s.heap a ox C od := by
  obtain ⟨dx, fs, ea⟩ := h
  obtain ⟨mA, O, _⟩ := ins_get I.hok ea
  obtain ⟨od, J, _⟩ := O.look
  exact ⟨_, _, J⟩

theorem cmpbackR {Q : Value → Shared → Prop} {v : V} {u : Value} {s : Shared} (r : RelV v u) (q : Q u s) : PySem.W.CmpBack Q u s := by
  cases v <;> first
    | (cases r; exact q)
    | (obtain ⟨t, rfl⟩ := r; exact q)

/-- x op y, both instances of C -/
def rBin (C : Addr) (sp : Sp) (E : XK) : R2 := fun x y H Q => ∃ a b, x = .ref a ∧ y = .ref b ∧ InsAt H a C ∧ InsAt H b C ∧ sp [x, y] H Q E
theorem op_bin {op : Operator} (hc : PySem.W.selfFirst X.K C = true) (hs : PySem.W.findIn X.K (.ref C) (PySem.dunder op.info.2) = some (some (.ref g))) (hf : PySem.W.isFn X.K (.ref g) = true)
    (F : FnR X.prog X.w X.K X.mg X.base CX n g sp) (hr : Room n X.A) (hx : Passes CX X E) : OpR X (binaryOp op) (rBin C sp E) := by
  intro pins s σ H x y v u Q I rx ry h
  obtain ⟨a, b, rfl, rfl, ha, hb, q⟩ := h
  cases (show v = Value.ref a from rx)
  cases (show u = Value.ref b from ry)
  obtain ⟨ox, od, J⟩ := inst_of I ha
  obtain ⟨oy, od', J'⟩ := inst_of I hb
  obtain ⟨m, hF⟩ := I.fr
  refine PySem.W.binop_K (op := op) hF I.ok.mod.kin J J'.type hc hs hf ?_
  refine wpAny_mono (wpAny_call (run_fnR (us := [.ref a, .ref b]) (vs := [.ref a, .ref b]) F hr hx I (.cons rfl (.cons rfl .nil)) q)) (fun w s' z => ?_) fun _ _ x => x
  obtain ⟨z', H', I', rz, qz⟩ := z
  exact cmpbackR rz ⟨z', H', I', rz, qz⟩

/-- x op n, an instance of C and an int -/
def rBinI (C : Addr) (sp : Sp) (E : XK) : R2 := fun x y H Q => ∃ a i, x = .ref a ∧ y = .int i ∧ InsAt H a C ∧ sp [x, y] H Q E
theorem op_binI {op : Operator} {fo ro rc : Option Value} (hc : PySem.W.selfFirst X.K C = true) (hs : PySem.W.findIn X.K (.ref C) (PySem.dunder op.info.2) = some (some (.ref g))) (hf : PySem.W.isFn X.K (.ref g) = true)
    (hrr : PySem.W.findIn X.K (.ref C) (dunderR op.info.2) = some rc) (hp : rc = none ∨ ∃ g : Addr, rc = some (.ref g))
    (h1 : PySem.W.findIn X.K (.type "int") (PySem.dunder op.info.2) = some fo) (h2 : PySem.W.findIn X.K (.type "int") (dunderR op.info.2) = some ro) (hsub : PySem.W.subIn X.K (.type "int") (.ref C) = some false)
    (F : FnR X.prog X.w X.K X.mg X.base CX n g sp) (hr : Room n X.A) (hx : Passes CX X E) : OpR X (binaryOp op) (rBinI C sp E) := by
  intro pins s σ H x y v u Q I rx ry h
  obtain ⟨a, i, rfl, rfl, ha, q⟩ := h
  cases (show v = Value.ref a from rx)
  obtain ⟨t, rfl⟩ := ry
  obtain ⟨ox, od, J⟩ := inst_of I ha
  obtain ⟨m, hF⟩ := I.fr
  refine PySem.W.ksp_binT (op := op) (T := "int") hF I.ok.mod.kin J rfl hc hs hf hrr hp h1 h2 hsub ?_
  refine wpAny_mono (wpAny_call (run_fnR (us := [.ref a, .int i t]) (vs := [.ref a, .int i]) F hr hx I (.cons rfl (.cons ⟨t, rfl⟩ .nil)) q)) (fun w s' z => ?_) fun _ _ x => x
  obtain ⟨z', H', I', rz, qz⟩ := z
  exact cmpbackR rz ⟨z', H', I', rz, qz⟩

/-- ~x -/
def rUn (C : Addr) (sp : Sp) (E : XK) : V → Hp → VK → Prop := fun x H Q => ∃ a, x = .ref a ∧ InsAt H a C ∧ sp [x] H Q E
theorem un_inv_own (hs : PySem.W.findIn X.K (.ref C) "__invert__" = some (some (.ref g))) (hf : PySem.W.isFn X.K (.ref g) = true)
    (F : FnR X.prog X.w X.K X.mg X.base CX n g sp) (hr : Room n X.A) (hx : Passes CX X E) : UnR X (unaryOp .Invert) (rUn C sp E) := by
  intro pins s σ H x v Q I rx h
  obtain ⟨a, rfl, ha, q⟩ := h
  cases (show v = Value.ref a from rx)
  obtain ⟨ox, od, J⟩ := inst_of I ha
  obtain ⟨m, hF⟩ := I.fr
  refine PySem.W.ksp_inv hF I.ok.mod.kin J hs hf ?_
  exact wpAny_call (run_fnR (us := [.ref a]) (vs := [.ref a]) F hr hx I (.cons rfl .nil) q)

/-- x op y, a comparison whose def stands at g; y an instance of C too -/
theorem op_cmp {op : CmpOp} (hop : ∀ a b, compareOp op a b = richCompare op a b) (hs : PySem.W.findIn X.K (.ref C) (cmpInfo op).2.1 = some (some (.ref g))) (hf : PySem.W.isFn X.K (.ref g) = true) (hn : PySem.W.notFirst X.K C (.ref C) = true)
    (F : FnR X.prog X.w X.K X.mg X.base CX n g sp) (hr : Room n X.A) (hx : Passes CX X E) : OpR X (compareOp op) (rBin C sp E) := by
  intro pins s σ H x y v u Q I rx ry h
  obtain ⟨a, b, rfl, rfl, ha, hb, q⟩ := h
  cases (show v = Value.ref a from rx)
  cases (show u = Value.ref b from ry)
  obtain ⟨ox, od, J⟩ := inst_of I ha
  obtain ⟨oy, od', J'⟩ := inst_of I hb
  obtain ⟨m, hF⟩ := I.fr
  rw [hop]
  refine PySem.W.cmp_K (op := op) (tb := .ref C) hr.units0 hF I.ok.mod.kin J J'.type hn hs hf ?_
  refine wpAny_mono (wpAny_call (run_fnR (us := [.ref a, .ref b]) (vs := [.ref a, .ref b]) F hr hx I (.cons rfl (.cons rfl .nil)) q)) (fun w s' z => ?_) fun _ _ x => x
  obtain ⟨z', H', I', rz, qz⟩ := z
  exact cmpbackR rz ⟨z', H', I', rz, qz⟩
end
end Ow
end
section
set_option maxHeartbeats 4000000
namespace Ow
open PySem PySem.Spec PyProof.Rows L2 PySem.W

section
variable {prog : Program} {w : World} {M : Model} {A : Around} {E : Value → Shared → Prop} {s : Shared} {K : Frag} {x C L f : Addr} {h₀ : Heap} {m : Str → Option Value} {ox : Obj} {od : Option Obj} {nm : String}

theorem add_ref_at {i : Int} {t : Tok} {x C dx : Addr} : GivesAt (fun s => s.heap.get? x = some (instObj C dx)) (Builtin.«int.__add__» ⟨[.int i t, .ref x], []⟩) (.val Value.notImplemented) := by
  intro prog w A R s hx h
  obtain ⟨hp, g, d, tk, os⟩ := s
  have hl : ∀ {M : Model} {A : Around} {E : Value → Shared → Prop} {Q : Option Int → Shared → Prop}, Q none ⟨hp, g, d, tk, os⟩ → wpAny M A (asInt? (.ref x)) Q E ⟨hp, g, d, tk, os⟩ := by
    intro M A E Q q
    unfold asInt?
    exact wpAny_bind (wpAny_load hx (wpAny_pure q))
  unfold Builtin.«int.__add__»
  wp_walk using hl
  exact h
theorem int_add_ref {i : Int} {t : Tok} {x C dx : Addr} {s : Shared} {Q : Value → Shared → Prop} (hx : s.heap.get? x = some (instObj C dx)) (h : Q .notImplemented s) :
    wpAny (model prog w) A (call (.builtin "int.__add__") [.int i t, .ref x]) Q E s :=
  call_givesAt F.slot_int_add (typeIs_int s i t) F.entry_int_add (F.args_int_add_2 _ _) add_ref_at hx h
theorem int_add_own {i : Int} {t : Tok} {x C dx f fa : Addr} {cd : ClassData} {rest : List Value} {Q : Value → Shared → Prop} (X : K.In s.heap) (hx : s.heap.get? x = some (instObj C dx)) (I : InstAt s.heap x ox C od) (hcd : clsIn K C = some cd) (hm : cd.mro = .ref C :: rest)
    (ha : findIn K (.ref C) (PySem.dunder "add") = some (some (.ref fa))) (hs : findIn K (.ref C) (dunderR "add") = some (some (.ref f))) (hf : isFn K (.ref f) = true) (hsub : subIn K (.ref C) (.type "int") = some false)
    (h : wpAny (model prog w) A (call (.ref f) [.ref x, .int i t]) (PySem.W.CmpBack Q) E s) : wpAny (model prog w) A (binaryOp .Add (.int i t) (.ref x)) Q E s := by
  have one := ksp_try X I hs hf h
  have two : ∀ {Q' : Option Value → Shared → Prop}, Q' none s → wpAny (model prog w) A (tryMethod (.int i t) (PySem.dunder "add") (.ref x)) Q' E s := by
    intro Q' q
    unfold tryMethod
    exact wpAny_bind (wpAny_callSpecial?_slot (typeIs_int s i t) F.slot_int_add (int_add_ref hx (wpAny_pure q)))
  obtain ⟨hh, g, d, tt, os⟩ := s
  have L1 : Looks (model prog w) hh (typeOf (.int i t)) (.type "int") := Looks.of_pure rfl
  have L2 : Looks (model prog w) hh (typeOf (.ref x)) (.ref C) := I.type
  have L3 : Looks (model prog w) hh (fillsNumberSlot (.type "int") "add") true := Looks.of_pure F.fills_int_add
  have L4 : Looks (model prog w) hh (fillsNumberSlot (.ref C) "add") true := fills_K X hcd hm ha
  have L5 : Looks (model prog w) hh (isSubtype (.ref C) (.type "int")) false := looks_subIn X hsub
  have L7 : Looks (model prog w) hh (numberSlotInPython (.type "int") "add") false := Looks.of_pure rfl
  have hne : (Value.type "int" == Value.ref C) = false := Bool.eq_false_iff.mpr fun q => by cases beq_iff_eq.mp q
  show wpAny (model prog w) A (binaryOp .Add (.int i t) (.ref x)) Q E _
  have hi : Operator.info .Add = ("+", "add") := rfl
  simp only [binaryOp, hi]
  refine wpAny_holding (wpAny_bind ?_)
  unfold binaryOp1
  refine wpAny_bind (L1.at (wpAny_bind (L2.at (wpAny_bind (L3.at ?_)))))
  simp only [hne, Bool.false_eq_true, if_false]
  ksp_lk
  refine two ?_
  ksp_lk
  refine wpAny_mono one (fun r s' hr' => ?_) fun _ _ e => e
  obtain ⟨v, rfl, hq⟩ := hr'
  ksp_lk
  exact hq
end
end Ow
end
section
set_option maxHeartbeats 4000000
namespace Ow
open PySem PySem.Spec PyProof.Rows L2 PySem.W

section
variable {prog : Program} {w : World} {M : Model} {A : Around} {E : Value → Shared → Prop} {s : Shared} {K : Frag} {x C L f : Addr} {h₀ : Heap} {m : Str → Option Value} {ox : Obj} {od : Option Obj} {nm T : String}
/-- no += of one's own: C over object alone -/
theorem noI_own {h : Heap} {cd : ClassData} {add : Bool} (X : K.In h) (hc : clsIn K C = some cd) (hm : cd.mro = [.ref C, .type "object"]) (hs : findIn K (.ref C) (dunderI nm) = some none)
    (ho : typeLookup (.type "object") (dunderI nm) = pure none) : Looks M h (fillsInplaceSlot (.ref C) nm add) false := by
  intro A Q E s k q
  have Lm : Looks M h (mroOf (.ref C)) cd.mro := (looks_clsIn X hc).andThen (f := fun cd => pure cd.mro) .now
  have Lm' := Lm.keeps k
  obtain ⟨hh, g, d, tt, os⟩ := s
  have X' : K.In hh := X.keeps k
  have L1 : Looks M hh (typeLookup (.ref C) (dunderI nm)) none := looks_findIn X' hs
  have L2 : Looks M hh (typeLookup (.type "object") (dunderI nm)) none := Looks.of_pure ho
  unfold fillsInplaceSlot
  refine wpAny_bind (Lm'.at ?_)
  rw [hm, List.anyM_cons]
  refine wpAny_bind (wpAny_bind (L1.at ?_))
  refine wpAny_pure ?_
  simp only [Bool.false_eq_true, if_false]
  rw [List.anyM_cons]
  refine wpAny_bind (wpAny_bind (L2.at ?_))
  refine wpAny_pure ?_
  simp only [Bool.false_eq_true, if_false]
  exact wpAny_pure q

theorem iadd_own {op : Operator} {b : Value} {cd : ClassData} {fo ro rc : Option Value} {Q : Value → Shared → Prop} (X : K.In s.heap) (I : InstAt s.heap x ox C od) (hb : typeOf b = pure (.type T)) (hcd : clsIn K C = some cd) (hm : cd.mro = [.ref C, .type "object"])
    (hni : findIn K (.ref C) (dunderI op.info.2) = some none) (hno : typeLookup (.type "object") (dunderI op.info.2) = pure none)
    (hs : findIn K (.ref C) (PySem.dunder op.info.2) = some (some (.ref f))) (hf : isFn K (.ref f) = true) (hr : findIn K (.ref C) (dunderR op.info.2) = some rc) (hp : rc = none ∨ ∃ g : Addr, rc = some (.ref g))
    (h1 : findIn K (.type T) (PySem.dunder op.info.2) = some fo) (h2 : findIn K (.type T) (dunderR op.info.2) = some ro) (hsub : subIn K (.type T) (.ref C) = some false)
    (h : wpAny (model prog w) A (call (.ref f) [.ref x, b]) (PySem.W.CmpBack Q) E s) : wpAny (model prog w) A (inplaceOp op (.ref x) b) Q E s := by
  rcases hi : op.info with ⟨sym, nm'⟩
  rw [hi] at hs hr h1 h2 hni hno
  dsimp only at hs hr h1 h2 hni hno
  have one := ksp_try X I hs hf h
  obtain ⟨hh, g, d, tt, os⟩ := s
  have L0 : Looks (model prog w) hh (fillsInplaceSlot (.ref C) nm' (op == .Add)) false := noI_own X hcd hm hni hno
  have L1 : Looks (model prog w) hh (typeOf (.ref x)) (.ref C) := I.type
  have L2 : Looks (model prog w) hh (typeOf b) (.type T) := Looks.of_pure hb
  have L3 : Looks (model prog w) hh (fillsNumberSlot (.ref C) nm') true := fills_K X hcd hm hs
  have L4 : Looks (model prog w) hh (fillsNumberSlot (.type T) nm') ((fo.isSome && !isSeqSlot fo) || (ro.isSome && !isSeqSlot ro)) := ksp_fillsT X h1 h2
  have L5 : Looks (model prog w) hh (isSubtype (.type T) (.ref C)) false := looks_subIn X hsub
  have L6 : Looks (model prog w) hh (numberSlotInPython (.ref C) nm') true := ksp_inPy X hs hr hp
  have L7 : Looks (model prog w) hh (numberSlotInPython (.type T) nm') false := Looks.of_pure rfl
  have L8 : Looks (model prog w) hh (typeLookup (.type T) (dunderR nm')) ro := looks_findIn X h2
  generalize ((fo.isSome && !isSeqSlot fo) || (ro.isSome && !isSeqSlot ro)) = right at L4
  have hne : (Value.ref C == Value.type T) = false := Bool.eq_false_iff.mpr fun q => by cases beq_iff_eq.mp q
  unfold inplaceOp
  simp only [hi]
  refine wpAny_holding (wpAny_bind (L1.at (wpAny_bind (L0.at ?_))))
  simp only [Bool.false_eq_true, if_false]
  refine wpAny_bind ?_
  unfold binaryOp1
  refine wpAny_bind (L1.at (wpAny_bind (L2.at (wpAny_bind (L3.at ?_)))))
  simp only [hne, Bool.false_eq_true, if_false]
  cases right with
  | false =>
    ksp_lk
    refine wpAny_mono one (fun r s' hr' => ?_) fun _ _ e => e
    obtain ⟨v, rfl, hq⟩ := hr'
    ksp_lk
    exact hq
  | true =>
    ksp_lk
    refine wpAny_mono one (fun r s' hr' => ?_) fun _ _ e => e
    obtain ⟨v, rfl, hq⟩ := hr'
    ksp_lk
    exact hq
end
end Ow
end
section
set_option maxHeartbeats 4000000
namespace Ow
open PySem PySem.Spec PyProof.Rows L2 PySem.W

section
variable {prog : Program} {w : World} {M : Model} {A : Around} {E : Value → Shared → Prop} {s : Shared} {K : Frag} {x y C L f : Addr} {ox oy : Obj} {od od' : Option Obj}

theorem objNe_K {Q : PySem.Fin → Shared → Prop} (X : K.In s.heap) (I : InstAt s.heap x ox C od) (hs : findIn K (.ref C) "__eq__" = some (some (.ref f))) (hf : isFn K (.ref f) = true) (hu : A.units < cLine)
    (hcall : wpAny (model prog w) A (call (.ref f) [.ref x, .ref y]) (fun v s' => ∃ b, v = .bool b ∧ Q (.done (.ret (.bool (!b)))) s') E s) :
    wpAny (model prog w) A (Builtin.«object.__ne__» ⟨[.ref x, .ref y], []⟩) Q E s := by
  unfold Builtin.«object.__ne__»
  repeat (first
    | with_reducible refine wpAny_cRoomFor hu ?_
    | (refine wpAny_bind (m := callSpecialIfBound? (.ref x) (Str.ofString "__eq__") [.ref y])
        (ifBound_K X I hs hf (wpAny_mono hcall (fun r s' hr => by
          obtain ⟨b, rfl, hq⟩ := hr
          repeat (first | exact hq | exact wpAny_pure hq | exact wpAny_truthy_bool hq | (refine wpAny_bind (m := truthy (.bool _)) (wpAny_truthy_bool ?_)) | wp_step)) fun _ _ e => e)))
    | wp_step)

theorem check_K {id owner n : String} {rest : List Value} {Q : Unit → Shared → Prop} (X : K.In s.heap) (I : InstAt s.heap x ox C od) (hk : builtinKind id = some .slot) (hs : splitId id = some (owner, n))
    (ha : argsOk id ⟨.ref x :: rest, []⟩) (hob : subIn K (.ref C) (.type owner) = some true) (hq : Q () s) :
    wpAny M A (checkBuiltinCall id ⟨.ref x :: rest, []⟩) Q E s := by
  obtain ⟨h, g, d, t, os⟩ := s
  have Ls : Looks M h (isSubtype (.ref C) (.type owner)) true := looks_subIn X hob
  have hx := I.at_
  have hc := I.cls
  have X0 := X
  simp only [checkBuiltinCall, hk, hs]
  refine wpAny_bind ?_
  unfold isInstance
  repeat (first | (with_reducible refine wpAny_loadPart_at hx ?_; rw [hc]) | (with_reducible refine Ls.here ?_) | wp_step)
  cases hsig : Manifest.signature? id with
  | none => exact wpAny_pure hq
  | some sig =>
    simp only [argsOk, hsig] at ha
    have h2 : Bind.checkArgs id sig ⟨.ref x :: rest, []⟩ = pure () := ha
    show wpAny M A (Bind.checkArgs id sig ⟨.ref x :: rest, []⟩) Q E _
    rw [h2]; exact wpAny_pure hq

theorem ne_own {Q : Value → Shared → Prop} (hu : A.units + 1 < cLine) (X : K.In s.heap) (I : InstAt s.heap x ox C od) (J : InstAt s.heap y oy C od') (hne : findIn K (.ref C) "__ne__" = some (some (.builtin "object.__ne__")))
    (hs : findIn K (.ref C) "__eq__" = some (some (.ref f))) (hf : isFn K (.ref f) = true) (hob : subIn K (.ref C) (.type "object") = some true)
    (hcall : wpAny (model prog w) A.in1 (call (.ref f) [.ref x, .ref y]) (fun v s' => ∃ b, v = .bool b ∧ Q (.bool (!b)) s') E s) :
    wpAny (model prog w) A (compareOp .NotEq (.ref x) (.ref y)) Q E s := by
  have S := F.cmp_object.ne
  have one : wpAny (model prog w) A (tryCompare (.ref x) "__ne__" (.ref y)) (fun r s' => ∃ v, r = some v ∧ Q v s') E s := by
    unfold tryCompare
    refine wpAny_bind ?_
    simp only [callSpecialIfBound?, bindSpecialIfBound?]
    refine wpAny_holding (wpAny_bind (wpAny_bind (wpAny_bind (I.type.here ((looks_findIn X hne).here ?_)))))
    simp only [S.bind]
    have fin : ∀ {R : Option Value → Shared → Prop}, (∀ b s', Q (.bool (!b)) s' → R (some (.bool (!b))) s') → wpAny (model prog w) A (call (.builtin "object.__ne__") ([.ref x] ++ [.ref y]) >>= fun v => pure (some v)) R E s := by
      intro R hR
      refine wpAny_bind (wpAny_call (codeAny_call_builtin S.plain F.cmpEntry_ne (check_K X I F.cmpKind_ne F.cmpSplit_ne (F.cmpArgs_ne _ _) hob (objNe_K (A := A.in1) X I hs hf hu (wpAny_mono hcall (fun v s' hv => ?_) fun _ _ e => e)))))
      obtain ⟨b, rfl, hq⟩ := hv
      exact ⟨b, rfl, wpAny_pure (hR b _ hq)⟩
    refine wpAny_bind (wpAny_askSetting (wpAny_ite ?_))
    split
    · exact wpAny_bind (wpAny_pure (wpAny_pure (fin fun b s' hq => wpAny_pure ⟨_, rfl, hq⟩)))
    · exact wpAny_tryCatch (wpAny_bind (wpAny_pure (wpAny_pure (fin fun b s' hq => wpAny_pure ⟨_, rfl, hq⟩))))
  show wpAny (model prog w) A (richCompare .NotEq (.ref x) (.ref y)) Q E s
  unfold richCompare
  simp only [oneThing_ref]
  refine wpAny_holding (wpAny_bind (wpAny_cRoomFor (Nat.lt_of_succ_lt hu) ?_))
  refine wpAny_bind (I.type.here (wpAny_bind (J.type.here ?_)))
  rw [show (Value.ref C != Value.ref C) = false from by simp]
  simp only [Bool.false_eq_true, if_false]
  refine wpAny_bind (wpAny_pure ?_)
  simp only [Bool.false_eq_true, if_false]
  refine wpAny_bind (wpAny_mono one (fun r s' z => ?_) fun _ _ e => e)
  obtain ⟨v, rfl, hq⟩ := z
  exact wpAny_pure hq
end

section
variable {X : Cx} {CX : CXT} {n : Nat} {C g : Addr} {sp : Sp} {E : XK}
/-- x != y, both instances of C, which has == alone -/
def rNeOwn (C : Addr) (sp : Sp) (E : XK) : R2 := fun x y H Q => ∃ a b, x = .ref a ∧ y = .ref b ∧ InsAt H a C ∧ InsAt H b C ∧ sp [x, y] H (fun v H' => ∃ k, v = .bl k ∧ Q (.bl (!k)) H') E
theorem op_ne_own (hne : PySem.W.findIn X.K (.ref C) "__ne__" = some (some (.builtin "object.__ne__"))) (hs : PySem.W.findIn X.K (.ref C) "__eq__" = some (some (.ref g))) (hf : PySem.W.isFn X.K (.ref g) = true) (hob : PySem.W.subIn X.K (.ref C) (.type "object") = some true)
    (F : FnR X.prog X.w X.K X.mg X.base CX n g sp) (hr : Room (n + 1) X.A) (hx : Passes CX X E) : OpR X (compareOp .NotEq) (rNeOwn C sp E) := by
  intro pins s σ H x y v u Q I rx ry h
  obtain ⟨a, b, rfl, rfl, ha, hb, q⟩ := h
  cases (show v = Value.ref a from rx)
  cases (show u = Value.ref b from ry)
  obtain ⟨ox, od, J⟩ := inst_of I ha
  obtain ⟨oy, od', J'⟩ := inst_of I hb
  have hu : X.A.units + 1 < cLine := hu_of hr
  refine ne_own hu I.kIn J J' hne hs hf hob ?_
  refine wpAny_call ?_
  refine codeAny_mono (F X.A.in1 X.stack s H [.ref a, .ref b] [.ref a, .ref b] _ E hr.in1 I.env0.in1 (.cons rfl (.cons rfl .nil)) q) fun r s' hq => ?_
  cases r with
  | error e => exact hx pins σ H s e s' I hq
  | ok fl =>
    cases fl with
    | ret u =>
      obtain ⟨v, H', I2, rv, k, ev, qq⟩ := I.after hq
      subst ev
      cases (show u = Value.bool k from rv)
      exact ⟨k, rfl, .bl (!k), H', I2, rfl, qq⟩
    | next => exact False.elim hq
    | brk => exact False.elim hq
    | cont => exact False.elim hq
end
end Ow
end
section
set_option maxHeartbeats 4000000
namespace Ow
open PySem PySem.Spec PyProof.Rows L2 StX

section
variable {X : Cx} {CX : CXT} {n : Nat} {C g fa : Addr} {sp : Sp} {E : XK}

theorem inst_of2 {pins : List (Addr × Obj)} {σ : L2.St} {H : Hp} {s : Shared} {a : Addr} (I : Inv X pins σ H s) (h : InsAt H a C) : ∃ dx od, s.heap.get? a = some (PySem.W.instObj C dx) ∧ PySem.W.InstAt s.heap a (PySem.W.instObj C dx) C od := by
  obtain ⟨dx, fs, ea⟩ := h
  obtain ⟨mA, O, _⟩ := ins_get I.hok ea
  obtain ⟨od, J, _⟩ := O.look
  exact ⟨dx, _, J.at_, J⟩

/-- n + x: the instance's __radd__ -/
def rBinR (C : Addr) (sp : Sp) (E : XK) : R2 := fun x y H Q => ∃ a i, x = .int i ∧ y = .ref a ∧ InsAt H a C ∧ sp [y, x] H Q E
theorem op_radd (hc : PySem.W.selfFirst X.K C = true) (ha : PySem.W.findIn X.K (.ref C) (PySem.dunder "add") = some (some (.ref fa))) (hs : PySem.W.findIn X.K (.ref C) (dunderR "add") = some (some (.ref g))) (hf : PySem.W.isFn X.K (.ref g) = true)
    (hsub : PySem.W.subIn X.K (.ref C) (.type "int") = some false)
    (F : FnR X.prog X.w X.K X.mg X.base CX n g sp) (hr : Room n X.A) (hx : Passes CX X E) : OpR X (binaryOp .Add) (rBinR C sp E) := by
  intro pins s σ H x y v u Q I rx ry h
  obtain ⟨a, i, rfl, rfl, hia, q⟩ := h
  obtain ⟨t, rfl⟩ := rx
  cases (show u = Value.ref a from ry)
  obtain ⟨dx, od, hx', J⟩ := inst_of2 I hia
  obtain ⟨cd, rest, hcd, hm⟩ := PySem.W.ksp_first hc
  refine int_add_own I.kIn hx' J hcd hm ha hs hf hsub ?_
  refine wpAny_mono (wpAny_call (run_fnR (us := [.ref a, .int i t]) (vs := [.ref a, .int i]) F hr hx I (.cons rfl (.cons ⟨t, rfl⟩ .nil)) q)) (fun w s' z => ?_) fun _ _ x => x
  obtain ⟨z', H', I', rz, qz⟩ := z
  exact cmpbackR rz ⟨z', H', I', rz, qz⟩

def mro2 (K : PySem.W.Frag) (C : Addr) : Bool := (PySem.W.clsIn K C).any fun cd => cd.mro == [.ref C, .type "object"]
theorem mro2_of {K : PySem.W.Frag} {C : Addr} (h : mro2 K C = true) : ∃ cd, PySem.W.clsIn K C = some cd ∧ cd.mro = [.ref C, .type "object"] := by
  obtain ⟨cd, hcd, hm⟩ := PySem.W.any_some h
  exact ⟨cd, hcd, beq_iff_eq.mp hm⟩
theorem noI_obj_add : typeLookup (.type "object") (dunderI "add") = pure none := by rw [typeLookup_type, builtinLookup_eq_fast]; kernel_rfl
/-- x += n, the class has no __iadd__ -/
theorem iop_addI {fo ro rc : Option Value} (hc : mro2 X.K C = true) (hni : PySem.W.findIn X.K (.ref C) (dunderI "add") = some none) (hs : PySem.W.findIn X.K (.ref C) (PySem.dunder "add") = some (some (.ref g))) (hf : PySem.W.isFn X.K (.ref g) = true)
    (hrr : PySem.W.findIn X.K (.ref C) (dunderR "add") = some rc) (hp : rc = none ∨ ∃ g : Addr, rc = some (.ref g))
    (h1 : PySem.W.findIn X.K (.type "int") (PySem.dunder "add") = some fo) (h2 : PySem.W.findIn X.K (.type "int") (dunderR "add") = some ro) (hsub : PySem.W.subIn X.K (.type "int") (.ref C) = some false)
    (F : FnR X.prog X.w X.K X.mg X.base CX n g sp) (hr : Room n X.A) (hx : Passes CX X E) : OpR X (inplaceOp .Add) (rBinI C sp E) := by
  intro pins s σ H x y v u Q I rx ry h
  obtain ⟨a, i, rfl, rfl, hia, q⟩ := h
  cases (show v = Value.ref a from rx)
  obtain ⟨t, rfl⟩ := ry
  obtain ⟨ox, od, J⟩ := inst_of I hia
  obtain ⟨cd, hcd, hm⟩ := mro2_of hc
  refine iadd_own (op := .Add) (T := "int") I.kIn J rfl hcd hm hni noI_obj_add hs hf hrr hp h1 h2 hsub ?_
  refine wpAny_mono (wpAny_call (run_fnR (us := [.ref a, .int i t]) (vs := [.ref a, .int i]) F hr hx I (.cons rfl (.cons ⟨t, rfl⟩ .nil)) q)) (fun w s' z => ?_) fun _ _ x => x
  obtain ⟨z', H', I', rz, qz⟩ := z
  exact cmpbackR rz ⟨z', H', I', rz, qz⟩

/-- f(e, ..), a def of the module, by its positional promise -/
def tCallR (sp : Sp) (E : XK) (t : TA) : TE := fun σ H Q => t σ H fun vs H1 => sp vs H1 Q E
theorem pe_callR {x : Str} {f : Addr} {e : Expr} {es : List Expr} {t : TA} {p pos : Pos} (F : FnR X.prog X.w X.K X.mg X.base CX n f sp) (hr : Room n X.A) (hm : X.mg x = some (.ref f)) (hk : PySem.W.keepIn X.K (.ref f) = true) (hx : Passes CX X E)
    (ha : PA X (e :: es) t) (hg : Gl X x := by rfl) (hdb : (x == ("__debug__" : Str)) = false := by decide) (he : starEach (e :: es) X.env = (false, eval e X.env) :: starEach es X.env := by rfl) (hpl : (backTo pos (starEach es X.env)).any (·.1) = false := by rfl) :
    PE X (.Call (.Name x p) (e :: es) [] pos) (tCallR sp E t) := by
  refine ⟨fun pins s σ H Q I h => ?_⟩
  refine wpAny_Call_Name_kw (ld_glob I hg hm ?_ hdb)
  refine PySem.W.callWith_K (h₀ := X.base) I.ok.mod.kin hk (thn (ha.run pos pins s σ H _ I h) fun us s1 ⟨vs, H1, I1, r, q⟩ => ⟨I1.kIn, ?_⟩) he hpl
  exact wpAny_call (run_fnR F hr hx I1 r q)

/-- C(e, ..): a new instance, by the positional promise of __init__ -/
theorem pe_makeRR {x : Str} {e : Expr} {es : List Expr} {t : TA} {p pos : Pos} (M : Mk X.K C g) (F : FnR X.prog X.w X.K X.mg X.base CX n g sp) (hr : Room (n + 1) X.A) (hm : X.mg x = some (.ref C)) (hx : Passes CX X E) (ha : PA X (e :: es) t) (hg : Gl X x := by rfl) (hdb : (x == ("__debug__" : Str)) = false := by decide)
    (he : starEach (e :: es) X.env = (false, eval e X.env) :: starEach es X.env := by rfl) (hpl : (backTo pos (starEach es X.env)).any (·.1) = false := by rfl) : PE X (.Call (.Name x p) (e :: es) [] pos) (tMakeR C sp E t) :=
  pe_makeR M F hr hg hm hx ha hdb he hpl
end
end Ow
end
section
set_option maxHeartbeats 4000000
namespace Ow
open PySem PySem.Spec PyProof.Rows L2 StX

/-- what the walk asks of an own class -/
structure ClsF (K : PySem.W.Frag) (C : Addr) : Prop where
  cl : Cls K C
  ca : PySem.W.findIn K (.ref C) "__class__" = some (some (.builtin "object.__class__"))
  cn : PySem.W.specialIn K (.builtin "object.__class__") "__get__" = some (some (.builtin "getset_descriptor.__get__"))
  ct : PySem.W.takesIn K (.builtin "object.__class__") = some true
  cm : PySem.W.mroIn K C (.type "object") = some true
  ic : PySem.W.isClsIn K C = true
  ty : PySem.W.typeIn K (.ref C) = some (.type "type")
theorem ClsF.tyOf {K : PySem.W.Frag} {C p dx : Addr} {H : Hp} {fs : List (Str × V)} (c : ClsF K C) (h : H p = some (.ins C dx fs)) : TyX K H (.ref p) (.ref C) := .base (.ins h c.cl c.ca c.cn c.ct c.cm)
theorem kit_self {K : PySem.W.Frag} {t : Value} : PySem.W.kitOne K t t = some true := by
  unfold PySem.W.kitOne
  rw [if_pos (beq_self_eq_true t)]
/-- t is not below the own class at C -/
theorem kit_own {K : PySem.W.Frag} {C : Addr} {t : Value} {b : Bool} (c : ClsF K C) (h : PySem.W.subIn K t (.ref C) = some b) (hb : (t == Value.ref C) = false) : PySem.W.kitOne K t (.ref C) = some b := by
  unfold PySem.W.kitOne
  rw [if_neg (by rw [hb]; exact Bool.false_ne_true)]
  show (if ((PySem.W.clsIn K C).isSome && PySem.W.typeIn K (.ref C) == some (.type "type")) = true then PySem.W.subIn K t (.ref C) else none) = some b
  have h1 : (PySem.W.clsIn K C).isSome = true := c.ic
  rw [h1, c.ty]
  rw [if_pos (by rfl)]
  exact h
/-- an instance of C against a built-in type -/
theorem kit_bty {K : PySem.W.Frag} {C : Addr} {T : String} {b : Bool} (hm : PySem.W.kitMeta T = true) (h : PySem.W.subIn K (.ref C) (.type T) = some b) : PySem.W.kitOne K (.ref C) (.type T) = some b := by
  unfold PySem.W.kitOne
  rw [if_neg (by intro z; cases beq_iff_eq.mp z)]
  show (if PySem.W.kitMeta T = true then PySem.W.subIn K (.ref C) (.type T) else none) = some b
  rw [if_pos hm]
  exact h
theorem kit_int_int {K : PySem.W.Frag} : PySem.W.kitOne K (.type "int") (.type "int") = some true := kit_self
theorem kit_int_bool {K : PySem.W.Frag} : PySem.W.kitOne K (.type "int") (.type "bool") = some false := kit_ty (by decide +kernel)

section
variable {X : Cx} {CX : CXT} {k : Nat} {C p g a dx : Addr} {fs : List (Str × V)} {f : Str} {sp : Sp} {E : XK} {e : Expr} {pos : Pos} {ta : TE}
structure PropR (K : PySem.W.Frag) (C : Addr) (f : Str) (p g : Addr) : Prop where
  at_ : PySem.W.findIn K (.ref C) f = some (some (.ref p))
  get : PySem.W.specialIn K (.ref p) "__get__" = some (some (.builtin "property.__get__"))
  tak : PySem.W.takesIn K (.ref p) = some true
  rec_ : ∃ rest, PySem.W.recIn K p "property" = some (.ref g :: rest)
theorem getprop_R {pins : List (Addr × Obj)} {σ : L2.St} {H : Hp} {s : Shared} {Q : VK} {b : Bool} (I : Inv X pins σ H s) (ea : H a = some (.ins C dx fs)) (c : Cls X.K C) (hp : PropR X.K C f p g)
    (F : FnR X.prog X.w X.K X.mg X.base CX k g sp) (hr : Room (k + 1) X.A) (hx : Passes CX X.nox E) (h : sp [.ref a] H Q E) :
    wpAny (model X.prog X.w) X.A (getAttr (.ref a) f b) (EP X pins σ Q) X.xe s := by
  obtain ⟨mA, O, _, _, _, _⟩ := ins_get I.hok ea
  obtain ⟨od, J, _⟩ := O.look
  obtain ⟨rest, hrec⟩ := hp.rec_
  have I1 := I.tok (s.toks + 1)
  have hc : (PySem.W.clsIn X.K C).isSome = true := by
    obtain ⟨cd, hc, _⟩ := PySem.W.any_some c.hd
    rw [hc]
    rfl
  refine PySem.W.get_bind I.kIn J (PySem.W.plainGet_of (c.get f)).1 (PySem.W.findObj_data hc hp.at_ hp.get hp.tak) (PySem.W.plainGet_of (c.get f)).2 (wpAny_call (PySem.W.prop_get (s := { s with toks := s.toks + 1 }) I.kIn hrec ?_))
  refine codeAny_mono (F X.A.in1 X.stack { s with toks := s.toks + 1 } H [.ref a] [.ref a] Q E hr.in1 I1.env0.in1 (.cons rfl .nil) h) fun r s' hq => ?_
  cases r with
  | error er => exact False.elim (hx pins σ H { s with toks := s.toks + 1 } er s' (I1.wish _) hq)
  | ok fl =>
    cases fl with
    | ret u =>
      obtain ⟨v, H', I3, rv, q3⟩ := I1.after hq
      show wpAny _ _ (handedOut u) _ _ _
      rw [PySem.W.handedOut_of (handed_of rv)]
      exact wpAny_pure ⟨v, H', I3, rv, q3⟩
    | next => exact False.elim hq
    | brk => exact False.elim hq
    | cont => exact False.elim hq
def tPropR (C : Addr) (sp : Sp) (E : XK) (ta : TE) : TE := fun σ H Q => ta σ H fun x H1 => ∃ a dx fs, x = .ref a ∧ H1 a = some (.ins C dx fs) ∧ sp [.ref a] H1 Q E
/-- e.f, f a property -/
theorem pe_propR (he : PE X e ta) (c : Cls X.K C) (hp : PropR X.K C f p g) (F : FnR X.prog X.w X.K X.mg X.base CX k g sp) (hr : Room (k + 1) X.A) (hx : Passes CX X.nox E)
    (hab : attributeBase e f X.env (eval e X.env) = eval e X.env := by rfl) : PE X (.Attribute e f pos) (tPropR C sp E ta) := by
  refine ⟨fun pins s σ H Q I h => ?_⟩
  refine attr_of hab (thn (he.run pins s σ H _ I h) fun u s1 ⟨x, H1, I1, rx, a, dx, fs, ex, ea, q⟩ => ?_)
  subst ex
  obtain rfl : u = Value.ref a := rx
  exact getprop_R I1 ea c hp F hr hx q
end

/-- a def of the text, as the top left it: dvs its defaults -/
def FnT (K : PySem.W.Frag) (x qual : Str) (st : Stmt) (dvs : List V) (f : Addr) : Prop := ∃ fd, FunD K x qual (defArgs st) (defBody st) (defScope st) dvs [] f fd
section
variable {P : Program} {w : World} {K : PySem.W.Frag} {mg : Str → Option Value} {base : Heap} {x qual : Str} {st : Stmt} {dvs : List V} {f : Addr}
theorem FnT.kp (F : FnT K x qual st dvs f) : PySem.W.keepIn K (.ref f) = true := F.elim fun _ z => z.kp
/-- a def without defaults that lets nothing out -/
theorem FnT.ok {N ps : List Str} {k : Nat} {sp : Sp} (F : FnT K x qual st [] f) (S : FnScope N ps (defScope st))
    (hb : ∀ (kV doc pm : Value) (an : Option Addr) (cdv ct : Value) (us : List Value), us.length = ps.length → bindArgs (PySem.W.fnOf x qual (defArgs st) (defBody st) (defScope st) .none kV doc pm an cdv ct) ⟨us, []⟩ = pure (ps.zip us))
    (len : ∀ vs H Q E, sp vs H Q E → vs.length = ps.length)
    (hbody : ∀ (cdv : Value) (A : Around) (outer : List Env) (s : Shared) (H : Hp) (vs : List V) (Q : VK) (E : XK), Room k (A.deeper (envOfC qual (defScope st) s.heap.objs.size f cdv)) → sp vs H Q E →
      ∃ t, PSs (cxOf CX0 P w K mg base N qual (defScope st) f cdv A outer s H E).nox (defBody st) t ∧ t { nx := fun _ H' => Q .non H', rt := Q } (start N vs) H) : FnR P w K mg base CX0 (k + 1) f sp := by
  obtain ⟨fd, F⟩ := F
  have ok : FnOk P w K mg base CX0 (k + 1) f fd ps sp := F.ok S len fun cdv A outer s H vs Q E hr hsp => by
    obtain ⟨t, h, q⟩ := hbody cdv A outer s H vs Q E hr hsp
    exact ⟨t, h.nox, q⟩
  have b : Binds K fd ps [] := F.bindsN hb
  have r := ok.raw b .nil
  exact r.imp fun vs H Q E h => by rw [List.append_nil]; exact h
/-- .. with defaults, all of its arguments told; or the last ones filled up: j of the defaults are not used -/
theorem FnT.okD {N ps : List Str} {k n j : Nat} {sp : Sp} (F : FnT K x qual st dvs f) (S : FnScope N ps (defScope st)) (hd : dvs ≠ []) (hn : n + (dvs.length - j) = ps.length)
    (hb : ∀ (T : Addr) (kV doc pm : Value) (an : Option Addr) (cdv ct : Value) (us its : List Value), us.length = n → its.length = dvs.length →
      ∃ k, bindArgs (PySem.W.fnOf x qual (defArgs st) (defBody st) (defScope st) (.ref T) kV doc pm an cdv ct) ⟨us, []⟩ = seqItems? (.ref T) >>= k ∧ k (some its.toArray) = pure (ps.zip (us ++ its.drop j)))
    (len : ∀ vs H Q E, sp vs H Q E → vs.length = ps.length)
    (hbody : ∀ (cdv : Value) (A : Around) (outer : List Env) (s : Shared) (H : Hp) (vs : List V) (Q : VK) (E : XK), Room k (A.deeper (envOfC qual (defScope st) s.heap.objs.size f cdv)) → sp vs H Q E →
      ∃ t, PSs (cxOf CX0 P w K mg base N qual (defScope st) f cdv A outer s H E).nox (defBody st) t ∧ t { nx := fun _ H' => Q .non H', rt := Q } (start N vs) H) : FnR P w K mg base CX0 (k + 1) f (fun vs H Q E => sp (vs ++ dvs.drop j) H Q E) := by
  obtain ⟨fd, F⟩ := F
  have ok : FnOk P w K mg base CX0 (k + 1) f fd ps sp := F.ok S len fun cdv A outer s H vs Q E hr hsp => by
    obtain ⟨t, h, q⟩ := hbody cdv A outer s H vs Q E hr hsp
    exact ⟨t, h.nox, q⟩
  obtain ⟨ds, hds, b⟩ := F.binds1 n j hd hn hb
  exact ok.raw b hds
end
end Ow
end
section
set_option maxHeartbeats 4000000
namespace Ow
open PySem PySem.SeqAt
open AutoSeq1 (wpAny_loadPart')
open MeetsSeq MeetsSeq2 MeetsSeq3 SeqRoads2

section
variable {prog : Program} {w : World} {A : Around} {R : Result → Shared → Prop}
theorem ne_loopG (l b : Addr) (N : Nat) (I : Nat → Shared → Prop) (hl : GQ.ListI prog w A (fun e s' => R (.error e) s') l b N I)
    (fin : ∀ s, I N s → R (.ok (.ret (.bool false))) s) (k : Nat) :
    ∀ i : Nat, N - i = k → i ≤ N → ∀ s, I i s →
      wpAny (model prog w) A.in1 (Builtin.«list.__eq__.loop» ⟨[.ref l, .ref b, rawInt i, rawInt 3], []⟩) (GQ.FinOf prog w A R) (fun e s' => R (.error e) s') s := by
  induction k with
  | zero =>
    intro i hk hi s h
    obtain ⟨items, items2, n, n2, hl1, hb1, hs1, hs2, _⟩ := hl _ _ h
    have hi' : i = N := by omega
    have hR : R (.ok (.ret (.bool false))) s := fin s (hi' ▸ h)
    obtain ⟨hp, g, d, tk, os⟩ := s
    wp_walk using wpAny_loadPart' hl1, wpAny_loadPart' hb1
    have hi1 : items[((i : Nat) : Int).toNat]? = none := by simp; omega
    have hi2 : items2[((i : Nat) : Int).toNat]? = none := by simp; omega
    rw [hi1, hi2]
    wp_walk using wpAny_loadPart' hl1, wpAny_loadPart' hb1
    show R (.ok (.ret (.bool (items.size != items2.size)))) _
    rw [hs1, hs2]
    simpa using hR
  | succ k ih =>
    intro i hk hi s h
    obtain ⟨items, items2, n, n2, hl1, hb1, hs1, hs2, turn⟩ := hl _ _ h
    have hlt : i < items.size := by omega
    have hlt2 : i < items2.size := by omega
    have ht := turn hlt hlt2
    obtain ⟨hp, g, d, tk, os⟩ := s
    wp_walk using wpAny_loadPart' hl1, wpAny_loadPart' hb1
    have hi1 : items[((i : Nat) : Int).toNat]? = some items[i] := by simp [hlt]
    have hi2 : items2[((i : Nat) : Int).toNat]? = some items2[i] := by simp [hlt2]
    have hc : ((i : Int) + 1) = ((i + 1 : Nat) : Int) := by omega
    rw [hi1, hi2]
    refine wpAny_bind (wpAny_mono ht (fun r s2 h2 => ?_) fun _ _ x => x)
    obtain ⟨hr, h2⟩ := h2
    subst hr
    have hrec := ih (i + 1) (by omega) (by omega) s2 h2
    obtain ⟨hp2, g2, d2, tk2, os2⟩ := s2
    wp_walk
    rw [hc]
    exact ⟨plainId_quiet plain_eq_loop _, codeAny_builtin entry_eq_loop (by
      rw [Around.under_plainId plain_eq_loop _]
      exact hrec)⟩

theorem list_neG (l b : Addr) (N : Nat) (I : Nat → Shared → Prop) (hl : GQ.ListI prog w A (fun e s' => R (.error e) s') l b N I)
    (fin : ∀ s, I N s → R (.ok (.ret (.bool false))) s) {s : Shared} (h : I 0 s) :
    wpAny (model prog w) A.in1 (Builtin.«list.__ne__» ⟨[.ref l, .ref b], []⟩) (GQ.FinOf prog w A R) (fun e s' => R (.error e) s') s := by
  obtain ⟨items, items2, n, n2, hl1, hb1, hs1, hs2, _⟩ := hl _ _ h
  have hrec := ne_loopG (A := A) (R := R) l b N I hl fin _ 0 rfl (Nat.zero_le _) s h
  obtain ⟨hp, g, d, tk, os⟩ := s
  have f3 := AutoSeq1.sub_list_list
  have hne : ¬ (items.size != items2.size) = true := by simp [hs1, hs2]
  wp_walk using wpAny_loadPart' hl1, wpAny_loadPart' hb1
  exact ⟨plainId_quiet plain_eq_loop _, codeAny_builtin entry_eq_loop (by
    rw [Around.under_plainId plain_eq_loop _]
    exact hrec)⟩
theorem rn_listG {E : Value → Shared → Prop} {s : Shared} {l b : Addr} {N : Nat} {Q : Value → Shared → Prop} (hu : A.units < cLine) (I : Nat → Shared → Prop) (hl : GQ.ListI prog w A E l b N I)
    (fin : ∀ s, I N s → Q (.bool false) s) (h : I 0 s) : wpAny (model prog w) A (richCompare .NotEq (.ref l) (.ref b)) Q E s := by
  obtain ⟨items, items2, n, n2, hl1, hb1, _, _, _⟩ := hl _ _ h
  refine wpAny_richCompare_same_room (op := .NotEq) ⟨_, hl1, rfl⟩ ⟨_, hb1, rfl⟩ F.slot_list_ne (GQ.call_here F.slot_list_ne ⟨_, hl1, rfl⟩ F.entry_list_ne (F.args_list_ne_2 _ _) ?_) hu
  exact list_neG (R := wants (fun v s' => v ≠ .notImplemented ∧ Q v s') E) l b N I hl (fun s' q => ⟨(fun x => nomatch x), fin s' q⟩) h
end
end Ow
namespace Ow
open PySem PySem.Spec PyProof.Rows L2 StX
section
variable {X : Cx} {n m : Nat} {D D' : Eqv}
/-- two lists, equal item by item: != gives False -/
def rNeL (D : Eqv) : R2 := fun x y H Q => DList D x y H ∧ ∀ H', Ext H H' → Q (.bl false) H'
theorem op_neL (hD : Mon D) (h : EqG X n D) (hr : Room (n + 1) X.A) : OpR X (compareOp .NotEq) (rNeL D) := by
  intro pins s σ H x y v u Q I rx ry hq
  obtain ⟨⟨a, b, xs, ys, rfl, rfl, ha, hb, p⟩, q⟩ := hq
  cases rx
  cases ry
  show wpAny (model X.prog X.w) X.A (richCompare .NotEq (.ref a) (.ref b)) (EP X pins σ Q) X.xe s
  have sb : Sub X (n + 1) X.A := ⟨hr, rfl⟩
  refine rn_listG (N := xs.length) hr.units0 (fun _ s' => LoopI X pins σ H s') (fun i s' q => ?_) (fun s' q' => ?_) ⟨H, I, Ext.rfl'⟩
  · obtain ⟨H1, I1, e1⟩ := id q
    obtain ⟨z, its, k, r, e⟩ := I1.hok a _ (e1 _ _ ha)
    obtain ⟨z2, its2, k2, r2, e2⟩ := I1.hok b _ (e1 _ _ hb)
    refine ⟨its.toArray, its2.toArray, k, k2, e, e2, by rw [List.size_toArray, ← r.length], by rw [List.size_toArray, ← r2.length, ← p.1], fun h1 h2 => ?_⟩
    exact turnG hD h sb p r r2 i h1 h2 s' q
  · obtain ⟨H1, I1, e1⟩ := q'
    exact ⟨.bl false, H1, I1, rfl, q H1 e1⟩
/-- instances of C by their own ==, a positional promise -/
theorem eqG_insR {CX : CXT} {C f : Addr} {R : Addr → Addr → Hp → Prop} {E : XK} (F : FnR X.prog X.w X.K X.mg X.base CX n f (spEq R))
    (hs : PySem.W.findIn X.K (.ref C) "__eq__" = some (some (.ref f))) (hf : PySem.W.isFn X.K (.ref f) = true) (hx : Passes CX X E) : EqG X n (DIns C R) := by
  have rc : RcG X n (DIns C R) := by
    intro A pins s σ H x y u v sb I rx ry d
    obtain ⟨a, b, dx, dy, fs, gs, rfl, rfl, ha, hb', hr⟩ := d
    cases rx
    cases ry
    obtain ⟨mA, J, _⟩ := ins_get I.hok ha
    obtain ⟨mB, J', _⟩ := ins_get I.hok hb'
    obtain ⟨od, J, _⟩ := J.look
    obtain ⟨od', J', _⟩ := J'.look
    obtain ⟨m, hF⟩ := I.fr
    refine PySem.W.cmp_K (op := .Eq) (tb := .ref C) sb.room.units0 hF I.ok.mod.kin J J'.type (by simp [PySem.W.notFirst]) hs hf ?_
    have hsp : spEq R [.ref a, .ref b] H (fun v H' => v = .bl true ∧ Ext H H') E := ⟨a, b, rfl, hr, fun H' e => ⟨rfl, e⟩⟩
    have e0 : Env0 X.prog X.w X.K X.mg X.base A X.stack s H := by
      have e := I.env0
      exact ⟨by rw [sb.fr]; exact e.frames, e.mod, e.bs, e.bsz, e.funs, e.frf, e.hok, e.bare⟩
    have r2 : Vals [V.ref a, V.ref b] [Value.ref a, Value.ref b] := .cons rfl (.cons rfl .nil)
    refine wpAny_call (codeAny_mono (F A X.stack s H [.ref a, .ref b] [.ref a, .ref b] _ E sb.room e0 r2 hsp) fun r s' hq => ?_)
    cases r with
    | error e => exact hx pins σ H s e s' I hq
    | ok fl =>
      cases fl with
      | ret w =>
        obtain ⟨z, H', I', rz, ez, ex⟩ := I.after hq
        subst ez
        cases rz
        exact ⟨rfl, H', I', ex⟩
      | next => exact False.elim hq
      | brk => exact False.elim hq
      | cont => exact False.elim hq
  exact rc.eqG fun _ _ _ d => let ⟨a, b, _, _, _, _, hx, hy, _⟩ := d; ⟨a, b, hx, hy⟩
end
end Ow
end
section
set_option maxHeartbeats 4000000
/-! Defs that are called while nothing is being shown (repr of containers asks it), and the end of a law whose def asks it. -/
namespace Ow
open PySem PySem.Spec PyProof.Rows L2 StX

/-- a promise by positional values, of calls while no repr runs -/
def FnG (P : Program) (w : World) (K : PySem.W.Frag) (mg : Str → Option Value) (base : Heap) (CX : CXT) (k : Nat) (f : Addr) (sp : Sp) : Prop :=
  ∀ (A : Around) (outer : List Env) (s : Shared) (H : Hp) (us : List Value) (vs : List V) (Q : VK) (E : XK), Room k A → A.guards = some [] → Env0 P w K mg base A outer s H → Vals vs us → sp vs H Q E →
    codeAny (model P w) A (.call (.ref f) ⟨us, []⟩) (CR CX outer P w H s Q E) s
section
variable {P : Program} {w : World} {K : PySem.W.Frag} {mg : Str → Option Value} {base : Heap} {CX : CXT} {j k : Nat} {f : Addr} {sp sp' : Sp} {x qual : Str} {st : Stmt}
theorem FnG.mono (F : FnG P w K mg base CX j f sp) (h : j ≤ k) : FnG P w K mg base CX k f sp := fun A outer s H us vs Q E hr => F A outer s H us vs Q E (hr.mono h)
theorem FnG.imp (F : FnG P w K mg base CX k f sp) (h : ∀ vs H Q E, sp' vs H Q E → sp vs H Q E) : FnG P w K mg base CX k f sp' := fun A outer s H us vs Q E hr g e0 r hs => F A outer s H us vs Q E hr g e0 r (h _ _ _ _ hs)
theorem FnT.okG {N ps : List Str} (F : FnT K x qual st [] f) (S : FnScope N ps (defScope st))
    (hb : ∀ (kV doc pm : Value) (an : Option Addr) (cdv ct : Value) (us : List Value), us.length = ps.length → bindArgs (PySem.W.fnOf x qual (defArgs st) (defBody st) (defScope st) .none kV doc pm an cdv ct) ⟨us, []⟩ = pure (ps.zip us))
    (len : ∀ vs H Q E, sp vs H Q E → vs.length = ps.length)
    (hbody : ∀ (cdv : Value) (A : Around) (outer : List Env) (s : Shared) (H : Hp) (vs : List V) (Q : VK) (E : XK), Room k (A.deeper (envOfC qual (defScope st) s.heap.objs.size f cdv)) → A.guards = some [] → sp vs H Q E →
      ∃ t, PSs (cxOf CX0 P w K mg base N qual (defScope st) f cdv A outer s H E).nox (defBody st) t ∧ t { nx := fun _ H' => Q .non H', rt := Q } (start N vs) H) : FnG P w K mg base CX0 (k + 1) f sp := by
  obtain ⟨fd, F⟩ := F
  intro A outer s H us vs Q E hr hg e0 r hs
  have b := F.bindsN hb
  obtain ⟨oc, od, dV, kV, doc, pm, an, cdv, ct, osl, rfl, lk, hcd, _, _⟩ := F.ex
  have hv := len _ _ _ _ hs
  have hu : us.length = ps.length := r.length.symm.trans hv
  have b1 : BindsTo s (PySem.W.fnOf x qual (defArgs st) (defBody st) (defScope st) dV kV doc pm an cdv ct) ⟨us, []⟩ (ps.zip us) := by
    have := b s us (e0.mod.kin.keeps fun b o e => (e0.bs b o e).1) (by rw [List.append_nil]; exact hu)
    rw [List.append_nil] at this
    exact this
  refine LamX.run_ofS lk hcd S hr e0 b1 r hv fun hr2 => ?_
  obtain ⟨t, h, q⟩ := hbody cdv A outer s H vs Q E hr2 hg hs
  exact ⟨t, h.nox, q⟩
end
section
variable {X : Cx} {CX : CXT} {n : Nat} {sp : Sp} {E : XK}
theorem pe_callG {x : Str} {f : Addr} {e : Expr} {es : List Expr} {t : TA} {p pos : Pos} (F : FnG X.prog X.w X.K X.mg X.base CX n f sp) (hr : Room n X.A) (gd : X.A.guards = some []) (hm : X.mg x = some (.ref f)) (hk : PySem.W.keepIn X.K (.ref f) = true) (hx : Passes CX X E)
    (ha : PA X (e :: es) t) (hg : Gl X x := by rfl) (hdb : (x == ("__debug__" : Str)) = false := by decide) (he : starEach (e :: es) X.env = (false, eval e X.env) :: starEach es X.env := by rfl) (hpl : (backTo pos (starEach es X.env)).any (·.1) = false := by rfl) :
    PE X (.Call (.Name x p) (e :: es) [] pos) (tCallR sp E t) := by
  refine ⟨fun pins s σ H Q I h => ?_⟩
  refine wpAny_Call_Name_kw (ld_glob I hg hm ?_ hdb)
  refine PySem.W.callWith_K (h₀ := X.base) I.ok.mod.kin hk (thn (ha.run pos pins s σ H _ I h) fun us s1 ⟨vs, H1, I1, r, q⟩ => ⟨I1.kIn, ?_⟩) he hpl
  refine wpAny_call (codeAny_mono (F X.A X.stack s1 H1 us vs Q E hr gd I1.env0 r q) fun r s' hq => ?_)
  cases r with
  | error e => exact hx pins σ H1 s1 e s' I1 hq
  | ok fl =>
    cases fl with
    | ret u => exact I1.after hq
    | next => exact False.elim hq
    | brk => exact False.elim hq
    | cont => exact False.elim hq

/-- repr of data: its text -/
def rReprD (K : PySem.W.Frag) : List V → Hp → VK → Prop := fun xs H Q => ∃ (x : V) (d : PyData), xs = [x] ∧ Dp K H x d ∧ d.showable = true ∧ d.hasDict = false ∧ d.depth ≤ 8 ∧ d.shown.length ≤ sizeLine ∧ Q (.str d.shown) H
theorem call_reprD (gd : X.A.guards = some []) (hu : X.A.units + 64 < cLine) : CallR X (.builtin "repr") (rReprD X.K) := by
  intro pins s σ H xs us Q I r h
  obtain ⟨x, d, rfl, hd, hs, hnd, hdp, hsz, q⟩ := h
  obtain ⟨u, rfl, ru⟩ := vals1 r
  have fin : ∀ (h' : Heap) (tk : Nat) (u : Tok), (∀ b o, s.heap.get? b = some o → h'.get? b = some o) → EP X pins σ Q (.str d.shown u) { s with heap := h', toks := tk } := fun h' tk u k => ⟨.str d.shown, H, I.kept (t' := tk) k, ⟨u, rfl⟩, q⟩
  cases hd with
  | non => cases ru; exact PySem.P.repr_of_none (fin s.heap _ _ fun _ _ e => e)
  | bl b => cases ru; exact PySem.P.repr_of_bool (by cases b <;> exact fin s.heap _ _ fun _ _ e => e)
  | int i =>
    obtain ⟨t, rfl⟩ := ru
    have hi : i.natAbs.log2 < 1920 := of_decide_eq_true hs
    exact PySem.P.repr_of_int hi (fin s.heap _ _ fun _ _ e => e)
  | str z => obtain ⟨t, rfl⟩ := ru; exact PySem.P.repr_of_str (fin s.heap _ _ fun _ _ e => e) hsz
  | @lst a zs ds hq ha =>
    cases ru
    obtain ⟨as, rd⟩ := Dp.reads I _ _ _ (.lst hq ha) rfl
    exact repr_of_reads' rd hs (PyData.noDict_hsm hnd) gd (by omega) (fun _ _ e => e) (fun h' u tk k => fin h' tk u k) hsz
  | @tup a zs ds hq ha =>
    cases ru
    obtain ⟨as, rd⟩ := Dp.reads I _ _ _ (.tup hq ha) rfl
    exact repr_of_reads' rd hs (PyData.noDict_hsm hnd) gd (by omega) (fun _ _ e => e) (fun h' u tk k => fin h' tk u k) hsz
end

/-! ### the end of a law whose def wants to know that nothing is being shown -/
section
variable {P : Program} {w : World} {K : PySem.W.Frag} {mg mb : Str → Option Value} {k : Nat} {fa a : Addr} {sp : Sp} {s1 : Shared} {vs : List Value} {ns : List Int}
/-- the call, from one abstract heap that tracks the script alone, or nothing -/
theorem end_from (KX : K.In s1.heap) (hns : s1.heap.Ns mainGlobals mg) (hb : s1.heap.Ns builtinsNs mb) (hbb : ∀ x : Str, x ≠ "__name__" → mb x = bootBuiltins x) (hlim : s1.heap.NoLimit) (hg : s1.gens = #[]) (hr : Room k callerA)
    (F : ∀ base : Heap, K.In base → base.Ns mainGlobals mg → FnG P w K mg base CX0 k fa sp) {H : Hp} (hO : Only H) (hok : HOk P w H s1.heap) (dom : ∀ b u, H b = some u → K.lookup b = none ∧ ∃ o items n, s1.heap.get? b = some o ∧ o.data = .seq items n)
    (hsp : sp [.ref a] H (fun v _ => v = .bl true) fun _ _ _ => False) :
    codeAny (model P w) callerA (.call (.ref fa) ⟨[.ref a], []⟩) (fun r s' => r = .ok (.ret (.bool true)) ∧ OldK s1.heap s'.heap ∧ s'.os = s1.os ∧ AllBare s'.gens) s1 := by
  let base := hidT s1.heap H
  have dicts : ∀ {b : Addr} {o : Obj} {es : Array DictEntry} {ep : Nat}, s1.heap.get? b = some o → o.data = .dict es ep → base.get? b = some o := fun {b o es ep} e d => by
    refine hidT_get e ?_
    cases q : H b with
    | none => rfl
    | some u =>
      obtain ⟨_, o2, items, n, e2, d2⟩ := dom b u q
      rw [e2] at e
      cases e
      rw [d2] at d
      cases d
  have names : ∀ {b : Addr} {m : Str → Option Value}, s1.heap.Ns b m → base.Ns b m := fun z => by
    obtain ⟨o, es, ep, e, d, r⟩ := z
    exact ⟨o, es, ep, dicts e d, d, r⟩
  have hK : K.In base := fun b o e => by
    refine hidT_get (KX b o e) ?_
    cases q : H b with
    | none => rfl
    | some u =>
      have z := (dom b u q).1
      rw [e] at z
      cases z
  have lim : base.NoLimit := by
    obtain ⟨m, h1, h2⟩ := hlim
    exact ⟨m, names h1, h2⟩
  have e0 : Env0 P w K mg base callerA [] s1 H :=
    { frames := rfl, mod := ⟨hK, names hns, ⟨mb, names hb, hbb⟩, lim⟩, bs := fun b o e => of_hidT e, bsz := Nat.le_of_eq (hidT_size _ _), funs := trivial, frf := fun b hb => (List.not_mem_nil hb).elim, hok := hok, bare := .of_eq hg }
  refine codeAny_mono (F base hK (names hns) callerA [] s1 H [.ref a] [.ref a] _ _ hr rfl e0 (.cons rfl .nil) hsp) fun r s' h => ?_
  cases r with
  | error e => exact False.elim h
  | ok fl =>
    cases fl with
    | ret u =>
      obtain ⟨v, H2, os, bare, un, ok2, rv, q⟩ := h
      subst q
      cases rv
      refine ⟨rfl, OldK.of_keep fun b o e => ?_, os, bare⟩
      cases q : H b with
      | none => exact un.keep b o e q (fun z => List.not_mem_nil z) (fun z => List.not_mem_nil z)
      | some u =>
        rcases hO b with z | ⟨ob, xs, z⟩
        · rw [q] at z
          cases z
        · have e1 := (hok b _ z).1
          have e2 := (ok2 b _ (un.frzs b ob _ z)).1
          rw [e] at e1
          cases e1
          exact e2
    | next => exact False.elim h
    | brk => exact False.elim h
    | cont => exact False.elim h
theorem end_callG (KX : K.In s1.heap) (hns : s1.heap.Ns mainGlobals mg) (hb : s1.heap.Ns builtinsNs mb) (hbb : ∀ x : Str, x ≠ "__name__" → mb x = bootBuiltins x) (hlim : s1.heap.NoLimit) (hg : s1.gens = #[]) (hr : Room k callerA)
    (ha : s1.heap.get? a = some { cls := .type "list", data := .seq vs.toArray }) (hi : IntsAre vs ns) (hl : ns.length ≤ sizeLine) (F : ∀ base : Heap, K.In base → base.Ns mainGlobals mg → FnG P w K mg base CX0 k fa sp)
    (hsp : ∀ H : Hp, Only H → SqL K H a (ns.map V.int) → sp [.ref a] H (fun v _ => v = .bl true) fun _ _ _ => False) :
    codeAny (model P w) callerA (.call (.ref fa) ⟨[.ref a], []⟩) (fun r s' => r = .ok (.ret (.bool true)) ∧ OldK s1.heap s'.heap ∧ s'.os = s1.os ∧ AllBare s'.gens) s1 := by
  have rv := vals_ints hi
  have hl2 : (ns.map V.int).length ≤ sizeLine := by rw [List.length_map]; exact hl
  cases hk : K.lookup a with
  | some o =>
    have e := KX a o hk
    rw [ha] at e
    cases e
    refine end_from KX hns hb hbb hlim hg hr F (H := fun _ => none) (fun _ => .inl rfl) (fun b u z => by cases z) (fun b u z => by cases z) (hsp _ (fun _ => .inl rfl) ?_)
    exact .inr ⟨_, vs.toArray, _, hk, rfl, rfl, rfl, by rw [List.size_toArray, hi.length]; exact hl, by simpa using rv⟩
  | none =>
    let o : Obj := { cls := .type "list", data := .seq vs.toArray }
    let H : Hp := fun b => if b = a then some (.frz o (.lst (ns.map V.int))) else none
    have H1 : H a = some (.frz o (.lst (ns.map V.int))) := if_pos rfl
    have H0 : ∀ b u, H b = some u → b = a ∧ u = .frz o (.lst (ns.map V.int)) := fun b u z => by
      by_cases e : b = a
      · subst e
        rw [H1] at z
        cases z
        exact ⟨rfl, rfl⟩
      · have z0 : H b = none := if_neg e
        rw [z0] at z
        cases z
    have hO : Only H := fun b => by
      by_cases e : b = a
      · subst e; exact .inr ⟨_, _, H1⟩
      · exact .inl (if_neg e)
    refine end_from KX hns hb hbb hlim hg hr F (H := H) hO (fun b u z => ?_) (fun b u z => ?_) (hsp _ hO (.inl (.inr ⟨_, H1⟩)))
    · obtain ⟨rfl, rfl⟩ := H0 b u z
      exact ⟨ha, hl2, vs, _, rv, ha⟩
    · obtain ⟨rfl, rfl⟩ := H0 b u z
      exact ⟨hk, _, _, _, ha, rfl⟩
end
theorem walk_ofG {l : PySem.W.OpenLaw} {n k : Nat} {q : Program} {loose : List Str} {XP : (Str → Option Value) → Heap → Prop} {YP : World → Heap → Prop} {d : DefRec} {K : Params → PySem.W.Frag} {sp : World → Sp}
    (hn : l.most = some n) (hn2 : n ≤ sizeLine) (hdf : d.params.defaults = []) (hr : Room k callerA) (hY : ∀ (w : World) (h : Heap), YP w h → (K w.params).In h)
    (F : ∀ (w : World) (mg : Str → Option Value) (fa : Addr) (h : Heap), (K w.params).In h → h.Ns mainGlobals mg → mg d.name = some (.ref fa) →
      ∀ base : Heap, (K w.params).In base → base.Ns mainGlobals mg → FnG l.prog w (K w.params) mg base CX0 k fa (sp w))
    (hsp : ∀ (w : World) (H : Hp) (a : Addr) (ns : List Int), ns.length ≤ n → Only H → SqL (K w.params) H a (ns.map V.int) → sp w [.ref a] H (fun v _ => v = .bl true) fun _ _ _ => False) :
    PySem.W.WalkO q loose XP YP l.row.toRowW d [] (fun f vs => PySem.call f vs) := by
  refine Att.attach_call hn hdf fun w s0 s1 mg mb fa o pm cd doc a vs ns G Y ho hd hcd hmg hobj hints hlen hg => ?_
  have KX := hY w _ Y
  exact end_callG KX G.T.g G.T.b G.T.builtins G.T.nolimit hg hr hobj hints (Nat.le_trans hlen hn2) (F w mg fa _ KX G.T.g hmg) fun H hO hS => hsp w H a ns hlen hO hS
end Ow
end
section
set_option maxHeartbeats 4000000
/-! Own errors with a def of their own that keeps the fields: raise C(e), raise C(e, e'). -/
namespace Ow
open PySem PySem.Spec PyProof.Rows L2 StX
section
variable {P : Program} {w : World} {K : PySem.W.Frag} {mg : Str → Option Value} {base : Heap} {x qual : Str} {st : Stmt} {f : Addr}
/-- a def without defaults that may let errors out -/
theorem FnT.okX {N ps : List Str} {k : Nat} {sp : Sp} (F : FnT K x qual st [] f) (S : FnScope N ps (defScope st))
    (hb : ∀ (kV doc pm : Value) (an : Option Addr) (cdv ct : Value) (us : List Value), us.length = ps.length → bindArgs (PySem.W.fnOf x qual (defArgs st) (defBody st) (defScope st) .none kV doc pm an cdv ct) ⟨us, []⟩ = pure (ps.zip us))
    (len : ∀ vs H Q E, sp vs H Q E → vs.length = ps.length)
    (hbody : ∀ (cdv : Value) (A : Around) (outer : List Env) (s : Shared) (H : Hp) (vs : List V) (Q : VK) (E : XK), Room k (A.deeper (envOfC qual (defScope st) s.heap.objs.size f cdv)) → sp vs H Q E →
      ∃ t, PSs (cxOf (CX P w) P w K mg base N qual (defScope st) f cdv A outer s H E) (defBody st) t ∧ t { nx := fun _ H' => Q .non H', rt := Q } (start N vs) H) : FnR P w K mg base (CX P w) (k + 1) f sp := by
  obtain ⟨fd, F⟩ := F
  have ok : FnOk P w K mg base (CX P w) (k + 1) f fd ps sp := F.ok S len hbody
  have b : Binds K fd ps [] := F.bindsN hb
  exact (ok.raw b .nil).imp fun vs H Q E h => by rw [List.append_nil]; exact h
/-- .. with defaults -/
theorem FnT.okDX {N ps : List Str} {k n j : Nat} {sp : Sp} {dvs : List V} (F : FnT K x qual st dvs f) (S : FnScope N ps (defScope st)) (hd : dvs ≠ []) (hn : n + (dvs.length - j) = ps.length)
    (hb : ∀ (T : Addr) (kV doc pm : Value) (an : Option Addr) (cdv ct : Value) (us its : List Value), us.length = n → its.length = dvs.length →
      ∃ k, bindArgs (PySem.W.fnOf x qual (defArgs st) (defBody st) (defScope st) (.ref T) kV doc pm an cdv ct) ⟨us, []⟩ = seqItems? (.ref T) >>= k ∧ k (some its.toArray) = pure (ps.zip (us ++ its.drop j)))
    (len : ∀ vs H Q E, sp vs H Q E → vs.length = ps.length)
    (hbody : ∀ (cdv : Value) (A : Around) (outer : List Env) (s : Shared) (H : Hp) (vs : List V) (Q : VK) (E : XK), Room k (A.deeper (envOfC qual (defScope st) s.heap.objs.size f cdv)) → sp vs H Q E →
      ∃ t, PSs (cxOf (CX P w) P w K mg base N qual (defScope st) f cdv A outer s H E) (defBody st) t ∧ t { nx := fun _ H' => Q .non H', rt := Q } (start N vs) H) : FnR P w K mg base (CX P w) (k + 1) f (fun vs H Q E => sp (vs ++ dvs.drop j) H Q E) := by
  obtain ⟨fd, F⟩ := F
  have ok : FnOk P w K mg base (CX P w) (k + 1) f fd ps sp := F.ok S len hbody
  obtain ⟨ds, hds, b⟩ := F.binds1 n j hd hn hb
  exact ok.raw b hds
/-- an own error's class, whose __init__ stands at g -/
structure ErrF (K : PySem.W.Frag) (C g : Addr) : Prop where
  ox : OexC K C
  iC : PySem.W.findIn K (.ref C) "__init__" = some (some (.ref g))
  tI : PySem.W.typeIn K (.ref g) = some (.type "function")
/-- __init__(self, v): self.f = v -/
def spErr1 (C : Addr) (n : Str) : Sp := fun vs H Q _ => ∃ (a : Addr) (v : V), vs = [.ref a, v] ∧ H a = some (exo a C none) ∧ ∀ dx, H dx = none → dx ≠ a → Q .non (upd (upd H dx (exd dx [(n, v)])) a (exo a C (some dx)))
/-- __init__(self, v, u): self.f = v; self.g = u -/
def spErr2 (C : Addr) (n m : Str) : Sp := fun vs H Q _ => ∃ (a : Addr) (v u : V), vs = [.ref a, v, u] ∧ H a = some (exo a C none) ∧ ∀ dx, H dx = none → dx ≠ a → Q .non (upd (upd H dx (exd dx [(m, u), (n, v)])) a (exo a C (some dx)))
theorem raise_heap {H : Hp} {a d : Addr} {C : Addr} {fs : List (Str × V)} (ha : H a = none) (hne : d ≠ a) :
    upd (del (upd (upd (upd H a (exo a C none)) d (exd d fs)) a (exo a C (some d))) a) d (.xd fs) = upd H d (.xd fs) := by
  funext b
  by_cases e : b = d
  · subst e; rw [upd_same, upd_same]
  · rw [upd_ne e, upd_ne e]
    by_cases e2 : b = a
    · subst e2
      rw [ha]
      exact if_pos rfl
    · show (if b = a then none else _) = _
      rw [if_neg e2, upd_ne e2, upd_ne e, upd_ne e2]
/-- what making such an error asks: the reading of pmk_oex, its fields told -/
theorem err1_made {Q : XK} {H1 : Hp} {v : V} {C : Addr} {n : Str} (k : ∀ d, H1 d = none → Q (.ref C) (some d) (upd H1 d (.xd [(n, v)]))) :
    [v].length ≤ 1000 ∧ ∀ a, H1 a = none → spErr1 C n (.ref a :: ([v] ++ [])) (upd H1 a (exo a C none)) (fun u H2 => u = .non ∧ ∃ (d : Addr) (fs : List (Str × V)), H2 a = some (exo a C (some d)) ∧ H2 d = some (exd d fs) ∧ H1 d = none ∧ Q (.ref C) (some d) (upd (del H2 a) d (.xd fs))) (fun _ _ _ => False) := by
  refine ⟨Nat.le_of_ble_eq_true rfl, fun a ha => ⟨a, v, rfl, upd_same, fun dx hdx ne => ⟨rfl, dx, _, upd_same, by rw [upd_ne ne]; exact upd_same, by rw [upd_ne ne] at hdx; exact hdx, ?_⟩⟩⟩
  rw [raise_heap ha ne]
  refine k dx ?_
  rw [upd_ne ne] at hdx
  exact hdx
theorem err2_made {Q : XK} {H1 : Hp} {v u : V} {C : Addr} {n m : Str} (k : ∀ d, H1 d = none → Q (.ref C) (some d) (upd H1 d (.xd [(m, u), (n, v)]))) :
    [v, u].length ≤ 1000 ∧ ∀ a, H1 a = none → spErr2 C n m (.ref a :: ([v, u] ++ [])) (upd H1 a (exo a C none)) (fun u H2 => u = .non ∧ ∃ (d : Addr) (fs : List (Str × V)), H2 a = some (exo a C (some d)) ∧ H2 d = some (exd d fs) ∧ H1 d = none ∧ Q (.ref C) (some d) (upd (del H2 a) d (.xd fs))) (fun _ _ _ => False) := by
  refine ⟨Nat.le_of_ble_eq_true rfl, fun a ha => ⟨a, v, u, rfl, upd_same, fun dx hdx ne => ⟨rfl, dx, _, upd_same, by rw [upd_ne ne]; exact upd_same, by rw [upd_ne ne] at hdx; exact hdx, ?_⟩⟩⟩
  rw [raise_heap ha ne]
  refine k dx ?_
  rw [upd_ne ne] at hdx
  exact hdx
/-- a def without defaults that lets nothing out: its promise by binds, for makings of errors -/
theorem FnT.okB {N ps : List Str} {k : Nat} {sp : Sp} (F : FnT K x qual st [] f) (S : FnScope N ps (defScope st))
    (hb : ∀ (kV doc pm : Value) (an : Option Addr) (cdv ct : Value) (us : List Value), us.length = ps.length → bindArgs (PySem.W.fnOf x qual (defArgs st) (defBody st) (defScope st) .none kV doc pm an cdv ct) ⟨us, []⟩ = pure (ps.zip us))
    (len : ∀ vs H Q E, sp vs H Q E → vs.length = ps.length)
    (hbody : ∀ (cdv : Value) (A : Around) (outer : List Env) (s : Shared) (H : Hp) (vs : List V) (Q : VK) (E : XK), Room k (A.deeper (envOfC qual (defScope st) s.heap.objs.size f cdv)) → sp vs H Q E →
      ∃ t, PSs (cxOf CX0 P w K mg base N qual (defScope st) f cdv A outer s H E).nox (defBody st) t ∧ t { nx := fun _ H' => Q .non H', rt := Q } (start N vs) H) : ∃ fd, FnOk P w K mg base CX0 (k + 1) f fd ps sp ∧ Binds K fd ps [] := by
  obtain ⟨fd, F⟩ := F
  exact ⟨fd, F.ok S len fun cdv A outer s H vs Q E hr hsp => by
    obtain ⟨t, h, q⟩ := hbody cdv A outer s H vs Q E hr hsp
    exact ⟨t, h.nox, q⟩, F.bindsN hb⟩
/-- v is no integer (a bool is none) -/
def NoInt (K : PySem.W.Frag) (H : Hp) (v : V) : Prop := (∃ b, v = .bl b) ∨ ∃ T : String, TyX K H v (.type T) ∧ PySem.W.kitOne K (.type T) (.type "int") = some false
theorem kit_bool_int {K : PySem.W.Frag} : PySem.W.kitOne K (.type "bool") (.type "int") = some true := kit_ty (by decide +kernel)
theorem NoInt.non {H : Hp} : NoInt K H .non := .inr ⟨_, .base .non, kit_ty (by decide +kernel)⟩
theorem NoInt.bl {H : Hp} {b : Bool} : NoInt K H (.bl b) := .inl ⟨b, rfl⟩
theorem NoInt.str {H : Hp} {z : Str} : NoInt K H (.str z) := .inr ⟨_, .base (.str z), kit_ty (by decide +kernel)⟩
theorem NoInt.lst {H : Hp} {l : Addr} {xs : List V} (h : H l = some (.lst xs)) : NoInt K H (.ref l) := .inr ⟨_, .base (.lst h), kit_ty (by decide +kernel)⟩
theorem NoInt.tup {H : Hp} {l : Addr} {xs : List V} (h : H l = some (.tup xs)) : NoInt K H (.ref l) := .inr ⟨_, .base (.tup h), kit_ty (by decide +kernel)⟩
theorem NoInt.dict {H : Hp} {l : Addr} {kvs : List (Key × V)} (h : H l = some (.dK kvs)) : NoInt K H (.ref l) := .inr ⟨_, .base (.dK h), kit_ty (by decide +kernel)⟩
/-- is_int of any value -/
def spIntV (K : PySem.W.Frag) : Sp := fun vs H Q _ => ∃ v, vs = [v] ∧ ((∃ i : Int, v = .int i ∧ Q (.bl true) H) ∨ (NoInt K H v ∧ Q (.bl false) H))
/-- the error of the class at B lets out, with one field -/
def Out1 (B : Addr) (n : Str) (H : Hp) (E : XK) (v : V) : Prop := ∀ d, H d = none → E (.ref B) (some d) (upd H d (.xd [(n, v)]))
theorem TyOf.same {H H' : Hp} {v : V} {t : Value} (h : TyOf K H v t) (m : ∀ b o, H b = some o → H' b = some o) : TyOf K H' v t := by
  cases h with
  | non => exact .non
  | bl x => exact .bl x
  | int i => exact .int i
  | str x => exact .str x
  | flt x => exact .flt x
  | lst h => exact .lst (m _ _ h)
  | frz h => exact .frz (m _ _ h)
  | tup h => exact .tup (m _ _ h)
  | dK h => exact .dK (m _ _ h)
  | dT h => exact .dT (m _ _ h)
  | ins h c a b d e => exact .ins (m _ _ h) c a b d e
theorem TyX.same {H H' : Hp} {v : V} {t : Value} (h : TyX K H v t) (m : ∀ b o, H b = some o → H' b = some o) : TyX K H' v t := by
  cases h with
  | base h => exact .base (TyOf.same h m)
  | byt b => exact .byt b
  | set h => exact .set (m _ _ h)
  | kList h c => exact .kList h c
  | kTuple h c => exact .kTuple h c
  | kDict h c => exact .kDict h c
  | fTuple h => exact .fTuple (m _ _ h)
  | fDict h => exact .fDict (m _ _ h)
theorem NoInt.same {H H' : Hp} {v : V} (h : NoInt K H v) (m : ∀ b o, H b = some o → H' b = some o) : NoInt K H' v := by
  rcases h with h | ⟨t, h, q⟩
  · exact .inl h
  · exact .inr ⟨t, TyX.same h m, q⟩
/-- .. from a heap that has grown -/
def OutS (B : Addr) (n : Str) (H : Hp) (E : XK) (v : V) : Prop := ∀ H', (∀ b o, H b = some o → H' b = some o) → Out1 B n H' E v
end
/-- what a callee lets out leaves the def -/
theorem passUp {X : Cx} {E : XK} (tk : Takes X fun cls d _ H => E cls d H) : Passes (CX X.prog X.w) X E := fun pins σ H s e s' I h => passAt tk σ pins H s e s' I h
end Ow
end
section
set_option maxHeartbeats 4000000
/-! isinstance of a caught own error that keeps fields; what a def that tries its argument tells. -/
namespace Ow
open PySem PySem.Spec PyProof.Rows L2 StX
section
variable {X : Cx} {a : Addr} {oe : Obj} {cls : Value} {d : Option Addr} {pn : List (Addr × Obj)}
/-- isinstance(error, T): error the caught one, with its fields at dd -/
def rIsEX (K : PySem.W.Frag) (a : Addr) (cls : Value) (d : Option Addr) : List V → Hp → VK → Prop := fun xs H Q => ∃ (c : V) (cv : Value) (b : Bool) (D dd : Addr) (fs : List (Str × V)),
  xs = [.ref a, c] ∧ cls = .ref D ∧ ExcC K D ∧ (PySem.W.clsIn K D).isSome = true ∧ d = some dd ∧ H dd = some (.xd fs) ∧ (∀ u, RelV c u → u = cv) ∧ PySem.W.kitOne K (.ref D) cv = some b ∧ Q (.bl b) H
theorem call_isEX (hz : Zc cls d oe) (hf : ∃ vs, oe.data = .fields vs) : CallR (X.suite a ((a, oe) :: pn)) (.builtin "isinstance") (rIsEX X.K a cls d) := by
  intro pins s σ H xs us Q I r h
  obtain ⟨c, cv, b, D, dd, fs, rfl, rfl, C, hci, rfl, hdd, hcv, hk, q⟩ := h
  cases r with
  | cons rx r2 =>
    cases r2 with
    | cons rc r3 =>
      cases r3
      cases rx
      cases hcv _ rc
      obtain ⟨hget, _⟩ := I.pin (a, oe) (List.mem_append.mpr (.inl List.mem_cons_self))
      obtain ⟨vs, hv⟩ := hf
      obtain ⟨z1, z2⟩ := hz
      obtain ⟨od, hod⟩ : ∃ o, s.heap.get? dd = some o := by
        have := I.hok dd _ hdd
        obtain ⟨mA, ⟨o, _, _, e, _⟩, _⟩ := this
        exact ⟨o, e⟩
      have J : PySem.W.InstAt s.heap a oe D (some od) := ⟨hget, z1, by unfold PySem.W.notCls; rw [hv], by rw [z2]; exact hod⟩
      refine PySem.W.kia_one (PySem.W.kitx_exc (x := a) (ox := oe) (od := some od) hci C.hg C.hk C.hs C.ha C.hn C.ht C.hm) I.kIn J hk (fun z => by cases z) fun tk => ?_
      exact ⟨.bl b, H, I.kept fun _ _ e => e, rfl, q⟩
end
/-- return (z, ask()), ask a handed lambda that may raise -/
theorem ret_told {X : Cx} {f c' : Addr} {q z : Str} {tl : XK → Hp → VK → Prop} {W : WX} {n : Str} {j ct : Nat} {p0 p1 p2 pt ps : Pos}
    (act : ∀ E : XK, (∀ cls d σ' H', E cls d H' → W cls d σ' H') → PE X (.Call (.Name n p1) [] [] p2) (fun σZ HZ Q => σZ[0]? = some (some (.ref f)) ∧ HZ c' = some (LamX.CodeO c' q) ∧ tl E HZ Q)) :
    PSs X [.Return (some (.Tuple [.Constant (.str z) j p0, .Call (.Name n p1) [] [] p2] ct pt)) ps] (fun D σ H => ∃ Ech : XK, (∀ cls d σ' H', Ech cls d H' → W cls d σ' H') ∧ σ[0]? = some (some (.ref f)) ∧ H c' = some (LamX.CodeO c' q) ∧
      tl Ech H (fun v H1 => [V.str z, v].length ≤ sizeLine ∧ ∀ p, H1 p = none → D.rt (.ref p) (upd H1 p (.tup [.str z, v])))) := by
  refine ⟨fun pins s' σ H' D I ⟨Ech, hW, h1, h2, h3⟩ => ?_⟩
  exact (pss_one (ps_ret (pe_tup (pa_cons pe_str (pa_cons (act Ech hW) pa_nil))))).run pins s' σ H' D I ⟨h1, h2, h3⟩
/-- as many slots as names stand at each statement -/
theorem pss_len {X : Cx} {b : List Stmt} {t : TS} (n : Nat) (hn : X.N.length = n) (h : PSs X b t) : PSs X b (fun D σ H => σ.length = n → t D σ H) := ⟨fun pins s σ H D I q => h.run pins s σ H D I (q (I.len.trans hn))⟩
/-- an own class against another one -/
theorem kit_err {K : PySem.W.Frag} {C : Addr} {t : Value} {b : Bool} (hi : (PySem.W.clsIn K C).isSome = true) (ht : PySem.W.typeIn K (.ref C) = some (.type "type")) (h : PySem.W.subIn K t (.ref C) = some b) (hb : (t == Value.ref C) = false) : PySem.W.kitOne K t (.ref C) = some b := by
  unfold PySem.W.kitOne
  rw [if_neg (by rw [hb]; exact Bool.false_ne_true)]
  show (if ((PySem.W.clsIn K C).isSome && PySem.W.typeIn K (.ref C) == some (.type "type")) = true then PySem.W.subIn K t (.ref C) else none) = some b
  rw [hi, ht]
  rw [if_pos (by rfl)]
  exact h
end Ow
end
section
set_option maxHeartbeats 4000000
/-! A comparison of an own instance with a value of another kind. -/
namespace Ow
open PySem PySem.Spec PyProof.Rows L2 StX
section
variable {X : Cx} {CX : CXT} {n : Nat} {C g : Addr} {sp : Sp} {E : XK}
/-- x op y: x an instance of C, y of the type t, that is not below C -/
def rBinT (K : PySem.W.Frag) (C : Addr) (sp : Sp) (E : XK) : R2 := fun x y H Q => ∃ (a : Addr) (t : Value), x = .ref a ∧ InsAt H a C ∧ TyX K H y t ∧ PySem.W.notFirst K C t = true ∧ sp [x, y] H Q E
theorem op_cmpT {op : CmpOp} (hop : ∀ a b, compareOp op a b = richCompare op a b) (hs : PySem.W.findIn X.K (.ref C) (cmpInfo op).2.1 = some (some (.ref g))) (hf : PySem.W.isFn X.K (.ref g) = true)
    (F : FnR X.prog X.w X.K X.mg X.base CX n g sp) (hr : Room n X.A) (hx : Passes CX X E) : OpR X (compareOp op) (rBinT X.K C sp E) := by
  intro pins s σ H x y v u Q I rx ry h
  obtain ⟨a, t, rfl, ha, ht, hn, q⟩ := h
  cases (show v = Value.ref a from rx)
  obtain ⟨ox, od, J⟩ := inst_of I ha
  obtain ⟨m, hF⟩ := I.fr
  obtain ⟨Pk, k, hk, _⟩ := kit_of I ry ht
  rw [hop]
  refine PySem.W.cmp_K (op := op) (tb := t) hr.units0 hF I.ok.mod.kin J (k.ty _ _ I.kIn hk) hn hs hf ?_
  refine wpAny_mono (wpAny_call (run_fnR (us := [.ref a, u]) (vs := [.ref a, y]) F hr hx I (.cons rfl (.cons ry .nil)) q)) (fun w s' z => ?_) fun _ _ x => x
  obtain ⟨z', H', I', rz, qz⟩ := z
  exact cmpbackR rz ⟨z', H', I', rz, qz⟩
theorem notFirst_of {K : PySem.W.Frag} {T : String} (h : PySem.W.subIn K (.type T) (.ref C) = some false) : PySem.W.notFirst K C (.type T) = true := by
  unfold PySem.W.notFirst
  rw [h]
  simp
end
end Ow
end
section
set_option maxHeartbeats 4000000
/-! A law whose def hands lambdas over: its code is told, and the code's table. -/
namespace Ow
open PySem PySem.Spec PyProof.Rows L2 StX
section
variable {P : Program} {w : World} {K : PySem.W.Frag} {mg : Str → Option Value} {base : Heap} {x qual : Str} {st : Stmt} {f c : Addr}
/-- a def of the text without defaults, its code at c -/
def FnC (K : PySem.W.Frag) (x qual : Str) (st : Stmt) (f c : Addr) : Prop := ∃ (oc : Value) (od an : Option Addr) (kV doc pm ct : Value) (osl : Array (Option Value)),
  K.lookup f = some ⟨oc, od, .func (PySem.W.fnOf x qual (defArgs st) (defBody st) (defScope st) .none kV doc pm an (.ref c) ct), osl⟩ ∧ PySem.W.codeIn K (.ref c) qual = true
theorem FnC.mk {oc : Value} {od an : Option Addr} {kV doc pm ct : Value} {osl : Array (Option Value)} (l : K.lookup f = some ⟨oc, od, .func (PySem.W.fnOf x qual (defArgs st) (defBody st) (defScope st) .none kV doc pm an (.ref c) ct), osl⟩) (h : PySem.W.codeIn K (.ref c) qual = true) : FnC K x qual st f c := ⟨oc, od, an, kV, doc, pm, ct, osl, l, h⟩
theorem FnC.ok {N ps : List Str} (F : FnC K x qual st f c) (S : FnScope N ps (defScope st))
    (hb : ∀ (kV doc pm : Value) (an : Option Addr) (cdv ct : Value) (us : List Value), us.length = ps.length → bindArgs (PySem.W.fnOf x qual (defArgs st) (defBody st) (defScope st) .none kV doc pm an cdv ct) ⟨us, []⟩ = pure (ps.zip us)) :
    ∃ fd : FuncData, (∀ (s : Shared) (us : List Value), us.length = ps.length → BindsTo s fd ⟨us, []⟩ (ps.zip us)) ∧ ∀ (P : Program) (w : World) (mg : Str → Option Value) (base : Heap) (k : Nat) (sp : Sp), (∀ vs H Q E, sp vs H Q E → vs.length = ps.length) →
      (∀ (A : Around) (outer : List Env) (s : Shared) (H : Hp) (vs : List V) (Q : VK) (E : XK), Room k (A.deeper (envOfC qual (defScope st) s.heap.objs.size f (.ref c))) → sp vs H Q E →
        ∃ t, PSs (cxOf CX0 P w K mg base N qual (defScope st) f (.ref c) A outer s H E).nox (defBody st) t ∧ t { nx := fun _ H' => Q .non H', rt := Q } (start N vs) H) → FnOk P w K mg base CX0 (k + 1) f fd ps sp := by
  obtain ⟨oc, od, an, kV, doc, pm, ct, osl, lk, hcd⟩ := F
  refine ⟨_, fun s us hu => BindsTo.of_eq (hb kV doc pm an (.ref c) ct us hu), fun P w mg base k sp len hbody => ⟨len, fun A outer s H args us vs Q E hr e0 b r hs => ?_⟩⟩
  refine LamX.run_ofS lk hcd S hr e0 b r (len _ _ _ _ hs) fun hr2 => ?_
  obtain ⟨t, h, q⟩ := hbody A outer s H vs Q E hr2 hs
  exact ⟨t, h.nox, q⟩
/-- a code object, its table at T -/
theorem codeHd_mk {h : Heap} {T : Addr} {od : Option Addr} {vs : Array Value} {osl : Array (Option Value)} {file : Str} {tf : Tok} {flags text : Int} {tg tt : Tok} {inF : Bool} (X : K.In h) (l : K.lookup c = some ⟨.type "code", od, .fields vs, osl⟩)
    (e1 : vs[11]? = some (.ref T)) (e2 : vs.getD 11 .none = .ref T) (e3 : vs.getD 18 .none = .str file tf) (e4 : vs.getD 7 .none = .int flags tg) (e5 : vs.getD 9 .none = .bool inF) (e6 : vs.getD 10 .none = .int text tt) (ne : c ≠ T) : PySem.W.CodeHd h c T :=
  ⟨_, vs, file, tf, flags, tg, inF, text, tt, X _ _ l, rfl, rfl, e1, e2, e3, e4, e5, e6, ne⟩
end
/-- a table is not of the written part -/
theorem km_none {K : Params → PySem.W.Frag} {as ts : List Addr} {e : ∀ P, as = (K P).map fun x => x.1} {w : World} {h : Heap} (_ : (PySem.W.kmHook K as e ts).says w h) {T : Addr} (n : as.contains T = false) : List.lookup T (K w.params) = none := by
  rw [List.lookup_eq_none_iff]
  intro p hp
  have m : p.1 ∈ as := by rw [e w.params]; exact List.mem_map.mpr ⟨p, hp, rfl⟩
  refine bne_iff_ne.mpr fun q => ?_
  rw [← q] at m
  have := List.contains_iff_mem.mpr m
  rw [n] at this
  cases this
end Ow
end
section
set_option maxHeartbeats 4000000
/-! A def with defaults and without keyword-only parameters, called by keywords. -/
namespace Ow
open PySem PySem.Spec PyProof.Rows L2 StX
section
variable {K : PySem.W.Frag} {x qual : Str} {params : Arguments} {body : List Stmt} {scope : PySem.Scope} {dvs : List V} {kws : List (Str × V)} {f : Addr} {fd : FuncData} {ps : List Str}
/-- n arguments by place, ks by keyword; g puts the defaults in -/
theorem kbnD (F : FunD K x qual params body scope dvs kws f fd) (n : Nat) (ks : List Str) (g : {α : Type} → List α → List α → List α → List α) (hd : dvs ≠ [])
    (hg : ∀ {vs ds zs : List V} {us its ws : List Value}, Vals vs us → Vals ds its → Vals zs ws → Vals (g vs ds zs) (g us its ws))
    (h : ∀ (T : Addr) (kV doc pm : Value) (an : Option Addr) (cdv ct : Value) (us its ws : List Value), us.length = n → its.length = dvs.length → ws.length = ks.length →
      ∃ k, bindArgs (PySem.W.fnOf x qual params body scope (.ref T) kV doc pm an cdv ct) ⟨us, ks.zip ws⟩ = seqItems? (.ref T) >>= k ∧ k (some its.toArray) = pure (ps.zip (g us its ws))) :
    ∃ its, KBn K fd ps n ks (fun us ws => g us its ws) fun vs zs => g vs dvs zs := by
  obtain ⟨oc, od, dV, kV, doc, pm, an, cdv, ct, osl, rfl, lk, hcd, hD, hK⟩ := F.ex
  rcases hD with ⟨e, _⟩ | ⟨_, T, o, its, m, rfl, lT, oT, rT⟩
  · exact absurd e hd
  refine ⟨its, ⟨fun s us ws X hu hw => ?_, fun r1 r2 => hg r1 rT r2⟩⟩
  obtain ⟨k, e1, e2⟩ := h T kV doc pm an cdv ct us its ws hu rT.length.symm hw
  exact BindsTo.of_looks fun M => by
    rw [e1]
    exact looks_items X lT oT (PySem.W.Looks.of_pure e2)
end
section
variable {X : Cx} {CX : CXT} {k : Nat} {f : Addr} {fd : FuncData} {ps ks : List Str} {sp : Sp} {E : XK} {x : Str} {p pos : Pos} {kws : List Keyword} {tk : TA} {g : List Value → List Value → List Value} {gV : List V → List V → List V}
/-- f(k=e, ..): by keywords alone -/
def tCallKO (m : Nat) (sp : Sp) (gV : List V → List V → List V) (E : XK) (tk : TA) : TE := fun σ H Q => tk σ H fun zs H2 => zs.length = m ∧ sp (gV [] zs) H2 Q E
theorem pe_callKO (F : FnOk X.prog X.w X.K X.mg X.base CX k f fd ps sp) (hr : Room k X.A) (hg : Gl X x) (hm : X.mg x = some (.ref f)) (hk : PySem.W.keepIn X.K (.ref f) = true) (hb : KBn X.K fd ps 0 ks g gV) (hx : Passes CX X E) (hkw : PK X kws tk)
    (hall : ((backToKw pos (keywordEach kws X.env)).all fun x => x.1.isSome) = true := by rfl) (hks : List.filterMap (fun x => x.1) (backToKw pos (keywordEach kws X.env)) = ks := by rfl) (hdb : (x == Str.ofString "__debug__") = false := by decide)
    (hpl : (((backTo pos (starEach [] X.env)).any fun x => x.1) || (backToKw pos (keywordEach kws X.env)).any fun x => x.1.isNone) = false := by rfl) :
    PE X (.Call (.Name x p) [] kws pos) (tCallKO ks.length sp gV E tk) := by
  refine ⟨fun pins s σ H Q I h => ?_⟩
  refine wpAny_Call_Name_kw (ld_glob I hg hm ?_ hdb)
  refine PySem.W.callWith_KW0 I.ok.mod.kin hk hall (thn (hkw.run pos pins s σ H _ I h) fun ws s2 z => ?_) hpl
  obtain ⟨zs, H2, I2, rz, l2, q2⟩ := z
  refine ⟨I2.kIn, ?_⟩
  rw [hks]
  exact run_fnN (us := []) (vs := []) F hr hb hx I2 .nil rz rfl l2 q2
end
end Ow
end
section
set_option maxHeartbeats 4000000
/-! `x in o`, `x not in o` and `str(o)` where o is an instance of an own class that defines them. -/
namespace Ow
open PySem PySem.Spec PyProof.Rows L2

theorem unlessNone_fn {K : PySem.W.Frag} {M : Model} {A : Around} {E : Value → Shared → Prop} {s : Shared} {x C f : Addr} {ox : Obj} {od : Option Obj} {name : Str} {args : List Value} {refuse : Sem Value} {Q : Option Value → Shared → Prop}
    (X : K.In s.heap) (I : PySem.W.InstAt s.heap x ox C od) (hs : PySem.W.findIn K (.ref C) name = some (some (.ref f))) (hf : PySem.W.typeIn K (.ref f) = some (.type "function"))
    (h : wpAny M A (call (.ref f) (.ref x :: args)) (fun v => Q (some v)) E s) : wpAny M A (callSpecialUnlessNone? (.ref x) name args refuse) Q E s :=
  wpAny_bind (wpAny_bind (I.type.here ((PySem.W.looks_findIn X hs).here (wpAny_holding (wpAny_bind ((PySem.W.bind_fn X _ hf).here (wpAny_bind (wpAny_mono h (fun _ _ z => wpAny_pure z) fun _ _ z => z))))))))

theorem contains_own {K : PySem.W.Frag} {M : Model} {A : Around} {E : Value → Shared → Prop} {s : Shared} {x C f : Addr} {ox : Obj} {od : Option Obj} {v : Value} {Q : Bool → Shared → Prop}
    (X : K.In s.heap) (I : PySem.W.InstAt s.heap x ox C od) (hs : PySem.W.findIn K (.ref C) "__contains__" = some (some (.ref f))) (hf : PySem.W.isFn K (.ref f) = true)
    (h : wpAny M A (call (.ref f) [.ref x, v]) (fun r s' => ∃ b, r = .bool b ∧ Q b s') E s) : wpAny M A (contains (.ref x) v) Q E s := by
  unfold contains
  refine wpAny_holding ?_
  refine wpAny_bind (m := specialOf (.ref x) "__contains__") (wpAny_bind (I.type.here ((PySem.W.looks_findIn X hs).here ?_)))
  dsimp only
  rw [if_neg (show ¬ (some (Value.ref f) == some Value.none) = true from fun z => by cases z)]
  refine wpAny_bind (m := callSpecialUnlessNone? (.ref x) (Str.ofString "__contains__") [v] _) (unlessNone_fn X I hs (beq_iff_eq.mp hf) (wpAny_mono h (fun r s' z => ?_) fun _ _ z => z))
  obtain ⟨b, rfl, q⟩ := z
  exact wpAny_truthy_bool q

section
variable {X : Cx} {CX : CXT} {n : Nat} {C g : Addr} {sp : Sp} {E : XK}
/-- x in o, o an instance of C -/
def rInO (C : Addr) (sp : Sp) (E : XK) (f : Bool → Bool) : R2 := fun x y H Q => ∃ a, y = .ref a ∧ InsAt H a C ∧ sp [y, x] H (fun v H' => ∃ b, v = .bl b ∧ Q (.bl (f b)) H') E
theorem op_inO (hs : PySem.W.findIn X.K (.ref C) "__contains__" = some (some (.ref g))) (hf : PySem.W.isFn X.K (.ref g) = true)
    (F : FnR X.prog X.w X.K X.mg X.base CX n g sp) (hr : Room n X.A) (hx : Passes CX X E) : OpR X (compareOp .In) (rInO C sp E id) := by
  intro pins s σ H x y v u Q I rx ry h
  obtain ⟨a, rfl, ha, q⟩ := h
  cases (show u = Value.ref a from ry)
  obtain ⟨ox, od, J⟩ := inst_of I ha
  obtain ⟨m, hF⟩ := I.fr
  refine wpAny_bind (contains_own (I.ok.mod.kin.keeps hF.keep) J hs hf ?_)
  refine wpAny_mono (wpAny_call (run_fnR (us := [.ref a, v]) (vs := [.ref a, x]) F hr hx I (.cons rfl (.cons rx .nil)) q)) (fun w s' z => ?_) fun _ _ x => x
  obtain ⟨z', H', I', rz, b, rfl, qz⟩ := z
  exact ⟨b, rz, wpAny_pure ⟨.bl b, H', I', rfl, qz⟩⟩
theorem op_notInO (hs : PySem.W.findIn X.K (.ref C) "__contains__" = some (some (.ref g))) (hf : PySem.W.isFn X.K (.ref g) = true)
    (F : FnR X.prog X.w X.K X.mg X.base CX n g sp) (hr : Room n X.A) (hx : Passes CX X E) : OpR X (compareOp .NotIn) (rInO C sp E fun b => !b) := by
  intro pins s σ H x y v u Q I rx ry h
  obtain ⟨a, rfl, ha, q⟩ := h
  cases (show u = Value.ref a from ry)
  obtain ⟨ox, od, J⟩ := inst_of I ha
  obtain ⟨m, hF⟩ := I.fr
  refine wpAny_bind (contains_own (I.ok.mod.kin.keeps hF.keep) J hs hf ?_)
  refine wpAny_mono (wpAny_call (run_fnR (us := [.ref a, v]) (vs := [.ref a, x]) F hr hx I (.cons rfl (.cons rx .nil)) q)) (fun w s' z => ?_) fun _ _ x => x
  obtain ⟨z', H', I', rz, b, rfl, qz⟩ := z
  exact ⟨b, rz, wpAny_pure ⟨.bl (!b), H', I', rfl, qz⟩⟩
/-- a callee runs further down than the body -/
theorem run_fnRS {pins : List (Addr × Obj)} {σ : L2.St} {H : Hp} {s : Shared} {A : Around} {Q : VK} {us : List Value} {vs : List V} (F : FnR X.prog X.w X.K X.mg X.base CX n g sp) (hr : Room n A) (hfr : A.frames = X.A.frames) (hx : Passes CX X E) (I : Inv X pins σ H s) (r : Vals vs us) (h : sp vs H Q E) :
    codeAny (model X.prog X.w) A (.call (.ref g) ⟨us, []⟩) (fun r s' => match r with | .ok (.ret v) => EP X pins σ Q v s' | .ok _ => False | .error e => X.xe e s') s := by
  have e0 : Env0 X.prog X.w X.K X.mg X.base A X.stack s H := by
    have e := I.env0
    exact ⟨by rw [hfr]; exact e.frames, e.mod, e.bs, e.bsz, e.funs, e.frf, e.hok, e.bare⟩
  refine codeAny_mono (F A X.stack s H us vs Q E hr e0 r h) fun r s' hq => ?_
  cases r with
  | error e => exact hx pins σ H s e s' I hq
  | ok fl =>
    cases fl with
    | ret u => exact I.after hq
    | next => exact False.elim hq
    | brk => exact False.elim hq
    | cont => exact False.elim hq
/-- str(o), o an instance of C that has a __str__ -/
def rStrO (C : Addr) (sp : Sp) (E : XK) : List V → Hp → VK → Prop := fun xs H Q => ∃ a, xs = [.ref a] ∧ InsAt H a C ∧ sp [.ref a] H (fun v H' => ∃ t, v = .str t ∧ Q (.str t) H') E
theorem call_strO (hs : PySem.W.findIn X.K (.ref C) "__str__" = some (some (.ref g))) (hf : PySem.W.isFn X.K (.ref g) = true)
    (F : FnR X.prog X.w X.K X.mg X.base CX n g sp) (hr : Room (n + 2) X.A) (hx : Passes CX X E) : CallR X (.type "str") (rStrO C sp E) := by
  intro pins s σ H xs us Q I r h
  obtain ⟨a, rfl, ha, q⟩ := h
  obtain ⟨u, rfl, ru⟩ := vals1 r
  cases (show u = Value.ref a from ru)
  obtain ⟨ox, od, J⟩ := inst_of I ha
  obtain ⟨m, hF⟩ := I.fr
  refine PySem.W.kso_call hr.in1.in1.units0 (I.ok.mod.kin.keeps hF.keep) J hs hf ?_
  refine wpAny_mono (wpAny_call (run_fnRS (us := [.ref a]) (vs := [.ref a]) F hr.in1.in1 rfl hx I (.cons rfl .nil) q)) (fun w s' z => ?_) fun _ _ x => x
  obtain ⟨z', H', I', rz, t, rfl, qz⟩ := z
  obtain ⟨tk, rfl⟩ := rz
  exact ⟨.str t, H', I', ⟨tk, rfl⟩, qz⟩
end
end Ow
end
section
set_option maxHeartbeats 4000000
/-! The end of a law whose def hands lambdas over and asks repr of containers: nothing is being shown, and the codes' tables are told. -/
namespace Ow
open PySem PySem.Spec PyProof.Rows L2 StX
section
variable {P : Program} {w : World} {K : PySem.W.Frag} {mg mb : Str → Option Value} {k : Nat} {fa a c T : Addr} {sp : Sp} {s1 : Shared} {vs : List Value} {ns : List Int}
/-- a table that is still empty -/
abbrev tab0 : Obj := { cls := .none, data := .fields #[] }
/-- what stands in the abstract heap at the begin: the table, and perhaps the script -/
structure Begin (K : PySem.W.Frag) (h : Heap) (T : Addr) (H : Hp) : Prop where
  tab : H T = some (.tbl #[])
  rest : ∀ b, b ≠ T → H b = none ∨ ∃ o xs items n, H b = some (.frz o (.lst xs)) ∧ K.lookup b = none ∧ h.get? b = some o ∧ o.data = .seq items n
theorem end_fromT (KX : K.In s1.heap) (hns : s1.heap.Ns mainGlobals mg) (hb : s1.heap.Ns builtinsNs mb) (hbb : ∀ x : Str, x ≠ "__name__" → mb x = bootBuiltins x) (hlim : s1.heap.NoLimit) (hg : s1.gens = #[]) (hr : Room k callerA)
    (eT : s1.heap.get? T = some tab0) (nT : K.lookup T = none) (cT : PySem.W.CodeHd s1.heap c T)
    (main : ∃ (m : Addr) (o : Obj), mg "__builtins__" = some (.ref m) ∧ m ≠ builtinsNs ∧ s1.heap.get? m = some o ∧ o.cls = .type "module" ∧ o.dict = some builtinsNs ∧ o.data = .plain)
    (F : ∀ base : Heap, K.In base → base.Ns mainGlobals mg → LamX.TabB base mg c T → FnG P w K mg base CX0 k fa sp) {H : Hp} (B : Begin K s1.heap T H) (hok : HOk P w H s1.heap)
    (hsp : sp [.ref a] H (fun v _ => v = .bl true) fun _ _ _ => False) :
    codeAny (model P w) callerA (.call (.ref fa) ⟨[.ref a], []⟩) (fun r s' => r = .ok (.ret (.bool true)) ∧ OldK s1.heap s'.heap ∧ s'.os = s1.os ∧ AllBare s'.gens) s1 := by
  let base := hidT s1.heap H
  have free : ∀ {b : Addr} {o : Obj}, s1.heap.get? b = some o → (∀ items n, o.data ≠ .seq items n) → o.data ≠ .fields #[] → base.get? b = some o := fun {b o} e d1 d2 => by
    refine hidT_get e ?_
    by_cases q : b = T
    · rw [q, eT] at e
      cases e
      exact (d2 rfl).elim
    · rcases B.rest b q with z | ⟨o2, xs, items, n, _, _, e2, z⟩
      · exact z
      · rw [e] at e2
        cases e2
        exact (d1 _ _ z).elim
  have names : ∀ {b : Addr} {m : Str → Option Value}, s1.heap.Ns b m → base.Ns b m := fun z => by
    obtain ⟨o, es, ep, e, d, r⟩ := z
    exact ⟨o, es, ep, free e (fun _ _ y => by rw [d] at y; cases y) (fun y => by rw [d] at y; cases y), d, r⟩
  have hK : K.In base := fun b o e => by
    refine hidT_get (KX b o e) ?_
    by_cases q : b = T
    · rw [q, nT] at e
      cases e
    · rcases B.rest b q with z | ⟨o2, xs, items, n, _, z, _⟩
      · exact z
      · rw [e] at z
        cases z
  have lim : base.NoLimit := by
    obtain ⟨m, h1, h2⟩ := hlim
    exact ⟨m, names h1, h2⟩
  have TB : LamX.TabB base mg c T := by
    refine ⟨?_, ?_, fun z => ?_⟩
    · obtain ⟨o, us, file, tf, flags, tg, inF, text, tt, e1, p1, p2, p3, p4, p5, p6, p7, p8, p9⟩ := cT
      exact ⟨o, us, file, tf, flags, tg, inF, text, tt, free e1 (fun _ _ y => by rw [p2] at y; cases y) (fun y => by rw [p2] at y; cases y; simp at p3), p1, p2, p3, p4, p5, p6, p7, p8, p9⟩
    · obtain ⟨m, o, q1, q2, q3, q4, q5, q6⟩ := main
      refine ⟨m, o, q1, q2, fun y => ?_, fun y => ?_, free q3 (fun _ _ y => by rw [q6] at y; cases y) (fun y => by rw [q6] at y; cases y), q4, q5, q6⟩
      · obtain ⟨og, es, ep, e, d, _⟩ := hns
        rw [y, e] at q3
        cases q3
        rw [q6] at d
        cases d
      · rw [y, eT] at q3
        cases q3
        cases q6
    · obtain ⟨og, es, ep, e, d, _⟩ := hns
      rw [z, eT] at e
      cases e
      cases d
  have e0 : Env0 P w K mg base callerA [] s1 H :=
    { frames := rfl, mod := ⟨hK, names hns, ⟨mb, names hb, hbb⟩, lim⟩, bs := fun b o e => of_hidT e, bsz := Nat.le_of_eq (hidT_size _ _), funs := trivial, frf := fun b hb => (List.not_mem_nil hb).elim, hok := hok, bare := .of_eq hg }
  refine codeAny_mono (F base hK (names hns) TB callerA [] s1 H [.ref a] [.ref a] _ _ hr rfl e0 (.cons rfl .nil) hsp) fun r s' h => ?_
  cases r with
  | error e => exact False.elim h
  | ok fl =>
    cases fl with
    | next => exact False.elim h
    | brk => exact False.elim h
    | cont => exact False.elim h
    | ret u =>
      obtain ⟨v, H2, os, bare, un, ok2, rv, q⟩ := h
      subst q
      cases rv
      have still : ∀ b o, b ≠ T → s1.heap.get? b = some o → s'.heap.get? b = some o := fun b o nb e => by
        rcases B.rest b nb with z | ⟨o2, xs, items, n, z, _⟩
        · exact un.keep b o e z (fun y => List.not_mem_nil y) (fun y => List.not_mem_nil y)
        · have e1 := (hok b _ z).1
          have e2 := (ok2 b _ (un.frzs b o2 _ z)).1
          rw [e] at e1
          cases e1
          exact e2
      obtain ⟨more, z⟩ := un.tbls T #[] B.tab
      have wide := ok2 T _ z
      refine ⟨rfl, ⟨fun b o e => ?_, fun b o e => ?_⟩, os, bare⟩
      · by_cases q : b = T
        · subst q
          rw [eT] at e
          cases e
          exact .inr (.inl ⟨(cT.tab eT).isCodeTable, rfl, #[], _, rfl, by rw [Array.empty_append]; exact wide⟩)
        · exact .inl (still b o q e)
      · by_cases q : b = T
        · subst q
          exact ⟨_, wide⟩
        · exact ⟨o, still b o q e⟩
theorem end_callT (KX : K.In s1.heap) (hns : s1.heap.Ns mainGlobals mg) (hb : s1.heap.Ns builtinsNs mb) (hbb : ∀ x : Str, x ≠ "__name__" → mb x = bootBuiltins x) (hlim : s1.heap.NoLimit) (hg : s1.gens = #[]) (hr : Room k callerA)
    (eT : s1.heap.get? T = some tab0) (nT : K.lookup T = none) (cT : PySem.W.CodeHd s1.heap c T)
    (main : ∃ (m : Addr) (o : Obj), mg "__builtins__" = some (.ref m) ∧ m ≠ builtinsNs ∧ s1.heap.get? m = some o ∧ o.cls = .type "module" ∧ o.dict = some builtinsNs ∧ o.data = .plain)
    (ha : s1.heap.get? a = some { cls := .type "list", data := .seq vs.toArray }) (hi : IntsAre vs ns) (hl : ns.length ≤ sizeLine) (F : ∀ base : Heap, K.In base → base.Ns mainGlobals mg → LamX.TabB base mg c T → FnG P w K mg base CX0 k fa sp)
    (hsp : ∀ H : Hp, H T = some (.tbl #[]) → SqL K H a (ns.map V.int) → sp [.ref a] H (fun v _ => v = .bl true) fun _ _ _ => False) :
    codeAny (model P w) callerA (.call (.ref fa) ⟨[.ref a], []⟩) (fun r s' => r = .ok (.ret (.bool true)) ∧ OldK s1.heap s'.heap ∧ s'.os = s1.os ∧ AllBare s'.gens) s1 := by
  have rv := vals_ints hi
  have hl2 : (ns.map V.int).length ≤ sizeLine := by rw [List.length_map]; exact hl
  have naT : a ≠ T := fun z => by
    rw [z, eT] at ha
    cases ha
  cases hk : K.lookup a with
  | some o =>
    have e := KX a o hk
    rw [ha] at e
    cases e
    let H : Hp := fun b => if b = T then some (.tbl #[]) else none
    have HT : H T = some (.tbl #[]) := if_pos rfl
    have HN : ∀ b, b ≠ T → H b = none := fun b n => if_neg n
    refine end_fromT KX hns hb hbb hlim hg hr eT nT cT main F (H := H) ⟨HT, fun b n => .inl (HN b n)⟩ (fun b u z => ?_) (hsp H HT ?_)
    · by_cases q : b = T
      · subst q
        rw [HT] at z
        cases z
        exact eT
      · rw [HN b q] at z
        cases z
    · exact .inr ⟨_, vs.toArray, _, hk, rfl, rfl, rfl, by rw [List.size_toArray, hi.length]; exact hl, by simpa using rv⟩
  | none =>
    let o : Obj := { cls := .type "list", data := .seq vs.toArray }
    let H : Hp := fun b => if b = a then some (.frz o (.lst (ns.map V.int))) else if b = T then some (.tbl #[]) else none
    have HA : H a = some (.frz o (.lst (ns.map V.int))) := if_pos rfl
    have HT : H T = some (.tbl #[]) := by show (if T = a then _ else _) = _; rw [if_neg (Ne.symm naT), if_pos rfl]
    have HN : ∀ b, b ≠ a → b ≠ T → H b = none := fun b n n2 => by show (if b = a then _ else _) = _; rw [if_neg n, if_neg n2]
    refine end_fromT KX hns hb hbb hlim hg hr eT nT cT main F (H := H) ⟨HT, fun b n => ?_⟩ (fun b u z => ?_) (hsp H HT (.inl (.inr ⟨_, HA⟩)))
    · by_cases q : b = a
      · subst q
        exact .inr ⟨o, _, _, _, HA, hk, ha, rfl⟩
      · exact .inl (HN b q n)
    · by_cases q : b = a
      · subst q
        rw [HA] at z
        cases z
        exact ⟨ha, hl2, vs, _, rv, ha⟩
      · by_cases q2 : b = T
        · subst q2
          rw [HT] at z
          cases z
          exact eT
        · rw [HN b q q2] at z
          cases z
end
/-- what is to be known of the law's promise at the head's heap -/
def LawT (l : PySem.W.OpenLaw) (w : World) (K : PySem.W.Frag) (k n : Nat) (mg : Str → Option Value) (fa : Addr) (h : Heap) : Prop :=
  ∃ (c T : Addr) (sp : Sp), h.get? T = some tab0 ∧ K.lookup T = none ∧ PySem.W.CodeHd h c T ∧
    (∀ (H : Hp) (a : Addr) (ns : List Int), ns.length ≤ n → H T = some (.tbl #[]) → SqL K H a (ns.map V.int) → sp [.ref a] H (fun v _ => v = .bl true) fun _ _ _ => False) ∧
    ∀ base : Heap, K.In base → base.Ns mainGlobals mg → LamX.TabB base mg c T → FnG l.prog w K mg base CX0 k fa sp
theorem walk_ofTG {l : PySem.W.OpenLaw} {n k : Nat} {q : Program} {loose : List Str} {XP : (Str → Option Value) → Heap → Prop} {YP : World → Heap → Prop} {d : DefRec} {K : Params → PySem.W.Frag}
    (hn : l.most = some n) (hn2 : n ≤ sizeLine) (hdf : d.params.defaults = []) (hr : Room k callerA) (hY : ∀ (w : World) (h : Heap), YP w h → (K w.params).In h)
    (F : ∀ (w : World) (mg : Str → Option Value) (fa : Addr) (h : Heap), YP w h → (K w.params).In h → h.Ns mainGlobals mg → mg d.name = some (.ref fa) → LawT l w (K w.params) k n mg fa h) :
    PySem.W.WalkO q loose XP YP l.row.toRowW d [] (fun f vs => PySem.call f vs) := by
  refine Att.attach_call hn hdf fun w s0 s1 mg mb fa o pm cd doc a vs ns G Y ho hd hcd hmg hobj hints hlen hg => ?_
  have KX := hY w _ Y
  obtain ⟨c, T, sp, eT, nT, cT, hsp, hF⟩ := F w mg fa _ Y KX G.T.g hmg
  exact end_callT KX G.T.g G.T.b G.T.builtins G.T.nolimit hg hr eT nT cT G.T.bmain hobj hints (Nat.le_trans hlen hn2) hF fun H hH hS => hsp H a ns hlen hH hS
end Ow
end
section
set_option maxHeartbeats 4000000
/-! A law's def, its code told, called while nothing is being shown; what stays when a lambda is made. -/
namespace Ow
open PySem PySem.Spec PyProof.Rows L2 StX
section
variable {P : Program} {w : World} {K : PySem.W.Frag} {mg : Str → Option Value} {base : Heap} {x qual : Str} {st : Stmt} {f c : Addr}
theorem FnC.okG {N ps : List Str} {k : Nat} {sp : Sp} (F : FnC K x qual st f c) (S : FnScope N ps (defScope st))
    (hb : ∀ (kV doc pm : Value) (an : Option Addr) (cdv ct : Value) (us : List Value), us.length = ps.length → bindArgs (PySem.W.fnOf x qual (defArgs st) (defBody st) (defScope st) .none kV doc pm an cdv ct) ⟨us, []⟩ = pure (ps.zip us))
    (len : ∀ vs H Q E, sp vs H Q E → vs.length = ps.length)
    (hbody : ∀ (A : Around) (outer : List Env) (s : Shared) (H : Hp) (vs : List V) (Q : VK) (E : XK), Room k (A.deeper (envOfC qual (defScope st) s.heap.objs.size f (.ref c))) → A.guards = some [] → sp vs H Q E →
      ∃ t, PSs (cxOf CX0 P w K mg base N qual (defScope st) f (.ref c) A outer s H E).nox (defBody st) t ∧ t { nx := fun _ H' => Q .non H', rt := Q } (start N vs) H) : FnG P w K mg base CX0 (k + 1) f sp := by
  obtain ⟨oc, od, an, kV, doc, pm, ct, osl, lk, hcd⟩ := F
  intro A outer s H us vs Q E hr hg e0 r hs
  have hv := len _ _ _ _ hs
  refine LamX.run_ofS lk hcd S hr e0 (BindsTo.of_eq (hb kV doc pm an (.ref c) ct us (r.length.symm.trans hv))) r hv fun hr2 => ?_
  obtain ⟨t, h, q⟩ := hbody A outer s H vs Q E hr2 hg hs
  exact ⟨t, h.nox, q⟩
end
section
variable {K : PySem.W.Frag} {H H' : Hp} {v : V} {t : Value}
theorem TyOf.extN (h : TyOf K H v t) (m : LamX.ExtN H H') : TyOf K H' v t := by
  cases h with
  | non => exact .non
  | bl x => exact .bl x
  | int i => exact .int i
  | str x => exact .str x
  | flt x => exact .flt x
  | lst h => exact .lst (m _ _ h fun _ z => by cases z)
  | frz h => exact .frz (m _ _ h fun _ z => by cases z)
  | tup h => exact .tup (m _ _ h fun _ z => by cases z)
  | dK h => exact .dK (m _ _ h fun _ z => by cases z)
  | dT h => exact .dT (m _ _ h fun _ z => by cases z)
  | ins h c a b d e => exact .ins (m _ _ h fun _ z => by cases z) c a b d e
theorem TyX.extN (h : TyX K H v t) (m : LamX.ExtN H H') : TyX K H' v t := by
  cases h with
  | base h => exact .base (TyOf.extN h m)
  | byt b => exact .byt b
  | set h => exact .set (m _ _ h fun _ z => by cases z)
  | kList h c => exact .kList h c
  | kTuple h c => exact .kTuple h c
  | kDict h c => exact .kDict h c
  | fTuple h => exact .fTuple (m _ _ h fun _ z => by cases z)
  | fDict h => exact .fDict (m _ _ h fun _ z => by cases z)
theorem NoInt.extN (h : NoInt K H v) (m : LamX.ExtN H H') : NoInt K H' v := by
  rcases h with h | ⟨t, h, q⟩
  · exact .inl h
  · exact .inr ⟨t, TyX.extN h m, q⟩
end
end Ow
end
section
set_option maxHeartbeats 4000000
/-! A def with defaults: its promise as FnOk, by place and by keywords. -/
namespace Ow
open PySem PySem.Spec PyProof.Rows L2 StX
section
variable {P : Program} {w : World} {K : PySem.W.Frag} {mg : Str → Option Value} {base : Heap} {CX : CXT} {x qual : Str} {params : Arguments} {body : List Stmt} {scope : PySem.Scope} {dvs : List V} {f : Addr} {fd : FuncData} {ps : List Str} {k : Nat} {sp : Sp}
/-- n arguments by place, the defaults behind the first j fill up -/
theorem posR (F : FunD K x qual params body scope dvs [] f fd) (ok : FnOk P w K mg base CX k f fd ps sp) (n j : Nat) (hd : dvs ≠ []) (hn : n + (dvs.length - j) = ps.length)
    (hb : ∀ (T : Addr) (kV doc pm : Value) (an : Option Addr) (cdv ct : Value) (us its : List Value), us.length = n → its.length = dvs.length →
      ∃ k, bindArgs (PySem.W.fnOf x qual params body scope (.ref T) kV doc pm an cdv ct) ⟨us, []⟩ = seqItems? (.ref T) >>= k ∧ k (some its.toArray) = pure (ps.zip (us ++ its.drop j))) : FnR P w K mg base CX k f (fun vs H Q E => sp (vs ++ dvs.drop j) H Q E) := by
  obtain ⟨ds, hds, b⟩ := F.binds1 n j hd hn hb
  exact ok.raw b hds
end
end Ow
end
section
set_option maxHeartbeats 4000000
/-! An instance called by keywords alone; a def without defaults called by keywords; a def called without arguments. -/
namespace Ow
open PySem PySem.Spec PyProof.Rows L2 StX
section
variable {K : PySem.W.Frag} {x qual : Str} {params : Arguments} {body : List Stmt} {scope : PySem.Scope} {f : Addr} {fd : FuncData} {ps ks : List Str} {n : Nat} {g : List Value → List Value → List Value} {gV : List V → List V → List V}
/-- keywords at a def without defaults -/
theorem kbn0 (F : FunD K x qual params body scope [] [] f fd) (hrel : ∀ {vs zs : List V} {us ws : List Value}, Vals vs us → Vals zs ws → Vals (gV vs zs) (g us ws))
    (hb : ∀ (kV doc pm : Value) (an : Option Addr) (cdv ct : Value) (us ws : List Value), us.length = n → ws.length = ks.length → bindArgs (PySem.W.fnOf x qual params body scope .none kV doc pm an cdv ct) ⟨us, ks.zip ws⟩ = pure (ps.zip (g us ws))) : KBn K fd ps n ks g gV := by
  obtain ⟨oc, od, dV, kV, doc, pm, an, cdv, ct, osl, rfl, lk, hcd, hD, hK⟩ := F.ex
  rcases hD with ⟨_, rfl⟩ | ⟨e, _⟩
  · exact ⟨fun s us ws _ hu hw => BindsTo.of_eq (hb kV doc pm an cdv ct us ws hu hw), hrel⟩
  · exact absurd rfl e
end
theorem callKW_of {M : Model} {A : Around} {E : Value → Shared → Prop} {s : Shared} {a : Addr} {p : Pos} {Q : Value → Shared → Prop} {as : List (Bool × Sem Value)} {kws : List (Option Str × Sem Value)} (np : (as.any (·.1) || kws.any (·.1.isNone)) = false)
    (h : wpAny M A (evalArgs (.ref a) true as kws) (fun z s1 => (∃ C ox od, PySem.W.InstAt s1.heap a ox C od ∧ ox.data = .plain) ∧ wpAny M A (call (.ref a) z.pos z.kw) Q E s1) E s) : wpAny M A (callWith p (.ref a) [] as kws) Q E s := by
  unfold callWith
  refine wpAny_bind (wpAny_holding (wpAny_mono h (fun z s1 y => wpAny_bind (wpAny_standAt ?_)) fun _ _ e => e))
  obtain ⟨⟨C, ox, od, J, hd⟩, y⟩ := y
  simp only [np]
  refine wpAny_bind ((PySem.W.kco_keeper (M := M) J hd).here ?_)
  exact wpAny_bind (wpAny_mono (wpAny_operateT y) (fun r s2 hr => wpAny_bind (wpAny_holding (wpAny_point (wpAny_pure hr)))) fun _ _ e => e)
section
variable {X : Cx} {CX : CXT} {k n : Nat} {f C : Addr} {fd : FuncData} {ps ks : List Str} {sp : Sp} {E : XK} {x : Str} {p pos : Pos} {fe : Expr} {kws : List Keyword} {tf : TE} {tk : TA} {g : List Value → List Value → List Value} {gV : List V → List V → List V}
/-- o(k=e, ..): o an expression that gives an instance of C -/
def tCallOK (X : Cx) (C : Addr) (m : Nat) (sp : Sp) (gV : List V → List V → List V) (E : XK) (tf : TE) (tk : TA) : TE := fun σ H Q => tf σ H fun y H1 => ∃ a, y = V.ref a ∧ tk σ H1 fun zs H2 => zs.length = m ∧ InsC X H2 a C ∧ sp (gV [V.ref a] zs) H2 Q E
theorem pe_callOK (hf : PE X fe tf) (c : CallO X.K C f) (F : FnOk X.prog X.w X.K X.mg X.base CX k f fd ps sp) (hr : Room k X.A) (hb : KBn X.K fd ps 1 ks g gV) (hx : Passes CX X E) (hkw : PK X kws tk)
    (ht : eval (.Call fe [] kws pos) X.env = (do callWith pos (← eval fe X.env) [] (backTo pos (starEach [] X.env)) (backToKw pos (keywordEach kws X.env))) := by rfl)
    (hall : ((backToKw pos (keywordEach kws X.env)).all fun x => x.1.isSome) = true := by rfl) (hks : List.filterMap (fun x => x.1) (backToKw pos (keywordEach kws X.env)) = ks := by rfl)
    (hpl : (((backTo pos (starEach [] X.env)).any fun x => x.1) || (backToKw pos (keywordEach kws X.env)).any fun x => x.1.isNone) = false := by rfl) : PE X (.Call fe [] kws pos) (tCallOK X C ks.length sp gV E tf tk) := by
  refine ⟨fun pins s σ H Q I h => ?_⟩
  rw [ht]
  refine wpAny_bind (thn (hf.run pins s σ H _ I h) fun u s1 ⟨y, H1, I1, ry, a, ey, q⟩ => ?_)
  subst ey
  obtain rfl : u = Value.ref a := ry
  refine callKW_of hpl (evalArgs_kw2_nil hall (thn (hkw.run pos pins s1 σ H1 _ I1 q) fun ws s2 ⟨zs, H2, I2, rz, l2, hi, q2⟩ => ?_))
  obtain ⟨ox, od, J, hd⟩ := insC_at I2 hi
  refine ⟨⟨C, ox, od, J, hd⟩, ?_⟩
  rw [hks]
  have r1 : Vals [V.ref a] [Value.ref a] := .cons rfl .nil
  refine wpAny_call (PySem.W.kco_code I2.kIn J hd c.at_ c.fn c.fi (codeAny_mono (F.run X.A X.stack s2 H2 ⟨[.ref a], ks.zip ws⟩ (g [.ref a] ws) (gV [.ref a] zs) Q E hr I2.env0 (hb.to s2 [.ref a] ws I2.kIn rfl (rz.length.symm.trans l2)) (hb.rel r1 rz) q2) fun r s' hq => ?_))
  cases r with
  | error e => exact hx pins σ H2 s2 e s' I2 hq
  | ok fl =>
    cases fl with
    | ret u => exact I2.after hq
    | next => exact False.elim hq
    | brk => exact False.elim hq
    | cont => exact False.elim hq
/-- o(e, ..), told without the context (for a lambda's body) -/
def tCallOI (C : Addr) (sp : Sp) (E : XK) (tf : TE) (t : TA) : TE := fun σ H Q => tf σ H fun y H1 => ∃ a, y = V.ref a ∧ t σ H1 fun vs H2 => InsAt H2 a C ∧ sp (V.ref a :: vs) H2 Q E
theorem pe_callOI {g : Addr} {e : Expr} {es : List Expr} {t : TA} (hf : PE X fe tf) (c : CallO X.K C g) (F : FnR X.prog X.w X.K X.mg X.base CX k g sp) (hr : Room k X.A) (hx : Passes CX X E) (ha : PA X (e :: es) t)
    (ht : eval (.Call fe (e :: es) [] pos) X.env = (do callWith pos (← eval fe X.env) [] (backTo pos (starEach (e :: es) X.env)) (backToKw pos (keywordEach [] X.env))) := by rfl)
    (he : starEach (e :: es) X.env = (false, eval e X.env) :: starEach es X.env := by rfl) (hpl : (backTo pos (starEach es X.env)).any (·.1) = false := by rfl) : PE X (.Call fe (e :: es) [] pos) (tCallOI C sp E tf t) := by
  constructor
  intro pins s σ H Q I h
  rw [ht]
  refine wpAny_bind (thn (hf.run pins s σ H _ I h) fun u s1 z => ?_)
  obtain ⟨y, H1, I1, ry, a, rfl, q⟩ := z
  obtain rfl : u = Value.ref a := ry
  refine callO_with (thn (ha.run pos pins s1 σ H1 _ I1 q) fun us s2 z => ?_) he hpl
  obtain ⟨vs, H2, I2, r, ⟨dx, fs, hi⟩, q2⟩ := z
  have hc : InsC X H2 a C := .inr ⟨dx, fs, hi⟩
  obtain ⟨ox, od, J, hd⟩ := insC_at I2 hc
  exact ⟨⟨C, ox, od, J, hd⟩, run_callO c F hr hx I2 hc r q2⟩
end
end Ow
end
section
set_option maxHeartbeats 4000000
/-! Own errors as values: made, by place or by keywords, their fields read, their classes asked. -/
namespace PySem
namespace OwX
open Builtin Builtin.ObjectAttr HandSPX
section
variable {M : Model} {A : Around} {E : Value → Shared → Prop} {h : Heap} {g : Array GenState} {d : Drawn} {t : Nat} {os : OsState}
variable {nm q : Str} {C N : Addr} {bs bm bmB : List Value} {hdct : Bool} {sn : List Str} {sub : List Value} {ab : Bool} {col : Option Bool} {dd : Option Addr} {k0 k1 k2 k3 k5 : Option Value} {B newId initId : String}
theorem check_new_kw (F : ExcBaseFacts B newId initId bmB) (hT : ∀ X : String, bm.contains (.type X) = bmB.contains (.type X)) {rest : List Value} {kw : List (Str × Value)} {Q : Unit → Shared → Prop}
    (hC : h.get? C = some (excClassObj nm q C N bs bm hdct sn sub ab col dd k0 k1 k2 k3 k5 newId)) (hq : Q () ⟨h, g, d, t, os⟩) : wpAny M A (checkBuiltinCall newId ⟨.ref C :: rest, kw⟩) Q E ⟨h, g, d, t, os⟩ := by
  have hcont : (Value.ref C :: bm).contains (.type B) = true := by rw [List.contains_cons, hT, F.hasB, Bool.or_true]
  have hstar := F.noStar
  simp only [checkBuiltinCall, F.newKind, F.newSplit, F.newRow]
  repeat (first | refine wpAny_loadPart_at hC ?_ | (refine wpAny_isSubtype_exc hC ?_; rw [hcont]) | refine wpAny_staticBase_exc hC ?_ | refine wpAny_madeBy_exc hC ?_ | simp only [bne_self_eq_false, Bool.false_eq_true, if_false] | wp_step)
  exact hq
end
section
variable {prog : Program} {w : World} {A : Around} {E : Value → Shared → Prop} {R : Result → Shared → Prop} {h : Heap} {g : Array GenState} {d : Drawn} {t : Nat} {os : OsState}
variable {nm q : Str} {C N : Addr} {bs bm bmB : List Value} {hdct : Bool} {sn : List Str} {sub : List Value} {ab : Bool} {col : Option Bool} {dd : Option Addr} {k0 k1 k2 k3 k5 : Option Value} {B newId initId : String}
theorem new_kw (F : ExcBaseFacts B newId initId bmB) (hT : ∀ X : String, bm.contains (.type X) = bmB.contains (.type X)) {rest : List Value} {kw : List (Str × Value)}
    (hC : h.get? C = some (excClassObj nm q C N bs bm hdct sn sub ab col dd k0 k1 k2 k3 k5 newId))
    (hq : R (.ok (.ret (.ref (h.objs.size + 1)))) ⟨(h.push { cls := .type "tuple", data := .seq rest.toArray }).push
      { cls := .ref C, data := .fields #[.ref h.objs.size, .none, .none, .none, .bool false, .none] }, g, d, t, os⟩) (hrest : rest.length ≤ sizeLine) :
    codeAny (model prog w) A (.builtin newId ⟨.ref C :: rest, kw⟩) R ⟨h, g, d, t, os⟩ := by
  have hends := F.ends
  have hcB : (Value.ref C :: bm).contains (.type B) = true := by rw [List.contains_cons, hT, F.hasB, Bool.or_true]
  have hcA : (Value.ref C :: bm).contains (.type "AttributeError") = false := by rw [List.contains_cons, hT, F.noAttr]; rfl
  have hcN : (Value.ref C :: bm).contains (.type "NameError") = false := by rw [List.contains_cons, hT, F.noName]; rfl
  refine codeAny_builtinAt F.entry ?_
  unfold Builtin.«BaseException.__new__»
  refine wpAt_bind ?_
  show wpAt _ _ _ (stack >>= _) _ _ _
  refine wpAt_bind (wpAt_stack fun p below => wpAt_of_wpAny ?_)
  wp_walk
  refine wpAt_of_wpAny ?_
  rw [F.owner]
  repeat (first | with_reducible refine wpAny_madeHere_exc F.canon hC ?_ | with_reducible refine wpAny_loadPart_at hC ?_ | (with_reducible refine wpAny_isSubtype_exc hC ?_; first | rw [hcB] | rw [hcA] | rw [hcN]) | wp_step)
  show R _ _
  rw [Heap.size_push]
  exact hq
theorem type_call_kw (F : ExcBaseFacts B newId initId bmB) (hT : ∀ X : String, bm.contains (.type X) = bmB.contains (.type X)) {rest : List Value} {kw : List (Str × Value)} {fI : Addr} {Q : Fin → Shared → Prop}
    (hC : h.get? C = some (excClassObj nm q C N bs bm hdct sn sub ab col dd k0 k1 k2 k3 k5 newId))
    (hi : W.Looks (model prog w) h (typeLookup (.ref C) "__init__") (some (.ref fI))) (hb : ∀ self, W.Looks (model prog w) h (bindSpecial (.ref fI) self) (.ref fI, [self])) (hrest : rest.length ≤ sizeLine)
    (hq : codeAny (model prog w) A (.call (.ref fI) ⟨.ref (h.objs.size + 1) :: rest, kw⟩)
      (fun r s' => match r with | .ok (.ret v) => v = .none ∧ Q (.done (.ret (.ref (h.objs.size + 1)))) s' | .ok _ => False | .error e => E e s')
      ⟨(h.push (W.kdv_tup rest)).push (excO C h.objs.size), g, d, t, os⟩) :
    wpAny (model prog w) A (Builtin.«type.__call__» ⟨.ref C :: rest, kw⟩) Q E ⟨h, g, d, t, os⟩ := by
  repeat (first | with_reducible refine wpAny_loadPart_at hC ?_ | with_reducible refine wpAny_madeBy_exc hC ?_ | wp_step)
  refine codeAny_call_builtin_code (Code.quiet_builtin _ F.quiet) (check_new_kw F hT hC ?_)
  refine new_kw F hT hC ?_ hrest
  show wpAny _ _ _ _ _ _
  have k : ∀ b o, h.get? b = some o → ((h.push (W.kdv_tup rest)).push (excO C h.objs.size)).get? b = some o := fun b o e => Heap.get?_push_of_some _ (Heap.get?_push_of_some _ e)
  have hC₁ := k _ _ hC
  have hget : ((h.push (W.kdv_tup rest)).push (excO C h.objs.size)).get? (h.objs.size + 1) = some (excO C h.objs.size) := by heap_get
  have hcC : (Value.ref C :: bm).contains (.ref C) = true := by simp
  have i1 := hi.keeps k
  have b1 := (hb (.ref (h.objs.size + 1))).keeps k
  unfold isInstance
  repeat (first | with_reducible refine wpAny_loadPart_at hget ?_ | (with_reducible refine wpAny_isSubtype_exc hC₁ ?_; rw [hcC]) | wp_step)
  show wpAny _ _ (typeLookup (.ref C) _) _ _ _
  refine i1.at ?_
  refine wpAny_holding (wpAny_bind (b1.at ?_))
  refine wpAny_bind (wpAny_call (codeAny_mono hq fun r s' z => ?_))
  rcases r with e | (v | _ | _ | _) <;> first | exact z | exact z.elim | skip
  obtain ⟨rfl, z⟩ := z
  first
    | exact wpAny_pure (wpAny_pure z)
    | (wp_walk; exact z)
theorem call_kw (F : ExcBaseFacts B newId initId bmB) (hT : ∀ X : String, bm.contains (.type X) = bmB.contains (.type X)) {rest : List Value} {kw : List (Str × Value)} {fI : Addr}
    (hC : h.get? C = some (excClassObj nm q C N bs bm hdct sn sub ab col dd k0 k1 k2 k3 k5 newId))
    (hi : W.Looks (model prog w) h (typeLookup (.ref C) "__init__") (some (.ref fI))) (hb : ∀ self, W.Looks (model prog w) h (bindSpecial (.ref fI) self) (.ref fI, [self])) (hrest : rest.length ≤ sizeLine)
    (hq : codeAny (model prog w) (A.under (.builtin "type.__call__" ⟨.ref C :: rest, kw⟩)) (.call (.ref fI) ⟨.ref (h.objs.size + 1) :: rest, kw⟩) (W.InitBack (h.objs.size + 1) R)
      ⟨(h.push (W.kdv_tup rest)).push (excO C h.objs.size), g, d, t, os⟩) :
    codeAny (model prog w) A (.call (.ref C) ⟨rest, kw⟩) R ⟨h, g, d, t, os⟩ := by
  have f1 := tc_lookup
  have f2 := tc_bind (.ref C)
  have hTy : (⟨h, g, d, t, os⟩ : Shared).TypeIs (.ref C) "type" := ⟨_, hC, rfl⟩
  refine codeAny_of_tree ?_
  show wpAny _ _ (callAny (.ref C) _) _ _ _
  repeat (any_goals (first | assumption | with_reducible refine wpAny_loadPart_at hC ?_ | wp_step))
  refine ⟨rfl, ?_⟩
  refine codeAny_call_builtin_at (Code.quiet_builtin _ (by decide +kernel)) entry_typeCall (wpAny_check_type_call_sub hC (type_call_kw F hT hC hi hb hrest ?_))
  refine codeAny_mono hq fun r s' z => ?_
  rcases r with e | (v | _ | _ | _) <;> exact z
end
end OwX
end PySem
namespace Ow
open PySem PySem.Spec PyProof.Rows L2 StX
section
variable {X : Cx} {CX : CXT} {x : Str} {C fI : Addr} {k n : Nat} {fd : FuncData} {ps ks : List Str} {sp : Sp} {ds : List Value} {dvs : List V} {E : XK} {p pos : Pos} {e : Expr} {es : List Expr} {kws : List Keyword} {ta tk : TA} {g : List Value → List Value → List Value} {gV : List V → List V → List V}
/-- C(e, ..): a new error, then its __init__; the error is the value -/
def tOex (C : Addr) (sp : Sp) (ta : TA) : TE := fun σ H Q => ta σ H fun vs H1 => vs.length ≤ 1000 ∧ ∀ a, H1 a = none → sp (.ref a :: vs) (upd H1 a (exo a C none)) (fun u H2 => u = .non ∧ Q (.ref a) H2) (fun _ _ _ => False)
theorem pe_oex (T : OexC X.K C) (iC : PySem.W.findIn X.K (.ref C) "__init__" = some (some (.ref fI))) (tI : PySem.W.typeIn X.K (.ref fI) = some (.type "function"))
    (F1 : FnR X.prog X.w X.K X.mg X.base CX (k + 1) fI sp) (hr : Room (k + 2) X.A) (hx : Passes CX X (fun _ _ _ => False)) (hg : Gl X x) (hm : X.mg x = some (.ref C)) (ha : PA X (e :: es) ta)
    (hdb : (x == ("__debug__" : Str)) = false := by decide) (he : starEach (e :: es) X.env = (false, eval e X.env) :: starEach es X.env := by rfl) (hpl : (backTo pos (starEach es X.env)).any (·.1) = false := by rfl) :
    PE X (.Call (.Name x p) (e :: es) [] pos) (tOex C sp ta) := by
  refine ⟨fun pins s σ H Q I h => ?_⟩
  obtain ⟨nm, q, N, bs, bm, sn, sub, ab, col, dd, k0, k1, k2, k3, k5, hC, hbm⟩ := T.cls
  refine wpAny_Call_Name_kw (ld_glob I hg hm ?_ hdb)
  refine PySem.W.callWith_K (h₀ := X.base) I.ok.mod.kin T.kC (thn (ha.run pos pins s σ H _ I h) fun us s1 ⟨vs, H1, I1, r1, hz, q1⟩ => ⟨I1.kIn, ?_⟩) he hpl
  show wpAny _ _ (call (.ref C) us) _ _ _
  obtain ⟨hp, g, dr, tk, os⟩ := s1
  have hsz : hp.objs.size ≤ hp.objs.size + 1 := Nat.le_succ _
  have hn : H1 (hp.objs.size + 1) = none := I1.hok.fresh hsz
  have hq := q1 (hp.objs.size + 1) hn
  have kk : ∀ b o, hp.get? b = some o → ((hp.push (PySem.W.kdv_tup us)).push (PySem.HandSPX.excO C hp.objs.size)).get? b = some o := fun b o e => Heap.get?_push_of_some _ (Heap.get?_push_of_some _ e)
  have hget : ((hp.push (PySem.W.kdv_tup us)).push (PySem.HandSPX.excO C hp.objs.size)).get? (hp.objs.size + 1) = some (PySem.HandSPX.excO C hp.objs.size) := by heap_get
  have I2 : Inv X pins σ (upd H1 (hp.objs.size + 1) (exo (hp.objs.size + 1) C none)) ⟨(hp.push (PySem.W.kdv_tup us)).push (PySem.HandSPX.excO C hp.objs.size), g, dr, tk, os⟩ :=
    I1.laid (t' := tk) (a := hp.objs.size + 1) (o := exo (hp.objs.size + 1) C none) (h' := (hp.push (PySem.W.kdv_tup us)).push (PySem.HandSPX.excO C hp.objs.size)) kk hsz (exo_ok hget)
  have r2 : Vals (V.ref (hp.objs.size + 1) :: vs) (Value.ref (hp.objs.size + 1) :: us) := .cons rfl r1
  have hus : us.length ≤ sizeLine := by
    rw [← Paired.length r1, sizeLine_eq]
    omega
  refine wpAny_call (PySem.HandSPX.call_own F.excBase_ValueError (fun Y => PySem.HandSPX.refsVE_contains Y bm hbm) (I1.kIn _ _ hC) (PySem.W.looks_findIn I1.kIn iC) (fun self => PySem.W.bind_fn I1.kIn self tI) hus
    (codeAny_mono (F1 _ X.stack _ _ (Value.ref (hp.objs.size + 1) :: us) _ _ (fun _ _ _ => False) (hr.make C us []) (I2.env0.make C us []) r2 hq) fun r s' hq' => ?_))
  cases r with
  | error er => exact hx pins σ _ _ er s' I2 hq'
  | ok fl =>
    cases fl with
    | ret u =>
      obtain ⟨v, H', I3, rv, ev, q3⟩ := I2.after hq'
      subst ev
      exact ⟨rv, V.ref (hp.objs.size + 1), H', I3, rfl, q3⟩
    | next => exact False.elim hq'
    | brk => exact False.elim hq'
    | cont => exact False.elim hq'
/-- C(k=e, ..): by keywords alone -/
def tOexK (C : Addr) (m : Nat) (gV : List V → List V → List V) (sp : Sp) (tk : TA) : TE := fun σ H Q => tk σ H fun zs H1 => zs.length = m ∧ ∀ a, H1 a = none → sp (gV [.ref a] zs) (upd H1 a (exo a C none)) (fun u H2 => u = .non ∧ Q (.ref a) H2) (fun _ _ _ => False)
theorem pe_oexK (T : OexC X.K C) (iC : PySem.W.findIn X.K (.ref C) "__init__" = some (some (.ref fI))) (tI : PySem.W.typeIn X.K (.ref fI) = some (.type "function"))
    (F1 : FnOk X.prog X.w X.K X.mg X.base CX k fI fd ps sp) (hr : Room (k + 1) X.A) (hb : KBn X.K fd ps 1 ks g gV) (hx : Passes CX X (fun _ _ _ => False)) (hg : Gl X x) (hm : X.mg x = some (.ref C)) (hkw : PK X kws tk)
    (hall : (backToKw pos (keywordEach kws X.env)).all (·.1.isSome) = true := by rfl) (hks : (backToKw pos (keywordEach kws X.env)).filterMap (·.1) = ks := by rfl) (hdb : (x == ("__debug__" : Str)) = false := by decide)
    (hpl : ((backTo pos (starEach [] X.env)).any (·.1) || (backToKw pos (keywordEach kws X.env)).any (·.1.isNone)) = false := by rfl) :
    PE X (.Call (.Name x p) [] kws pos) (tOexK C ks.length gV sp tk) := by
  refine ⟨fun pins s σ H Q I h => ?_⟩
  obtain ⟨nm, q, N, bs, bm, sn, sub, ab, col, dd, k0, k1, k2, k3, k5, hC, hbm⟩ := T.cls
  refine wpAny_Call_Name_kw (ld_glob I hg hm ?_ hdb)
  refine PySem.W.callWith_KW0 (h₀ := X.base) I.ok.mod.kin T.kC hall (thn (hkw.run pos pins s σ H _ I h) fun ws s1 ⟨zs, H1, I1, rz, l2, q1⟩ => ⟨I1.kIn, ?_⟩) hpl
  rw [hks]
  show wpAny _ _ (call (.ref C) [] (ks.zip ws)) _ _ _
  obtain ⟨hp, g0, dr, tk, os⟩ := s1
  have hsz : hp.objs.size ≤ hp.objs.size + 1 := Nat.le_succ _
  have hn : H1 (hp.objs.size + 1) = none := I1.hok.fresh hsz
  have hq := q1 (hp.objs.size + 1) hn
  have kk : ∀ b o, hp.get? b = some o → ((hp.push (PySem.W.kdv_tup [])).push (PySem.HandSPX.excO C hp.objs.size)).get? b = some o := fun b o e => Heap.get?_push_of_some _ (Heap.get?_push_of_some _ e)
  have hget : ((hp.push (PySem.W.kdv_tup [])).push (PySem.HandSPX.excO C hp.objs.size)).get? (hp.objs.size + 1) = some (PySem.HandSPX.excO C hp.objs.size) := by heap_get
  have I2 : Inv X pins σ (upd H1 (hp.objs.size + 1) (exo (hp.objs.size + 1) C none)) ⟨(hp.push (PySem.W.kdv_tup [])).push (PySem.HandSPX.excO C hp.objs.size), g0, dr, tk, os⟩ :=
    I1.laid (t' := tk) (a := hp.objs.size + 1) (o := exo (hp.objs.size + 1) C none) (h' := (hp.push (PySem.W.kdv_tup [])).push (PySem.HandSPX.excO C hp.objs.size)) kk hsz (exo_ok hget)
  have r1 : Vals [V.ref (hp.objs.size + 1)] [Value.ref (hp.objs.size + 1)] := .cons rfl .nil
  refine wpAny_call (PySem.OwX.call_kw F.excBase_ValueError (fun Y => PySem.HandSPX.refsVE_contains Y bm hbm) (I1.kIn _ _ hC) (PySem.W.looks_findIn I1.kIn iC) (fun self => PySem.W.bind_fn I1.kIn self tI) (Nat.zero_le _)
    (codeAny_mono (F1.run _ X.stack _ _ ⟨[Value.ref (hp.objs.size + 1)], ks.zip ws⟩ (g [Value.ref (hp.objs.size + 1)] ws) _ _ (fun _ _ _ => False) (hr.make C [] (ks.zip ws)) (I2.env0.make C [] (ks.zip ws)) (hb.to _ [Value.ref (hp.objs.size + 1)] ws I2.kIn rfl (rz.length.symm.trans l2)) (hb.rel r1 rz) hq) fun r s' hq' => ?_))
  cases r with
  | error er => exact hx pins σ _ _ er s' I2 hq'
  | ok fl =>
    cases fl with
    | ret u =>
      obtain ⟨v, H', I3, rv, ev, q3⟩ := I2.after hq'
      subst ev
      exact ⟨rv, V.ref (hp.objs.size + 1), H', I3, rfl, q3⟩
    | next => exact False.elim hq'
    | brk => exact False.elim hq'
    | cont => exact False.elim hq'
/-- o.f, o an own error that keeps fields -/
def tXfV (K : PySem.W.Frag) (n : Str) (te : TE) : TE := fun σ H Q => te σ H fun y H1 => ∃ (a C dd : Addr) (fs : List (Str × V)) (v : V), y = .ref a ∧ XfC K C ∧ PySem.W.findIn K (.ref C) n = some none ∧ H1 a = some (exo a C (some dd)) ∧ H1 dd = some (exd dd fs) ∧ fs.lookup n = some v ∧ Q v H1
theorem pe_xfV {te : TE} {n : Str} (he : PE X e te) (hb : attributeBase e n X.env (eval e X.env) = eval e X.env := by rfl) : PE X (.Attribute e n pos) (tXfV X.K n te) := by
  refine ⟨fun pins s σ H Q I h => ?_⟩
  refine attr_of hb (thn (he.run pins s σ H _ I h) fun u s1 hh => ?_)
  obtain ⟨y, H1, I1, ry, a, C, dd, fs, v, ey, T, hno, ea, ed, l, q⟩ := hh
  subst ey
  obtain rfl : u = Value.ref a := ry
  obtain ⟨t1, ha⟩ := exo_at I1.hok ea
  obtain ⟨mA, hns, hr⟩ := exd_at I1.hok ed
  obtain ⟨od, ho, hl⟩ := lookIn_ns hns
  obtain ⟨u, hu, ru⟩ := RelO.some_of (v := v) (o := mA n) (by rw [← l]; exact hr n)
  have J : PySem.W.InstAt s1.heap a _ C (some od) := ⟨ha, rfl, rfl, ho⟩
  exact HandSPX.exc_get I1.kIn J T.ga T.gg T.exC (PySem.W.findObj_own T.hdC hno rfl (by rw [hl, hu])) (handed_of ru) ⟨v, H1, I1.tok _, ru, q⟩
/-- isinstance(o, T), o an own error with or without fields -/
def rIsXV (K : PySem.W.Frag) : List V → Hp → VK → Prop := fun xs H Q => ∃ (a C : Addr) (d : Option Addr) (c : V) (cv : Value) (b : Bool), xs = [.ref a, c] ∧ H a = some (exo a C d) ∧ (∀ dd, d = some dd → ∃ fs, H dd = some (exd dd fs)) ∧ ExcC K C ∧ (PySem.W.clsIn K C).isSome = true ∧ (∀ u, RelV c u → u = cv) ∧ PySem.W.kitOne K (.ref C) cv = some b ∧ Q (.bl b) H
theorem call_isXV : CallR X (.builtin "isinstance") (rIsXV X.K) := by
  intro pins s σ H xs us Q I r h
  obtain ⟨a, C, d, c, cv, b, rfl, ea, ed, T, hci, hcv, hk, q⟩ := h
  cases r with
  | cons rx r2 =>
    cases r2 with
    | cons rc r3 =>
      cases r3
      cases rx
      cases hcv _ rc
      obtain ⟨t1, ha⟩ := exo_at I.hok ea
      have J : ∃ od, PySem.W.InstAt s.heap a ({ cls := .ref C, dict := d, data := .fields #[.ref t1, .none, .none, .none, .bool false, .none] } : Obj) C od := by
        cases d with
        | none => exact ⟨none, ha, rfl, rfl, True.intro⟩
        | some dd =>
          obtain ⟨fs, hd⟩ := ed dd rfl
          obtain ⟨mA, hns, hr⟩ := exd_at I.hok hd
          obtain ⟨od, ho, hl⟩ := lookIn_ns hns
          exact ⟨some od, ha, rfl, rfl, ho⟩
      obtain ⟨od, J⟩ := J
      refine PySem.W.kia_one (PySem.W.kitx_exc (x := a) (od := od) hci T.hg T.hk T.hs T.ha T.hn T.ht T.hm) I.kIn J hk (fun z => by cases z) fun tk => ?_
      exact ⟨.bl b, H, I.kept fun _ _ e => e, rfl, q⟩
end
end Ow
end
section
set_option maxHeartbeats 4000000
/-! repr of data with dicts, where the table of modules is known to stand. -/
namespace Ow
open PySem PySem.Spec PyProof.Rows L2 StX
def keyD : Key → PyData
  | .inl i => .int i
  | .inr x => .str x
mutual
inductive Dq (K : PySem.W.Frag) (H : Hp) : V → PyData → Prop
  | non : Dq K H .non .none
  | bl (b : Bool) : Dq K H (.bl b) (.bool b)
  | int (i : Int) : Dq K H (.int i) (.int i)
  | str (x : Str) : Dq K H (.str x) (.str x)
  | lst {a : Addr} {xs : List V} {ds : List PyData} : SqL K H a xs → DqAll K H xs ds → Dq K H (.ref a) (.list ds)
  | tup {a : Addr} {xs : List V} {ds : List PyData} : SqT K H a xs → DqAll K H xs ds → Dq K H (.ref a) (.tuple ds)
  | dic {a : Addr} {kvs : List (Key × V)} {ds : List (PyData × PyData)} : H a = some (.dK kvs) → DqPs K H kvs ds → Dq K H (.ref a) (.dict ds)
inductive DqAll (K : PySem.W.Frag) (H : Hp) : List V → List PyData → Prop
  | nil : DqAll K H [] []
  | cons {v : V} {vs : List V} {d : PyData} {ds : List PyData} : Dq K H v d → DqAll K H vs ds → DqAll K H (v :: vs) (d :: ds)
inductive DqPs (K : PySem.W.Frag) (H : Hp) : List (Key × V) → List (PyData × PyData) → Prop
  | nil : DqPs K H [] []
  | cons {k : Key} {v : V} {vs : List (Key × V)} {d : PyData} {ds : List (PyData × PyData)} : Dq K H v d → DqPs K H vs ds → DqPs K H ((k, v) :: vs) ((keyD k, d) :: ds)
end
/-- the table of modules stands in the base -/
def SysB (base : Heap) : Prop := ∃ m, base.Ns sysModules m
section
variable {X : Cx} {pins : List (Addr × Obj)} {σ : L2.St} {H : Hp} {s : Shared}
theorem SysB.lst {a : Addr} {its : Array Value} {n : Nat} {o : Obj} (S : SysB X.base) (I : Inv X pins σ H s) (h : s.heap.get? a = some o) (hd : o.data = .seq its n) : sysModules ≠ a := fun e => by
  obtain ⟨m, ob, es, ep, e1, e2, _⟩ := S
  have z := (I.env0.bs _ _ e1).1
  rw [e, h] at z
  cases z
  rw [hd] at e2
  cases e2
theorem key_reads {h : Heap} {k : Key} {v : Value} (e : keyIs k v = true) : Reads h v (keyD k) [] := by
  rcases keyIs_shape e with ⟨i, t, rfl, rfl⟩ | ⟨x, t, rfl, rfl⟩
  · exact Reads.int i t
  · exact Reads.str x t
mutual
theorem Dq.reads (I : Inv X pins σ H s) : ∀ (d : PyData) (v : V) (u : Value), Dq X.K H v d → RelV v u → ∃ as, Reads s.heap u d as ∧ (SysB X.base → sysModules ∉ as)
  | .none, _, _, h, r => by
    cases h
    cases r
    exact ⟨_, Reads.none, fun _ => List.not_mem_nil⟩
  | .bool b, _, _, h, r => by
    cases h
    cases r
    exact ⟨_, Reads.bool b, fun _ => List.not_mem_nil⟩
  | .int i, _, _, h, r => by
    cases h
    obtain ⟨t, rfl⟩ := r
    exact ⟨_, Reads.int i t, fun _ => List.not_mem_nil⟩
  | .str x, _, _, h, r => by
    cases h
    obtain ⟨t, rfl⟩ := r
    exact ⟨_, Reads.str x t, fun _ => List.not_mem_nil⟩
  | .list ds, _, _, h, r => by
    cases h with
    | lst hs ha =>
      cases r
      obtain ⟨its, rv, ⟨o, n, ho, hc, _, hd⟩, _⟩ := I.list hs
      obtain ⟨as, hr, hq⟩ := Dq.readsAll I ds _ its ha rv
      exact ⟨_, Reads.list ho hc hd hr, fun S z => by
        rcases List.mem_cons.mp z with e | e
        · exact S.lst I ho hd e
        · exact hq S e⟩
  | .tuple ds, _, _, h, r => by
    cases h with
    | tup hs ha =>
      cases r
      obtain ⟨its, rv, ⟨o, ho, hc, n, hd⟩, _⟩ := I.tuple hs
      obtain ⟨as, hr, hq⟩ := Dq.readsAll I ds _ its ha rv
      exact ⟨_, Reads.tuple ho hc hd hr, hq⟩
  | .dict ds, _, _, h, r => by
    cases h with
    | dic hs ha =>
      cases r
      obtain ⟨hlen, ns, vs, rv, o, es, ep, ho, hc, hd, _, hp, _⟩ := I.hok _ _ hs
      obtain ⟨as, bs, h1, h2, h3⟩ := Dq.readsPs I ds _ vs es.toList ha rv hp
      refine ⟨_, Reads.dict ho hc.1 hd h1 h2, fun S z => ?_⟩
      rcases List.mem_append.mp z with e | e
      · rcases List.mem_cons.mp e with e | e
        · rw [← e] at ns
          exact absurd ns (by decide)
        · exact (h3 S).1 e
      · exact (h3 S).2 e
theorem Dq.readsAll (I : Inv X pins σ H s) : ∀ (ds : List PyData) (vs : List V) (us : List Value), DqAll X.K H vs ds → Vals vs us → ∃ as, ReadsAll s.heap us ds as ∧ (SysB X.base → sysModules ∉ as)
  | [], _, _, h, r => by
    cases h
    cases r
    exact ⟨_, ReadsAll.nil, fun _ => List.not_mem_nil⟩
  | d :: ds, _, _, h, r => by
    cases h with
    | cons h1 h2 =>
      cases r with
      | cons r1 r2 =>
        obtain ⟨as, q1, s1⟩ := Dq.reads I d _ _ h1 r1
        obtain ⟨bs, q2, s2⟩ := Dq.readsAll I ds _ _ h2 r2
        exact ⟨_, ReadsAll.cons q1 q2, fun S z => (List.mem_append.mp z).elim (s1 S) (s2 S)⟩
theorem Dq.readsPs (I : Inv X pins σ H s) : ∀ (ds : List (PyData × PyData)) (kvs : List (Key × V)) (vs : List (Key × Value)) (es : List DictEntry), DqPs X.K H kvs ds → KV kvs vs → Pairs (mixKind X.prog X.w) es vs →
    ∃ as bs, ReadsAll s.heap (es.map (·.key)) (ds.map (·.1)) as ∧ ReadsAll s.heap (es.map (·.val)) (ds.map (·.2)) bs ∧ (SysB X.base → sysModules ∉ as ∧ sysModules ∉ bs)
  | [], _, _, _, h, r, p => by
    cases h
    cases r
    cases p
    exact ⟨_, _, ReadsAll.nil, ReadsAll.nil, fun _ => ⟨List.not_mem_nil, List.not_mem_nil⟩⟩
  | (kd, d) :: ds, _, _, _, h, r, p => by
    cases h with
    | cons h1 h2 =>
      cases r with
      | cons r1 r2 =>
        cases p with
        | cons p1 p2 p3 =>
          obtain ⟨e1, rv⟩ := r1
          obtain ⟨bs, q2, s2⟩ := Dq.reads I d _ _ h1 rv
          obtain ⟨as', bs', q3, q4, s3⟩ := Dq.readsPs I ds _ _ _ h2 r2 p3
          subst e1
          rw [← p2] at q2
          refine ⟨_, _, ReadsAll.cons (key_reads p1) q3, ReadsAll.cons q2 q4, fun S => ⟨?_, fun z => ?_⟩⟩
          · exact (s3 S).1
          · exact (List.mem_append.mp z).elim (s2 S) (s3 S).2
end
end
section
variable {X : Cx} {CX : CXT} {n : Nat} {sp : Sp} {E : XK}
/-- repr of data, dicts too: its text -/
def rReprQ (K : PySem.W.Frag) : List V → Hp → VK → Prop := fun xs H Q => ∃ (x : V) (d : PyData), xs = [x] ∧ Dq K H x d ∧ d.showable = true ∧ d.depth ≤ 8 ∧ d.shown.length ≤ sizeLine ∧ Q (.str d.shown) H
theorem call_reprQ (sb : SysB X.base) (gd : X.A.guards = some []) (hu : X.A.units + 64 < cLine) : CallR X (.builtin "repr") (rReprQ X.K) := by
  intro pins s σ H xs us Q I r h
  obtain ⟨x, d, rfl, hd, hs, hdp, hsz, q⟩ := h
  obtain ⟨u, rfl, ru⟩ := vals1 r
  have fin : ∀ (h' : Heap) (tk : Nat) (u : Tok), (∀ b o, s.heap.get? b = some o → h'.get? b = some o) → EP X pins σ Q (.str d.shown u) { s with heap := h', toks := tk } := fun h' tk u k => ⟨.str d.shown, H, I.kept (t' := tk) k, ⟨u, rfl⟩, q⟩
  obtain ⟨as, rd, ns⟩ := Dq.reads I _ _ _ hd ru
  cases hd with
  | non => cases ru; exact PySem.P.repr_of_none (fin s.heap _ _ fun _ _ e => e)
  | bl b => cases ru; exact PySem.P.repr_of_bool (by cases b <;> exact fin s.heap _ _ fun _ _ e => e)
  | int i =>
    obtain ⟨t, rfl⟩ := ru
    have hi : i.natAbs.log2 < 1920 := of_decide_eq_true hs
    exact PySem.P.repr_of_int hi (fin s.heap _ _ fun _ _ e => e)
  | str z => obtain ⟨t, rfl⟩ := ru; exact PySem.P.repr_of_str (fin s.heap _ _ fun _ _ e => e) hsz
  | lst hq ha =>
    cases ru
    exact repr_of_reads' rd hs (fun _ => ns sb) gd (by omega) (fun _ _ e => e) (fun h' u tk k => fin h' tk u k) hsz
  | tup hq ha =>
    cases ru
    exact repr_of_reads' rd hs (fun _ => ns sb) gd (by omega) (fun _ _ e => e) (fun h' u tk k => fin h' tk u k) hsz
  | dic hq ha =>
    cases ru
    exact repr_of_reads' rd hs (fun _ => ns sb) gd (by omega) (fun _ _ e => e) (fun h' u tk k => fin h' tk u k) hsz
end
end Ow
end
section
set_option maxHeartbeats 4000000
namespace Ow
open PySem PySem.Spec PyProof.Rows L2 StX
/-! ### the end of a law whose def wants to know that nothing is being shown -/
section
variable {P : Program} {w : World} {K : PySem.W.Frag} {mg mb : Str → Option Value} {k : Nat} {fa a : Addr} {sp : Sp} {s1 : Shared} {vs : List Value} {ns : List Int}
/-- the call, from one abstract heap that tracks the script alone, or nothing -/
theorem end_fromB (KX : K.In s1.heap) (hns : s1.heap.Ns mainGlobals mg) (hb : s1.heap.Ns builtinsNs mb) (hbb : ∀ x : Str, x ≠ "__name__" → mb x = bootBuiltins x) (hlim : s1.heap.NoLimit) (hsy : SysB s1.heap) (hg : s1.gens = #[]) (hr : Room k callerA)
    (F : ∀ base : Heap, K.In base → base.Ns mainGlobals mg → SysB base → FnG P w K mg base CX0 k fa sp) {H : Hp} (hO : Only H) (hok : HOk P w H s1.heap) (dom : ∀ b u, H b = some u → K.lookup b = none ∧ ∃ o items n, s1.heap.get? b = some o ∧ o.data = .seq items n)
    (hsp : sp [.ref a] H (fun v _ => v = .bl true) fun _ _ _ => False) :
    codeAny (model P w) callerA (.call (.ref fa) ⟨[.ref a], []⟩) (fun r s' => r = .ok (.ret (.bool true)) ∧ OldK s1.heap s'.heap ∧ s'.os = s1.os ∧ AllBare s'.gens) s1 := by
  let base := hidT s1.heap H
  have dicts : ∀ {b : Addr} {o : Obj} {es : Array DictEntry} {ep : Nat}, s1.heap.get? b = some o → o.data = .dict es ep → base.get? b = some o := fun {b o es ep} e d => by
    refine hidT_get e ?_
    cases q : H b with
    | none => rfl
    | some u =>
      obtain ⟨_, o2, items, n, e2, d2⟩ := dom b u q
      rw [e2] at e
      cases e
      rw [d2] at d
      cases d
  have names : ∀ {b : Addr} {m : Str → Option Value}, s1.heap.Ns b m → base.Ns b m := fun z => by
    obtain ⟨o, es, ep, e, d, r⟩ := z
    exact ⟨o, es, ep, dicts e d, d, r⟩
  have hK : K.In base := fun b o e => by
    refine hidT_get (KX b o e) ?_
    cases q : H b with
    | none => rfl
    | some u =>
      have z := (dom b u q).1
      rw [e] at z
      cases z
  have lim : base.NoLimit := by
    obtain ⟨m, h1, h2⟩ := hlim
    exact ⟨m, names h1, h2⟩
  have e0 : Env0 P w K mg base callerA [] s1 H :=
    { frames := rfl, mod := ⟨hK, names hns, ⟨mb, names hb, hbb⟩, lim⟩, bs := fun b o e => of_hidT e, bsz := Nat.le_of_eq (hidT_size _ _), funs := trivial, frf := fun b hb => (List.not_mem_nil hb).elim, hok := hok, bare := .of_eq hg }
  refine codeAny_mono (F base hK (names hns) (let ⟨m, z⟩ := hsy; ⟨m, names z⟩) callerA [] s1 H [.ref a] [.ref a] _ _ hr rfl e0 (.cons rfl .nil) hsp) fun r s' h => ?_
  cases r with
  | error e => exact False.elim h
  | ok fl =>
    cases fl with
    | ret u =>
      obtain ⟨v, H2, os, bare, un, ok2, rv, q⟩ := h
      subst q
      cases rv
      refine ⟨rfl, OldK.of_keep fun b o e => ?_, os, bare⟩
      cases q : H b with
      | none => exact un.keep b o e q (fun z => List.not_mem_nil z) (fun z => List.not_mem_nil z)
      | some u =>
        rcases hO b with z | ⟨ob, xs, z⟩
        · rw [q] at z
          cases z
        · have e1 := (hok b _ z).1
          have e2 := (ok2 b _ (un.frzs b ob _ z)).1
          rw [e] at e1
          cases e1
          exact e2
    | next => exact False.elim h
    | brk => exact False.elim h
    | cont => exact False.elim h
theorem end_callGB (KX : K.In s1.heap) (hns : s1.heap.Ns mainGlobals mg) (hb : s1.heap.Ns builtinsNs mb) (hbb : ∀ x : Str, x ≠ "__name__" → mb x = bootBuiltins x) (hlim : s1.heap.NoLimit) (hsy : SysB s1.heap) (hg : s1.gens = #[]) (hr : Room k callerA)
    (ha : s1.heap.get? a = some { cls := .type "list", data := .seq vs.toArray }) (hi : IntsAre vs ns) (hl : ns.length ≤ sizeLine) (F : ∀ base : Heap, K.In base → base.Ns mainGlobals mg → SysB base → FnG P w K mg base CX0 k fa sp)
    (hsp : ∀ H : Hp, Only H → SqL K H a (ns.map V.int) → sp [.ref a] H (fun v _ => v = .bl true) fun _ _ _ => False) :
    codeAny (model P w) callerA (.call (.ref fa) ⟨[.ref a], []⟩) (fun r s' => r = .ok (.ret (.bool true)) ∧ OldK s1.heap s'.heap ∧ s'.os = s1.os ∧ AllBare s'.gens) s1 := by
  have rv := vals_ints hi
  have hl2 : (ns.map V.int).length ≤ sizeLine := by rw [List.length_map]; exact hl
  cases hk : K.lookup a with
  | some o =>
    have e := KX a o hk
    rw [ha] at e
    cases e
    refine end_fromB KX hns hb hbb hlim hsy hg hr F (H := fun _ => none) (fun _ => .inl rfl) (fun b u z => by cases z) (fun b u z => by cases z) (hsp _ (fun _ => .inl rfl) ?_)
    exact .inr ⟨_, vs.toArray, _, hk, rfl, rfl, rfl, by rw [List.size_toArray, hi.length]; exact hl, by simpa using rv⟩
  | none =>
    let o : Obj := { cls := .type "list", data := .seq vs.toArray }
    let H : Hp := fun b => if b = a then some (.frz o (.lst (ns.map V.int))) else none
    have H1 : H a = some (.frz o (.lst (ns.map V.int))) := if_pos rfl
    have H0 : ∀ b u, H b = some u → b = a ∧ u = .frz o (.lst (ns.map V.int)) := fun b u z => by
      by_cases e : b = a
      · subst e
        rw [H1] at z
        cases z
        exact ⟨rfl, rfl⟩
      · have z0 : H b = none := if_neg e
        rw [z0] at z
        cases z
    have hO : Only H := fun b => by
      by_cases e : b = a
      · subst e; exact .inr ⟨_, _, H1⟩
      · exact .inl (if_neg e)
    refine end_fromB KX hns hb hbb hlim hsy hg hr F (H := H) hO (fun b u z => ?_) (fun b u z => ?_) (hsp _ hO (.inl (.inr ⟨_, H1⟩)))
    · obtain ⟨rfl, rfl⟩ := H0 b u z
      exact ⟨ha, hl2, vs, _, rv, ha⟩
    · obtain ⟨rfl, rfl⟩ := H0 b u z
      exact ⟨hk, _, _, _, ha, rfl⟩
end
theorem walk_ofGB {l : PySem.W.OpenLaw} {n k : Nat} {q : Program} {loose : List Str} {XP : (Str → Option Value) → Heap → Prop} {YP : World → Heap → Prop} {d : DefRec} {K : Params → PySem.W.Frag} {sp : World → Sp}
    (hi : importsNone q = true) (hn : l.most = some n) (hn2 : n ≤ sizeLine) (hdf : d.params.defaults = []) (hr : Room k callerA) (hY : ∀ (w : World) (h : Heap), YP w h → (K w.params).In h)
    (F : ∀ (w : World) (mg : Str → Option Value) (fa : Addr) (h : Heap), (K w.params).In h → h.Ns mainGlobals mg → mg d.name = some (.ref fa) →
      ∀ base : Heap, (K w.params).In base → base.Ns mainGlobals mg → SysB base → FnG l.prog w (K w.params) mg base CX0 k fa (sp w))
    (hsp : ∀ (w : World) (H : Hp) (a : Addr) (ns : List Int), ns.length ≤ n → Only H → SqL (K w.params) H a (ns.map V.int) → sp w [.ref a] H (fun v _ => v = .bl true) fun _ _ _ => False) :
    PySem.W.WalkO q loose XP YP l.row.toRowW d [] (fun f vs => PySem.call f vs) := by
  refine Att.attach_call hn hdf fun w s0 s1 mg mb fa o pm cd doc a vs ns G Y ho hd hcd hmg hobj hints hlen hg => ?_
  have KX := hY w _ Y
  exact end_callGB KX G.T.g G.T.b G.T.builtins G.T.nolimit (let ⟨m, z, _⟩ := (G.T.seer hi).mods; ⟨m, z⟩) hg hr hobj hints (Nat.le_trans hlen hn2) (F w mg fa _ KX G.T.g hmg) fun H hO hS => hsp w H a ns hlen hO hS
end Ow
end
section
set_option maxHeartbeats 4000000
/-! Own errors as values: what holds of one, classes told by the order of their bases, readings of the makings. -/
namespace Ow
open PySem PySem.Spec PyProof.Rows L2 StX
/-- the class's order of bases: itself, the package's base, ValueError, .. -/
def mroE (K : PySem.W.Frag) (C B : Addr) : Bool := match PySem.W.clsIn K C with
  | some cd => cd.mro == [.ref C, .ref B, .type "ValueError", .type "Exception", .type "BaseException", .type "object"]
  | none => false
theorem mroE_mk {K : PySem.W.Frag} {C B : Addr} {cd : PySem.ClassData} (h : PySem.W.clsIn K C = some cd) (m : (cd.mro == [.ref C, .ref B, .type "ValueError", .type "Exception", .type "BaseException", .type "object"]) = true) : mroE K C B = true := by
  unfold mroE
  rw [h]
  exact m
theorem mroE_sub {K : PySem.W.Frag} {C B : Addr} (h : mroE K C B = true) (t : Value) : PySem.W.subIn K (.ref C) t = some (([.ref C, .ref B, .type "ValueError", .type "Exception", .type "BaseException", .type "object"] : List Value).contains t) := by
  unfold mroE at h
  show PySem.W.mroIn K C t = _
  unfold PySem.W.mroIn
  cases e : PySem.W.clsIn K C with
  | none => rw [e] at h; cases h
  | some cd =>
    rw [e] at h
    have q := beq_iff_eq.mp h
    show (if cd.mro.isEmpty then none else some (cd.mro.contains t)) = _
    rw [q]
    rfl
theorem mroE_some {K : PySem.W.Frag} {C B : Addr} (h : mroE K C B = true) : (PySem.W.clsIn K C).isSome = true := by
  unfold mroE at h
  cases e : PySem.W.clsIn K C with
  | none => rw [e] at h; cases h
  | some cd => rfl
/-- isinstance of an own error: its class, the base, a class beside it, ValueError -/
theorem kitE {K : PySem.W.Frag} {C B D : Addr} (h : mroE K C B = true) (i : (PySem.W.clsIn K D).isSome = true) (t : PySem.W.typeIn K (.ref D) = Option.some (.type "type")) (ne : D ≠ C) (nb : D ≠ B) : PySem.W.kitOne K (.ref C) (.ref D) = Option.some false := by
  refine kit_err i t ?_ (beq_eq_false_iff_ne.mpr fun z => ne (by cases z; rfl))
  rw [mroE_sub h]
  simp [ne, nb]
theorem kitEB {K : PySem.W.Frag} {C B : Addr} (h : mroE K C B = true) (i : (PySem.W.clsIn K B).isSome = true) (t : PySem.W.typeIn K (.ref B) = Option.some (.type "type")) (ne : C ≠ B) : PySem.W.kitOne K (.ref C) (.ref B) = Option.some true := by
  refine kit_err i t ?_ (beq_eq_false_iff_ne.mpr fun z => ne (by cases z; rfl))
  rw [mroE_sub h]
  simp
theorem kitEV {K : PySem.W.Frag} {C B : Addr} (h : mroE K C B = true) : PySem.W.kitOne K (.ref C) (.type "ValueError") = Option.some true := by
  unfold PySem.W.kitOne
  rw [if_neg (by simp)]
  show PySem.W.subIn K (.ref C) (.type "ValueError") = _
  rw [mroE_sub h]
  simp
/-- an own error with these fields -/
def EO (H : Hp) (e C : Addr) (fs : List (Str × V)) : Prop := ∃ d, H e = some (exo e C (some d)) ∧ H d = some (exd d fs)
theorem EO.same {H H' : Hp} {e C : Addr} {fs : List (Str × V)} (x : EO H e C fs) (s : ∀ b o, H b = some o → H' b = some o) : EO H' e C fs := by
  obtain ⟨d, h1, h2⟩ := x
  exact ⟨d, s _ _ h1, s _ _ h2⟩
theorem made_keeps {H : Hp} {e d : Addr} {C : Addr} {fs : List (Str × V)} (ha : H e = none) (hd : H d = none) (ne : d ≠ e) :
    (∀ b o, H b = some o → upd (upd (upd H e (exo e C none)) d (exd d fs)) e (exo e C (some d)) b = some o) ∧ EO (upd (upd (upd H e (exo e C none)) d (exd d fs)) e (exo e C (some d))) e C fs := by
  refine ⟨fun b o q => ?_, d, upd_same, by rw [upd_ne ne]; exact upd_same⟩
  have n1 : b ≠ e := ne_of_none q ha
  have n2 : b ≠ d := ne_of_none q hd
  rw [upd_ne n1, upd_ne n2, upd_ne n1]
  exact q
section
variable {H : Hp} {C : Addr} {n m : Str} {v u : V} {Q : VK}
theorem oex1 (k : ∀ (e : Addr) (H' : Hp), (∀ b o, H b = some o → H' b = some o) → EO H' e C [(n, v)] → Q (.ref e) H') :
    [v].length ≤ 1000 ∧ ∀ a, H a = none → spErr1 C n (.ref a :: [v]) (upd H a (exo a C none)) (fun z H2 => z = .non ∧ Q (.ref a) H2) (fun _ _ _ => False) := by
  refine ⟨Nat.le_of_ble_eq_true rfl, fun a ha => ⟨a, v, rfl, upd_same, fun d hd ne => ⟨rfl, ?_⟩⟩⟩
  rw [upd_ne ne] at hd
  exact k a _ (made_keeps ha hd ne).1 (made_keeps ha hd ne).2
theorem oex2 (k : ∀ (e : Addr) (H' : Hp), (∀ b o, H b = some o → H' b = some o) → EO H' e C [(m, u), (n, v)] → Q (.ref e) H') :
    [v, u].length ≤ 1000 ∧ ∀ a, H a = none → spErr2 C n m (.ref a :: [v, u]) (upd H a (exo a C none)) (fun z H2 => z = .non ∧ Q (.ref a) H2) (fun _ _ _ => False) := by
  refine ⟨Nat.le_of_ble_eq_true rfl, fun a ha => ⟨a, v, u, rfl, upd_same, fun d hd ne => ⟨rfl, ?_⟩⟩⟩
  rw [upd_ne ne] at hd
  exact k a _ (made_keeps ha hd ne).1 (made_keeps ha hd ne).2
/-- by keywords, the other way round -/
theorem oexK2 {gV : List V → List V → List V} (hg : ∀ a, gV [V.ref a] [u, v] = [.ref a, v, u]) (k : ∀ (e : Addr) (H' : Hp), (∀ b o, H b = some o → H' b = some o) → EO H' e C [(m, u), (n, v)] → Q (.ref e) H') :
    [u, v].length = 2 ∧ ∀ a, H a = none → spErr2 C n m (gV [.ref a] [u, v]) (upd H a (exo a C none)) (fun z H2 => z = .non ∧ Q (.ref a) H2) (fun _ _ _ => False) := by
  refine ⟨rfl, fun a ha => ?_⟩
  rw [hg]
  exact (oex2 k).2 a ha
end
end Ow
end
section
set_option maxHeartbeats 4000000
/-! An own error without a def of its own, made of nothing, as a value. -/
namespace Ow
open PySem PySem.Spec PyProof.Rows L2 StX
theorem pe_exc0 {X : Cx} {C : Addr} {bmB : List Value} {B newId initId : String} {x : Str} {p pos : Pos} (F : ExcBaseFacts B newId initId bmB) (q : PySem.W.excIn X.K C bmB newId = true) (gC : X.mg x = some (.ref C)) (kC : PySem.W.keepIn X.K (.ref C) = true) (hg : Gl X x)
    (hdb : (x == ("__debug__" : Str)) = false := by decide) : PE X (.Call (.Name x p) [] [] pos) (fun σ H Q => ∀ a, H a = none → Q (.ref a) (upd H a (exo a C none))) := by
  refine ⟨fun pins s σ H Q I h => ?_⟩
  refine wpAny_Call_Name_kw (ld_glob I hg gC ?_ hdb)
  refine PySem.W.callWith_K0 I.kIn kC ?_
  obtain ⟨bm, N, nm, qn, bs, hdct, sn, sub, ab, col, dd, k0, k1, k2, k3, k5, mN, hC, hN, hni, T⟩ := exc_obj I.kIn q
  obtain ⟨hp, g, dr, tk, os⟩ := s
  refine wpAny_call_exc_subT F T hC hN hni (fun h' a hm => ?_) (by show 0 ≤ sizeLine; exact Nat.zero_le _)
  have hn : H a = none := I.hok.gone hm.new
  obtain ⟨t, ht, _, _⟩ := hm.there
  exact ⟨.ref a, upd H a (exo a C none), I.laidN hm.keeps hm.new hn (exo_ok ht), rfl, h a hn⟩
end Ow
end
section
set_option maxHeartbeats 4000000
/-! New objects and comprehensions said once more, so that what is wanted behind them can be read off (the readings unfolded by simp). -/
namespace Ow
open PySem PySem.Spec PyProof.Rows L2 StX
/-- p is a new object o, all else stays -/
structure Fresh (H H' : Hp) (p : Addr) (o : HO) : Prop where
  same : Same H H'
  at_ : H' p = some o
  new : H p = none
theorem Fresh.get {H H' : Hp} {p : Addr} {o : HO} (f : Fresh H H' p o) {b : Addr} {u : HO} (h : H b = some u) : H' b = some u := f.same _ _ h
theorem Fresh.ne {H H' : Hp} {p : Addr} {o : HO} (f : Fresh H H' p o) {b : Addr} {u : HO} (h : H b = some u) : b ≠ p := fun e => by
  rw [e, f.new] at h
  cases h
def kN (o : HO) (Q : VK) : Hp → Prop := fun H => ∀ p, H p = none → Q (.ref p) (upd H p o)
def kNew (f : List V → HO) (Q : VK) : List V → Hp → Prop := fun xs H => xs.length ≤ sizeLine ∧ kN (f xs) Q H
theorem fresh_upd {H : Hp} {p : Addr} {o : HO} (h : H p = none) : Fresh H (upd H p o) p o := ⟨fun b u e => by rw [upd_ne (ne_of_none e h)]; exact e, upd_same, h⟩
theorem kN.mk {o : HO} {Q : VK} {H : Hp} (k : ∀ p H', Fresh H H' p o → Q (.ref p) H') : kN o Q H := fun p h => k p _ (fresh_upd h)
theorem kNew.mk {f : List V → HO} {Q : VK} {xs : List V} {H : Hp} (hs : xs.length ≤ sizeLine) (k : ∀ p H', Fresh H H' p (f xs) → Q (.ref p) H') : kNew f Q xs H := ⟨hs, kN.mk k⟩
theorem tLst_k (t : TA) : tLst t = fun σ H Q => t σ H (kNew .lst Q) := rfl
theorem tTup_k (t : TA) : tTup t = fun σ H Q => t σ H (kNew .tup Q) := rfl
theorem rNewStrs_k (ys : List Str) : rNewStrs ys = fun H Q => kN (.lst (ys.map V.str)) Q H := rfl
theorem rCat_k : rCat = fun x y H Q => ∃ l b xs zs, x = .ref l ∧ y = .ref b ∧ H l = some (.lst xs) ∧ H b = some (.lst zs) ∧ xs.length + zs.length ≤ sizeLine ∧ kN (.lst (xs ++ zs)) Q H := rfl
theorem rRep_k : rRep = fun x y H Q => ∃ l k xs, x = .ref l ∧ y = .int k ∧ H l = some (.lst xs) ∧ -(2 ^ 63) ≤ k ∧ k < 2 ^ 63 ∧ xs.length * k.toNat ≤ sizeLine ∧ kN (.lst (List.replicate k.toNat xs).flatten) Q H := rfl
theorem rSlL_k (K : PySem.W.Frag) : rSlL K = fun x lo hi H Q => ∃ a xs, x = .ref a ∧ SqL K H a xs ∧ kN (.lst (cutV xs lo hi)) Q H := rfl
/-- a list is changed -/
def kPut (l : Addr) (o : HO) (Q : VK) : Hp → Prop := fun H => Q .non (upd H l o)
structure Put (H H' : Hp) (l : Addr) (o : HO) : Prop where
  at_ : H' l = some o
  else_ : ∀ b, b ≠ l → H' b = H b
theorem kPut.mk {l : Addr} {o : HO} {Q : VK} {H : Hp} (k : ∀ H', Put H H' l o → Q .non H') : kPut l o Q H := k _ ⟨upd_same, fun b n => upd_ne n⟩
theorem Put.get {H H' : Hp} {l : Addr} {o : HO} (f : Put H H' l o) {b : Addr} {u : HO} (n : b ≠ l) (h : H b = some u) : H' b = some u := (f.else_ b n).trans h
theorem rAppend_k : rAppend = fun x vs H Q => ∃ l xs y, x = .ref l ∧ vs = [y] ∧ H l = some (.lst xs) ∧ xs.length < sizeLine ∧ kPut l (.lst (xs ++ [y])) Q H := rfl
section
variable {X : Cx}
def rListOf (K : PySem.W.Frag) : List V → Hp → VK → Prop := fun xs H Q => ∃ p ys, xs = [.ref p] ∧ (SqL K H p ys ∨ SqT K H p ys) ∧ kN (.lst ys) Q H
theorem call_listK : CallR X (.type "list") (rListOf X.K) := call_list_of
def rTupOf (K : PySem.W.Frag) : List V → Hp → VK → Prop := fun xs H Q => ∃ p ys, xs = [.ref p] ∧ ((SqL K H p ys ∧ kN (.tup ys) Q H) ∨ (SqT K H p ys ∧ Q (.ref p) H))
theorem call_tupleK : CallR X (.type "tuple") (rTupOf X.K) := call_tuple_of
def rLenSeq (K : PySem.W.Frag) : List V → Hp → VK → Prop := fun xs H Q => ∃ p ys, xs = [.ref p] ∧ (SqL K H p ys ∨ SqT K H p ys) ∧ Q (.int ys.length) H
theorem call_lenK : CallR X (.builtin "len") (rLenSeq X.K) := call_len_seq
end
/-! ### comprehensions whose elements only make new objects -/
def kLc (J : It) (g : TG) (tt : TT) (te : TE) (vs : List Nat) (σ : L2.St) (Q : VK) (H1 : Hp) : Prop := ∀ D, H1 D = none → ∃ W : Nat → Nat → Hp → Prop, (∃ m, W 0 m (upd H1 D (.lst []))) ∧ ∀ i m H, W i m H →
  (J.stop i H ∧ Q (.ref D) H) ∨ (J.go i H ∧ ∃ Nx : Hp → Prop, (∀ H', Nx H' → ∃ m', m' < m ∧ W (i + 1) m' H') ∧ ∀ x H', J.yld i H x H' → g x (wipe σ vs) H' fun σ2 H2 => wipe σ2 vs = wipe σ vs ∧ tt σ2 H2 fun b H3 =>
    if b = true then te σ2 H3 fun y H4 => ∃ acc, H4 D = some (.lst acc) ∧ acc.length < sizeLine ∧ Nx (upd H4 D (.lst (acc ++ [y]))) else Nx H3)
theorem tLc_k (wi : TI) (g : TG) (tt : TT) (te : TE) (vs : List Nat) : tLc wi g tt te vs = fun σ H Q => wi σ H fun J H1 => kLc J g tt te vs σ Q H1 := rfl
/-- within the comprehension: H1 as it was ahead of it, the new list at D -/
structure LcIn (H1 H : Hp) (D : Addr) (acc : List V) : Prop where
  same : Same H1 H
  at_ : H D = some (.lst acc)
  new : H1 D = none
def kApp (D : Addr) (N : Hp → Prop) : VK := fun y H4 => ∃ acc, H4 D = some (.lst acc) ∧ acc.length < sizeLine ∧ N (upd H4 D (.lst (acc ++ [y])))
theorem kApp.mk {H1 H H4 : Hp} {D : Addr} {acc acc' : List V} {y : V} (c : LcIn H1 H D acc) (s : Same H H4) (hl : acc.length < sizeLine) (h : acc ++ [y] = acc') : kApp D (fun H' => LcIn H1 H' D acc') y H4 := by
  refine ⟨acc, s _ _ c.at_, hl, ⟨fun b u e => ?_, by rw [upd_same, h], c.new⟩⟩
  rw [upd_ne (ne_of_none e c.new)]
  exact s _ _ (c.same _ _ e)
theorem kLc.all {J : It} {n : Nat} {G : Hp → Prop} {Y : Nat → Hp → V → Hp → Prop} (w : Walk J n G Y) {g : TG} {tt : TT} {te : TE} {vs : List Nat} {σ : L2.St} {Q : VK} {H1 : Hp} (outs : Nat → List V) (h0 : outs 0 = []) (hG : ∀ H, Same H1 H → G H)
    (hs : ∀ D i x H H', i < n → LcIn H1 H D (outs i) → Y i H x H' → g x (wipe σ vs) H' fun σ2 H2 => wipe σ2 vs = wipe σ vs ∧ tt σ2 H2 fun b H3 => if b = true then te σ2 H3 (kApp D fun H' => LcIn H1 H' D (outs (i + 1))) else LcIn H1 H3 D (outs (i + 1)))
    (hd : ∀ D H', Fresh H1 H' D (.lst (outs n)) → Q (.ref D) H') : kLc J g tt te vs σ Q H1 := fun D hD =>
  lc_it w (fun i H => LcIn H1 H D (outs i)) ⟨(fresh_upd hD).same, by rw [h0]; exact upd_same, hD⟩ (fun i H _ c => hG H c.same) (fun i x H H' hi c y => hs D i x H H' hi c y) fun H c => hd D H ⟨c.same, c.at_, c.new⟩
theorem kLc.map {J : It} {n : Nat} {G : Hp → Prop} {Y : Nat → Hp → V → Hp → Prop} (w : Walk J n G Y) {g : TG} {tt : TT} {te : TE} {vs : List Nat} {σ : L2.St} {Q : VK} {H1 : Hp} (out : List V) (hn : out.length = n) (hG : ∀ H, Same H1 H → G H)
    (hs : ∀ D i x H H', i < n → LcIn H1 H D (out.take i) → Y i H x H' → g x (wipe σ vs) H' fun σ2 H2 => wipe σ2 vs = wipe σ vs ∧ tt σ2 H2 fun b H3 => if b = true then te σ2 H3 (kApp D fun H' => LcIn H1 H' D (out.take (i + 1))) else LcIn H1 H3 D (out.take (i + 1)))
    (hd : ∀ D H', Fresh H1 H' D (.lst out) → Q (.ref D) H') : kLc J g tt te vs σ Q H1 :=
  kLc.all w (fun i => out.take i) (by simp) hG hs fun D H' f => hd D H' (by rw [← hn, List.take_length] at f; exact f)
theorem kApp.at {H1 H H4 : Hp} {D : Addr} {out : List V} {i : Nat} {y : V} (c : LcIn H1 H D (out.take i)) (s : Same H H4) (hl : out.length ≤ sizeLine) (h : out[i]? = some y) : kApp D (fun H' => LcIn H1 H' D (out.take (i + 1))) y H4 := by
  have hi : i < out.length := by
    by_cases q : i < out.length
    · exact q
    · rw [List.getElem?_eq_none (by omega)] at h
      cases h
  refine kApp.mk c s (by rw [List.length_take]; omega) ?_
  rw [List.take_add_one, h]
  rfl
def kFor (J : It) (g : TG) (tb : TS) : TS := fun D σ H => ∃ W : Nat → Nat → L2.St → Hp → Prop, (∃ m, W 0 m σ H) ∧ ∀ i m σ H, W i m σ H →
  (J.stop i H ∧ D.nx σ H) ∨ (J.go i H ∧ ∃ N : L2.St → Hp → Prop, (∀ σ' H', N σ' H' → ∃ m', m' < m ∧ W (i + 1) m' σ' H') ∧ ∀ x H', J.yld i H x H' → g x σ H' fun σ2 H2 => tb { D with nx := N, ct := N, bk := D.nx } σ2 H2)
theorem tFor_k (wi : TI) (g : TG) (tb : TS) : tFor wi g tb = fun D σ H => wi σ H fun J H1 => kFor J g tb D σ H1 := rfl
theorem kFor.it {J : It} {n : Nat} {G : Hp → Prop} {Y : Nat → Hp → V → Hp → Prop} (w : Walk J n G Y) {g : TG} {tb : TS} {D : Ends} {σ : L2.St} {H : Hp} (Pv : Nat → L2.St → Hp → Prop) (h0 : Pv 0 σ H) (hG : ∀ i σ H, i ≤ n → Pv i σ H → G H)
    (hs : ∀ i x σ H H', i < n → Pv i σ H → Y i H x H' → g x σ H' fun σ2 H2 => tb { D with nx := Pv (i + 1), ct := Pv (i + 1), bk := D.nx } σ2 H2) (hd : ∀ σ H, Pv n σ H → D.nx σ H) : kFor J g tb D σ H := for_it w Pv h0 hG hs hd
theorem Same.tup {K : PySem.W.Frag} {H H' : Hp} {a : Addr} {xs : List V} (e : Same H H') (h : SqT K H a xs) : SqT K H' a xs := by
  rcases h with (h | ⟨o, h⟩) | h
  · exact .inl (.inl (e _ _ h))
  · exact .inl (.inr ⟨o, e _ _ h⟩)
  · exact .inr h
/-! ### a new instance -/
def kMake (C : Addr) (sp : Sp) (E : XK) (Q : VK) : List V → Hp → Prop := fun vs H1 => ∀ x dx, H1 x = none → H1 dx = none → dx ≠ x → sp (.ref x :: vs) (upd (upd H1 dx (.own x)) x (.ins C dx [])) (fun v H2 => v = .non ∧ Q (.ref x) H2) E
theorem kMake.mk {C : Addr} {sp : Sp} {E : XK} {Q : VK} {vs : List V} {H : Hp} (k : ∀ x dx H1, Same H H1 → H x = none → H1 x = some (.ins C dx []) → (∀ o, Same H (upd H1 x o)) → sp (.ref x :: vs) H1 (fun v H2 => v = .non ∧ Q (.ref x) H2) E) : kMake C sp E Q vs H := fun x dx nx nd ne => by
  have s : ∀ o, Same H (upd (upd H dx (.own x)) x o) := fun o b u e => by rw [upd_ne (ne_of_none e nx), upd_ne (ne_of_none e nd)]; exact e
  exact k x dx _ (s _) nx upd_same fun o => by rw [upd_upd]; exact s o
theorem tMakeR_k (C : Addr) (sp : Sp) (E : XK) (t : TA) : tMakeR C sp E t = fun σ H Q => t σ H (kMake C sp E Q) := rfl
theorem tDNewK_k : tDNewK = fun _ H Q => kN (.dK []) Q H := rfl
/-- a list is changed by a store -/
def kPutS (l : Addr) (o : HO) (Q : Hp → Prop) : Hp → Prop := fun H => Q (upd H l o)
theorem kPutS.mk {l : Addr} {o : HO} {Q : Hp → Prop} {H : Hp} (k : ∀ H', Put H H' l o → Q H') : kPutS l o Q H := k _ ⟨upd_same, fun b n => upd_ne n⟩
theorem rSetL_k : rSetL = fun o i v H Q => ∃ p xs k j, o = .ref p ∧ i = .int k ∧ H p = some (.lst xs) ∧ ixN xs.length k = some j ∧ kPutS p (.lst (xs.set j v)) Q H := rfl
def kMakeG (C : Addr) (sp : Sp) (gV : List V → List V → List V) (E : XK) (Q : VK) (vs zs : List V) : Hp → Prop := fun H2 => ∀ x dx, H2 x = none → H2 dx = none → dx ≠ x → sp (gV (.ref x :: vs) zs) (upd (upd H2 dx (.own x)) x (.ins C dx [])) (fun v H3 => v = .non ∧ Q (.ref x) H3) E
theorem kMakeG.mk {C : Addr} {sp : Sp} {gV : List V → List V → List V} {E : XK} {Q : VK} {vs zs us : List V} {H : Hp} (e : ∀ x, gV (.ref x :: vs) zs = .ref x :: us) (k : kMake C sp E Q us H) : kMakeG C sp gV E Q vs zs H := fun x dx nx nd ne => by
  rw [e x]
  exact k x dx nx nd ne
theorem tMakeK_k (C : Addr) (n m : Nat) (sp : Sp) (gV : List V → List V → List V) (E : XK) (t tk : TA) : tMakeK C n m sp gV E t tk = fun σ H Q => t σ H fun vs H1 => tk σ H1 fun zs H2 => vs.length = n ∧ zs.length = m ∧ kMakeG C sp gV E Q vs zs H2 := rfl
theorem cx_K {CX : CXT} {P : Program} {w : World} {K : PySem.W.Frag} {mg : Str → Option Value} {base : Heap} {N : List Str} {q : Str} {sc : Scope} {f : Addr} {cdv : Value} {A : Around} {outer : List Env} {s : Shared} {H : Hp} {E : XK} : (cxOf CX P w K mg base N q sc f cdv A outer s H E).K = K := rfl
theorem nox_K {X : Cx} : X.nox.K = X.K := rfl
end Ow
end
section
set_option maxHeartbeats 4000000
/-! o[i] and o[i] = v by an own def; static methods called off a class. -/
namespace Ow
open PySem PySem.Spec PyProof.Rows L2 StX
section
variable {X : Cx} {CX : CXT} {n : Nat} {C g : Addr} {sp : Sp} {E : XK}
def rGetO (C : Addr) (sp : Sp) (E : XK) : R2 := fun x y H Q => ∃ a, x = .ref a ∧ InsAt H a C ∧ sp [x, y] H Q E
theorem pe_subO {o i : Expr} {to ti : TE} {pos : Pos} (hs : PySem.W.findIn X.K (.ref C) "__getitem__" = some (some (.ref g))) (hf : PySem.W.isFn X.K (.ref g) = true) (hfn : PySem.W.fnIn X.K g = true)
    (F : FnR X.prog X.w X.K X.mg X.base CX n g sp) (hr : Room (n + 1) X.A) (hx : Passes CX X E) (ha : PE X o to) (hb : PE X i ti)
    (hsl : ∀ (x : Addr) (u : Value), subscripted i true (.ref x) u = runValue (.builtin "lifetime.subscript" ⟨[.ref x, u], []⟩) := by intro _ _; with_unfolding_all rfl) : PE X (.Subscript o i pos) (tOp (rGetO C sp E) to ti) := by
  refine ⟨fun pins s σ H Q I h => ?_⟩
  refine Subscript_ (binT ha hb I h fun v u s2 x y H2 I2 rx ry q => ?_)
  obtain ⟨a, rfl, hi, q⟩ := q
  obtain rfl : v = Value.ref a := rx
  obtain ⟨ox, od, J⟩ := inst_of I2 hi
  obtain ⟨m, hF⟩ := I2.fr
  refine PySem.W.sub_K hF I2.ok.mod.kin J hs hfn hf ?_ (hsl a u)
  exact wpAny_call (run_fnRS (us := [.ref a, u]) (vs := [.ref a, y]) F hr.in1 rfl hx I2 (.cons rfl (.cons ry .nil)) q)
def rSetO (C : Addr) (sp : Sp) (E : XK) : V → V → V → Hp → (Hp → Prop) → Prop := fun o i v H Q => ∃ a, o = .ref a ∧ InsAt H a C ∧ sp [o, i, v] H (fun _ H' => Q H') E
theorem set_own (hq : PySem.W.noSeq X.K C = true) (hs : PySem.W.findIn X.K (.ref C) "__setitem__" = some (some (.ref g))) (hf : PySem.W.isFn X.K (.ref g) = true)
    (F : FnR X.prog X.w X.K X.mg X.base CX n g sp) (hr : Room n X.A) (hx : Passes CX X E) : PSet X (rSetO C sp E) := by
  intro pins s σ H o i v ov iv u Q I ro ri rv h
  obtain ⟨a, rfl, ha, q⟩ := h
  cases (show ov = Value.ref a from ro)
  obtain ⟨ox, od, J⟩ := inst_of I ha
  obtain ⟨m, hF⟩ := I.fr
  refine PySem.W.ksp_setItem hF I.ok.mod.kin J hq hs hf ?_
  refine wpAny_mono (wpAny_call (run_fnR (us := [.ref a, iv, u]) (vs := [.ref a, i, v]) F hr hx I (.cons rfl (.cons ri (.cons rv .nil))) q)) (fun w s' z => ?_) fun _ _ x => x
  obtain ⟨z', H', I', rz, qz⟩ := z
  exact ⟨H', I', qz⟩
/-- C.m is a static method: its record at p, its def at g -/
structure SMet (K : PySem.W.Frag) (C : Addr) (mc : Value) (m : Str) (p g : Addr) : Prop where
  at_ : PySem.W.findCls K (.ref C) mc m = some (.get (.builtin "staticmethod.__get__") (.ref p) .none (.ref C))
  rc : ∃ rest, PySem.W.recIn K p "staticmethod" = some (.ref g :: rest)
  kp : PySem.W.keepIn K (.ref g) = true
end
section
variable {X : Cx} {pins : List (Addr × Obj)} {σ : L2.St} {H : Hp} {s : Shared} {C p g : Addr} {mc : Value} {m : Str} {A : Around} {E : Value → Shared → Prop}
theorem getsm_ok {b : Bool} {Q : Value → Shared → Prop} (I : Inv X pins σ H s) (r : ClX.CRead X.K C mc) (k : SMet X.K C mc m p g)
    (h : ∀ s', Inv X pins σ H s' → Q (.ref g) s') : wpAny (model X.prog X.w) A (getAttr (.ref C) m b) Q E s := by
  obtain ⟨rest, hp⟩ := k.rc
  refine PySem.W.cls_bind I.kIn r.rd k.at_ ?_
  refine wpAny_call (PySem.W.sm_get (s := { s with toks := s.toks + 1 }) I.kIn hp (PySem.W.handed_on rfl ?_))
  exact h _ (I.tok _)
theorem getmethsm_ok {pl : Sem Bool} {Q : Value × List Value → Shared → Prop} (I : Inv X pins σ H s) (r : ClX.CRead X.K C mc) (k : SMet X.K C mc m p g)
    (h : ∀ s', Inv X pins σ H s' → Q (.ref g, []) s') : wpAny (model X.prog X.w) A (getMethod (.ref C) m pl) Q E s :=
  PySem.W.method_cls I.kIn r.ga (getsm_ok I r k h)
end
section
variable {X : Cx} {CX : CXT} {k : Nat} {C p g : Addr} {mc : Value} {sp : Sp} {E : XK} {o e : Expr} {es : List Expr} {m : Str} {pos apos : Pos} {ta : TE} {t : TA} {pl : Sem Bool}
def tSMeth (C : Addr) (sp : Sp) (E : XK) (ta : TE) (t : TA) : TE := fun σ H Q => ta σ H fun x H1 => x = .ref C ∧ t σ H1 fun vs H2 => sp vs H2 Q E
theorem pe_smeth (he : PE X o ta) (r : ClX.CRead X.K C mc) (c : SMet X.K C mc m p g) (F : FnR X.prog X.w X.K X.mg X.base CX k g sp) (hr : Room k X.A) (hx : Passes CX X E) (ha : PA X (e :: es) t)
    (hst : starEach (e :: es) X.env = (false, eval e X.env) :: starEach es X.env := by rfl) (hpl : (backTo pos (starEach es X.env)).any (·.1) = false := by rfl)
    (ht : eval (.Call (.Attribute o m apos) (e :: es) [] pos) X.env = (do
      let ov ← eval o X.env
      standAt apos.atName
      let (f, first) ← holding [ov] (getMethod ov m pl)
      callWith pos f first (backTo pos (starEach (e :: es) X.env)) (backToKw pos (keywordEach [] X.env))) := by rfl) :
    PE X (.Call (.Attribute o m apos) (e :: es) [] pos) (tSMeth C sp E ta t) := by
  refine ⟨fun pins s σ H Q I h => ?_⟩
  refine PySem.W.methodCall_KW (pl := pl) (thn (he.run pins s σ H _ I h) fun u s1 ⟨x, H1, I1, rx, ex, q⟩ => ?_) ht
  subst ex
  obtain rfl : u = Value.ref C := rx
  refine getmethsm_ok I1 r c fun s2 I2 => ?_
  refine PySem.W.callWith_K (h₀ := X.base) I.ok.mod.kin c.kp (thn (ha.run pos pins s2 σ H1 _ I2 q) fun us s3 ⟨vs, H2, I3, rv, q2⟩ => ⟨I3.kIn, ?_⟩) hst hpl
  refine wpAny_mono (wpAny_call (run_fnR F hr hx I3 rv q2)) (fun w s' z => z) fun _ _ x => x
/-- by keywords alone -/
def tSMethK (C : Addr) (n : Nat) (sp : Sp) (gV : List V → List V → List V) (E : XK) (ta : TE) (tk : TA) : TE := fun σ H Q => ta σ H fun x H1 => x = .ref C ∧ tk σ H1 fun zs H2 => zs.length = n ∧ sp (gV [] zs) H2 Q E
theorem pe_smethK {kws : List Keyword} {fd : FuncData} {ps ks : List Str} {tk : TA} {gl : List Value → List Value → List Value} {gV : List V → List V → List V} (he : PE X o ta) (r : ClX.CRead X.K C mc) (c : SMet X.K C mc m p g)
    (F : FnOk X.prog X.w X.K X.mg X.base CX k g fd ps sp) (hr : Room k X.A) (hb : KBn X.K fd ps 0 ks gl gV) (hx : Passes CX X E) (hkw : PK X kws tk)
    (hall : (backToKw pos (keywordEach kws X.env)).all (·.1.isSome) = true := by rfl) (hks : (backToKw pos (keywordEach kws X.env)).filterMap (·.1) = ks := by rfl)
    (hpl : ((backTo pos (starEach [] X.env)).any (·.1) || (backToKw pos (keywordEach kws X.env)).any (·.1.isNone)) = false := by rfl)
    (ht : eval (.Call (.Attribute o m apos) [] kws pos) X.env = (do
      let ov ← eval o X.env
      standAt apos.atName
      let (f, first) ← holding [ov] (getMethod ov m pl)
      callWith pos f first (backTo pos (starEach [] X.env)) (backToKw pos (keywordEach kws X.env))) := by rfl) :
    PE X (.Call (.Attribute o m apos) [] kws pos) (tSMethK C ks.length sp gV E ta tk) := by
  refine ⟨fun pins s σ H Q I h => ?_⟩
  refine PySem.W.methodCall_KW (pl := pl) (thn (he.run pins s σ H _ I h) fun u s1 ⟨x, H1, I1, rx, ex, q⟩ => ?_) ht
  subst ex
  obtain rfl : u = Value.ref C := rx
  refine getmethsm_ok I1 r c fun s2 I2 => ?_
  refine PySem.W.callWith_KW0 (h₀ := X.base) I.ok.mod.kin c.kp hall ?_ hpl
  refine thn (hkw.run pos pins s2 σ H1 _ I2 q) fun ws s3 ⟨zs, H3, I3, rz, l2, q2⟩ => ⟨I3.kIn, ?_⟩
  rw [hks]
  refine wpAny_call (codeAny_mono (F.run X.A X.stack s3 H3 ⟨[], ks.zip ws⟩ (gl [] ws) (gV [] zs) Q E hr I3.env0 (hb.to s3 [] ws I3.kIn rfl (rz.length.symm.trans l2)) (hb.rel .nil rz) q2) fun r s' hq => ?_)
  cases r with
  | error e => exact hx pins σ H3 s3 e s' I3 hq
  | ok fl =>
    cases fl with
    | ret u => exact I3.after hq
    | next => exact False.elim hq
    | brk => exact False.elim hq
    | cont => exact False.elim hq
end
end Ow
end
section
set_option maxHeartbeats 4000000
/-! enumerate(tuple). -/
namespace Ow
open PySem PySem.Spec PyProof.Rows L2 StX
/-- the tuple at a as it stands at each turn, each item in a new pair -/
def IteT (K : PySem.W.Frag) (a : Addr) : It :=
  ⟨fun i H => ∃ (xs : List V) (x : V), SqT K H a xs ∧ xs[i]? = some x, fun i H v H' => ∃ T x, v = .ref T ∧ H T = none ∧ H' = upd H T (.tup [.int (i : Nat), x]) ∧ ∀ xs, SqT K H a xs → xs[i]? = some x, fun i H => ∃ xs : List V, SqT K H a xs ∧ xs.length ≤ i⟩
theorem cls_ne {h : Heap} {a b : Addr} {oa ob : Obj} {ca cb : String} (ha : h.get? a = some oa) (hb : h.get? b = some ob) (ea : oa.cls = .type ca) (eb : ob.cls = .type cb) (d : ca ≠ cb) : a ≠ b := fun e => by
  subst e
  rw [ha] at hb
  cases hb
  rw [ea] at eb
  exact d (Value.type.inj eb)
theorem enum_doneT {prog : Program} {w : World} {A : Around} {E : Value → Shared → Prop} {s : Shared} {e it a : Addr} {i : Nat} {ys : Array Value} {old : Value} {Q : Option Value → Shared → Prop} (hh : A.in1.handled = none)
    (he : IsEnum s.heap e it i old) (ht : s.heap.IsTupleIter it a i) (hy : s.heap.IsTuple a ys) (hx : ys[i]? = none) (k : ∀ h', Heap.ExtBut it s.heap h' → Q none { s with heap := h' }) : wpAny (model prog w) A (pyNext (.ref e)) Q E s := by
  have ty : s.TypeIs (.ref e) "enumerate" := ⟨_, he, rfl⟩
  unfold pyNext
  refine wpAny_bind (wpAny_attempt (wpAny_callSpecial?_slot (name := Str.ofString "__next__") ty F.slot_enumerate_next (wpAny_call_entry F.slot_enumerate_next ty F.entry_enumerate_next ?_ (F.args_enumerate_next_1 _))))
  show wpAny _ _ (field (.ref e) 2 >>= _) _ _ _
  refine wpAny_bind (wpAny_field he rfl (x := .ref it) rfl (wpAny_bind (wpAny_nextOf_tuple_end hh ht hy hx fun h' x h1 h2 => ?_)))
  obtain ⟨o, ho, hc⟩ := h2
  exact wpAny_bind (wpAny_isInstance (T := "StopIteration") (b := true) ⟨o, ho, hc⟩ isSubtype_stop (wpAny_pure (k _ h1)))
theorem turn_enumT {P : Program} {w : World} {K : PySem.W.Frag} {elts : List Expr} {kk : Nat} {tpos : Pos} (a e it : Addr) :
    Turn P w K (.Tuple elts kk tpos) (IteT K a) [e, it] e (fun i h => (∃ old, IsEnum h e it ((i : Nat) : Int) old) ∧ h.IsTupleIter it a i ∧ e ≠ it) where
  mem := by simp
  obj := fun i h st b hb => by
    obtain ⟨⟨old, he⟩, ⟨o, ho, hc, hd⟩, _⟩ := st
    have e' : b = e ∨ b = it := by simpa using hb
    rcases e' with z | z
    · rw [z]; exact ⟨_, he, fun v q => nomatch q⟩
    · rw [z]; exact ⟨o, ho, fun v q => by rw [hd] at q; cases q⟩
  keep := fun i h h' st k => let ⟨⟨old, he⟩, hi, hne⟩ := st; ⟨⟨old, k e (by simp) _ he⟩, hi.at fun o q => k it (by simp) o q, hne⟩
  item := by
    intro X hP hw hK hc i pins s σ H E I hf st hg
    subst hP hw hK
    obtain ⟨⟨old, he⟩, hit, hne⟩ := st
    obtain ⟨xs, x, hq, hx⟩ := hg
    obtain ⟨its, rv, p, hz⟩ := I.tuple hq
    obtain ⟨u, hu, ru⟩ := rv.get hx
    have hel : e < s.heap.objs.size := Heap.lt_size he
    have hil : it < s.heap.objs.size := by obtain ⟨_, q, _⟩ := hit; exact Heap.lt_size q
    have hai : a ≠ it := by
      obtain ⟨o1, h1, c1, _⟩ := p
      obtain ⟨o2, h2, c2, _⟩ := hit
      exact cls_ne h1 h2 c1 c2 (by decide)
    have hea : e ≠ a := by
      obtain ⟨o1, h1, c1, _⟩ := p
      exact cls_ne he h1 rfl c1 (by decide)
    have hlt : i < its.toArray.size := by
      have := rv.length
      have h3 : i < xs.length := by
        by_cases y : i < xs.length
        · exact y
        · rw [List.getElem?_eq_none (by omega)] at hx
          cases hx
      rw [List.size_toArray]
      omega
    refine wpAny_pyNext_enum_itemD (Draws.tuple (A := X.A.in1) (I.ok.hd hc) it a hai its.toArray) he ⟨hit, p⟩ hlt hne (by simp [hne, hea]) fun x2 h' tk hP ho hit2 hT hsz hk => ?_
    obtain ⟨hit', _⟩ := hit2
    have hxu : x2 = u := by
      have h5 : its[i]? = some x2 := by simpa using hP
      rw [hu] at h5
      exact (Option.some.inj h5).symm
    subst hxu
    refine ⟨_, rfl, wpAny_letOwnedTupleGo_enum (s := { s with heap := h', toks := tk + 1 }) ho fun h'' he' sb => ?_⟩
    have hT2 : h''.get? s.heap.objs.size = some { cls := .type "tuple", data := .seq #[.int i tk, x2] } := (sb.2 _ (Nat.ne_of_gt hel)).trans hT
    have new : ObjOk X.prog X.w (upd H s.heap.objs.size (.tup [.int (i : Nat), x])) h'' s.heap.objs.size (.tup [.int (i : Nat), x]) :=
      ⟨by show 2 ≤ sizeLine; decide, [.int i tk, x2], .cons ⟨_, rfl⟩ (.cons ru .nil), ⟨_, hT2, rfl, _, rfl⟩⟩
    have I1 : Inv X pins σ (upd H s.heap.objs.size (.tup [.int (i : Nat), x])) { s with heap := h'', toks := tk + 1 } :=
      I.turnedNew (ch := [e, it]) (fun b ob hb q => (sb.2 b (fun z => hb (by simp [z]))).trans (hk b ob (fun z => hb (by simp [z])) (fun z => hb (by simp [z])) q)) hf (Nat.le_refl _) new
    refine ⟨.ref s.heap.objs.size, _, I1, rfl, ⟨_, x, rfl, I.hok.fresh (Nat.le_refl _), rfl, fun ys hy => by rw [I.tuple_inj hy hq]; exact hx⟩, ⟨⟨x2, ?_⟩, hit'.at fun o q => (sb.2 it (Ne.symm hne)).trans q, hne⟩, fun b hb => ?_⟩
    · have e1 : ((i + 1 : Nat) : Int) = (i : Int) + 1 := by omega
      rw [e1]; exact he'
    · have hb' : b < s.heap.objs.size := by
        have e' : b = e ∨ b = it := by simpa using hb
        rcases e' with z | z
        · rw [z]; exact hel
        · rw [z]; exact hil
      rw [upd_ne (Nat.ne_of_lt hb')]
      exact (hf b hb).1
  done := by
    intro X hP hw hK hc i pins s σ H E I hf st hg
    subst hP hw hK
    obtain ⟨⟨old, he⟩, hit, hne⟩ := st
    obtain ⟨xs, hq, hx⟩ := hg
    obtain ⟨its, rv, p, hz⟩ := I.tuple hq
    obtain ⟨f0, f1, f2, f3, f4, f5⟩ := hf it (by simp)
    have hl := rv.length
    exact enum_doneT (I.ok.hd hc) he hit p (by simp; omega) fun h' eb => ⟨rfl, I.turned (t' := s.toks) (fun b o hb q => eb b o hb q) f0 f1 f3 f4 f5⟩
  self := fun A i s Q E st h => let ⟨⟨_, he⟩, _⟩ := st; wpAny_pyIter_enum he h
theorem meets_enumT (a : Addr) (ys : Array Value) :
    Meets (Builtin.«enumerate.__new__» ⟨[.type "enumerate", .ref a], []⟩) (fun _ R s => s.heap.IsTuple a ys ∧
      R (.ok (.ret (.ref (s.heap.push { cls := .type "tuple_iterator", data := .fields #[.ref a, .int 0 0] }).objs.size)))
        { s with heap := (s.heap.push { cls := .type "tuple_iterator", data := .fields #[.ref a, .int 0 0] }).push { cls := .type "enumerate", data := .fields #[.none, .bool false, .ref s.heap.objs.size, rawInt 0, .none, .none] } }) :=
  .of_wp fun prog w A R s h => by
    obtain ⟨hp, g, d, tk, os⟩ := s
    obtain ⟨hl, h⟩ := h
    have hsub := sub_enumerate
    have q1 : ∀ {A' : Around} {E : Value → Shared → Prop} {Q : Value → Shared → Prop}, Q (.ref hp.objs.size) ⟨hp.push { cls := .type "tuple_iterator", data := .fields #[.ref a, .int 0 0] }, g, d, tk, os⟩ → wpAny (model prog w) A' (pyIter (.ref a)) Q E ⟨hp, g, d, tk, os⟩ :=
      fun q => wpAny_pyIter_tuple (s := ⟨hp, g, d, tk, os⟩) hl q
    wp_walk using q1
    refine wpAny_stack_any fun st => wpAny_pure ?_
    split
    · rename_i c _ _ _ _ _
      cases (c == Value.type "enumerate")
      · wp_walk using q1
        exact ⟨_, rfl, h⟩
      · wp_walk using q1
        exact ⟨_, rfl, h⟩
    · wp_walk using q1
      exact ⟨_, rfl, h⟩
theorem call_enumT {prog : Program} {w : World} {A : Around} {E : Value → Shared → Prop} {s : Shared} {a : Addr} {ys : Array Value} {Q : Value → Shared → Prop} (hy : s.heap.IsTuple a ys)
    (k : ∀ h', IsEnum h' (s.heap.objs.size + 1) s.heap.objs.size 0 .none → h'.IsTupleIter s.heap.objs.size a 0 → (∀ b o, s.heap.get? b = some o → h'.get? b = some o) → Q (.ref (s.heap.objs.size + 1)) { s with heap := h' }) :
    wpAny (model prog w) A (call (.type "enumerate") [.ref a]) Q E s := by
  refine callType_new F.called_enumerate (by decide) (F.typeCall_enumerate_1 _) (F.newCall_enumerate_1 _) (fun obj => F.args_object_init_2 obj _) F.entry_enumerate_new (meets_enumT a ys) ⟨hy, ?_⟩
  have hz : (s.heap.push { cls := .type "tuple_iterator", data := .fields #[.ref a, .int 0 0] }).objs.size = s.heap.objs.size + 1 := Heap.size_push ..
  have e1 : ((s.heap.push { cls := .type "tuple_iterator", data := .fields #[.ref a, .int 0 0] }).push { cls := .type "enumerate", data := .fields #[.none, .bool false, .ref s.heap.objs.size, rawInt 0, .none, .none] }).get? (s.heap.objs.size + 1) = some { cls := .type "enumerate", data := .fields #[.none, .bool false, .ref s.heap.objs.size, rawInt 0, .none, .none] } := by
    rw [← hz]
    exact Heap.get?_push_size _ rfl
  have e2 : ((s.heap.push { cls := .type "tuple_iterator", data := .fields #[.ref a, .int 0 0] }).push { cls := .type "enumerate", data := .fields #[.none, .bool false, .ref s.heap.objs.size, rawInt 0, .none, .none] }).get? s.heap.objs.size = some { cls := .type "tuple_iterator", data := .fields #[.ref a, .int 0 0] } := Heap.get?_push_of_some _ (Heap.get?_push_size _ rfl)
  show _ ∧ _
  rw [hz]
  exact ⟨⟨_, e1, rfl⟩, k _ e1 ⟨_, e2, rfl, rfl⟩ fun b o e => Heap.get?_push_of_some _ (Heap.get?_push_of_some _ e)⟩
def iEnumT (K : PySem.W.Frag) (ta : TA) : TI := fun σ H R => ta σ H fun vs H1 => ∃ a xs, vs = [.ref a] ∧ ((SqL K H1 a xs ∧ R (Ite K a) H1) ∨ (SqT K H1 a xs ∧ R (IteT K a) H1))
theorem pi_enumT {X : Cx} {e : Expr} {ta : TA} {p pos tpos : Pos} {elts : List Expr} {kk : Nat} (hg : Gl X "enumerate") (hm : X.mg "enumerate" = none) (ha : PA X [e] ta) (hs : starEach [e] X.env = [(false, eval e X.env)] := by rfl) :
    PI X (.Tuple elts kk tpos) (.Call (.Name "enumerate" p) [e] [] pos) (iEnumT X.K ta) := by
  refine ⟨fun pins s σ H R I h => ?_⟩
  refine Call_ (ld_blt I hg hm boot_enumerate (PyProof.Rows.callWith_type1 (thn (ha.run pos pins s σ H _ I h) fun us s1 ⟨vs, H1, I1, r1, q1⟩ => ?_) hs rfl))
  obtain ⟨a, xs, ex, q⟩ := q1
  subst ex
  obtain ⟨u, rfl, ru⟩ := vals1 r1
  obtain rfl : u = Value.ref a := ru
  have fp : ∀ b ∈ [s1.heap.objs.size + 1, s1.heap.objs.size], FpOk X pins H1 b := fun b hb => by
    have hle : s1.heap.objs.size ≤ b := by
      simp only [List.mem_cons, List.not_mem_nil, or_false] at hb
      omega
    exact I1.fpOk hle (I1.hok.fresh hle)
  rcases q with ⟨hq, q⟩ | ⟨hq, q⟩
  · obtain ⟨its, rv, p', hz⟩ := I1.list hq
    refine call_enumerate_list p'.isList fun h' he hit hsz hk => wpAny_pyIter_enum he ?_
    exact ⟨s1.heap.objs.size + 1, _, _, _, H1, rfl, I1.kept (t' := s1.toks) hk, turn_enum a (s1.heap.objs.size + 1) s1.heap.objs.size, ⟨⟨.none, he⟩, hit, Nat.succ_ne_self _⟩, fp, q⟩
  · obtain ⟨its, rv, p', hz⟩ := I1.tuple hq
    refine call_enumT p' fun h' he hit hk => wpAny_pyIter_enum he ?_
    exact ⟨s1.heap.objs.size + 1, _, _, _, H1, rfl, I1.kept (t' := s1.toks) hk, turn_enumT a (s1.heap.objs.size + 1) s1.heap.objs.size, ⟨⟨.none, he⟩, hit, Nat.succ_ne_self _⟩, fp, q⟩
theorem walk_enumT {K : PySem.W.Frag} {a : Addr} {xs : List V} : Walk (IteT K a) xs.length (fun H => SqT K H a xs) (YPair (fun i => some (.int (i : Nat))) (fun i => xs[i]?)) := by
  refine ⟨fun i _ hi q => ⟨xs, xs[i], q, by simp [hi]⟩, fun _ q => ⟨xs, q, Nat.le_refl _⟩, fun i H v H' _ q y => ?_⟩
  obtain ⟨T, x, h1, h2, h3, h4⟩ := y
  exact ⟨T, .int (i : Nat), x, h1, h2, h3, rfl, h4 xs q⟩
/-- text * int -/
def rMulS : R2 := fun x y H Q => ∃ z n, x = .str z ∧ y = .int n ∧ MulOk z n ∧ Q (.str (Txt.mul z n)) H
theorem op_mulS {X : Cx} : OpR X (binaryOp .Mult) rMulS := by
  intro pins s σ H x y v u Q I rx ry h
  obtain ⟨z, n, rfl, rfl, ok, q⟩ := h
  obtain ⟨t, rfl⟩ := rx
  obtain ⟨t', rfl⟩ := ry
  exact SB.mul ok fun t2 k => ⟨.str (Txt.mul z n), H, I.tok _, ⟨t2, rfl⟩, q⟩
theorem fold_one (d : Nat) : ∀ (m : Nat) (acc : List Nat), (List.replicate m #[d]).foldl (fun a b => a ++ b) acc.toArray = (acc ++ List.replicate m d).toArray
  | 0, acc => by simp
  | m + 1, acc => by
    rw [List.replicate_succ, List.foldl_cons, List.append_toArray, fold_one d m (acc ++ [d]), List.replicate_succ, List.append_assoc]
    rfl
theorem mul_one (d : Nat) {n : Int} (h : 1 ≤ n) : Txt.mul (SX.S [d]) n = SX.S (List.replicate n.toNat d) := by
  unfold Txt.mul
  rw [if_neg (by omega)]
  by_cases e : n = 1
  · subst e
    rfl
  · rw [if_neg (by
      rw [SX.S_len]
      simp [e])]
    have := fold_one d n.toNat []
    exact congrArg Str.mk this
theorem mulOk_one (d : Nat) {n : Int} (h : 1 ≤ n) (h2 : n ≤ 100000) : MulOk (SX.S [d]) n := by
  refine ⟨?_, fun _ _ => ?_, fun _ _ => ?_⟩
  · rw [Bool.or_eq_false_iff]
    exact ⟨decide_eq_false (by omega), decide_eq_false (by omega)⟩
  · rw [SX.S_len]
    have : (1 : Int) ≤ (2 ^ 63 - 1) / n := Int.le_ediv_of_mul_le (by omega) (by omega)
    intro z
    have z : (1 : Int) > (2 ^ 63 - 1) / n := z
    omega
  · rw [SX.S_len]
    show Builtin.Str.tooLong (1 * n.toNat) = false
    exact decide_eq_false (Nat.not_lt.mpr (Nat.le_trans (show 1 * n.toNat ≤ 100000 by omega) (by decide +kernel)))
theorem vals_rev {vs : List V} {us : List Value} (r : Vals vs us) : Vals vs.reverse us.reverse := by
  induction r with
  | nil => exact .nil
  | cons h t ih =>
    rw [List.reverse_cons, List.reverse_cons]
    exact ih.append (.cons h .nil)
/-- a def's promise by binds, with the def itself (for calls by keywords) -/
theorem FnT.okF {P : Program} {w : World} {K : PySem.W.Frag} {mg : Str → Option Value} {base : Heap} {x qual : Str} {st : Stmt} {dvs : List V} {f : Addr} {N ps : List Str} {k : Nat} {sp : Sp} (F : FnT K x qual st dvs f) (S : FnScope N ps (defScope st)) (len : ∀ vs H Q E, sp vs H Q E → vs.length = ps.length)
    (hbody : ∀ (cdv : Value) (A : Around) (outer : List Env) (s : Shared) (H : Hp) (vs : List V) (Q : VK) (E : XK), Room k (A.deeper (envOfC qual (defScope st) s.heap.objs.size f cdv)) → sp vs H Q E →
      ∃ t, PSs (cxOf CX0 P w K mg base N qual (defScope st) f cdv A outer s H E).nox (defBody st) t ∧ t { nx := fun _ H' => Q .non H', rt := Q } (L2.start N vs) H) :
    ∃ fd, FnOk P w K mg base CX0 (k + 1) f fd ps sp ∧ FunD K x qual (defArgs st) (defBody st) (defScope st) dvs [] f fd := by
  obtain ⟨fd, F⟩ := F
  exact ⟨fd, F.ok S len fun cdv A outer s H vs Q E hr hsp => by
    obtain ⟨t, h, q⟩ := hbody cdv A outer s H vs Q E hr hsp
    exact ⟨t, h.nox, q⟩, F⟩
end Ow
end
section
namespace Ow
open PySem PySem.Spec PyProof.Rows L2
/-- a static method's facts, of pieces that k_is finds -/
theorem smet_mk {K : PySem.W.Frag} {C p g : Addr} {m : Str} {ta : Value} {rest : List Value}
    (h1 : PySem.W.findIn K (.ref C) m = some (some (.ref p)))
    (h2 : PySem.W.findIn K (.type "type") m = some none)
    (h3 : PySem.W.typeIn K (.ref p) = some ta)
    (h4 : PySem.W.bareKinds.contains ta = false)
    (h5 : PySem.W.specialIn K (.ref p) "__get__" = some (some (.builtin "staticmethod.__get__")))
    (h6 : PySem.W.recIn K p "staticmethod" = some (.ref g :: rest)) (h7 : PySem.W.keepIn K (.ref g) = true) :
    SMet K C (.type "type") m p g := by
  refine ⟨?_, ⟨_, h6⟩, h7⟩
  unfold PySem.W.findCls
  simp only [h2, h1, h3, h4, h5, Option.bind, Builtin.heldUnderItsOwnName]
  rfl
end Ow
end
section
namespace Ow
open PySem PySem.Spec PyProof.Rows L2
/-- a suite that names what was caught: slot i holds it, and is empty behind the suite -/
def asTS (i : Nat) (ts : Addr → Value → Option Addr → TS) : Addr → Value → Option Addr → TS := fun a cls d D σ H =>
  ts a cls d { nx := fun σ' H' => D.nx (σ'.set i none) H', rt := D.rt, bk := fun σ' H' => D.bk (σ'.set i none) H', ct := fun σ' H' => D.ct (σ'.set i none) H' } (σ.set i (some (.ref a))) H
/-- clauses of a try, each with a class by its name, with or without a name for what is caught -/
inductive HdsM (X : Cx) : List ExceptHandler → List (Value × (Addr → Value → Option Addr → TS)) → Prop
  | nil : HdsM X [] []
  | plain {x : Str} {c : Value} {ts : Addr → Value → Option Addr → TS} {b₀ : Stmt} {suite : List Stmt} {np pos' : Pos} {hds : List ExceptHandler} {l : List (Value × (Addr → Value → Option Addr → TS))} (hc : Names X x c)
      (hsu : ∀ (a : Addr) (oe : Obj) (cls : Value) (d : Option Addr) (pn : List (Addr × Obj)), Zc cls d oe → (∃ vs, oe.data = .fields vs) → PSs (X.suite a ((a, oe) :: pn)) (b₀ :: suite) (ts a cls d)) (r : HdsM X hds l) :
      HdsM X (.ExceptHandler (some (.Name x np)) none (b₀ :: suite) pos' :: hds) ((c, ts) :: l)
  | named {x n : Str} {i : Nat} {c : Value} {ts : Addr → Value → Option Addr → TS} {b₀ : Stmt} {suite : List Stmt} {np pos' : Pos} {hds : List ExceptHandler} {l : List (Value × (Addr → Value → Option Addr → TS))} (hi : X.N[i]? = some n) (hln : X.env.kindOf n = some .local) (hc : Names X x c)
      (hsu : ∀ (a : Addr) (oe : Obj) (cls : Value) (d : Option Addr) (pn : List (Addr × Obj)), Zc cls d oe → (∃ vs, oe.data = .fields vs) → PSs (X.suite a ((a, oe) :: pn)) (b₀ :: suite) (ts a cls d)) (r : HdsM X hds l) :
      HdsM X (.ExceptHandler (some (.Name x np)) (some n) (b₀ :: suite) pos' :: hds) ((c, asTS i ts) :: l)
set_option maxHeartbeats 4000000
/-- try with any row of clauses, some with `as` -/
theorem ps_try_mix {X : Cx} {body : List Stmt} {h₀ : ExceptHandler} {hds : List ExceptHandler} {l : List (Value × (Addr → Value → Option Addr → TS))} {pos : Pos} {tb : WX → TS} {Wout : WX} (hs : X.stack = X.env :: X.outer) (hf : X.env.frame = some X.env.locals) (hN : X.N.Nodup) (tk : Takes X Wout)
    (hb : ∀ (W : WX) (pn : List (Addr × Obj)) (xe : Value → Shared → Prop), Takes (X.tr pn xe) W → PassesOwn (model X.prog X.w) X.A X.env xe → PSs (X.tr pn xe) body (tb W)) (hh : HdsM X (h₀ :: hds) l) :
    PS X (.Try body (h₀ :: hds) [] [] pos) (fun D σ H => tb (wMany X.K Wout D l) D σ H) := by
  refine ⟨fun pins s σ H D I h => ?_⟩
  have ok := I.ok
  have hfr : X.A.frames = some (X.env :: X.outer) := by rw [ok.frames, hs]
  refine wpAny_Try_except (wpAny_mono ((hb (wMany X.K Wout D l) (X.pn ++ pins) (fun e s₁ => wpAny (model X.prog X.w) X.A (noteFrame e X.env) (fun _ s₂ => wpAny (model X.prog X.w) X.A (setFlight e none) (fun _ s₃ => wpAny (model X.prog X.w) X.A (handleBy e X.env (h₀ :: hds)) (SP X pins D) X.xe s₃) X.xe s₂) X.xe s₁) ?_ PassesOwn.looking).run [] s σ H D (Inv.toTry I _) h) (fun f s1 hsp => ?_) fun e s1 he => he)
  · intro u s' xx
    obtain ⟨a, B, sI, pins', σ', H', cls, d, rfl, J', nb, up, sky, na, os, ag, w⟩ := xx
    have J := Inv.ofTry J' ok
    have sky' : Sky B (X.env :: X.outer) a (Zc cls d) X.env.locals s'.heap := by rw [← hs]; exact sky
    refine Sky.land Zc.steady hfr hf sky' fun h3 fl3 up3 => ?_
    have J3 := Inv.landed (s' := { heap := h3, gens := s'.gens, drawn := s'.drawn, toks := s'.toks, os := s'.os }) J nb fl3.left (Heap.UpToSlots.trans up up3) os ag
    obtain ⟨oe3, vs3, he3, hz3, hd3⟩ := HandSPX.FlyingZ.there fl3
    have nfr : ¬ a ∈ List.filterMap (fun x : Env => x.frame) (X.env :: X.outer) := fun hm => by
      obtain ⟨_, o', e', hnf⟩ := Heap.FunFrames.mem fl3.right.right.left hm
      have e2 := e'.symm.trans he3
      cases e2
      exact hnf _ hd3
    have nL : a ≠ X.env.locals := fun z => nfr (List.mem_filterMap.mpr ⟨X.env, List.mem_cons_self .., by rw [hf, z]⟩)
    have nF : ¬ a ∈ X.fs := fun hm => by
      obtain ⟨e, he, q⟩ := List.mem_filterMap.mp hm
      exact nfr (List.mem_filterMap.mpr ⟨e, List.mem_cons_of_mem _ he, q⟩)
    have S3 := Inv.suite J3 he3 hd3 na nL nF
    clear h hb
    have key : ∀ (hds' : List ExceptHandler) (l' : List (Value × (Addr → Value → Option Addr → TS))), HdsM X hds' l' → wMany X.K Wout D l' cls d σ' H' → wpAny (model X.prog X.w) X.A (handleBy (.ref a) X.env hds') (SP X pins D) X.xe { heap := h3, gens := s'.gens, drawn := s'.drawn, toks := s'.toks, os := s'.os } := by
      intro hds' l' hk
      have LT : W.Looks (model X.prog X.w) h3 (typeOf (Value.ref a)) cls := fun A Q E s k q => wpAny_typeOf_ref (k a oe3 he3) (by rw [hz3.left]; exact q)
      have test : ∀ {x : Str} {c : Value} {np : Pos} {Q : Value → Shared → Prop} {E : Value → Shared → Prop}, Names X x c → Q c { heap := h3, gens := s'.gens, drawn := s'.drawn, toks := s'.toks, os := s'.os } →
          wpAny (model X.prog X.w) (X.A.mark (some (.ref a))) (eval (.Name x np) X.env) Q E { heap := h3, gens := s'.gens, drawn := s'.drawn, toks := s'.toks, os := s'.os } := by
        intro x c np Q E hc q
        obtain ⟨hg, hdbg, hm | ⟨hm, hv, hnn⟩⟩ := hc
        · exact ld_glob (X := X.suite a _) S3 hg hm q hdbg
        · exact ld_blt (X := X.suite a _) S3 hg hm hv q hnn hdbg
      induction hk with
      | nil =>
        intro w
        refine wpAny_handleBy_nil ?_
        have fl := fl3
        obtain ⟨k1, k2, k3, oe, vs, T, oT, ts', he, hz, hd, h1, hr⟩ := fl3
        unfold PySem.passOn
        refine wpAny_bind (wpAny_field he hd h1 ?_)
        rw [if_neg (by simp)]
        refine wpAny_bind ?_
        rw [hf]
        exact HandSPX.setFlight_upZ fl fun h4 hh4 up4 => wpAny_throw (tk _ _ ⟨a, B, sI, pins, σ', H', cls, d, rfl, J, nb, (up.trans up3).trans up4, .inr (.inr (by rw [hs]; exact hh4)), na, os, ag, w⟩)
      | plain hc hsu r ih =>
        intro w
        obtain ⟨b, hb1, hyes, hno⟩ := w
        refine wpAny_handleBy_cons (codeAny_handlers_test (test hc (W.Looks.here (W.exm_one (Inv.kIn J3) LT hb1) ?_))) (fun q => by cases q)
        cases b with
        | false => exact ih (hno rfl)
        | true =>
          refine codeAny_handlers_suite (HandSPX.lands_againZ fl3 fun h4 fl4 up4 => ?_)
          have J4 := Inv.landed (s' := { heap := h4, gens := s'.gens, drawn := s'.drawn, toks := s'.toks, os := s'.os }) J nb fl4.left (Heap.UpToSlots.trans (Heap.UpToSlots.trans up up3) up4) os ag
          obtain ⟨oe4, vs4, he4, hz4, hd4⟩ := HandSPX.FlyingZ.there fl4
          have S4 := Inv.suite J4 he4 hd4 na nL nF
          refine wpAny_mono ((hsu a oe4 cls d (X.pn ++ pins) hz4 ⟨vs4, hd4⟩).run [] _ σ' H' D S4 (hyes rfl a na)) (fun f s6 hsp => ?_) fun _ _ z => False.elim z
          cases f with
          | next => obtain ⟨σ6, H6, S6, q6⟩ := hsp; exact ⟨σ6, H6, Inv.unsuite S6 ok, q6⟩
          | brk => obtain ⟨σ6, H6, S6, q6⟩ := hsp; exact ⟨σ6, H6, Inv.unsuite S6 ok, q6⟩
          | cont => obtain ⟨σ6, H6, S6, q6⟩ := hsp; exact ⟨σ6, H6, Inv.unsuite S6 ok, q6⟩
          | ret u => obtain ⟨v6, σ6, H6, S6, r6, q6⟩ := hsp; exact ⟨v6, σ6, H6, Inv.unsuite S6 ok, r6, q6⟩
      | named hi hln hc hsu r ih =>
        intro w
        obtain ⟨b, hb1, hyes, hno⟩ := w
        refine wpAny_handleBy_cons (codeAny_handlers_test (test hc (W.Looks.here (W.exm_one (Inv.kIn J3) LT hb1) ?_))) (fun q => by cases q)
        cases b with
        | false => exact ih (hno rfl)
        | true =>
          refine codeAny_handlers_suite_as (HandSPX.lands_againZ fl3 fun h4 fl4 up4 => ?_)
          have J4 := Inv.landed (s' := { heap := h4, gens := s'.gens, drawn := s'.drawn, toks := s'.toks, os := s'.os }) J nb fl4.left (Heap.UpToSlots.trans (Heap.UpToSlots.trans up up3) up4) os ag
          obtain ⟨oe4, vs4, he4, hz4, hd4⟩ := HandSPX.FlyingZ.there fl4
          have S4 := Inv.suite J4 he4 hd4 na nL nF
          refine store_ok (X := X.suite a ((a, oe4) :: (X.pn ++ pins))) (v := .ref a) S4 hN hi (Or.inl hln) rfl (fun s5 S5 => ?_) (Or.inr hln)
          refine wpAny_mono ((hsu a oe4 cls d (X.pn ++ pins) hz4 ⟨vs4, hd4⟩).run [] s5 _ H' _ S5 (hyes rfl a na)) (fun f s6 hsp => ?_) fun _ _ z => False.elim z
          cases f with
          | next => obtain ⟨σ6, H6, S6, q6⟩ := hsp; exact gone_ok (Inv.unsuite S6 ok) hN hi hln fun s7 J7 => ⟨_, H6, J7, q6⟩
          | brk => obtain ⟨σ6, H6, S6, q6⟩ := hsp; exact gone_ok (Inv.unsuite S6 ok) hN hi hln fun s7 J7 => ⟨_, H6, J7, q6⟩
          | cont => obtain ⟨σ6, H6, S6, q6⟩ := hsp; exact gone_ok (Inv.unsuite S6 ok) hN hi hln fun s7 J7 => ⟨_, H6, J7, q6⟩
          | ret u => obtain ⟨v6, σ6, H6, S6, r6, q6⟩ := hsp; exact gone_ok (Inv.unsuite S6 ok) hN hi hln fun s7 J7 => ⟨v6, _, H6, J7, r6, q6⟩
    exact key _ _ hh w
  · cases f with
    | next => obtain ⟨σ', H', J', q⟩ := hsp; exact wpAny_execs_nil ⟨σ', H', Inv.ofTry J' ok, q⟩
    | brk => obtain ⟨σ', H', J', q⟩ := hsp; exact ⟨σ', H', Inv.ofTry J' ok, q⟩
    | cont => obtain ⟨σ', H', J', q⟩ := hsp; exact ⟨σ', H', Inv.ofTry J' ok, q⟩
    | ret u => obtain ⟨v, σ', H', J', r, q⟩ := hsp; exact ⟨v, σ', H', Inv.ofTry J' ok, r, q⟩
end Ow
end
section
set_option maxHeartbeats 4000000
/-! The same for a law that shows dicts, too: the table of modules is told. -/
namespace Ow
open PySem PySem.Spec PyProof.Rows L2 StX
section
variable {P : Program} {w : World} {K : PySem.W.Frag} {mg mb : Str → Option Value} {k : Nat} {fa a c T : Addr} {sp : Sp} {s1 : Shared} {vs : List Value} {ns : List Int}
theorem end_fromTB (KX : K.In s1.heap) (hns : s1.heap.Ns mainGlobals mg) (hb : s1.heap.Ns builtinsNs mb) (hbb : ∀ x : Str, x ≠ "__name__" → mb x = bootBuiltins x) (hlim : s1.heap.NoLimit) (hsy : SysB s1.heap) (hg : s1.gens = #[]) (hr : Room k callerA)
    (eT : s1.heap.get? T = some tab0) (nT : K.lookup T = none) (cT : PySem.W.CodeHd s1.heap c T)
    (main : ∃ (m : Addr) (o : Obj), mg "__builtins__" = some (.ref m) ∧ m ≠ builtinsNs ∧ s1.heap.get? m = some o ∧ o.cls = .type "module" ∧ o.dict = some builtinsNs ∧ o.data = .plain)
    (F : ∀ base : Heap, K.In base → base.Ns mainGlobals mg → LamX.TabB base mg c T → SysB base → FnG P w K mg base CX0 k fa sp) {H : Hp} (B : Begin K s1.heap T H) (hok : HOk P w H s1.heap)
    (hsp : sp [.ref a] H (fun v _ => v = .bl true) fun _ _ _ => False) :
    codeAny (model P w) callerA (.call (.ref fa) ⟨[.ref a], []⟩) (fun r s' => r = .ok (.ret (.bool true)) ∧ OldK s1.heap s'.heap ∧ s'.os = s1.os ∧ AllBare s'.gens) s1 := by
  let base := hidT s1.heap H
  have free : ∀ {b : Addr} {o : Obj}, s1.heap.get? b = some o → (∀ items n, o.data ≠ .seq items n) → o.data ≠ .fields #[] → base.get? b = some o := fun {b o} e d1 d2 => by
    refine hidT_get e ?_
    by_cases q : b = T
    · rw [q, eT] at e
      cases e
      exact (d2 rfl).elim
    · rcases B.rest b q with z | ⟨o2, xs, items, n, _, _, e2, z⟩
      · exact z
      · rw [e] at e2
        cases e2
        exact (d1 _ _ z).elim
  have names : ∀ {b : Addr} {m : Str → Option Value}, s1.heap.Ns b m → base.Ns b m := fun z => by
    obtain ⟨o, es, ep, e, d, r⟩ := z
    exact ⟨o, es, ep, free e (fun _ _ y => by rw [d] at y; cases y) (fun y => by rw [d] at y; cases y), d, r⟩
  have hK : K.In base := fun b o e => by
    refine hidT_get (KX b o e) ?_
    by_cases q : b = T
    · rw [q, nT] at e
      cases e
    · rcases B.rest b q with z | ⟨o2, xs, items, n, _, z, _⟩
      · exact z
      · rw [e] at z
        cases z
  have lim : base.NoLimit := by
    obtain ⟨m, h1, h2⟩ := hlim
    exact ⟨m, names h1, h2⟩
  have TB : LamX.TabB base mg c T := by
    refine ⟨?_, ?_, fun z => ?_⟩
    · obtain ⟨o, us, file, tf, flags, tg, inF, text, tt, e1, p1, p2, p3, p4, p5, p6, p7, p8, p9⟩ := cT
      exact ⟨o, us, file, tf, flags, tg, inF, text, tt, free e1 (fun _ _ y => by rw [p2] at y; cases y) (fun y => by rw [p2] at y; cases y; simp at p3), p1, p2, p3, p4, p5, p6, p7, p8, p9⟩
    · obtain ⟨m, o, q1, q2, q3, q4, q5, q6⟩ := main
      refine ⟨m, o, q1, q2, fun y => ?_, fun y => ?_, free q3 (fun _ _ y => by rw [q6] at y; cases y) (fun y => by rw [q6] at y; cases y), q4, q5, q6⟩
      · obtain ⟨og, es, ep, e, d, _⟩ := hns
        rw [y, e] at q3
        cases q3
        rw [q6] at d
        cases d
      · rw [y, eT] at q3
        cases q3
        cases q6
    · obtain ⟨og, es, ep, e, d, _⟩ := hns
      rw [z, eT] at e
      cases e
      cases d
  have e0 : Env0 P w K mg base callerA [] s1 H :=
    { frames := rfl, mod := ⟨hK, names hns, ⟨mb, names hb, hbb⟩, lim⟩, bs := fun b o e => of_hidT e, bsz := Nat.le_of_eq (hidT_size _ _), funs := trivial, frf := fun b hb => (List.not_mem_nil hb).elim, hok := hok, bare := .of_eq hg }
  refine codeAny_mono (F base hK (names hns) TB (let ⟨m, z⟩ := hsy; ⟨m, names z⟩) callerA [] s1 H [.ref a] [.ref a] _ _ hr rfl e0 (.cons rfl .nil) hsp) fun r s' h => ?_
  cases r with
  | error e => exact False.elim h
  | ok fl =>
    cases fl with
    | next => exact False.elim h
    | brk => exact False.elim h
    | cont => exact False.elim h
    | ret u =>
      obtain ⟨v, H2, os, bare, un, ok2, rv, q⟩ := h
      subst q
      cases rv
      have still : ∀ b o, b ≠ T → s1.heap.get? b = some o → s'.heap.get? b = some o := fun b o nb e => by
        rcases B.rest b nb with z | ⟨o2, xs, items, n, z, _⟩
        · exact un.keep b o e z (fun y => List.not_mem_nil y) (fun y => List.not_mem_nil y)
        · have e1 := (hok b _ z).1
          have e2 := (ok2 b _ (un.frzs b o2 _ z)).1
          rw [e] at e1
          cases e1
          exact e2
      obtain ⟨more, z⟩ := un.tbls T #[] B.tab
      have wide := ok2 T _ z
      refine ⟨rfl, ⟨fun b o e => ?_, fun b o e => ?_⟩, os, bare⟩
      · by_cases q : b = T
        · subst q
          rw [eT] at e
          cases e
          exact .inr (.inl ⟨(cT.tab eT).isCodeTable, rfl, #[], _, rfl, by rw [Array.empty_append]; exact wide⟩)
        · exact .inl (still b o q e)
      · by_cases q : b = T
        · subst q
          exact ⟨_, wide⟩
        · exact ⟨o, still b o q e⟩
theorem end_callTB (KX : K.In s1.heap) (hns : s1.heap.Ns mainGlobals mg) (hb : s1.heap.Ns builtinsNs mb) (hbb : ∀ x : Str, x ≠ "__name__" → mb x = bootBuiltins x) (hlim : s1.heap.NoLimit) (hsy : SysB s1.heap) (hg : s1.gens = #[]) (hr : Room k callerA)
    (eT : s1.heap.get? T = some tab0) (nT : K.lookup T = none) (cT : PySem.W.CodeHd s1.heap c T)
    (main : ∃ (m : Addr) (o : Obj), mg "__builtins__" = some (.ref m) ∧ m ≠ builtinsNs ∧ s1.heap.get? m = some o ∧ o.cls = .type "module" ∧ o.dict = some builtinsNs ∧ o.data = .plain)
    (ha : s1.heap.get? a = some { cls := .type "list", data := .seq vs.toArray }) (hi : IntsAre vs ns) (hl : ns.length ≤ sizeLine) (F : ∀ base : Heap, K.In base → base.Ns mainGlobals mg → LamX.TabB base mg c T → SysB base → FnG P w K mg base CX0 k fa sp)
    (hsp : ∀ H : Hp, H T = some (.tbl #[]) → SqL K H a (ns.map V.int) → sp [.ref a] H (fun v _ => v = .bl true) fun _ _ _ => False) :
    codeAny (model P w) callerA (.call (.ref fa) ⟨[.ref a], []⟩) (fun r s' => r = .ok (.ret (.bool true)) ∧ OldK s1.heap s'.heap ∧ s'.os = s1.os ∧ AllBare s'.gens) s1 := by
  have rv := vals_ints hi
  have hl2 : (ns.map V.int).length ≤ sizeLine := by rw [List.length_map]; exact hl
  have naT : a ≠ T := fun z => by
    rw [z, eT] at ha
    cases ha
  cases hk : K.lookup a with
  | some o =>
    have e := KX a o hk
    rw [ha] at e
    cases e
    let H : Hp := fun b => if b = T then some (.tbl #[]) else none
    have HT : H T = some (.tbl #[]) := if_pos rfl
    have HN : ∀ b, b ≠ T → H b = none := fun b n => if_neg n
    refine end_fromTB KX hns hb hbb hlim hsy hg hr eT nT cT main F (H := H) ⟨HT, fun b n => .inl (HN b n)⟩ (fun b u z => ?_) (hsp H HT ?_)
    · by_cases q : b = T
      · subst q
        rw [HT] at z
        cases z
        exact eT
      · rw [HN b q] at z
        cases z
    · exact .inr ⟨_, vs.toArray, _, hk, rfl, rfl, rfl, by rw [List.size_toArray, hi.length]; exact hl, by simpa using rv⟩
  | none =>
    let o : Obj := { cls := .type "list", data := .seq vs.toArray }
    let H : Hp := fun b => if b = a then some (.frz o (.lst (ns.map V.int))) else if b = T then some (.tbl #[]) else none
    have HA : H a = some (.frz o (.lst (ns.map V.int))) := if_pos rfl
    have HT : H T = some (.tbl #[]) := by show (if T = a then _ else _) = _; rw [if_neg (Ne.symm naT), if_pos rfl]
    have HN : ∀ b, b ≠ a → b ≠ T → H b = none := fun b n n2 => by show (if b = a then _ else _) = _; rw [if_neg n, if_neg n2]
    refine end_fromTB KX hns hb hbb hlim hsy hg hr eT nT cT main F (H := H) ⟨HT, fun b n => ?_⟩ (fun b u z => ?_) (hsp H HT (.inl (.inr ⟨_, HA⟩)))
    · by_cases q : b = a
      · subst q
        exact .inr ⟨o, _, _, _, HA, hk, ha, rfl⟩
      · exact .inl (HN b q n)
    · by_cases q : b = a
      · subst q
        rw [HA] at z
        cases z
        exact ⟨ha, hl2, vs, _, rv, ha⟩
      · by_cases q2 : b = T
        · subst q2
          rw [HT] at z
          cases z
          exact eT
        · rw [HN b q q2] at z
          cases z
end
/-- what is to be known of the law's promise at the head's heap -/
def LawTB (l : PySem.W.OpenLaw) (w : World) (K : PySem.W.Frag) (k n : Nat) (mg : Str → Option Value) (fa : Addr) (h : Heap) : Prop :=
  ∃ (c T : Addr) (sp : Sp), h.get? T = some tab0 ∧ K.lookup T = none ∧ PySem.W.CodeHd h c T ∧
    (∀ (H : Hp) (a : Addr) (ns : List Int), ns.length ≤ n → H T = some (.tbl #[]) → SqL K H a (ns.map V.int) → sp [.ref a] H (fun v _ => v = .bl true) fun _ _ _ => False) ∧
    ∀ base : Heap, K.In base → base.Ns mainGlobals mg → LamX.TabB base mg c T → SysB base → FnG l.prog w K mg base CX0 k fa sp
theorem walk_ofTGB {l : PySem.W.OpenLaw} {n k : Nat} {q : Program} {loose : List Str} {XP : (Str → Option Value) → Heap → Prop} {YP : World → Heap → Prop} {d : DefRec} {K : Params → PySem.W.Frag}
    (hi : importsNone q = true) (hn : l.most = some n) (hn2 : n ≤ sizeLine) (hdf : d.params.defaults = []) (hr : Room k callerA) (hY : ∀ (w : World) (h : Heap), YP w h → (K w.params).In h)
    (F : ∀ (w : World) (mg : Str → Option Value) (fa : Addr) (h : Heap), YP w h → (K w.params).In h → h.Ns mainGlobals mg → mg d.name = some (.ref fa) → LawTB l w (K w.params) k n mg fa h) :
    PySem.W.WalkO q loose XP YP l.row.toRowW d [] (fun f vs => PySem.call f vs) := by
  refine Att.attach_call hn hdf fun w s0 s1 mg mb fa o pm cd doc a vs ns G Y ho hd hcd hmg hobj hints hlen hg => ?_
  have KX := hY w _ Y
  obtain ⟨c, T, sp, eT, nT, cT, hsp, hF⟩ := F w mg fa _ Y KX G.T.g hmg
  exact end_callTB KX G.T.g G.T.b G.T.builtins G.T.nolimit (let ⟨m, z, _⟩ := (G.T.seer hi).mods; ⟨m, z⟩) hg hr eT nT cT G.T.bmain hobj hints (Nat.le_trans hlen hn2) hF fun H hH hS => hsp H a ns hlen hH hS
end Ow
end
section
set_option maxHeartbeats 4000000
namespace Ow
open PySem PySem.Spec PyProof.Rows L2
section
variable {X : Cx} {CX : CXT} {k : Nat} {C g : Addr} {sp : Sp} {E : XK} {o : Expr} {m : Str} {pos apos : Pos} {ta : TE} {pl : Sem Bool}
/-- o.m(k=e, ..): an instance's method, by keywords alone -/
def tMethK (C : Addr) (m : Str) (n : Nat) (sp : Sp) (gV : List V → List V → List V) (E : XK) (ta : TE) (tk : TA) : TE := fun σ H Q => ta σ H fun x H1 => ∃ a dx fs, x = .ref a ∧ H1 a = some (.ins C dx fs) ∧ fs.lookup m = none ∧ tk σ H1 fun zs H2 => zs.length = n ∧ sp (gV [x] zs) H2 Q E
theorem pe_methK {kws : List Keyword} {fd : FuncData} {ps ks : List Str} {tk : TA} {gl : List Value → List Value → List Value} {gV : List V → List V → List V} (he : PE X o ta) (c : Cls X.K C) (hm : Meth X.K C m g)
    (F : FnOk X.prog X.w X.K X.mg X.base CX k g fd ps sp) (hr : Room k X.A) (hb : KBn X.K fd ps 1 ks gl gV) (hx : Passes CX X E) (hkw : PK X kws tk)
    (hall : (backToKw pos (keywordEach kws X.env)).all (·.1.isSome) = true := by rfl) (hks : (backToKw pos (keywordEach kws X.env)).filterMap (·.1) = ks := by rfl)
    (hpl : ((backTo pos (starEach [] X.env)).any (·.1) || (backToKw pos (keywordEach kws X.env)).any (·.1.isNone)) = false := by rfl)
    (ht : eval (.Call (.Attribute o m apos) [] kws pos) X.env = (do
      let ov ← eval o X.env
      standAt apos.atName
      let (f, first) ← holding [ov] (getMethod ov m pl)
      callWith pos f first (backTo pos (starEach [] X.env)) (backToKw pos (keywordEach kws X.env))) := by rfl) :
    PE X (.Call (.Attribute o m apos) [] kws pos) (tMethK C m ks.length sp gV E ta tk) := by
  refine ⟨fun pins s σ H Q I h => ?_⟩
  refine PySem.W.methodCall_KW (pl := pl) (thn (he.run pins s σ H _ I h) fun u s1 ⟨x, H1, I1, rx, a, dx, fs, ex, ea, l, q⟩ => ?_) ht
  subst ex
  obtain rfl : u = Value.ref a := rx
  refine getmeth_ok I1 ea c hm l ?_
  refine PySem.W.callWith_KW0 (h₀ := X.base) I.ok.mod.kin hm.kp hall ?_ hpl
  refine thn (hkw.run pos pins s1 σ H1 _ I1 q) fun ws s3 ⟨zs, H3, I3, rz, l2, q2⟩ => ⟨I3.kIn, ?_⟩
  rw [hks]
  have r1 : Vals [V.ref a] [Value.ref a] := .cons rfl .nil
  refine wpAny_call (codeAny_mono (F.run X.A X.stack s3 H3 ⟨[.ref a], ks.zip ws⟩ (gl [.ref a] ws) (gV [.ref a] zs) Q E hr I3.env0 (hb.to s3 [.ref a] ws I3.kIn rfl (rz.length.symm.trans l2)) (hb.rel r1 rz) q2) fun r s' hq => ?_)
  cases r with
  | error e => exact hx pins σ H3 s3 e s' I3 hq
  | ok fl =>
    cases fl with
    | ret u => exact I3.after hq
    | next => exact False.elim hq
    | brk => exact False.elim hq
    | cont => exact False.elim hq
end
end Ow
end
section
set_option maxHeartbeats 4000000
/-! range(a, b) for any two integers. -/
namespace Ow
open PySem PySem.Spec PyProof.Rows L2
theorem long_self {prog : Program} {w : World} {A : Around} {E : Value → Shared → Prop} {s : Shared} {it : Addr} {x left step : Int} {Q : Value → Shared → Prop} (hit : IsLongIter s.heap it x left step) (h : Q (.ref it) s) : wpAny (model prog w) A (pyIter (.ref it)) Q E s := by
  have hT : s.TypeIs (.ref it) "longrange_iterator" := ⟨_, hit, rfl⟩
  refine wpAny_pyIter_slot hT F.slot_longrange_iterator_iter (wpAny_call_entry F.slot_longrange_iterator_iter hT F.entry_longrange_iterator_iter ?_ (F.args_longrange_iterator_iter_1 (.ref it)))
  exact wpAny_pure ⟨.ref it, rfl, "longrange_iterator", .builtin "longrange_iterator.__next__", hT, F.slot_longrange_iterator_next.lookup, h⟩
theorem turn_long {P : Program} {w : World} {K : PySem.W.Frag} {tg : Expr} (it : Addr) (lo : Int) (n : Nat) : Turn P w K tg (Itr lo n) [it] it fun i h => i ≤ n ∧ IsLongIter h it (lo + (i : Nat) * 1) ((n : Int) - (i : Nat)) 1 where
  mem := by simp
  obj := fun i h st b hb => by
    have e : b = it := by simpa using hb
    subst e
    exact ⟨_, st.2, fun v z => by cases z⟩
  keep := fun i h h' st k => ⟨st.1, k it (by simp) _ st.2⟩
  item := by
    intro X hP hw hK hc i pins s σ H E I hf st hg
    subst hP hw
    obtain ⟨f0, f1, f2, f3, f4, f5⟩ := hf it (by simp)
    have W := Walks.longrange (prog := X.prog) (w := X.w) (I.ok.hd hc) it lo 1 n
    have hlt : i < n := hg
    refine W.item i s _ E hlt st.2 fun v h' tk hv st' kk => ?_
    obtain ⟨t, rfl⟩ := hv
    have I1 := I.turned (t' := tk) (h' := h') (it := it) (fun b o hb e => kk b o (by simpa using hb) e) f0 f1 f3 f4 f5
    refine ⟨.int (lo + (i : Nat) * 1) t, rfl, go_of st' rfl rfl (by decide) ?_⟩
    exact ⟨.int (lo + (i : Nat)), H, I1, ⟨t, by rw [Int.mul_one]⟩, ⟨rfl, rfl⟩, ⟨hlt, st'⟩, fun b hb => (hf b hb).1⟩
  done := by
    intro X hP hw hK hc i pins s σ H E I hf st hg
    subst hP hw
    obtain ⟨f0, f1, f2, f3, f4, f5⟩ := hf it (by simp)
    have W := Walks.longrange (prog := X.prog) (w := X.w) (I.ok.hd hc) it lo 1 n
    have hle : n ≤ i := hg
    obtain ⟨h1, h2⟩ := st
    have e : i = n := by omega
    subst e
    exact W.done s _ E h2 fun h' tk kk => ⟨rfl, I.turned (fun b o hb e => kk b o (by simpa using hb) e) f0 f1 f3 f4 f5⟩
  self := fun A i s Q E st h => long_self st.2 h
theorem size_nat (i j : Int) : Builtin.Range.rangeSize i j 1 = ((j - i).toNat : Int) := by
  rw [rangeSize_one]
  split <;> omega
def iRng2L (ta : TA) : TI := fun σ H R => ta σ H fun vs H1 => ∃ i j : Int, vs = [.int i, .int j] ∧ R (Itr i (j - i).toNat) H1
theorem pi_range2L {X : Cx} {tg a b : Expr} {ta : TA} {p pos : Pos} (hg : Gl X "range") (hm : X.mg "range" = none) (ha : PA X [a, b] ta) (hs : starEach [a, b] X.env = [(false, eval a X.env), (false, eval b X.env)] := by rfl) (hs2 : starEach [b] X.env = [(false, eval b X.env)] := by rfl) :
    PI X tg (.Call (.Name "range" p) [a, b] [] pos) (iRng2L ta) := by
  refine ⟨fun pins s σ H R I h => ?_⟩
  refine Call_ (ld_blt I hg hm boot_range (PyProof.Rows.callWith_type1 (thn (ha.run pos pins s σ H _ I h) fun us s1 ⟨vs, H1, I1, r1, i, j, ex, q⟩ => ?_) (by rw [hs, hs2]) (by rw [hs2]; rfl)))
  subst ex
  obtain ⟨u, u2, rfl, ru, ru2⟩ := vals2 r1
  obtain ⟨t, rfl⟩ := ru
  obtain ⟨t', rfl⟩ := ru2
  refine call_range_2 ?_
  have I2 := I1.kept (h' := s1.heap.push { cls := .type "range", data := .fields #[.int i t, .int j t', .int 1 s1.toks] }) (t' := s1.toks + 1) fun b o e => Heap.get?_push_of_some _ e
  have new := IsRange.new s1.heap i j 1 t t' s1.toks
  cases hz : Builtin.Range.small i j 1 with
  | true =>
    refine wpAny_pyIter_range new hz ?_
    rw [size_nat]
    refine pi_one I2 _ (turn_range _ i _) ?_ q
    have e := Heap.get?_push_size (s1.heap.push { cls := .type "range", data := .fields #[.int i t, .int j t', .int 1 s1.toks] }) (o := { cls := .type "range_iterator", data := .fields #[rawInt i, rawInt ((j - i).toNat : Int), rawInt 1] }) rfl
    simpa using e
  | false =>
    refine wpAny_pyIter_longrange new hz ?_
    rw [size_nat]
    refine pi_one I2 _ (turn_long _ i _) ?_ q
    have e := Heap.get?_push_size (s1.heap.push { cls := .type "range", data := .fields #[.int i t, .int j t', .int 1 s1.toks] }) (o := { cls := .type "longrange_iterator", data := .fields #[rawInt i, rawInt ((j - i).toNat : Int), rawInt 1] }) rfl
    exact ⟨Nat.zero_le _, by simpa using e⟩
end Ow
end
section
set_option maxHeartbeats 4000000
/-! The end of a law of which several defs hand lambdas over: a table for each of them. -/
namespace Ow
open PySem PySem.Spec PyProof.Rows L2 StX
section
variable {P : Program} {w : World} {K : PySem.W.Frag} {mg mb : Str → Option Value} {k : Nat} {fa a : Addr} {TL : List (Addr × Addr)} {sp : Sp} {s1 : Shared} {vs : List Value} {ns : List Int}
/-- what is known of the codes' tables ahead of the call -/
structure TabsAt (K : PySem.W.Frag) (h : Heap) (TL : List (Addr × Addr)) : Prop where
  at_ : ∀ p ∈ TL, h.get? p.2 = some tab0
  no : ∀ p ∈ TL, K.lookup p.2 = none
  cd : ∀ p ∈ TL, PySem.W.CodeHd h p.1 p.2
/-- what stands in the abstract heap at the begin: the tables, and perhaps the script -/
structure BeginL (K : PySem.W.Frag) (h : Heap) (TL : List (Addr × Addr)) (H : Hp) : Prop where
  tab : ∀ p ∈ TL, H p.2 = some (.tbl #[])
  rest : ∀ b, (∀ p ∈ TL, b ≠ p.2) → H b = none ∨ ∃ o xs items n, H b = some (.frz o (.lst xs)) ∧ K.lookup b = none ∧ h.get? b = some o ∧ o.data = .seq items n
theorem end_fromL (KX : K.In s1.heap) (hns : s1.heap.Ns mainGlobals mg) (hb : s1.heap.Ns builtinsNs mb) (hbb : ∀ x : Str, x ≠ "__name__" → mb x = bootBuiltins x) (hlim : s1.heap.NoLimit) (hsy : SysB s1.heap) (hg : s1.gens = #[]) (hr : Room k callerA)
    (tt : TabsAt K s1.heap TL)
    (main : ∃ (m : Addr) (o : Obj), mg "__builtins__" = some (.ref m) ∧ m ≠ builtinsNs ∧ s1.heap.get? m = some o ∧ o.cls = .type "module" ∧ o.dict = some builtinsNs ∧ o.data = .plain)
    (F : ∀ base : Heap, K.In base → base.Ns mainGlobals mg → (∀ p ∈ TL, LamX.TabB base mg p.1 p.2) → SysB base → FnG P w K mg base CX0 k fa sp) {H : Hp} (B : BeginL K s1.heap TL H) (hok : HOk P w H s1.heap)
    (hsp : sp [.ref a] H (fun v _ => v = .bl true) fun _ _ _ => False) :
    codeAny (model P w) callerA (.call (.ref fa) ⟨[.ref a], []⟩) (fun r s' => r = .ok (.ret (.bool true)) ∧ OldK s1.heap s'.heap ∧ s'.os = s1.os ∧ AllBare s'.gens) s1 := by
  let base := hidT s1.heap H
  have free : ∀ {b : Addr} {o : Obj}, s1.heap.get? b = some o → (∀ items n, o.data ≠ .seq items n) → o.data ≠ .fields #[] → base.get? b = some o := fun {b o} e d1 d2 => by
    refine hidT_get e ?_
    by_cases q : ∃ p ∈ TL, b = p.2
    · obtain ⟨p, hp, rfl⟩ := q
      rw [tt.at_ p hp] at e
      cases e
      exact (d2 rfl).elim
    · rcases B.rest b (fun p hp z => q ⟨p, hp, z⟩) with z | ⟨o2, xs, items, n, _, _, e2, z⟩
      · exact z
      · rw [e] at e2
        cases e2
        exact (d1 _ _ z).elim
  have names : ∀ {b : Addr} {m : Str → Option Value}, s1.heap.Ns b m → base.Ns b m := fun z => by
    obtain ⟨o, es, ep, e, d, r⟩ := z
    exact ⟨o, es, ep, free e (fun _ _ y => by rw [d] at y; cases y) (fun y => by rw [d] at y; cases y), d, r⟩
  have hK : K.In base := fun b o e => by
    refine hidT_get (KX b o e) ?_
    by_cases q : ∃ p ∈ TL, b = p.2
    · obtain ⟨p, hp, rfl⟩ := q
      rw [tt.no p hp] at e
      cases e
    · rcases B.rest b (fun p hp z => q ⟨p, hp, z⟩) with z | ⟨o2, xs, items, n, _, z, _⟩
      · exact z
      · rw [e] at z
        cases z
  have lim : base.NoLimit := by
    obtain ⟨m, h1, h2⟩ := hlim
    exact ⟨m, names h1, h2⟩
  have TB : ∀ p ∈ TL, LamX.TabB base mg p.1 p.2 := fun p hp => by
    have eT := tt.at_ p hp
    refine ⟨?_, ?_, fun z => ?_⟩
    · obtain ⟨o, us, file, tf, flags, tg, inF, text, tx, e1, p1, p2, p3, p4, p5, p6, p7, p8, p9⟩ := tt.cd p hp
      exact ⟨o, us, file, tf, flags, tg, inF, text, tx, free e1 (fun _ _ y => by rw [p2] at y; cases y) (fun y => by rw [p2] at y; cases y; simp at p3), p1, p2, p3, p4, p5, p6, p7, p8, p9⟩
    · obtain ⟨m, o, q1, q2, q3, q4, q5, q6⟩ := main
      refine ⟨m, o, q1, q2, fun y => ?_, fun y => ?_, free q3 (fun _ _ y => by rw [q6] at y; cases y) (fun y => by rw [q6] at y; cases y), q4, q5, q6⟩
      · obtain ⟨og, es, ep, e, d, _⟩ := hns
        rw [y, e] at q3
        cases q3
        rw [q6] at d
        cases d
      · rw [y, eT] at q3
        cases q3
        cases q6
    · obtain ⟨og, es, ep, e, d, _⟩ := hns
      rw [z, eT] at e
      cases e
      cases d
  have e0 : Env0 P w K mg base callerA [] s1 H :=
    { frames := rfl, mod := ⟨hK, names hns, ⟨mb, names hb, hbb⟩, lim⟩, bs := fun b o e => of_hidT e, bsz := Nat.le_of_eq (hidT_size _ _), funs := trivial, frf := fun b hb => (List.not_mem_nil hb).elim, hok := hok, bare := .of_eq hg }
  refine codeAny_mono (F base hK (names hns) TB (let ⟨m, z⟩ := hsy; ⟨m, names z⟩) callerA [] s1 H [.ref a] [.ref a] _ _ hr rfl e0 (.cons rfl .nil) hsp) fun r s' h => ?_
  cases r with
  | error e => exact False.elim h
  | ok fl =>
    cases fl with
    | next => exact False.elim h
    | brk => exact False.elim h
    | cont => exact False.elim h
    | ret u =>
      obtain ⟨v, H2, os, bare, un, ok2, rv, q⟩ := h
      subst q
      cases rv
      have still : ∀ b o, (∀ p ∈ TL, b ≠ p.2) → s1.heap.get? b = some o → s'.heap.get? b = some o := fun b o nb e => by
        rcases B.rest b nb with z | ⟨o2, xs, items, n, z, _⟩
        · exact un.keep b o e z (fun y => List.not_mem_nil y) (fun y => List.not_mem_nil y)
        · have e1 := (hok b _ z).1
          have e2 := (ok2 b _ (un.frzs b o2 _ z)).1
          rw [e] at e1
          cases e1
          exact e2
      refine ⟨rfl, ⟨fun b o e => ?_, fun b o e => ?_⟩, os, bare⟩
      · by_cases q : ∃ p ∈ TL, b = p.2
        · obtain ⟨p, hp, rfl⟩ := q
          obtain ⟨more, z⟩ := un.tbls p.2 #[] (B.tab p hp)
          have wide := ok2 p.2 _ z
          have eT := tt.at_ p hp
          rw [eT] at e
          cases e
          exact .inr (.inl ⟨((tt.cd p hp).tab eT).isCodeTable, rfl, #[], _, rfl, by rw [Array.empty_append]; exact wide⟩)
        · exact .inl (still b o (fun p hp z => q ⟨p, hp, z⟩) e)
      · by_cases q : ∃ p ∈ TL, b = p.2
        · obtain ⟨p, hp, rfl⟩ := q
          obtain ⟨more, z⟩ := un.tbls p.2 #[] (B.tab p hp)
          exact ⟨_, ok2 p.2 _ z⟩
        · exact ⟨o, still b o (fun p hp z => q ⟨p, hp, z⟩) e⟩
theorem end_callL (KX : K.In s1.heap) (hns : s1.heap.Ns mainGlobals mg) (hb : s1.heap.Ns builtinsNs mb) (hbb : ∀ x : Str, x ≠ "__name__" → mb x = bootBuiltins x) (hlim : s1.heap.NoLimit) (hsy : SysB s1.heap) (hg : s1.gens = #[]) (hr : Room k callerA)
    (tt : TabsAt K s1.heap TL)
    (main : ∃ (m : Addr) (o : Obj), mg "__builtins__" = some (.ref m) ∧ m ≠ builtinsNs ∧ s1.heap.get? m = some o ∧ o.cls = .type "module" ∧ o.dict = some builtinsNs ∧ o.data = .plain)
    (ha : s1.heap.get? a = some { cls := .type "list", data := .seq vs.toArray }) (hi : IntsAre vs ns) (hl : ns.length ≤ sizeLine) (F : ∀ base : Heap, K.In base → base.Ns mainGlobals mg → (∀ p ∈ TL, LamX.TabB base mg p.1 p.2) → SysB base → FnG P w K mg base CX0 k fa sp)
    (hsp : ∀ H : Hp, (∀ p ∈ TL, H p.2 = some (.tbl #[])) → SqL K H a (ns.map V.int) → sp [.ref a] H (fun v _ => v = .bl true) fun _ _ _ => False) :
    codeAny (model P w) callerA (.call (.ref fa) ⟨[.ref a], []⟩) (fun r s' => r = .ok (.ret (.bool true)) ∧ OldK s1.heap s'.heap ∧ s'.os = s1.os ∧ AllBare s'.gens) s1 := by
  have rv := vals_ints hi
  have hl2 : (ns.map V.int).length ≤ sizeLine := by rw [List.length_map]; exact hl
  have naT : ∀ p ∈ TL, a ≠ p.2 := fun p hp z => by
    rw [z, tt.at_ p hp] at ha
    cases ha
  cases hk : K.lookup a with
  | some o =>
    have e := KX a o hk
    rw [ha] at e
    cases e
    let H : Hp := fun b => if b ∈ TL.map Prod.snd then some (.tbl #[]) else none
    have HT : ∀ p ∈ TL, H p.2 = some (.tbl #[]) := fun p hp => if_pos (List.mem_map_of_mem hp)
    have HN : ∀ b, (∀ p ∈ TL, b ≠ p.2) → H b = none := fun b n => if_neg fun z => by
      obtain ⟨p, hp, e⟩ := List.mem_map.mp z
      exact n p hp e.symm
    refine end_fromL KX hns hb hbb hlim hsy hg hr tt main F (H := H) ⟨HT, fun b n => .inl (HN b n)⟩ (fun b u z => ?_) (hsp H HT ?_)
    · by_cases q : ∃ p ∈ TL, b = p.2
      · obtain ⟨p, hp, rfl⟩ := q
        rw [HT p hp] at z
        cases z
        exact tt.at_ p hp
      · rw [HN b fun p hp y => q ⟨p, hp, y⟩] at z
        cases z
    · exact .inr ⟨_, vs.toArray, _, hk, rfl, rfl, rfl, by rw [List.size_toArray, hi.length]; exact hl, by simpa using rv⟩
  | none =>
    let o : Obj := { cls := .type "list", data := .seq vs.toArray }
    let H : Hp := fun b => if b = a then some (.frz o (.lst (ns.map V.int))) else if b ∈ TL.map Prod.snd then some (.tbl #[]) else none
    have HA : H a = some (.frz o (.lst (ns.map V.int))) := if_pos rfl
    have HT : ∀ p ∈ TL, H p.2 = some (.tbl #[]) := fun p hp => by show (if p.2 = a then _ else _) = _; rw [if_neg (Ne.symm (naT p hp)), if_pos (List.mem_map_of_mem hp)]
    have HN : ∀ b, b ≠ a → (∀ p ∈ TL, b ≠ p.2) → H b = none := fun b n n2 => by
      show (if b = a then _ else _) = _
      rw [if_neg n, if_neg fun z => by
        obtain ⟨p, hp, e⟩ := List.mem_map.mp z
        exact n2 p hp e.symm]
    refine end_fromL KX hns hb hbb hlim hsy hg hr tt main F (H := H) ⟨HT, fun b n => ?_⟩ (fun b u z => ?_) (hsp H HT (.inl (.inr ⟨_, HA⟩)))
    · by_cases q : b = a
      · subst q
        exact .inr ⟨o, _, _, _, HA, hk, ha, rfl⟩
      · exact .inl (HN b q n)
    · by_cases q : b = a
      · subst q
        rw [HA] at z
        cases z
        exact ⟨ha, hl2, vs, _, rv, ha⟩
      · by_cases q2 : ∃ p ∈ TL, b = p.2
        · obtain ⟨p, hp, rfl⟩ := q2
          rw [HT p hp] at z
          cases z
          exact tt.at_ p hp
        · rw [HN b q fun p hp y => q2 ⟨p, hp, y⟩] at z
          cases z
end
/-- what is to be known of the law's promise at the head's heap -/
def LawTL (l : PySem.W.OpenLaw) (w : World) (K : PySem.W.Frag) (k n : Nat) (mg : Str → Option Value) (fa : Addr) (h : Heap) : Prop :=
  ∃ (TL : List (Addr × Addr)) (sp : Sp), TabsAt K h TL ∧
    (∀ (H : Hp) (a : Addr) (ns : List Int), ns.length ≤ n → (∀ p ∈ TL, H p.2 = some (.tbl #[])) → SqL K H a (ns.map V.int) → sp [.ref a] H (fun v _ => v = .bl true) fun _ _ _ => False) ∧
    ∀ base : Heap, K.In base → base.Ns mainGlobals mg → (∀ p ∈ TL, LamX.TabB base mg p.1 p.2) → SysB base → FnG l.prog w K mg base CX0 k fa sp
theorem walk_ofTL {l : PySem.W.OpenLaw} {n k : Nat} {q : Program} {loose : List Str} {XP : (Str → Option Value) → Heap → Prop} {YP : World → Heap → Prop} {d : DefRec} {K : Params → PySem.W.Frag}
    (hi : importsNone q = true) (hn : l.most = some n) (hn2 : n ≤ sizeLine) (hdf : d.params.defaults = []) (hr : Room k callerA) (hY : ∀ (w : World) (h : Heap), YP w h → (K w.params).In h)
    (F : ∀ (w : World) (mg : Str → Option Value) (fa : Addr) (h : Heap), YP w h → (K w.params).In h → h.Ns mainGlobals mg → mg d.name = some (.ref fa) → LawTL l w (K w.params) k n mg fa h) :
    PySem.W.WalkO q loose XP YP l.row.toRowW d [] (fun f vs => PySem.call f vs) := by
  refine Att.attach_call hn hdf fun w s0 s1 mg mb fa o pm cd doc a vs ns G Y ho hd hcd hmg hobj hints hlen hg => ?_
  have KX := hY w _ Y
  obtain ⟨TL, sp, tt, hsp, hF⟩ := F w mg fa _ Y KX G.T.g hmg
  exact end_callL KX G.T.g G.T.b G.T.builtins G.T.nolimit (let ⟨m, z, _⟩ := (G.T.seer hi).mods; ⟨m, z⟩) hg hr tt G.T.bmain hobj hints (Nat.le_trans hlen hn2) hF fun H hH hS => hsp H a ns hlen hH hS
end Ow
end
section
set_option maxHeartbeats 4000000
/-! zip of two or three texts. -/
namespace Ow
open PySem PySem.Spec PyProof.Rows L2
/-- a walk whose items are new tuples with a known content -/
def ItZ (n : Nat) (f : Nat → List V) : It := ⟨fun i _ => i < n, fun i H v H' => ∃ T, v = .ref T ∧ H T = none ∧ H' = upd H T (.tup (f i)), fun i _ => n ≤ i⟩
theorem turn_walksT {P : Program} {w : World} {K : PySem.W.Frag} {elts : List Expr} {kk : Nat} {tpos : Pos} {I : Addr} {fp wr : List Addr} {n : Nat} {Pt : Nat → Array Value → Prop} {St : Nat → Heap → Prop} {Mid : Nat → Addr → Heap → Prop} {f : Nat → List V}
    (W : ∀ A : Around, A.in1.handled = none → WalksT P w A I fp wr n Pt St Mid) (hI : I ∈ fp) (hob : ∀ i h, St i h → ∀ b ∈ fp, ∃ o, h.get? b = some o ∧ ∀ v, o.data ≠ .cell v)
    (hPt : ∀ i vals, Pt i vals → Vals (f i) vals.toList ∧ (f i).length ≤ sizeLine) (hself : ∀ (A : Around) (i : Nat) (s : Shared) (Q E : Value → Shared → Prop), St i s.heap → Q (.ref I) s → wpAny (model P w) A (pyIter (.ref I)) Q E s) :
    Turn P w K (.Tuple elts kk tpos) (ItZ n f) fp I (fun i h => i ≤ n ∧ St i h) where
  mem := hI
  obj := fun i h st b hb => hob i h st.2 b hb
  keep := fun i h h' st k => by
    have W0 := W { callerA with handled := none } rfl
    exact ⟨st.1, W0.frame i h h' st.2 k⟩
  item := by
    intro X hP hw hK hc i pins s σ H E J hf st hg
    subst hP hw
    have W1 := W X.A (J.ok.hd hc)
    have hlt : i < n := hg
    have hlive : ∀ b ∈ fp, b < s.heap.objs.size := fun b hb => by
      obtain ⟨o, ho, _⟩ := hob i _ st.2 b hb
      exact Heap.lt_size ho
    refine W1.item i s _ E hlt st.2 fun T vals h' tk hp hT ht mid kk1 => ?_
    refine ⟨.ref T, rfl, W1.go elts kk tpos i T _ _ E mid fun h'' st'' kk2 => ?_⟩
    have nw : ∀ b, b ∉ fp → b ∉ wr := fun b hb z => hb (W1.sub b z)
    obtain ⟨rv, hl⟩ := hPt i vals hp
    obtain ⟨oT, h1, h2, h3, h4⟩ := ht
    have ht2 : h''.get? T = some oT := kk2 T oT (W1.apart i T _ mid) h1
    have new : ObjOk X.prog X.w (upd H T (.tup (f i))) h'' T (.tup (f i)) := ⟨hl, vals.toList, rv, ⟨oT, ht2, h2, h3, by simpa using h4⟩⟩
    have J1 : Inv X pins σ (upd H T (.tup (f i))) { s with heap := h'', toks := tk } :=
      J.turnedNew (ch := fp) (fun b o hb q => kk2 b o (nw b hb) (kk1 b o (nw b hb) q)) hf hT new
    exact ⟨.ref T, _, J1, rfl, ⟨T, rfl, J.hok.fresh hT, rfl⟩, ⟨hlt, st''⟩, fun b hb => by
      rw [upd_ne (Nat.ne_of_lt (Nat.lt_of_lt_of_le (hlive b hb) hT))]
      exact (hf b hb).1⟩
  done := by
    intro X hP hw hK hc i pins s σ H E J hf st hg
    subst hP hw
    have W1 := W X.A (J.ok.hd hc)
    have hle : n ≤ i := hg
    obtain ⟨h1, h2⟩ := st
    have e : i = n := by omega
    subst e
    exact W1.done s _ E h2 fun h' tk kk => ⟨rfl, J.turnedL (ch := fp) (fun b o hb q => kk b o (fun z => hb (W1.sub b z)) q) hf⟩
  self := fun A i s Q E st h => hself A i s Q E st.2 h
/-- the signs of texts at an index -/
def sgn (x : Str) (i : Nat) : V := .str ⟨#[x.cps.toList.getD i 0]⟩
def iZipS (ta : TA) : TI := fun σ H R => ta σ H fun vs H1 => ∃ x y : Str, vs = [.str x, .str y] ∧ R (ItZ (min x.cps.size y.cps.size) fun i => [sgn x i, sgn y i]) H1
def iZipS3 (ta : TA) : TI := fun σ H R => ta σ H fun vs H1 => ∃ x y z : Str, vs = [.str x, .str y, .str z] ∧ R (ItZ (min (min x.cps.size y.cps.size) z.cps.size) fun i => [sgn x i, sgn y i, sgn z i]) H1
theorem sgn_rel {x : Str} {i : Nat} {v : Value} (h : ∃ c u, x.cps[i]? = some c ∧ v = .str ⟨#[c]⟩ u) : RelV (sgn x i) v := by
  obtain ⟨c, u, h1, rfl⟩ := h
  refine ⟨u, ?_⟩
  have e : x.cps.toList.getD i 0 = c := by rw [List.getD_eq_getElem?_getD, Array.getElem?_toList, h1]; rfl
  rw [e]
theorem stri_ob {h : Heap} {a : Addr} {ty : String} {x : Str} {t : Tok} {i : Nat} (e : h.IsStrIter a ty x t i) : ∃ o, h.get? a = some o ∧ ∀ v, o.data ≠ .cell v := by
  obtain ⟨o, h1, _, h3⟩ := e
  exact ⟨o, h1, fun v z => by rw [h3] at z; cases z⟩
theorem pi_zipS {X : Cx} {e e2 : Expr} {ta : TA} {p pos tpos : Pos} {elts : List Expr} {kk : Nat} (hg : Gl X "zip") (hm : X.mg "zip" = none) (ha : PA X [e, e2] ta) (hs : starEach [e, e2] X.env = [(false, eval e X.env), (false, eval e2 X.env)] := by rfl) (hs2 : starEach [e2] X.env = [(false, eval e2 X.env)] := by rfl) :
    PI X (.Tuple elts kk tpos) (.Call (.Name "zip" p) [e, e2] [] pos) (iZipS ta) := by
  refine ⟨fun pins s σ H R I h => ?_⟩
  refine Call_ (ld_blt I hg hm boot_zip (PyProof.Rows.callWith_type1 (thn (ha.run pos pins s σ H _ I h) fun us s1 ⟨vs, H1, I1, r1, x, y, ex, q⟩ => ?_) (by rw [hs, hs2]) (by rw [hs2]; rfl)))
  subst ex
  obtain ⟨u, u2, rfl, ⟨t1, rfl⟩, ⟨t2, rfl⟩⟩ := vals2 r1
  refine zip_begins2 (begins_text x t1) (begins_text y t2) trivial trivial fun h' hz hTI hTO h1 h2 hsz hk => wpAny_pyIter_zip hz ?_
  have sep : ZipSep2 (s1.heap.objs.size + 4) (s1.heap.objs.size + 2) (s1.heap.objs.size + 3) s1.heap.objs.size (s1.heap.objs.size + 1) [s1.heap.objs.size] [s1.heap.objs.size + 1] := by
    constructor <;> simp <;> omega
  have fp : ∀ b ∈ ((s1.heap.objs.size + 4) :: (s1.heap.objs.size + 2) :: (s1.heap.objs.size + 3) :: ([s1.heap.objs.size] ++ [s1.heap.objs.size + 1])), FpOk X pins H1 b := fun b hb => by
    have hle : s1.heap.objs.size ≤ b := by
      simp only [List.mem_cons, List.mem_append, List.not_mem_nil, or_false] at hb
      omega
    exact I1.fpOk hle (I1.hok.fresh hle)
  refine ⟨s1.heap.objs.size + 4, _, _, _, H1, rfl, I1.kept (t' := s1.toks) hk, turn_walksT (f := fun i => [sgn x i, sgn y i]) (fun A hA => WalksT.zipD2 sep (Draws.text hA s1.heap.objs.size x t1) (Draws.text hA (s1.heap.objs.size + 1) y t2)) (by simp) (fun i h st b hb => ?_) (fun i vals hp => ?_) (fun A i s Q E st hq => wpAny_pyIter_zip st.1 hq), ⟨Nat.zero_le _, hz, hTI, ⟨_, _, hTO⟩, ⟨_, h1, rfl, rfl⟩, ⟨_, h2, rfl, rfl⟩⟩, fp, q⟩
  · obtain ⟨g1, g2, ⟨a1, a2, g3⟩, g4, g5⟩ := st
    simp only [List.mem_cons, List.mem_append, List.not_mem_nil, or_false] at hb
    rcases hb with rfl | rfl | rfl | rfl | rfl
    · exact ⟨_, g1, fun v z => by cases z⟩
    · exact ⟨_, g2, fun v z => by cases z⟩
    · exact ⟨_, g3, fun v z => by cases z⟩
    · exact stri_ob g4
    · exact stri_ob g5
  · obtain ⟨x1, x2, p1, p2, rfl⟩ := hp
    exact ⟨.cons (sgn_rel p1) (.cons (sgn_rel p2) .nil), by show 2 ≤ sizeLine; decide⟩
theorem pi_zipS3 {X : Cx} {e e2 e3 : Expr} {ta : TA} {p pos tpos : Pos} {elts : List Expr} {kk : Nat} (hg : Gl X "zip") (hm : X.mg "zip" = none) (ha : PA X [e, e2, e3] ta) (hs : starEach [e, e2, e3] X.env = [(false, eval e X.env), (false, eval e2 X.env), (false, eval e3 X.env)] := by rfl) (hs2 : starEach [e2, e3] X.env = [(false, eval e2 X.env), (false, eval e3 X.env)] := by rfl) :
    PI X (.Tuple elts kk tpos) (.Call (.Name "zip" p) [e, e2, e3] [] pos) (iZipS3 ta) := by
  refine ⟨fun pins s σ H R I h => ?_⟩
  refine Call_ (ld_blt I hg hm boot_zip (PyProof.Rows.callWith_type1 (thn (ha.run pos pins s σ H _ I h) fun us s1 ⟨vs, H1, I1, r1, x, y, zz, ex, q⟩ => ?_) (by rw [hs, hs2]) (by rw [hs2]; rfl)))
  subst ex
  obtain ⟨u, us2, rfl, ⟨t1, rfl⟩, r2⟩ : ∃ u us2, us = u :: us2 ∧ RelV (.str x) u ∧ Vals [.str y, .str zz] us2 := by
    cases r1 with
    | cons a b => exact ⟨_, _, rfl, a, b⟩
  obtain ⟨u2, u3, rfl, ⟨t2, rfl⟩, ⟨t3, rfl⟩⟩ := vals2 r2
  refine zip_begins3 (begins_text x t1) (begins_text y t2) (begins_text zz t3) trivial trivial trivial fun h' hz hTI hTO h1 h2 h3 hsz hk => wpAny_pyIter_zip hz ?_
  have sep : ZipSep3 (s1.heap.objs.size + 5) (s1.heap.objs.size + 3) (s1.heap.objs.size + 4) s1.heap.objs.size (s1.heap.objs.size + 1) (s1.heap.objs.size + 2) [s1.heap.objs.size] [s1.heap.objs.size + 1] [s1.heap.objs.size + 2] := by
    constructor <;> simp <;> omega
  have fp : ∀ b ∈ ((s1.heap.objs.size + 5) :: (s1.heap.objs.size + 3) :: (s1.heap.objs.size + 4) :: ([s1.heap.objs.size] ++ [s1.heap.objs.size + 1] ++ [s1.heap.objs.size + 2])), FpOk X pins H1 b := fun b hb => by
    have hle : s1.heap.objs.size ≤ b := by
      simp only [List.mem_cons, List.mem_append, List.not_mem_nil, or_false] at hb
      omega
    exact I1.fpOk hle (I1.hok.fresh hle)
  refine ⟨s1.heap.objs.size + 5, _, _, _, H1, rfl, I1.kept (t' := s1.toks) hk, turn_walksT (f := fun i => [sgn x i, sgn y i, sgn zz i]) (fun A hA => WalksT.zipD3 sep (Draws.text hA s1.heap.objs.size x t1) (Draws.text hA (s1.heap.objs.size + 1) y t2) (Draws.text hA (s1.heap.objs.size + 2) zz t3)) (by simp) (fun i h st b hb => ?_) (fun i vals hp => ?_) (fun A i s Q E st hq => wpAny_pyIter_zip st.1 hq), ⟨Nat.zero_le _, hz, hTI, ⟨_, _, _, hTO⟩, ⟨_, h1, rfl, rfl⟩, ⟨_, h2, rfl, rfl⟩, ⟨_, h3, rfl, rfl⟩⟩, fp, q⟩
  · obtain ⟨g1, g2, ⟨a1, a2, a3, g3⟩, g4, g5, g6⟩ := st
    simp only [List.mem_cons, List.mem_append, List.not_mem_nil, or_false] at hb
    rcases hb with rfl | rfl | rfl | (rfl | rfl) | rfl
    · exact ⟨_, g1, fun v z => by cases z⟩
    · exact ⟨_, g2, fun v z => by cases z⟩
    · exact ⟨_, g3, fun v z => by cases z⟩
    · exact stri_ob g4
    · exact stri_ob g5
    · exact stri_ob g6
  · obtain ⟨x1, x2, x3, p1, p2, p3, rfl⟩ := hp
    exact ⟨.cons (sgn_rel p1) (.cons (sgn_rel p2) (.cons (sgn_rel p3) .nil)), by show 3 ≤ sizeLine; decide⟩
/-- as a walk -/
theorem walk_Z {n : Nat} {f : Nat → List V} : Walk (ItZ n f) n (fun _ => True) (fun i H v H' => ∃ T, v = .ref T ∧ H T = none ∧ H' = upd H T (.tup (f i))) := by
  refine ⟨fun i _ hi _ => hi, fun _ _ => Nat.le_refl _, fun i H v H' _ _ y => y⟩
end Ow
end
section
set_option maxHeartbeats 4000000
/-! list(zip(a, b)), a and b tuples. -/
namespace Ow
open PySem PySem.Spec PyProof.Rows L2
section
variable {prog : Program} {w : World} {A : Around} {E : Value → Shared → Prop} {s : Shared} {z TI TO i1 i2 : Addr} {fp1 fp2 : List Addr} {n1 n2 i : Nat} {P1 P2 : Nat → Value → Prop} {St1 St2 : Nat → Heap → Prop} {Q : Value → Shared → Prop}
/-- a zip whose last pair is kept by someone -/
def IsZipH (h : Heap) (z TI TO : Addr) (T : Addr) (b : Bool) : Prop := h.get? z = some { cls := .type "zip", data := .fields #[rawInt (T : Nat), .bool b, .bool false, .ref TI, .ref TO] }
theorem zip_notfree {T : Addr} {b : Bool} {oT : Obj} {K' : Bool → Shared → Prop} (hz : IsZipH s.heap z TI TO T b) (hT : s.heap.get? T = some oT) (k : ∀ h', IsZipH h' z TI TO T true → Heap.SameBut z s.heap h' → K' false { s with heap := h' }) :
    wpAny (model prog w) A (Builtin.SmallTypes.ownedTupleIsFree (.ref z)) K' E s := by
  obtain ⟨hp, g, d, tk0, os⟩ := s
  show wpAny _ _ (field (.ref z) 0 >>= _) _ _ _
  refine wpAny_bind (wpAny_field hz rfl rfl ?_)
  show wpAny _ _ (loadIfAlive T >>= _) _ _ _
  refine wpAny_bind (W.kdx_alive hT ?_)
  show wpAny _ _ (field (.ref z) 1 >>= _) _ _ _
  refine wpAny_bind (wpAny_field hz rfl rfl ?_)
  cases b with
  | true => exact wpAny_pure (k hp hz ⟨rfl, fun _ _ => rfl⟩)
  | false =>
    show wpAny _ _ (setField (.ref z) 1 (.bool true) >>= _) _ _ _
    exact wpAny_bind (wpAny_setField_rec hz (by show 1 < 5; decide) fun g0 hz0 hs0 => wpAny_pure (k g0 hz0 hs0))
theorem zip2_held (S : ZipSep2 z TI TO i1 i2 fp1 fp2) (D1 : Draws prog w A i1 fp1 n1 P1 St1) (D2 : Draws prog w A i2 fp2 n2 P2 St2) {T : Addr} {b : Bool} {oT : Obj} (hz : IsZipH s.heap z TI TO T b) (hT : s.heap.get? T = some oT) (hTI : IsTupOf2 s.heap TI (.ref i1) (.ref i2)) (st1 : St1 i s.heap) (st2 : St2 i s.heap) (lt1 : i < n1) (lt2 : i < n2)
    (hQ : ∀ (x1 x2 : Value) (h' : Heap) (tk : Nat), P1 i x1 → P2 i x2 → IsZipH h' z TI TO T true → St1 (i + 1) h' → St2 (i + 1) h' → IsTupOf2 h' s.heap.objs.size x1 x2 → h'.objs.size = s.heap.objs.size + 1 → (∀ (c : Addr) (o : Obj), c ≠ z → c ≠ i1 → c ≠ i2 → s.heap.get? c = some o → h'.get? c = some o) → Q (.ref s.heap.objs.size) { s with heap := h', toks := tk }) :
    wpAny (model prog w) A (Builtin.«zip.__next__» { pos := [Value.ref z] }) (fun fin s' => ∃ v, fin = Fin.done (Flow.ret v) ∧ Q v s') E s := by
  obtain ⟨hp, g, d, tk0, os⟩ := s
  show wpAny _ _ (field (.ref z) 2 >>= _) _ _ _
  refine wpAny_bind (wpAny_field hz rfl rfl ?_)
  refine wpAny_bind (wpAny_field hz rfl rfl ?_)
  refine wpAny_bind (wpAny_seqItems hTI rfl ?_)
  show wpAny _ _ (Builtin.SmallTypes.ownedTupleIsFree (.ref z) >>= _) _ _ _
  refine wpAny_bind (zip_notfree hz hT fun g0 hz0 hs0 => ?_)
  simp only [Bool.false_eq_true, if_false]
  refine wpAny_bind ?_
  rw [← Array.forIn_toList]
  simp only [List.forIn_cons, List.forIn_nil]
  refine wpAny_bind ?_
  refine wpAny_bind (wpAny_holding ?_)
  show wpAny _ _ (Builtin.SmallTypes.nextOf (.ref i1) >>= _) _ _ _
  refine wpAny_bind (D1.item i _ _ _ lt1 (D1.over st1 hs0 S.zf1) fun x1 p1 tk1 hx1 sn1 hp1 => ?_)
  refine wpAny_pure (wpAny_pure (wpAny_bind (wpAny_bind (wpAny_holding ?_))))
  show wpAny _ _ (Builtin.SmallTypes.nextOf (.ref i2) >>= _) _ _ _
  refine wpAny_bind (D2.item i _ _ _ lt2 (D2.over (D2.over st2 hs0 S.zf2) hp1 S.sep1_2) fun x2 p2 tk2 hx2 sn2 hp2 => ?_)
  refine wpAny_pure (wpAny_pure (wpAny_pure ?_))
  show wpAny _ _ (newTuple [x1, x2] >>= _) _ _ _
  refine wpAny_bind (wpAny_newTuple ?_ (by show 2 ≤ sizeLine; decide))
  have hsz : p2.objs.size = hp.objs.size := by rw [hp2.1, hp1.1, hs0.1]
  have zi1 : z ≠ i1 := fun e => S.zf1 (e ▸ S.mem1)
  have zi2 : z ≠ i2 := fun e => S.zf2 (e ▸ S.mem2)
  have hz2 : p2.get? z = some { cls := .type "zip", data := .fields #[rawInt (T : Nat), .bool true, .bool false, .ref TI, .ref TO] } := hp2.extBut z _ zi2 (hp1.extBut z _ zi1 hz0)
  have j1 := D1.over sn1 hp2 S.sep2_1
  refine wpAny_pure ⟨.ref p2.objs.size, rfl, ?_⟩
  have q := hQ x1 x2 (p2.push { cls := .type "tuple", data := .seq #[x1, x2] }) tk2 hx1 hx2 (Heap.get?_push_of_some _ hz2) (D1.frame (i + 1) p2 _ j1 fun b hb o e => Heap.get?_push_of_some _ e) (D2.frame (i + 1) p2 _ sn2 fun b hb o e => Heap.get?_push_of_some _ e)
    (by show (p2.push _).get? hp.objs.size = _; rw [← hsz]; exact Heap.get?_push_size _ rfl) (by rw [Heap.size_push, hsz]) (fun c o c0 c1 c2 e => Heap.get?_push_of_some _ (hp2.extBut c o c2 (hp1.extBut c o c1 (hs0.extBut c o c0 e))))
  rw [show (Value.ref p2.objs.size) = Value.ref hp.objs.size from by rw [hsz]]
  exact q
theorem zip2_held_end (S : ZipSep2 z TI TO i1 i2 fp1 fp2) (D1 : Draws prog w A i1 fp1 n1 P1 St1) {T : Addr} {b : Bool} {oT : Obj} {R : PySem.Fin → Shared → Prop} (hz : IsZipH s.heap z TI TO T b) (hT : s.heap.get? T = some oT) (hTI : IsTupOf2 s.heap TI (.ref i1) (.ref i2)) (st1 : St1 n1 s.heap)
    (hE : ∀ (h' : Heap) (e : Addr), (∀ (c : Addr) (o : Obj), c ≠ z → c ≠ i1 → s.heap.get? c = some o → h'.get? c = some o) → (∃ o, h'.get? e = some o ∧ o.cls = .type "StopIteration") → E (.ref e) { s with heap := h' }) :
    wpAny (model prog w) A (Builtin.«zip.__next__» { pos := [Value.ref z] }) R E s := by
  obtain ⟨hp, g, d, tk0, os⟩ := s
  show wpAny _ _ (field (.ref z) 2 >>= _) _ _ _
  refine wpAny_bind (wpAny_field hz rfl rfl ?_)
  refine wpAny_bind (wpAny_field hz rfl rfl ?_)
  refine wpAny_bind (wpAny_seqItems hTI rfl ?_)
  show wpAny _ _ (Builtin.SmallTypes.ownedTupleIsFree (.ref z) >>= _) _ _ _
  refine wpAny_bind (zip_notfree hz hT fun g0 hz0 hs0 => ?_)
  simp only [Bool.false_eq_true, if_false]
  refine wpAny_bind ?_
  rw [← Array.forIn_toList]
  simp only [List.forIn_cons, List.forIn_nil]
  refine wpAny_bind ?_
  refine wpAny_bind (wpAny_holding ?_)
  show wpAny _ _ (Builtin.SmallTypes.nextOf (.ref i1) >>= _) _ _ _
  exact wpAny_bind (D1.done _ _ _ (D1.over st1 hs0 S.zf1) fun h' e x h2 => hE h' e (fun c o c0 c1 q => x c o c1 (hs0.extBut c o c0 q)) h2)
end
section
variable {prog : Program} {w : World} {A : Around} {E : Value → Shared → Prop} {s : Shared} {z TI TO i1 i2 : Addr} {fp1 fp2 : List Addr} {n1 n2 i : Nat} {P1 P2 : Nat → Value → Prop} {St1 St2 : Nat → Heap → Prop} {Q : Option Value → Shared → Prop}
theorem pyNext_held (S : ZipSep2 z TI TO i1 i2 fp1 fp2) (D1 : Draws prog w A.in1 i1 fp1 n1 P1 St1) (D2 : Draws prog w A.in1 i2 fp2 n2 P2 St2) {T : Addr} {b : Bool} {oT : Obj} (hz : IsZipH s.heap z TI TO T b) (hT : s.heap.get? T = some oT) (hTI : IsTupOf2 s.heap TI (.ref i1) (.ref i2)) (st1 : St1 i s.heap) (st2 : St2 i s.heap) (lt1 : i < n1) (lt2 : i < n2)
    (hQ : ∀ (x1 x2 : Value) (h' : Heap) (tk : Nat), P1 i x1 → P2 i x2 → IsZipH h' z TI TO T true → St1 (i + 1) h' → St2 (i + 1) h' → IsTupOf2 h' s.heap.objs.size x1 x2 → h'.objs.size = s.heap.objs.size + 1 → (∀ (c : Addr) (o : Obj), c ≠ z → c ≠ i1 → c ≠ i2 → s.heap.get? c = some o → h'.get? c = some o) → Q (some (.ref s.heap.objs.size)) { s with heap := h', toks := tk }) :
    wpAny (model prog w) A (pyNext (.ref z)) Q E s := by
  have ty : s.TypeIs (.ref z) "zip" := ⟨_, hz, rfl⟩
  unfold pyNext
  refine wpAny_bind (wpAny_attempt (wpAny_callSpecial?_slot (name := Str.ofString "__next__") ty F.slot_zip_next (wpAny_call_entry F.slot_zip_next ty F.entry_zip_next ?_ (F.args_zip_next_1 _))))
  refine zip2_held S D1 D2 hz hT hTI st1 st2 lt1 lt2 fun x1 x2 h' tk p1 p2 z1 s1 s2 t1 t2 t3 => ?_
  exact wpAny_pure (hQ x1 x2 h' tk p1 p2 z1 s1 s2 t1 t2 t3)
theorem pyNext_held_end (hh : A.in1.handled = none) (S : ZipSep2 z TI TO i1 i2 fp1 fp2) (D1 : Draws prog w A.in1 i1 fp1 n1 P1 St1) {T : Addr} {b : Bool} {oT : Obj} (hz : IsZipH s.heap z TI TO T b) (hT : s.heap.get? T = some oT) (hTI : IsTupOf2 s.heap TI (.ref i1) (.ref i2)) (st1 : St1 n1 s.heap)
    (hQ : ∀ (h' : Heap), (∀ (c : Addr) (o : Obj), c ≠ z → c ≠ i1 → s.heap.get? c = some o → h'.get? c = some o) → Q none { s with heap := h' }) :
    wpAny (model prog w) A (pyNext (.ref z)) Q E s := by
  have ty : s.TypeIs (.ref z) "zip" := ⟨_, hz, rfl⟩
  unfold pyNext
  refine wpAny_bind (wpAny_attempt (wpAny_callSpecial?_slot (name := Str.ofString "__next__") ty F.slot_zip_next (wpAny_call_entry F.slot_zip_next ty F.entry_zip_next ?_ (F.args_zip_next_1 _))))
  refine zip2_held_end S D1 hz hT hTI st1 fun h' e x hc => ?_
  obtain ⟨o, ho, hc⟩ := hc
  exact wpAny_bind (wpAny_isInstance (T := "StopIteration") (b := true) ⟨o, ho, hc⟩ isSubtype_stop (wpAny_pure (hQ h' x)))
end
end Ow
end
section
set_option maxHeartbeats 4000000
namespace Ow
open PySem PySem.Spec PyProof.Rows L2
section
variable {prog : Program} {w : World} {A : Around} {z TI TO i1 i2 t1 t2 : Addr} {xs ys : Array Value}
/-- a list at S that is being filled with the pairs of a zip: so far those at Ts -/
structure Fill (h0 : Heap) (z TI TO i1 i2 t1 t2 S : Addr) (xs ys : Array Value) (i : Nat) (Ts : List Addr) (h : Heap) : Prop where
  len : Ts.length = i
  lst : ∃ c, h.get? S = some { cls := .type "list", data := .seq (Ts.map Value.ref).toArray c }
  zip : (i = 0 ∧ IsZip h z TI TO .none ∧ ∃ a1 a2, IsTupOf2 h TO a1 a2) ∨ ∃ T b, T ∈ Ts ∧ IsZipH h z TI TO T b
  ti : IsTupOf2 h TI (.ref i1) (.ref i2)
  s1 : h.IsTupleIter i1 t1 i ∧ h.IsTuple t1 xs
  s2 : h.IsTupleIter i2 t2 i ∧ h.IsTuple t2 ys
  at_ : ∀ (j : Nat) (T : Addr), Ts[j]? = some T → ∃ x y, xs[j]? = some x ∧ ys[j]? = some y ∧ IsTupOf2 h T x y
  new : ∀ T ∈ Ts, h0.objs.size ≤ T
  nd : Ts.Nodup
  keep : ∀ b o, h0.get? b = some o → b ≠ z → b ≠ TO → b ≠ i1 → b ≠ i2 → b ≠ S → h.get? b = some o
  size : h0.objs.size ≤ h.objs.size
  lt : ∀ T ∈ Ts, T < h.objs.size
/-- the list is full -/
structure Filled (h0 : Heap) (z TO i1 i2 S : Addr) (xs ys : Array Value) (n : Nat) (Ts : List Addr) (h : Heap) : Prop where
  len : Ts.length = n
  lst : ∃ c, h.get? S = some { cls := .type "list", data := .seq (Ts.map Value.ref).toArray c }
  at_ : ∀ (j : Nat) (T : Addr), Ts[j]? = some T → ∃ x y, xs[j]? = some x ∧ ys[j]? = some y ∧ IsTupOf2 h T x y
  new : ∀ T ∈ Ts, h0.objs.size ≤ T
  nd : Ts.Nodup
  keep : ∀ b o, h0.get? b = some o → b ≠ z → b ≠ TO → b ≠ i1 → b ≠ i2 → b ≠ S → h.get? b = some o
/-- how the parts of a zip stand to each other and to the list -/
structure Parts (h0 : Heap) (z TI TO i1 i2 t1 t2 S : Addr) : Prop where
  sep : ZipSep2 z TI TO i1 i2 [i1, t1] [i2, t2]
  n1 : t1 ≠ i1
  n2 : t2 ≠ i2
  sz : z ≠ S ∧ TI ≠ S ∧ TO ≠ S ∧ i1 ≠ S ∧ i2 ≠ S ∧ t1 ≠ S ∧ t2 ≠ S
  old : z < h0.objs.size ∧ TI < h0.objs.size ∧ TO < h0.objs.size ∧ i1 < h0.objs.size ∧ i2 < h0.objs.size ∧ S < h0.objs.size
theorem Fill.step {h0 h h' : Heap} {S : Addr} {i T : Nat} {Ts : List Addr} {x y : Value} {c : Nat} (J : Fill h0 z TI TO i1 i2 t1 t2 S xs ys i Ts h) (Pt : Parts h0 z TI TO i1 i2 t1 t2 S)
    (hx : xs[i]? = some x) (hy : ys[i]? = some y) (hT : T = h.objs.size) (hz : ∃ T0 b, T0 ∈ Ts ++ [T] ∧ IsZipH h' z TI TO T0 b) (s1 : h'.IsTupleIter i1 t1 (i + 1) ∧ h'.IsTuple t1 xs) (s2 : h'.IsTupleIter i2 t2 (i + 1) ∧ h'.IsTuple t2 ys)
    (ht : IsTupOf2 h' T x y) (hs : h'.objs.size = h.objs.size + 1) (hk : ∀ (c : Addr) (o : Obj), c ≠ z → c ≠ TO → c ≠ i1 → c ≠ i2 → c ≠ S → h.get? c = some o → h'.get? c = some o)
    (hl : h'.get? S = some { cls := .type "list", data := .seq ((Ts ++ [T]).map Value.ref).toArray c }) :
    Fill h0 z TI TO i1 i2 t1 t2 S xs ys (i + 1) (Ts ++ [T]) h' := by
  obtain ⟨o1, o2, o3, o4, o5, o6⟩ := Pt.old
  have big : ∀ T0 ∈ Ts, T0 ≠ z ∧ T0 ≠ TO ∧ T0 ≠ i1 ∧ T0 ≠ i2 ∧ T0 ≠ S := fun T0 hm => by
    have := J.new T0 hm
    exact ⟨Nat.ne_of_gt (Nat.lt_of_lt_of_le o1 this), Nat.ne_of_gt (Nat.lt_of_lt_of_le o3 this), Nat.ne_of_gt (Nat.lt_of_lt_of_le o4 this), Nat.ne_of_gt (Nat.lt_of_lt_of_le o5 this), Nat.ne_of_gt (Nat.lt_of_lt_of_le o6 this)⟩
  refine ⟨by rw [List.length_append, J.len]; rfl, ⟨c, hl⟩, .inr hz, ?_, s1, s2, fun j T0 hj => ?_, fun T0 hm => ?_, ?_, fun b o e a1 a2 a3 a4 a5 => hk b o a1 a2 a3 a4 a5 (J.keep b o e a1 a2 a3 a4 a5), by have := J.size; omega, fun T0 hm => ?_⟩
  · exact hk TI _ Pt.sep.TIz Pt.sep.TITO Pt.sep.TIi1 Pt.sep.TIi2 Pt.sz.2.1 J.ti
  · by_cases hlt : j < Ts.length
    · rw [List.getElem?_append_left hlt] at hj
      obtain ⟨x0, y0, e1, e2, e3⟩ := J.at_ j T0 hj
      obtain ⟨b1, b2, b3, b4, b5⟩ := big T0 (List.mem_of_getElem? hj)
      exact ⟨x0, y0, e1, e2, hk T0 _ b1 b2 b3 b4 b5 e3⟩
    · rw [List.getElem?_append_right (by omega)] at hj
      have hj0 : j - Ts.length = 0 := by
        by_cases q : j - Ts.length = 0
        · exact q
        · rw [List.getElem?_eq_none (by simp; omega)] at hj
          cases hj
      rw [hj0] at hj
      cases hj
      have e : j = i := by have := J.len; omega
      subst e
      exact ⟨x, y, hx, hy, ht⟩
  · rcases List.mem_append.mp hm with h1 | h1
    · exact J.new T0 h1
    · rw [List.mem_singleton.mp h1, hT]
      exact J.size
  · refine List.nodup_append.mpr ⟨J.nd, by simp, fun a ha b hb e => ?_⟩
    rw [List.mem_singleton.mp hb, hT] at e
    exact absurd e (Nat.ne_of_lt (J.lt a ha))
  · rcases List.mem_append.mp hm with h1 | h1
    · exact Nat.lt_of_lt_of_le (J.lt T0 h1) (by rw [hs]; exact Nat.le_succ _)
    · rw [List.mem_singleton.mp h1, hT, hs]
      exact Nat.lt_succ_self _
/-- the loop that fills the list -/
theorem extend_zip {R : Result → Shared → Prop} {h0 : Heap} {S : Addr} {res : Value} {n : Nat} (hh : A.handled = none) (Pt : Parts h0 z TI TO i1 i2 t1 t2 S) (n1 : xs.size = n) (n2 : ys.size = n) (n0 : 0 < n) (hn : n ≤ sizeLine) (g : Array GenState) (d : Drawn) (os : OsState)
    (hR : ∀ (Ts : List Addr) (h' : Heap) (tk : Nat), Filled h0 z TO i1 i2 S xs ys n Ts h' → R (.ok (.ret res)) { heap := h', gens := g, drawn := d, toks := tk, os := os }) :
    ∀ (k i : Nat) (h : Heap) (tk : Nat) (Ts : List Addr), n - i = k → i ≤ n → Fill h0 z TI TO i1 i2 t1 t2 S xs ys i Ts h → codeAny (model prog w) A (.builtin "list.extend.loop" ⟨[.ref S, .ref z, res], []⟩) R { heap := h, gens := g, drawn := d, toks := tk, os := os }
  | 0, i, h, tk, Ts, hk, hi, J => by
    have e : i = n := by omega
    subst e
    obtain ⟨T0, b, hm, hz⟩ : ∃ T b, T ∈ Ts ∧ IsZipH h z TI TO T b := by
      rcases J.zip with ⟨q, _⟩ | q
      · omega
      · exact q
    obtain ⟨j, hj⟩ := List.getElem?_of_mem hm
    obtain ⟨x0, y0, _, _, e3⟩ := J.at_ j T0 hj
    have D1 := Draws.tuple (prog := prog) (w := w) (A := A.in1.in1) hh i1 t1 Pt.n1 xs
    have D2 := Draws.tuple (prog := prog) (w := w) (A := A.in1.in1) hh i2 t2 Pt.n2 ys
    obtain ⟨c, hS⟩ := J.lst
    refine codeAny_builtin F.entry_extend_loop ?_
    rw [Around.under_plainId F.plain_extend_loop _]
    show wpAny _ _ (pyNext (.ref z) >>= _) _ _ _
    refine wpAny_bind (pyNext_held_end (s := { heap := h, gens := g, drawn := d, toks := tk, os := os }) hh Pt.sep D1 hz e3 J.ti (by rw [n1]; exact J.s1) fun h' x => ?_)
    have keepAll : ∀ b o, h.get? b = some o → b ≠ z → b ≠ i1 → h'.get? b = some o := fun b o e a1 a2 => x b o a1 a2 e
    refine wpAny_pure (hR Ts h' tk ?_)
    obtain ⟨o1, o2, o3, o4, o5, o6⟩ := Pt.old
    refine ⟨J.len, ⟨c, keepAll S _ hS (Ne.symm Pt.sz.1) (Ne.symm Pt.sz.2.2.2.1)⟩, fun j T hj => ?_, J.new, J.nd, fun b o e a1 a2 a3 a4 a5 => keepAll b o (J.keep b o e a1 a2 a3 a4 a5) a1 a3⟩
    obtain ⟨x1, y1, q1, q2, q3⟩ := J.at_ j T hj
    have := J.new T (List.mem_of_getElem? hj)
    exact ⟨x1, y1, q1, q2, keepAll T _ q3 (Nat.ne_of_gt (Nat.lt_of_lt_of_le o1 this)) (Nat.ne_of_gt (Nat.lt_of_lt_of_le o4 this))⟩
  | k + 1, i, h, tk, Ts, hk, hi, J => by
    have hlt : i < n := by omega
    obtain ⟨c, hS⟩ := J.lst
    refine codeAny_builtin F.entry_extend_loop ?_
    rw [Around.under_plainId F.plain_extend_loop _]
    show wpAny _ _ (pyNext (.ref z) >>= _) _ _ _
    have D1 := Draws.tuple (prog := prog) (w := w) (A := A.in1.in1) hh i1 t1 Pt.n1 xs
    have D2 := Draws.tuple (prog := prog) (w := w) (A := A.in1.in1) hh i2 t2 Pt.n2 ys
    have next : ∀ (x1 x2 : Value) (h' : Heap) (tk' : Nat), xs[i]? = some x1 → ys[i]? = some x2 → (∃ T0 b, T0 ∈ Ts ++ [h.objs.size] ∧ IsZipH h' z TI TO T0 b) → (h'.IsTupleIter i1 t1 (i + 1) ∧ h'.IsTuple t1 xs) → (h'.IsTupleIter i2 t2 (i + 1) ∧ h'.IsTuple t2 ys) → IsTupOf2 h' h.objs.size x1 x2 → h'.objs.size = h.objs.size + 1 →
        (∀ (c : Addr) (o : Obj), c ≠ z → c ≠ TO → c ≠ i1 → c ≠ i2 → h.get? c = some o → h'.get? c = some o) →
        wpAny (model prog w) A.in1 (do
          Builtin.List.listUpdate (.ref S) fun x_1 => x_1.push (.ref h.objs.size)
          again (Code.builtin "list.extend.loop" ⟨[.ref S, .ref z, res], []⟩)) (fun fin s' => match fin with
          | Fin.done f => R (.ok f) s'
          | Fin.again c' => c'.quiet = true ∧ codeAny (model prog w) A c' R s') (fun e s' => R (.error e) s') { heap := h', gens := g, drawn := d, toks := tk', os := os } := by
      intro x1 x2 h' tk' p1 p2 hz s1 s2 ht hs hk
      have hS' := hk S _ (Ne.symm Pt.sz.1) (Ne.symm Pt.sz.2.2.1) (Ne.symm Pt.sz.2.2.2.1) (Ne.symm Pt.sz.2.2.2.2.1) hS
      refine wpAny_bind (wpAny_updateSeq hS' rfl (wpAny_pure ⟨plainId_quiet F.plain_extend_loop _, ?_⟩) ?_ ?_)
      · have up := fun (b : Addr) (o : Obj) (hb : b ≠ S) (e : h'.get? b = some o) => (Heap.get?_update_other h' (Obj.mapSeq fun x => x.push (.ref h.objs.size)) (Ne.symm hb)).trans e
        refine extend_zip hh Pt n1 n2 n0 hn g d os hR k (i + 1) _ tk' (Ts ++ [h.objs.size]) (by omega) hlt ?_
        have st1 := D1.frame (i + 1) h' (h'.update S (Obj.mapSeq fun x => x.push (.ref h.objs.size))) s1 fun b hb o e => up b o (by
          rcases List.mem_cons.mp hb with rfl | hb
          · exact Pt.sz.2.2.2.1
          · rw [List.mem_singleton.mp hb]; exact Pt.sz.2.2.2.2.2.1) e
        have st2 := D2.frame (i + 1) h' (h'.update S (Obj.mapSeq fun x => x.push (.ref h.objs.size))) s2 fun b hb o e => up b o (by
          rcases List.mem_cons.mp hb with rfl | hb
          · exact Pt.sz.2.2.2.2.1
          · rw [List.mem_singleton.mp hb]; exact Pt.sz.2.2.2.2.2.2) e
        obtain ⟨T0, b, hm, hz⟩ := hz
        have nS : h.objs.size ≠ S := Nat.ne_of_gt (Nat.lt_of_lt_of_le Pt.old.2.2.2.2.2 J.size)
        have hl := Heap.get?_update_self (Obj.mapSeq fun x => x.push (.ref h.objs.size)) hS' rfl
        refine J.step (c := c + 1) Pt p1 p2 rfl ⟨T0, b, hm, up z _ Pt.sz.1 hz⟩ st1 st2 (up _ _ nS ht) (by rw [Heap.size_update]; exact hs) (fun c o c0 c1 c2 c3 c4 e => up c o c4 (hk c o c0 c1 c2 c3 e)) (hl.trans ?_)
        unfold Obj.mapSeq
        simp
      · rw [List.size_toArray, List.length_map, J.len]
        exact Nat.le_trans hi hn
      · rw [Array.size_push, List.size_toArray, List.length_map, J.len]
        exact Nat.succ_le_succ (Nat.le_trans hi hn)
    rcases J.zip with ⟨rfl, hz, a1, a2, hTO⟩ | ⟨T0, b, hm, hz⟩
    · refine wpAny_bind (wpAny_pyNext_zipD2_item (s := { heap := h, gens := g, drawn := d, toks := tk, os := os }) Pt.sep D1 D2 hz J.ti hTO J.s1 J.s2 (by omega) (by omega) fun x1 x2 h' tk' p1 p2 z1 t1' s1 s2 ht hs hk => ?_)
      exact next x1 x2 h' tk' p1 p2 ⟨h.objs.size, false, List.mem_append.mpr (.inr (List.mem_singleton.mpr rfl)), z1⟩ s1 s2 ht hs hk
    · obtain ⟨j, hj⟩ := List.getElem?_of_mem hm
      obtain ⟨x0, y0, _, _, e3⟩ := J.at_ j T0 hj
      refine wpAny_bind (pyNext_held (s := { heap := h, gens := g, drawn := d, toks := tk, os := os }) Pt.sep D1 D2 hz e3 J.ti J.s1 J.s2 (by omega) (by omega) fun x1 x2 h' tk' p1 p2 z1 s1 s2 ht hs hk => ?_)
      exact next x1 x2 h' tk' p1 p2 ⟨T0, true, List.mem_append.mpr (.inl hm), z1⟩ s1 s2 ht hs fun c o c0 c1 c2 c3 e => hk c o c0 c2 c3 e
end
end Ow
end
section
set_option maxHeartbeats 4000000
namespace Ow
open PySem PySem.Spec PyProof.Rows L2
theorem zip_no_len : typeLookup (Value.type "zip") (Str.ofString "__len__") = pure none := by with_unfolding_all rfl
theorem zip_no_hint : typeLookup (Value.type "zip") (Str.ofString "__length_hint__") = pure none := by with_unfolding_all rfl
section
variable {prog : Program} {w : World} {A : Around} {z TI TO i1 i2 t1 t2 : Addr} {xs ys : Array Value}
theorem extendWith_zip {R : Result → Shared → Prop} {h0 : Heap} {S : Addr} {res : Value} {n : Nat} (hh : A.handled = none) (Pt : Parts h0 z TI TO i1 i2 t1 t2 S) (n1 : xs.size = n) (n2 : ys.size = n) (n0 : 0 < n) (hn : n ≤ sizeLine) (g : Array GenState) (d : Drawn) (os : OsState)
    (hR : ∀ (Ts : List Addr) (h' : Heap) (tk : Nat), Filled h0 z TO i1 i2 S xs ys n Ts h' → R (.ok (.ret res)) { heap := h', gens := g, drawn := d, toks := tk, os := os }) (h : Heap) (tk : Nat) (J : Fill h0 z TI TO i1 i2 t1 t2 S xs ys 0 [] h) :
    wpAny (model prog w) A.in1 (Builtin.List.listExtendWith (.ref S) (.ref z) res) (fun fin s' => match fin with
      | Fin.done f => R (.ok f) s'
      | Fin.again c' => c'.quiet = true ∧ codeAny (model prog w) A c' R s') (fun e s' => R (.error e) s') { heap := h, gens := g, drawn := d, toks := tk, os := os } := by
  have hz : IsZip h z TI TO .none := by
    rcases J.zip with ⟨_, q, _⟩ | ⟨T, b, hm, _⟩
    · exact q
    · cases hm
  have ty : ({ heap := h, gens := g, drawn := d, toks := tk, os := os } : Shared).TypeIs (.ref z) "zip" := ⟨_, hz, rfl⟩
  unfold Builtin.List.listExtendWith
  refine wpAny_bind (wpAny_typeOf ty ?_)
  have e1 : (Builtin.List.listSameRef (.ref S) (.ref z) || Value.type "zip" == Value.type "list" || Value.type "zip" == Value.type "tuple") = false := by
    have q : Builtin.List.listSameRef (.ref S) (.ref z) = false := by
      show (S == z) = false
      exact beq_false_of_ne (Ne.symm Pt.sz.1)
    rw [q]
    decide
  rw [if_neg (by rw [e1]; exact Bool.false_ne_true)]
  refine wpAny_bind (wpAny_pyIter_zip hz ?_)
  refine wpAny_bind (wpAny_holding ?_)
  show wpAny _ _ (specialOf (.ref z) (Str.ofString "__len__") >>= _) _ _ _
  refine wpAny_bind (wpAny_specialOf ty zip_no_len ?_)
  show wpAny _ _ (specialOf (.ref z) (Str.ofString "__length_hint__") >>= _) _ _ _
  refine wpAny_bind (wpAny_specialOf ty zip_no_hint (wpAny_pure ?_))
  rw [if_pos (by rfl)]
  refine wpAny_bind (wpAny_rule (wpAny_bind ?_))
  obtain ⟨c, hS⟩ := J.lst
  show wpAny _ _ (updateSeq S (fun x => x.push .none) >>= fun _ => updateSeq S (fun x => x.pop)) _ _ _
  have hS2 := Heap.get?_update_self (Obj.mapSeq fun x => x.push .none) hS rfl
  refine wpAny_bind (wpAny_updateSeq hS rfl ?_ (by show 0 ≤ sizeLine; decide) (by show 1 ≤ sizeLine + 1; decide))
  refine wpAny_updateSeq hS2 rfl ?_ (by show 1 ≤ sizeLine; decide) (by show 0 ≤ sizeLine + 1; decide)
  have hS3 := Heap.get?_update_self (Obj.mapSeq fun x => x.pop) hS2 rfl
  have up : ∀ (b : Addr) (o : Obj), b ≠ S → h.get? b = some o → ((h.update S (Obj.mapSeq fun x => x.push .none)).update S (Obj.mapSeq fun x => x.pop)).get? b = some o := fun b o hb e =>
    (Heap.get?_update_other _ _ (Ne.symm hb)).trans ((Heap.get?_update_other h _ (Ne.symm hb)).trans e)
  have D1 := Draws.tuple (prog := prog) (w := w) (A := A.in1.in1) hh i1 t1 Pt.n1 xs
  have D2 := Draws.tuple (prog := prog) (w := w) (A := A.in1.in1) hh i2 t2 Pt.n2 ys
  obtain ⟨a1, a2, hTO⟩ : ∃ a1 a2, IsTupOf2 h TO a1 a2 := by
    rcases J.zip with ⟨_, _, q⟩ | ⟨T, b, hm, _⟩
    · exact q
    · cases hm
  have J2 : Fill h0 z TI TO i1 i2 t1 t2 S xs ys 0 [] ((h.update S (Obj.mapSeq fun x => x.push .none)).update S (Obj.mapSeq fun x => x.pop)) :=
    { len := rfl
      lst := ⟨_, hS3⟩
      zip := .inl ⟨rfl, up z _ Pt.sz.1 hz, a1, a2, up TO _ Pt.sz.2.2.1 hTO⟩
      ti := up TI _ Pt.sz.2.1 J.ti
      s1 := D1.frame 0 h _ J.s1 fun b hb o e => up b o (by
          rcases List.mem_cons.mp hb with rfl | hb
          · exact Pt.sz.2.2.2.1
          · rw [List.mem_singleton.mp hb]; exact Pt.sz.2.2.2.2.2.1) e
      s2 := D2.frame 0 h _ J.s2 fun b hb o e => up b o (by
          rcases List.mem_cons.mp hb with rfl | hb
          · exact Pt.sz.2.2.2.2.1
          · rw [List.mem_singleton.mp hb]; exact Pt.sz.2.2.2.2.2.2) e
      at_ := fun j T hj => by cases hj
      new := fun T hm => by cases hm
      nd := .nil
      keep := fun b o e b1 b2 b3 b4 b5 => up b o b5 (J.keep b o e b1 b2 b3 b4 b5)
      size := by rw [Heap.size_update, Heap.size_update]; exact J.size
      lt := fun T hm => by cases hm }
  exact wpAny_pure ⟨plainId_quiet F.plain_extend_loop _, extend_zip hh Pt n1 n2 n0 hn g d os hR n 0 _ tk [] (by omega) (Nat.zero_le _) J2⟩
/-- list(z), z a zip of two tuples of one length that has not begun -/
theorem call_list_zip {E : Value → Shared → Prop} {Q : Value → Shared → Prop} {s : Shared} {n : Nat} {a1 a2 : Value} (hh : A.handled = none) (sep : ZipSep2 z TI TO i1 i2 [i1, t1] [i2, t2]) (m1 : t1 ≠ i1) (m2 : t2 ≠ i2) (n1 : xs.size = n) (n2 : ys.size = n) (n0 : 0 < n) (hn : n ≤ sizeLine)
    (hz : IsZip s.heap z TI TO .none) (hTI : IsTupOf2 s.heap TI (.ref i1) (.ref i2)) (hTO : IsTupOf2 s.heap TO a1 a2) (s1 : s.heap.IsTupleIter i1 t1 0 ∧ s.heap.IsTuple t1 xs) (s2 : s.heap.IsTupleIter i2 t2 0 ∧ s.heap.IsTuple t2 ys)
    (hQ : ∀ (Ts : List Addr) (h' : Heap) (tk : Nat), Filled (s.heap.push { cls := .type "list", data := .seq #[] }) z TO i1 i2 s.heap.objs.size xs ys n Ts h' → Q (.ref s.heap.objs.size) { s with heap := h', toks := tk }) :
    wpAny (model prog w) A (call (.type "list") [.ref z]) Q E s := by
  obtain ⟨hp, g, d, tk, os⟩ := s
  refine callType_codes (Q₁ := fun obj s1 => obj = .ref hp.objs.size ∧ s1 = { heap := hp.push { cls := .type "list", data := .seq #[] }, gens := g, drawn := d, toks := tk, os := os }) F.called_list (F.typeCall_list_1 (.ref z)) F.entry_list_init (code_list_new (.ref z) ⟨rfl, rfl⟩) fun obj s₁ h₁ => ?_
  obtain ⟨rfl, rfl⟩ := h₁
  have hS := Heap.get?_push_size hp (o := { cls := .type "list", data := .seq #[] }) rfl
  refine ⟨⟨_, hS, rfl⟩, F.args_list_init_2 _ _, ?_⟩
  show wpAny _ _ (Builtin.List.listItems (.ref hp.objs.size) >>= _) _ _ _
  refine wpAny_bind ?_
  show wpAny _ _ (seqItems? (.ref hp.objs.size) >>= _) _ _ _
  refine wpAny_bind (wpAny_seqItems hS rfl (wpAny_pure ?_))
  refine wpAny_bind (wpAny_updateSeq hS rfl ?_ (by show 0 ≤ sizeLine; decide) (by show 0 ≤ sizeLine + 1; decide))
  refine wpAny_bind (wpAny_letGo ?_)
  have l1 : z < hp.objs.size := Heap.lt_size hz
  have l2 : TI < hp.objs.size := Heap.lt_size hTI
  have l3 : TO < hp.objs.size := Heap.lt_size hTO
  have l4 : i1 < hp.objs.size := by obtain ⟨⟨o, q, _⟩, _⟩ := s1; exact Heap.lt_size q
  have l5 : i2 < hp.objs.size := by obtain ⟨⟨o, q, _⟩, _⟩ := s2; exact Heap.lt_size q
  have l6 : t1 < hp.objs.size := by obtain ⟨_, o, q, _⟩ := s1; exact Heap.lt_size q
  have l7 : t2 < hp.objs.size := by obtain ⟨_, o, q, _⟩ := s2; exact Heap.lt_size q
  have sp : (hp.push { cls := .type "list", data := .seq #[] }).objs.size = hp.objs.size + 1 := Heap.size_push ..
  have Pt : Parts (hp.push { cls := .type "list", data := .seq #[] }) z TI TO i1 i2 t1 t2 hp.objs.size :=
    ⟨sep, m1, m2, ⟨Nat.ne_of_lt l1, Nat.ne_of_lt l2, Nat.ne_of_lt l3, Nat.ne_of_lt l4, Nat.ne_of_lt l5, Nat.ne_of_lt l6, Nat.ne_of_lt l7⟩, by
      rw [sp]
      exact ⟨Nat.lt_succ_of_lt l1, Nat.lt_succ_of_lt l2, Nat.lt_succ_of_lt l3, Nat.lt_succ_of_lt l4, Nat.lt_succ_of_lt l5, Nat.lt_succ_self _⟩⟩
  have up : ∀ (b : Addr) (o : Obj), b ≠ hp.objs.size → hp.get? b = some o → ((hp.push { cls := .type "list", data := .seq #[] }).update hp.objs.size (Obj.mapSeq fun x => #[])).get? b = some o := fun b o hb e =>
    (Heap.get?_update_other _ _ (Ne.symm hb)).trans (Heap.get?_push_of_some _ e)
  have D1 := Draws.tuple (prog := prog) (w := w) (A := A.in1.in1) hh i1 t1 m1 xs
  have D2 := Draws.tuple (prog := prog) (w := w) (A := A.in1.in1) hh i2 t2 m2 ys
  have hS2 := Heap.get?_update_self (Obj.mapSeq fun x => #[]) hS rfl
  have J : Fill (hp.push { cls := .type "list", data := .seq #[] }) z TI TO i1 i2 t1 t2 hp.objs.size xs ys 0 [] ((hp.push { cls := .type "list", data := .seq #[] }).update hp.objs.size (Obj.mapSeq fun x => #[])) :=
    { len := rfl
      lst := ⟨_, hS2⟩
      zip := .inl ⟨rfl, up z _ (Nat.ne_of_lt l1) hz, a1, a2, up TO _ (Nat.ne_of_lt l3) hTO⟩
      ti := up TI _ (Nat.ne_of_lt l2) hTI
      s1 := D1.frame 0 hp _ s1 fun b hb o e => up b o (by
          rcases List.mem_cons.mp hb with rfl | hb
          · exact Nat.ne_of_lt l4
          · rw [List.mem_singleton.mp hb]; exact Nat.ne_of_lt l6) e
      s2 := D2.frame 0 hp _ s2 fun b hb o e => up b o (by
          rcases List.mem_cons.mp hb with rfl | hb
          · exact Nat.ne_of_lt l5
          · rw [List.mem_singleton.mp hb]; exact Nat.ne_of_lt l7) e
      at_ := fun j T hj => by cases hj
      new := fun T hm => by cases hm
      nd := .nil
      keep := fun b o e b1 b2 b3 b4 b5 => (Heap.get?_update_other _ _ (Ne.symm b5)).trans e
      size := by rw [Heap.size_update]; exact Nat.le_refl _
      lt := fun T hm => by cases hm }
  exact extendWith_zip (A := A.in1) hh Pt n1 n2 n0 hn g d os (fun Ts h' tk' q => ⟨rfl, hQ Ts h' tk' q⟩) _ tk J
end
end Ow
end
section
set_option maxHeartbeats 4000000
namespace Ow
open PySem PySem.Spec PyProof.Rows L2
/-- tuples of two laid at addresses -/
def layT (f : Nat → List V) : List Addr → Nat → Hp → Hp
  | [], _, H => H
  | T :: r, i, H => layT f r (i + 1) (upd H T (.tup (f i)))
theorem layT_else (f : Nat → List V) : ∀ (Ts : List Addr) (i : Nat) (H : Hp) (b : Addr), b ∉ Ts → layT f Ts i H b = H b
  | [], _, _, _, _ => rfl
  | T :: r, i, H, b, h => by
    have h1 : b ≠ T := fun e => h (by rw [e]; exact List.mem_cons_self)
    have h2 : b ∉ r := fun e => h (List.mem_cons_of_mem _ e)
    show layT f r (i + 1) (upd H T (.tup (f i))) b = H b
    rw [layT_else f r (i + 1) _ b h2, upd_ne h1]
theorem layT_at (f : Nat → List V) : ∀ (Ts : List Addr) (i : Nat) (H : Hp) (j : Nat) (T : Addr), Ts.Nodup → Ts[j]? = some T → layT f Ts i H T = some (.tup (f (i + j)))
  | [], _, _, _, _, _, h => by cases h
  | T0 :: r, i, H, 0, T, nd, h => by
    have e : T0 = T := by simpa using h
    rw [← e]
    show layT f r (i + 1) (upd H T0 (.tup (f i))) T0 = _
    rw [layT_else f r (i + 1) _ T0 (List.nodup_cons.mp nd).1, upd_same]
    rfl
  | T0 :: r, i, H, j + 1, T, nd, h => by
    show layT f r (i + 1) (upd H T0 (.tup (f i))) T = _
    rw [layT_at f r (i + 1) _ j T (List.nodup_cons.mp nd).2 (by simpa using h)]
    have e : i + 1 + j = i + (j + 1) := by omega
    rw [e]
theorem hok_layT {P : Program} {w : World} {h : Heap} (f : Nat → List V) : ∀ (Ts : List Addr) (i : Nat) (H : Hp), HOk P w H h → Ts.Nodup → (∀ T ∈ Ts, H T = none) → (∀ (j : Nat) (T : Addr), Ts[j]? = some T → ∀ H', ObjOk P w H' h T (.tup (f (i + j)))) → HOk P w (layT f Ts i H) h
  | [], _, _, k, _, _, _ => k
  | T :: r, i, H, k, nd, hn, ho => by
    obtain ⟨n1, n2⟩ := List.nodup_cons.mp nd
    refine hok_layT f r (i + 1) _ (HOk.laidN k (fun _ _ e => e) (hn T List.mem_cons_self) (ho 0 T rfl _)) n2 (fun T' hT' => ?_) fun j T' hj H' => ?_
    · rw [upd_ne (fun e => n1 (by rw [← e]; exact hT'))]
      exact hn T' (List.mem_cons_of_mem _ hT')
    · have := ho (j + 1) T' (by simpa using hj) H'
      have e : i + 1 + j = i + (j + 1) := by omega
      rw [e]
      exact this
theorem vals_refs : ∀ Ts : List Addr, Vals (Ts.map V.ref) (Ts.map Value.ref)
  | [] => .nil
  | T :: r => .cons rfl (vals_refs r)
/-- behind list(zip(a, b)) -/
structure Zipped (H H' : Hp) (S : Addr) (xs ys : List V) : Prop where
  same : Same H H'
  new : H S = none
  at_ : ∃ Ts : List Addr, H' S = some (.lst (Ts.map V.ref)) ∧ Ts.length = xs.length ∧ ∀ (j : Nat) (T : Addr), Ts[j]? = some T → ∃ x y, xs[j]? = some x ∧ ys[j]? = some y ∧ H' T = some (.tup [x, y])
def tListZip (K : PySem.W.Frag) (ta : TA) : TE := fun σ H Q => ta σ H fun vs H1 => ∃ a b xs ys, vs = [.ref a, .ref b] ∧ SqT K H1 a xs ∧ SqT K H1 b ys ∧ xs.length = ys.length ∧ 0 < xs.length ∧ ∀ S H', Zipped H1 H' S xs ys → Q (.ref S) H'
theorem pe_listzip {X : Cx} {e e2 : Expr} {ta : TA} {p p2 pos pos2 : Pos} (hc : X.calm = true) (hgl : Gl X "list") (hml : X.mg "list" = none) (hg : Gl X "zip") (hm : X.mg "zip" = none) (ha : PA X [e, e2] ta)
    (hs : starEach [e, e2] X.env = [(false, eval e X.env), (false, eval e2 X.env)] := by rfl) (hs2 : starEach [e2] X.env = [(false, eval e2 X.env)] := by rfl) :
    PE X (.Call (.Name "list" p) [.Call (.Name "zip" p2) [e, e2] [] pos2] [] pos) (tListZip X.K ta) := by
  refine ⟨fun pins s σ H Q I h => ?_⟩
  refine Call_ (ld_blt I hgl hml boot_list (PyProof.Rows.callWith_type1 ?_ (by rfl) (by rfl)))
  show wpAny _ _ (spliced ((false, eval (.Call (.Name "zip" p2) [e, e2] [] pos2) X.env) :: [])) _ _ _
  refine Calls.spliced_cons ?_
  refine Call_ (ld_blt I hg hm boot_zip (PyProof.Rows.callWith_type1 (thn (ha.run pos2 pins s σ H _ I h) fun us s1 ⟨vs, H1, I1, r1, a, b, xs, ys, ex, hq1, hq2, hl, h0, q⟩ => ?_) (by rw [hs, hs2]) (by rw [hs2]; rfl)))
  subst ex
  obtain ⟨u, u2, rfl, ru, ru2⟩ := vals2 r1
  obtain rfl : u = Value.ref a := ru
  obtain rfl : u2 = Value.ref b := ru2
  obtain ⟨its1, rv1, p1, z1⟩ := I1.tuple hq1
  obtain ⟨its2, rv2, p2', z2⟩ := I1.tuple hq2
  have big1 : a < s1.heap.objs.size := by obtain ⟨o, q, _⟩ := p1; exact Heap.lt_size q
  have big2 : b < s1.heap.objs.size := by obtain ⟨o, q, _⟩ := p2'; exact Heap.lt_size q
  refine zip_begins2 (begins_tuple a its1.toArray) (begins_tuple b its2.toArray) ?_ ?_ fun h' hz hTI hTO g1 g2 hsz hk => Calls.spliced_nil ?_
  · exact p1
  · exact p2'
  have sep : ZipSep2 (s1.heap.objs.size + 4) (s1.heap.objs.size + 2) (s1.heap.objs.size + 3) s1.heap.objs.size (s1.heap.objs.size + 1) [s1.heap.objs.size, a] [s1.heap.objs.size + 1, b] := by
    have ne1 : ∀ k, s1.heap.objs.size + k ≠ a := fun k => Nat.ne_of_gt (Nat.lt_of_lt_of_le big1 (Nat.le_add_right _ _))
    have ne2 : ∀ k, s1.heap.objs.size + k ≠ b := fun k => Nat.ne_of_gt (Nat.lt_of_lt_of_le big2 (Nat.le_add_right _ _))
    have two : ∀ {x y z : Addr}, x ≠ y → x ≠ z → x ∉ [y, z] := fun h1 h2 h => by
      rcases List.mem_cons.mp h with h | h
      · exact h1 h
      · exact h2 (List.mem_singleton.mp h)
    have lt2 : ∀ (k m : Nat), k ≠ m → s1.heap.objs.size + k ≠ s1.heap.objs.size + m := fun k m h e => h (Nat.add_left_cancel e)
    exact ⟨lt2 2 4 (by decide), lt2 3 4 (by decide), lt2 2 3 (by decide), lt2 2 0 (by decide), List.mem_cons_self, two (lt2 4 0 (by decide)) (ne1 4), two (lt2 3 0 (by decide)) (ne1 3), lt2 2 1 (by decide), List.mem_cons_self, two (lt2 4 1 (by decide)) (ne2 4), two (lt2 3 1 (by decide)) (ne2 3), two (lt2 0 1 (by decide)) (ne2 0), two (lt2 1 0 (by decide)) (ne1 1)⟩
  have n1 : its1.toArray.size = xs.length := by rw [List.size_toArray, rv1.length]
  have n2 : its2.toArray.size = xs.length := by rw [List.size_toArray, ← rv2.length, hl]
  have tk : ∀ {c : Addr} {its : Array Value}, s1.heap.IsTuple c its → h'.IsTuple c its := fun z => by
    obtain ⟨o, e1, e2⟩ := z
    exact ⟨o, hk _ o e1, e2⟩
  refine call_list_zip (I1.ok.hd hc) sep (Nat.ne_of_lt big1) (Nat.ne_of_lt (Nat.lt_succ_of_lt big2)) n1 n2 h0 z1 hz hTI hTO ⟨⟨_, g1, rfl, rfl⟩, tk p1⟩ ⟨⟨_, g2, rfl, rfl⟩, tk p2'⟩ fun Ts h'' tk' J => ?_
  have sp : (h'.push { cls := .type "list", data := .seq #[] }).objs.size = s1.heap.objs.size + 6 := by rw [Heap.size_push, hsz]
  have hS0 : h'.objs.size = s1.heap.objs.size + 5 := hsz
  have kp : ∀ (c : Addr) (o : Obj), s1.heap.get? c = some o → h''.get? c = some o := fun c o e => by
    have l : c < s1.heap.objs.size := Heap.lt_size e
    exact J.keep c o (Heap.get?_push_of_some _ (hk c o e)) (Nat.ne_of_lt (Nat.lt_of_lt_of_le l (by omega))) (Nat.ne_of_lt (Nat.lt_of_lt_of_le l (by omega))) (Nat.ne_of_lt (Nat.lt_of_lt_of_le l (by omega))) (Nat.ne_of_lt (Nat.lt_of_lt_of_le l (by omega))) (Nat.ne_of_lt (Nat.lt_of_lt_of_le l (by show s1.heap.objs.size ≤ h'.objs.size; omega)))
  have tnew : ∀ T ∈ Ts, s1.heap.objs.size + 6 ≤ T := fun T hT => by have := J.new T hT; rw [sp] at this; exact this
  have dom : ∀ (c : Addr) (o : HO), H1 c = some o → c < s1.heap.objs.size := fun c o e => by
    by_cases q : c < s1.heap.objs.size
    · exact q
    · rw [I1.hok.fresh (Nat.le_of_not_lt q)] at e
      cases e
  let f : Nat → List V := fun j => [xs.getD j .non, ys.getD j .non]
  have oldT : ∀ c, c < s1.heap.objs.size → layT f Ts 0 H1 c = H1 c := fun c l => layT_else f Ts 0 H1 c fun z => Nat.not_lt.mpr (tnew c z) (Nat.lt_of_lt_of_le l (Nat.le_add_right _ _))
  have old : ∀ c, c < s1.heap.objs.size → upd (layT f Ts 0 H1) h'.objs.size (.lst (Ts.map V.ref)) c = H1 c := fun c l => by
    rw [upd_ne (Nat.ne_of_lt (Nat.lt_of_lt_of_le l (by omega))), oldT c l]
  have pair : ∀ (j : Nat) (T : Addr), Ts[j]? = some T → ∃ x y, xs[j]? = some x ∧ ys[j]? = some y ∧ ∃ u v, IsTupOf2 h'' T u v ∧ RelV x u ∧ RelV y v := fun j T hj => by
    obtain ⟨u, v, e1, e2, e3⟩ := J.at_ j T hj
    have hlt : j < Ts.length := by
      by_cases q : j < Ts.length
      · exact q
      · rw [List.getElem?_eq_none (by omega)] at hj
        cases hj
    have hx : j < xs.length := by rw [← J.len]; exact hlt
    obtain ⟨u', w1, r1⟩ := rv1.get (List.getElem?_eq_getElem hx)
    obtain ⟨v', w2, r2⟩ := rv2.get (List.getElem?_eq_getElem (show j < ys.length by omega))
    rw [List.getElem?_toArray, w1] at e1
    rw [List.getElem?_toArray, w2] at e2
    cases e1
    cases e2
    exact ⟨_, _, List.getElem?_eq_getElem hx, List.getElem?_eq_getElem (by omega), _, _, e3, r1, r2⟩
  have okT : HOk X.prog X.w (layT f Ts 0 H1) h'' := by
    refine hok_layT f Ts 0 H1 (I1.hok.kept kp) J.nd (fun T hT => I1.hok.fresh (Nat.le_trans (Nat.le_add_right _ _) (tnew T hT))) fun j T hj H'' => ?_
    obtain ⟨x, y, e1, e2, u, v, e3, r1, r2⟩ := pair j T hj
    have ef : f (0 + j) = [x, y] := by
      show [xs.getD (0 + j) .non, ys.getD (0 + j) .non] = _
      rw [Nat.zero_add, List.getD_eq_getElem?_getD, List.getD_eq_getElem?_getD, e1, e2]
      rfl
    rw [ef]
    exact ⟨by show 2 ≤ sizeLine; decide, [u, v], .cons r1 (.cons r2 .nil), ⟨_, e3, rfl, _, rfl⟩⟩
  obtain ⟨cL, hL⟩ := J.lst
  have ok2 : HOk X.prog X.w (upd (layT f Ts 0 H1) h'.objs.size (.lst (Ts.map V.ref))) h'' := by
    refine HOk.laidN okT (fun _ _ e => e) ?_ ?_
    · rw [layT_else f Ts 0 H1 _ (fun z => by have := tnew _ z; omega)]
      exact I1.hok.fresh (by omega)
    · exact ⟨by rw [List.length_map, J.len]; exact z1, Ts.map Value.ref, _, vals_refs Ts, hL⟩
  have I2 := I1.un (t' := tk') (h' := h'') (H' := upd (layT f Ts 0 H1) h'.objs.size (.lst (Ts.map V.ref)))
    ⟨fun c o e _ _ _ => kp c o e, fun c o e _ _ _ => ⟨o.slots, kp c o e⟩, fun c o e n _ => by rw [old c (Heap.lt_size e)]; exact n, fun c o e _ => ⟨o, kp c o e⟩, fun c zs e => by rw [old c (dom c _ e)]; exact e, fun c o u e => by rw [old c (dom c _ e)]; exact e, fun c ps e => ⟨#[], by rw [old c (dom c _ e), Array.append_empty]; exact e⟩⟩ ok2
  refine ⟨.ref h'.objs.size, _, I2, rfl, q _ _ ⟨fun c o e => by rw [old c (dom c o e)]; exact e, I1.hok.fresh (by omega), Ts, upd_same, J.len, fun j T hj => ?_⟩⟩
  obtain ⟨x, y, e1, e2, u, v, e3, r1, r2⟩ := pair j T hj
  refine ⟨x, y, e1, e2, ?_⟩
  have hT := tnew T (List.mem_of_getElem? hj)
  rw [upd_ne (Nat.ne_of_gt (Nat.lt_of_lt_of_le (show h'.objs.size < s1.heap.objs.size + 6 by omega) hT)), layT_at f Ts 0 H1 j T J.nd hj]
  show some (HO.tup [xs.getD (0 + j) .non, ys.getD (0 + j) .non]) = _
  rw [Nat.zero_add, List.getD_eq_getElem?_getD, List.getD_eq_getElem?_getD, e1, e2]
  rfl
end Ow
end
section
set_option maxHeartbeats 4000000
/-! raise X(), X an own error without a def of its own. -/
namespace Ow
open PySem PySem.Spec PyProof.Rows L2 StX
theorem pmk_own0 {X : Cx} {C : Addr} {bmB : List Value} {B newId initId : String} {x : Str} {p pos : Pos} (F : ExcBaseFacts B newId initId bmB) (q : PySem.W.excIn X.K C bmB newId = true) (gC : X.mg x = some (.ref C)) (kC : PySem.W.keepIn X.K (.ref C) = true) (r : Raises X (.ref C)) (hg : Gl X x)
    (hdb : (x == ("__debug__" : Str)) = false := by decide) : PMk X (.Call (.Name x p) [] [] pos) (fun _ H Q => Q (.ref C) none H) := by
  intro pins s σ H Q I h
  refine wpAny_Call_Name_kw (ld_glob I hg gC ?_ hdb)
  refine PySem.W.callWith_K0 I.kIn kC ?_
  obtain ⟨bm, N, nm, qn, bs, hdct, sn, sub, ab, col, dd, k0, k1, k2, k3, k5, mN, hC, hN, hni, T⟩ := exc_obj I.kIn q
  obtain ⟨hp, g, dr, tk, os⟩ := s
  exact wpAny_call_exc_subT F T hC hN hni (fun h' e hm => mk_of I hm r h (I.hok.gone hm.new)) (by show 0 ≤ sizeLine; exact Nat.zero_le _)
end Ow
end
section
set_option maxHeartbeats 4000000
/-! x op= y where the class has that method of its own; ~x. -/
namespace Ow
open PySem PySem.Spec PyProof.Rows L2
section
variable {X : Cx} {CX : CXT} {n : Nat} {C g : Addr} {sp : Sp} {E : XK}
theorem iop_own {op : Operator} (hc : PySem.W.selfFirst X.K C = true) (hs : PySem.W.findIn X.K (.ref C) (dunderI op.info.2) = some (some (.ref g))) (hf : PySem.W.isFn X.K (.ref g) = true)
    (F : FnR X.prog X.w X.K X.mg X.base CX n g sp) (hr : Room n X.A) (hx : Passes CX X E) : OpR X (inplaceOp op) (rBin C sp E) := by
  intro pins s σ H x y v u Q I rx ry h
  obtain ⟨a, b, rfl, rfl, ha, hb, q⟩ := h
  cases (show v = Value.ref a from rx)
  cases (show u = Value.ref b from ry)
  obtain ⟨ox, od, J⟩ := inst_of I ha
  obtain ⟨m, hF⟩ := I.fr
  refine PySem.W.ksp_inplace (op := op) hF I.ok.mod.kin J hc hs hf ?_
  refine wpAny_mono (wpAny_call (run_fnR (us := [.ref a, .ref b]) (vs := [.ref a, .ref b]) F hr hx I (.cons rfl (.cons rfl .nil)) q)) (fun w s' z => ?_) fun _ _ x => x
  obtain ⟨z', H', I', rz, qz⟩ := z
  exact cmpbackR rz ⟨z', H', I', rz, qz⟩
end
end Ow
end
section
set_option maxHeartbeats 4000000
/-! A comprehension of which each item is known by what it is, not by where it stands. -/
namespace Ow
open PySem PySem.Spec PyProof.Rows L2
/-- all objects but lists stay -/
def NL (H H' : Hp) : Prop := ∀ b o, H b = some o → (∀ xs, o ≠ .lst xs) → H' b = some o
def LcE (R : Nat → V → Hp → Prop) (H1 H : Hp) (D : Addr) (i : Nat) : Prop := ∃ out, LcIn H1 H D out ∧ out.length = i ∧ ∀ j v, out[j]? = some v → R j v H
theorem kLc.each {J : It} {n : Nat} {G : Hp → Prop} {Y : Nat → Hp → V → Hp → Prop} (w : Walk J n G Y) {g : TG} {tt : TT} {te : TE} {vs : List Nat} {σ : L2.St} {Q : VK} {H1 : Hp} (R : Nat → V → Hp → Prop) (hG : ∀ H, Same H1 H → G H)
    (hs : ∀ D i x H H', i < n → LcE R H1 H D i → Y i H x H' → g x (wipe σ vs) H' fun σ2 H2 => wipe σ2 vs = wipe σ vs ∧ tt σ2 H2 fun b H3 => if b = true then te σ2 H3 (kApp D fun H' => LcE R H1 H' D (i + 1)) else LcE R H1 H3 D (i + 1))
    (hd : ∀ D H' out, Fresh H1 H' D (.lst out) → out.length = n → (∀ i v, out[i]? = some v → R i v H') → Q (.ref D) H') : kLc J g tt te vs σ Q H1 := fun D hD =>
  lc_it w (fun i H => LcE R H1 H D i) ⟨[], ⟨(fresh_upd hD).same, upd_same, hD⟩, rfl, fun j v h => by cases h⟩ (fun i H _ c => hG H (let ⟨_, c, _⟩ := c; c.same)) (fun i x H H' hi c y => hs D i x H H' hi c y) fun H c => let ⟨out, c, h1, h2⟩ := c; hd D H out ⟨c.same, c.at_, c.new⟩ h1 h2
theorem kApp.each {R : Nat → V → Hp → Prop} (hR : ∀ i v H H', R i v H → NL H H' → R i v H') {H1 H H4 : Hp} {D : Addr} {i : Nat} {y : V} (c : LcE R H1 H D i) (s : Same H H4) (hl : i < sizeLine) (h : R i y H4) : kApp D (fun H' => LcE R H1 H' D (i + 1)) y H4 := by
  obtain ⟨out, c, h1, h2⟩ := c
  have at4 := s _ _ c.at_
  have nl : NL H4 (upd H4 D (.lst (out ++ [y]))) := fun b o e n => by
    rw [upd_ne]
    · exact e
    · intro z
      rw [z, at4] at e
      exact n _ (Option.some.inj e).symm
  refine ⟨out, at4, by rw [h1]; exact hl, out ++ [y], ⟨fun b u e => ?_, upd_same, c.new⟩, by rw [List.length_append, h1]; rfl, fun j v hj => ?_⟩
  · rw [upd_ne (ne_of_none e c.new)]
    exact s _ _ (c.same _ _ e)
  · by_cases hlt : j < out.length
    · rw [List.getElem?_append_left hlt] at hj
      exact hR j v _ _ (h2 j v hj) fun b o e n => nl b o (s b o e) n
    · rw [List.getElem?_append_right (by omega)] at hj
      have hz : j - out.length = 0 := by
        by_cases q : j - out.length = 0
        · exact q
        · rw [List.getElem?_eq_none (by rw [List.length_singleton]; omega)] at hj
          cases hj
      rw [hz] at hj
      cases hj
      have e : j = i := by omega
      subst e
      exact hR _ _ _ _ h nl
theorem Same.putNew {H H1 H2 : Hp} {l : Addr} {o : HO} (s : Same H H1) (nl : H l = none) (f : Put H1 H2 l o) : Same H H2 := fun b u e => f.get (ne_of_none e nl) (s b u e)
theorem none_back {H H1 : Hp} {p : Addr} (s : Same H H1) (n : H1 p = none) : H p = none := by
  cases h : H p with
  | none => rfl
  | some o => rw [s _ _ h] at n; cases n
end Ow
end
section
set_option maxHeartbeats 4000000
/-! A comprehension with any invariant (its items may change what stands). -/
namespace Ow
open PySem PySem.Spec PyProof.Rows L2
theorem kLc.it {J : It} {n : Nat} {G : Hp → Prop} {Y : Nat → Hp → V → Hp → Prop} (w : Walk J n G Y) {g : TG} {tt : TT} {te : TE} {vs : List Nat} {σ : L2.St} {Q : VK} {H1 : Hp} (I : Addr → Nat → Hp → Prop) (h0 : ∀ D H', Fresh H1 H' D (.lst []) → I D 0 H') (hG : ∀ D i H, I D i H → G H)
    (hs : ∀ D i x H H', i < n → I D i H → Y i H x H' → g x (wipe σ vs) H' fun σ2 H2 => wipe σ2 vs = wipe σ vs ∧ tt σ2 H2 fun b H3 => if b = true then te σ2 H3 (kApp D fun H' => I D (i + 1) H') else I D (i + 1) H3)
    (hd : ∀ D H', I D n H' → Q (.ref D) H') : kLc J g tt te vs σ Q H1 := fun D hD =>
  lc_it w (fun i H => I D i H) (h0 D _ (fresh_upd hD)) (fun i H _ c => hG D i H c) (fun i x H H' hi c y => hs D i x H H' hi c y) fun H c => hd D H c
end Ow
end
section
set_option maxHeartbeats 4000000
/-! Rules whose readings name the knowledge K itself, not the context's: within comprehensions, where the context hangs on what is bound there. -/
namespace Ow
open PySem PySem.Spec PyProof.Rows L2
section
variable {X : Cx} {K : PySem.W.Frag}
def rJoin (K : PySem.W.Frag) : V → List V → Hp → VK → Prop := fun x xs H Q => ∃ a p, ∃ ys : List Str, x = .str a ∧ xs = [.ref p] ∧ (SqL K H p (ys.map V.str) ∨ SqT K H p (ys.map V.str)) ∧ (ys.map (·.length)).sum + ys.length * a.length ≤ 16777216 ∧ Q (.str (Txt.join a ys)) H
theorem pe_joinK {o e : Expr} {to te : TE} {apos pos : Pos} (hK : X.K = K) (ho : PE X o to) (he : PE X e te) (hs : starEach [e] X.env = [(false, eval e X.env)] := by rfl) (hbase : attributeBase o "join" X.env (eval o X.env) = eval o X.env := by rfl) (hline : (apos.endLine == pos.line) = true := by rfl) :
    PE X (.Call (.Attribute o "join" apos) [e] [] pos) (tM1 (rJoin K) to te) := by
  subst hK
  exact pe_join ho he hs hbase hline
theorem pi_listK {tg l : Expr} {tl : TE} (hK : X.K = K) (hl : PE X l tl) : PI X tg l (iList K tl) := by
  subst hK
  exact pi_list hl
theorem pi_tupK {tg l : Expr} {tl : TE} (hK : X.K = K) (hl : PE X l tl) : PI X tg l (iTup K tl) := by
  subst hK
  exact pi_tup hl
theorem ix_listK (hK : X.K = K) : IxR X (rIxL K) := by
  subst hK
  exact ix_list
theorem call_lenKK (hK : X.K = K) : CallR X (.builtin "len") (rLenSeq K) := by
  subst hK
  exact call_lenK
theorem call_tupleKK (hK : X.K = K) : CallR X (.type "tuple") (rTupOf K) := by
  subst hK
  exact call_tupleK
theorem call_listKK (hK : X.K = K) : CallR X (.type "list") (rListOf K) := by
  subst hK
  exact call_listK
theorem op_eqDK (hK : X.K = K) (hu : X.A.units + 64 < cLine) : OpR X (compareOp .Eq) (rEqD K) := by
  subst hK
  exact op_eqD hu
theorem op_neDK (hK : X.K = K) (hu : X.A.units + 64 < cLine) : OpR X (compareOp .NotEq) (rNeD K) := by
  subst hK
  exact op_neD hu
theorem op_inK (hK : X.K = K) : OpR X (compareOp .In) (rIn K false) := by
  subst hK
  exact op_in_seq
end
end Ow
end
section
set_option maxHeartbeats 4000000
/-! x in t, x not in t: t a tuple, items and x data of any depth. -/
namespace Ow
open PySem PySem.Spec PyProof.Rows L2
section
variable {X : Cx}
def rInDT (K : PySem.W.Frag) (neg : Bool) : R2 := fun x y H Q => ∃ d ds, Dp K H x d ∧ Dp K H y (.tuple ds) ∧ SeqAt.shaped d = true ∧ SeqAt.shaped (.tuple ds) = true ∧ Q (.bl (if neg then !(ds.any fun z => PyData.eqv z d) else ds.any fun z => PyData.eqv z d)) H
theorem op_notInDT (hu : X.A.units + 65 < cLine) : OpR X (compareOp .NotIn) (rInDT X.K true) := by
  intro pins s σ H x y v u Q I rx ry h
  obtain ⟨d, ds, hd, he, sd, se, q⟩ := h
  obtain ⟨as, r1⟩ := Dp.reads I d x v hd rx
  obtain ⟨bs, r2⟩ := Dp.reads I (.tuple ds) y u he ry
  exact SeqAt.notIn_tuple_reads r2 r1 (SeqAt.canLay_of_shaped se) (SeqAt.canLay_of_shaped sd) (room_in_shaped sd hu) ⟨.bl _, H, I, rfl, q⟩
theorem op_inDT (hu : X.A.units + 65 < cLine) : OpR X (compareOp .In) (rInDT X.K false) := by
  intro pins s σ H x y v u Q I rx ry h
  obtain ⟨d, ds, hd, he, sd, se, q⟩ := h
  obtain ⟨as, r1⟩ := Dp.reads I d x v hd rx
  obtain ⟨bs, r2⟩ := Dp.reads I (.tuple ds) y u he ry
  exact SeqAt.in_tuple_reads r2 r1 (SeqAt.canLay_of_shaped se) (SeqAt.canLay_of_shaped sd) (room_in_shaped sd hu) ⟨.bl _, H, I, rfl, q⟩
end
end Ow
end
section
set_option maxHeartbeats 4000000
/-! tuple * int, the int 1 or more. -/
namespace Ow
open PySem PySem.Spec PyProof.Rows L2
theorem tuple_mul1W (l : Addr) (items : Array Value) (n : Nat) (dd : Option Addr) (sl : Array (Option Value)) (u : Tok) :
    Meets (Builtin.«tuple.__mul__» ⟨[.ref l, .int 1 u], []⟩) (fun _ R s => s.heap.get? l = some { cls := .type "tuple", dict := dd, data := .seq items n, slots := sl } ∧
      R (.ok (.ret (Value.ref l))) s) :=
  .of_wp fun prog w A R s h => by
    obtain ⟨hp, g, d, tk, os⟩ := s
    obtain ⟨hl, h⟩ := h
    have f1 := AutoSeq1.idx_int
    wp_walk using wpAny_loadPart' hl
    exact ⟨_, rfl, h⟩
section
variable {X : Cx}
theorem op_repT1 : OpR X (binaryOp .Mult) (fun x y H Q => ∃ l xs, x = .ref l ∧ y = .int 1 ∧ SqT X.K H l xs ∧ Q (.ref l) H) := by
  intro pins s σ H x y v u Q I rx ry h
  obtain ⟨l, xs, rfl, rfl, hT, q⟩ := h
  cases rx
  obtain ⟨t, rfl⟩ := ry
  obtain ⟨its, r, ⟨⟨cls, dd, data, sl⟩, ho, hc, n, hd⟩, hs⟩ := I.tuple hT
  simp only at hc hd
  subst hc hd
  refine wpAny_binaryOp_repeat_ref (T := "tuple") (U := "int") (by decide) ⟨_, ho, rfl⟩ (fun s' => typeIs_int s' 1 t) noFill_tuple_mul F.fills_int_mul F.slot_int_rmul repeat_tuple F.slot_int_index.lookup
    (call_meets F.slot_int_rmul (typeIs_int s 1 t) F.entry_int_rmul (F.args_int_rmul_2 _ _) (int_rmul_tuple 1 t l its.toArray n dd sl)
      ⟨ho, rfl, ⟨_, ho, rfl⟩, call_meets F.slot_tuple_mul ⟨_, ho, rfl⟩ F.entry_tuple_mul (F.args_tuple_mul_2 _ _) (tuple_mul1W l its.toArray n dd sl t) ⟨ho, ?_⟩⟩)
  exact ⟨.ref l, H, I, rfl, q⟩
/-- t * k, k from 1 on: a new tuple, or the very one -/
def rRepT1 : R2 := fun x y H Q => ∃ l k xs, x = .ref l ∧ y = .int k ∧ H l = some (.tup xs) ∧ xs ≠ [] ∧ 1 ≤ k ∧ k ≤ 1000 ∧ xs.length ≤ 1000 ∧ ∀ t H', Same H H' → H' t = some (.tup (List.replicate k.toNat xs).flatten) → (H t = none ∨ t = l) → Q (.ref t) H'
theorem op_repTK : OpR X (binaryOp .Mult) rRepT1 := by
  intro pins s σ H x y v u Q I rx ry h
  obtain ⟨l, k, xs, rfl, rfl, hT, hne, h1, h2, h3, q⟩ := h
  by_cases e : k = 1
  · subst e
    exact op_repT1 pins s σ H _ _ v u Q I rx ry ⟨l, xs, rfl, rfl, .inl (.inl hT), q l H (Same.refl H) (by simpa using hT) (.inr rfl)⟩
  · exact op_repT pins s σ H _ _ v u Q I rx ry ⟨l, k, xs, rfl, rfl, .inl (.inl hT), hne, by omega, h2, h3, fun p hp => q p _ (fresh_upd hp).same (fresh_upd (o := .tup (List.replicate k.toNat xs).flatten) hp).at_ (.inl hp)⟩
end
end Ow
end
section
set_option maxHeartbeats 4000000
/-! An instance made by a local name that holds the class; a classmethod called by keywords. -/
namespace Ow
open PySem PySem.Spec PyProof.Rows L2 StX ClX
section
variable {X : Cx} {CX : CXT} {n i : Nat} {C g : Addr} {sp : Sp} {E : XK} {x : Str} {p pos : Pos} {e : Expr} {es : List Expr} {t : TA}
/-- x(e, ..): slot i holds the class at C -/
def tMakeL (i : Nat) (C : Addr) (sp : Sp) (E : XK) (t : TA) : TE := fun σ H Q => σ[i]? = some (some (.ref C)) ∧ t σ H (kMake C sp E Q)
theorem pe_makeL (M : Mk X.K C g) (F : FnR X.prog X.w X.K X.mg X.base CX n g sp) (hr : Room (n + 1) X.A) (hN : X.N[i]? = some x) (hv : Vis X.env.scope x) (hx : Passes CX X E) (ha : PA X (e :: es) t)
    (hdb : (x == ("__debug__" : Str)) = false := by decide) (hcd : (x == ("__classdict__" : Str)) = false := by decide)
    (he : starEach (e :: es) X.env = (false, eval e X.env) :: starEach es X.env := by rfl) (hpl : (backTo pos (starEach es X.env)).any (·.1) = false := by rfl) : PE X (.Call (.Name x p) (e :: es) [] pos) (tMakeL i C sp E t) := by
  refine ⟨fun pins s σ H Q I h => ?_⟩
  obtain ⟨hs, ht⟩ := h
  refine wpAny_Call_Name_kw (thn ((pe_var (pos := p) hN hv hdb hcd).run pins s σ H (fun v H1 => v = .ref C ∧ H1 = H) I ⟨.ref C, hs, rfl, rfl⟩) fun u s1 ⟨v, H1, I1, r1, q1⟩ => ?_)
  obtain ⟨rfl, rfl⟩ := q1
  cases r1
  refine PySem.W.callWith_K (h₀ := X.base) I.ok.mod.kin M.kp (thn (ha.run pos pins s1 σ _ _ I1 ht) fun us s2 ⟨vs, H2, I2, r, q⟩ => ⟨I2.kIn, ?_⟩) he hpl
  exact run_makeR M F hr hx I2 r q
end
section
variable {X : Cx} {CX : CXT} {k : Nat} {C p g : Addr} {mc : Value} {sp : Sp} {E : XK} {o : Expr} {m : Str} {pos apos : Pos} {ta : TE} {pl : Sem Bool}
/-- C.m(k=e, ..), m a classmethod, by keywords alone -/
def tCMethK (C : Addr) (n : Nat) (sp : Sp) (gV : List V → List V → List V) (E : XK) (ta : TE) (tk : TA) : TE := fun σ H Q => ta σ H fun x H1 => x = .ref C ∧ tk σ H1 fun zs H2 => zs.length = n ∧ sp (gV [.ref C] zs) H2 Q E
theorem pe_cmethK {kws : List Keyword} {fd : FuncData} {ps ks : List Str} {tk : TA} {gl : List Value → List Value → List Value} {gV : List V → List V → List V} (he : PE X o ta) (r : CRead X.K C mc) (c : CMet X.K C mc m p g)
    (F : FnOk X.prog X.w X.K X.mg X.base CX k g fd ps sp) (hr : Room k X.A) (hb : KBn X.K fd ps 1 ks gl gV) (hx : Passes CX X E) (hkw : PK X kws tk)
    (hall : (backToKw pos (keywordEach kws X.env)).all (·.1.isSome) = true := by rfl) (hks : (backToKw pos (keywordEach kws X.env)).filterMap (·.1) = ks := by rfl)
    (hpl : ((backTo pos (starEach [] X.env)).any (·.1) || (backToKw pos (keywordEach kws X.env)).any (·.1.isNone)) = false := by rfl)
    (ht : eval (.Call (.Attribute o m apos) [] kws pos) X.env = (do
      let ov ← eval o X.env
      standAt apos.atName
      let (f, first) ← holding [ov] (getMethod ov m pl)
      callWith pos f first (backTo pos (starEach [] X.env)) (backToKw pos (keywordEach kws X.env))) := by rfl) :
    PE X (.Call (.Attribute o m apos) [] kws pos) (tCMethK C ks.length sp gV E ta tk) := by
  refine ⟨fun pins s σ H Q I h => ?_⟩
  refine PySem.W.methodCall_KW (pl := pl) (thn (he.run pins s σ H _ I h) fun u s1 ⟨x, H1, I1, rx, ex, q⟩ => ?_) ht
  subst ex
  obtain rfl : u = Value.ref C := rx
  refine getmethcm_ok I1 r c fun s2 I2 => ?_
  refine PySem.W.callWith_of hpl (PySem.W.keeps_M c.fi) (evalArgs_kw2_nil hall (thn (hkw.run pos _ s2 σ H1 _ I2 q) fun ws s3 ⟨zs, H3, I3, rz, l2, q2⟩ => ⟨⟨pin_at I3, I3.kIn⟩, ?_⟩))
  rw [hks]
  have r1 : Vals [V.ref C] [Value.ref C] := .cons rfl .nil
  refine thn (Q := EP X ((s1.heap.objs.size, PySem.W.methodObj (.ref g) (.ref C)) :: pins) σ Q) (wpAny_call (PySem.W.method_call (pin_at I3) (codeAny_mono (F.run X.A X.stack s3 H3 ⟨[.ref C], ks.zip ws⟩ (gl [.ref C] ws) (gV [.ref C] zs) Q E hr I3.env0 (hb.to s3 [.ref C] ws I3.kIn rfl (rz.length.symm.trans l2)) (hb.rel r1 rz) q2) fun r s' hq => ?_))) fun _ _ y => unpinE y
  cases r with
  | error e => exact hx _ σ H3 s3 e s' I3 hq
  | ok fl =>
    cases fl with
    | ret u => exact I3.after hq
    | next => exact False.elim hq
    | brk => exact False.elim hq
    | cont => exact False.elim hq
end
end Ow
end
section
/-! Texts of one sign: lstrip, rstrip, find within; runs; the region of a grid. -/
namespace Rg
open PySem PySem.Builtin PySem.Builtin.Str
open SX (S)
/-! ### lstrip, rstrip of one sign -/
def lead (c : Nat) : List Nat → Nat
  | [] => 0
  | d :: r => if d = c then lead c r + 1 else 0
theorem lead_tw (c : Nat) : ∀ r : List Nat, (r.takeWhile (fun d => (S [c]).cps.contains d)).length = lead c r
  | [] => rfl
  | d :: r => by
    have e : (S [c]).cps.contains d = decide (d = c) := by
      show (#[c] : Array Nat).contains d = _
      rw [Bool.eq_iff_iff]
      simp
    unfold lead
    by_cases h : d = c
    · rw [List.takeWhile_cons_of_pos (by rw [e, h]; simp), if_pos h, List.length_cons, lead_tw c r]
    · rw [List.takeWhile_cons_of_neg (by rw [e]; simp [h]), if_neg h]
      rfl
theorem lead_le (c : Nat) : ∀ r : List Nat, lead c r ≤ r.length
  | [] => Nat.le_refl _
  | d :: r => by
    have := lead_le c r
    unfold lead
    rw [List.length_cons]
    split <;> omega
theorem lead_at (c : Nat) : ∀ (r : List Nat) (i : Nat), i < lead c r → r[i]? = some c
  | [], i, h => absurd h (Nat.not_lt_zero _)
  | d :: r, i, h => by
    unfold lead at h
    by_cases e : d = c
    · rw [if_pos e] at h
      cases i with
      | zero => rw [e]; rfl
      | succ i => exact lead_at c r i (by omega)
    · rw [if_neg e] at h
      exact absurd h (Nat.not_lt_zero _)
theorem lead_end (c : Nat) : ∀ (r : List Nat), r[lead c r]? ≠ some c
  | [] => by simp
  | d :: r => by
    unfold lead
    by_cases e : d = c
    · rw [if_pos e]
      exact lead_end c r
    · rw [if_neg e]
      intro z
      cases z
      exact e rfl
theorem strip_eq (g : Nat → Bool) (l r : Bool) (x : Str) : Txt.stripBy g l r x = PySem.stripped g l r x := by
  unfold Txt.stripBy
  split
  · rename_i h
    simp only [PySem.stripSame, Bool.and_eq_true, beq_iff_eq] at h
    unfold PySem.stripped
    rw [h.2, h.1]
    exact (congrArg Str.mk (by simp [Str.length])).symm
  · rfl
theorem lstrip_S (r : List Nat) (c : Nat) : Txt.lstripChars (S r) (S [c]) = S (r.drop (lead c r)) := by
  unfold Txt.lstripChars
  rw [strip_eq]
  unfold PySem.stripped PySem.stripLo PySem.stripHi
  simp only [if_true, Bool.false_eq_true, if_false]
  have e := lead_tw c r
  have e2 : ((S r).cps.toList.takeWhile (S [c]).cps.contains).length = lead c r := e
  rw [e2]
  refine congrArg Str.mk ?_
  rw [SX.S_len]
  simp [List.take_of_length_le]
theorem rstrip_len (r : List Nat) (c : Nat) : (Txt.rstripChars (S r) (S [c])).length = r.length - lead c r.reverse := by
  unfold Txt.rstripChars
  rw [strip_eq]
  unfold PySem.stripped PySem.stripLo PySem.stripHi
  simp only [if_true, Bool.false_eq_true, if_false]
  have e2 : (((S r).cps.toList.drop 0).reverse.takeWhile (S [c]).cps.contains).length = lead c r.reverse := lead_tw c r.reverse
  rw [e2, SX.S_len]
  show ((S r).cps.extract 0 (r.length - lead c r.reverse)).size = _
  simp
/-- [b, e) is the whole run of c around x -/
structure Run (row : List Nat) (c x b e : Nat) : Prop where
  bx : b ≤ x
  xe : x < e
  el : e ≤ row.length
  all : ∀ i, b ≤ i → i < e → row[i]? = some c
  lo : ∀ i, i + 1 = b → row[i]? ≠ some c
  hi : row[e]? ≠ some c
theorem run_of {row : List Nat} {c x : Nat} (h : row[x]? = some c) : Run row c x ((row.take x).length - lead c (row.take x).reverse) (x + lead c (row.drop x)) := by
  have hx := (List.getElem?_eq_some_iff.mp h).1
  have tl : (row.take x).length = x := List.length_take_of_le (by omega)
  have l1 := lead_le c (row.take x).reverse
  have l2 := lead_le c (row.drop x)
  rw [List.length_reverse, tl] at l1
  rw [List.length_drop] at l2
  have a1 := lead_at c (row.drop x)
  have a2 := lead_end c (row.drop x)
  have b1 := lead_at c (row.take x).reverse
  have b2 := lead_end c (row.take x).reverse
  rw [tl]
  have rv : ∀ i, i < x → (row.take x).reverse[i]? = row[x - 1 - i]? := fun i hi => by
    rw [List.getElem?_reverse (by rw [tl]; exact hi), tl, List.getElem?_take, if_pos (by omega)]
  have l0 : 0 < lead c (row.drop x) := by
    refine Nat.pos_of_ne_zero fun z => a2 ?_
    rw [z, List.getElem?_drop]
    exact h
  refine ⟨by omega, by omega, by omega, fun i h1 h2 => ?_, fun i hi => ?_, ?_⟩
  · by_cases hi : i < x
    · have := b1 (x - 1 - i) (by omega)
      rw [rv _ (by omega), show x - 1 - (x - 1 - i) = i from by omega] at this
      exact this
    · have := a1 (i - x) (by omega)
      rw [List.getElem?_drop, show x + (i - x) = i from by omega] at this
      exact this
  · rw [rv _ (by omega), show x - 1 - lead c (row.take x).reverse = i from by omega] at b2
    exact b2
  · rw [List.getElem?_drop] at a2
    exact a2
/-! ### find within -/
theorem occ_stay (s sub : Str) (hi : Nat) : ∀ (l : List Nat) (st : Array Nat × Nat), 1 ≤ st.fst.size → (forIn l st (StrLaws.occBody s sub hi 1)).run.fst = st.fst
  | [], st, h => rfl
  | a :: l, st, h => by
    rw [List.forIn_cons]
    unfold StrLaws.occBody
    rw [if_neg (by omega)]
    exact occ_stay s sub hi l _ h
theorem occ_first (s sub : Str) (hi : Nat) : ∀ (l : List Nat) (free : Nat), (∀ i ∈ l, free ≤ i) →
    (forIn l ((#[] : Array Nat), free) (StrLaws.occBody s sub hi 1)).run.fst.toList = (l.find? fun i => decide (i + sub.length ≤ hi ∧ subAt s sub i = true)).toList
  | [], free, _ => rfl
  | a :: l, free, hf => by
    rw [List.forIn_cons]
    unfold StrLaws.occBody
    have ha : free ≤ a := hf a List.mem_cons_self
    by_cases hc : a + sub.length ≤ hi ∧ subAt s sub a = true
    · have c1 : (((#[] : Array Nat), free).fst.size < 1 ∧ ((#[] : Array Nat), free).snd ≤ a) ∧ a + sub.length ≤ hi := ⟨⟨by simp, ha⟩, hc.1⟩
      rw [if_pos ⟨c1, hc.2⟩, List.find?_cons_of_pos (by simp [hc.1, hc.2])]
      exact congrArg Array.toList (occ_stay s sub hi l (#[].push a, a + sub.length) (by simp))
    · have c2 : ¬ (((((#[] : Array Nat), free).fst.size < 1 ∧ ((#[] : Array Nat), free).snd ≤ a) ∧ a + sub.length ≤ hi) ∧ subAt s sub a = true) := fun h => hc ⟨h.1.2, h.2⟩
      rw [if_neg c2, List.find?_cons_of_neg (by simpa using hc)]
      exact occ_first s sub hi l free fun i h => hf i (List.mem_cons_of_mem _ h)
theorem find_in (row : List Nat) (c b e : Nat) (he : e ≤ row.length) :
    (Txt.findIn (S row) (S [c]) b e = -1 ∧ ∀ i, b ≤ i → i < e → row[i]? ≠ some c) ∨
    ∃ i : Nat, Txt.findIn (S row) (S [c]) b e = i ∧ b ≤ i ∧ i < e ∧ row[i]? = some c ∧ ∀ j, b ≤ j → j < i → row[j]? ≠ some c := by
  have hb : fromIndex (S row).length (b : Int) = b := by unfold fromIndex; rw [if_neg (by omega)]; omega
  have hE : toIndexW (S row).length (e : Int) = e := by rw [SX.S_len]; unfold toIndexW; rw [if_neg (by omega)]; omega
  have iff : ∀ i, (i + (S [c]).length ≤ e ∧ subAt (S row) (S [c]) i = true) ↔ (i < e ∧ row[i]? = some c) := fun i => by
    have z := StrLaws.subAt_one (S row) c i
    have l1 : (S [c]).length = 1 := rfl
    rw [l1]
    rw [show ((⟨#[c]⟩ : Str).length) = 1 from rfl, SX.S_len] at z
    exact ⟨fun h => ⟨by omega, z.mp ⟨by omega, h.2⟩⟩, fun h => ⟨by omega, (z.mpr h.2).2⟩⟩
  unfold Txt.findIn
  have oc : occurrences (S row) (S [c]) b e 1 = ((List.range' b (e + 1 - b)).find? fun i => decide (i + (S [c]).length ≤ e ∧ subAt (S row) (S [c]) i = true)).toList := by
    rw [StrLaws.occ_eq]
    exact occ_first _ _ _ _ _ fun i hi => by
      exact (List.mem_range'_1.mp hi).1
  rw [hb, hE, oc]
  cases hf : (List.range' b (e + 1 - b)).find? (fun i => decide (i + (S [c]).length ≤ e ∧ subAt (S row) (S [c]) i = true)) with
  | none =>
    refine .inl ⟨rfl, fun i h1 h2 h3 => ?_⟩
    have z := List.find?_eq_none.mp hf i (List.mem_range'_1.mpr ⟨h1, by omega⟩)
    exact z (decide_eq_true ((iff i).mpr ⟨h2, h3⟩))
  | some i =>
    obtain ⟨p, hm, hj⟩ := List.find?_range'_eq_some.mp hf
    have z := (iff i).mp (of_decide_eq_true p)
    have hm : b ≤ i := (List.mem_range'_1.mp hm).1
    refine .inr ⟨i, rfl, hm, z.1, z.2, fun j h1 h2 h3 => ?_⟩
    have q := hj j h1 h2
    rw [decide_eq_true ((iff j).mpr ⟨by omega, h3⟩)] at q
    cases q
end Rg
end
section
/-! The region of a grid: marked run by run. -/
namespace Rg
abbrev Cel : Type := Nat × Nat
def cell (g : List (List Nat)) (p : Cel) : Option Nat := (g[p.2]?).bind fun r => r[p.1]?
def Adj (p q : Cel) : Prop := (p.1 = q.1 ∧ (p.2 + 1 = q.2 ∨ q.2 + 1 = p.2)) ∨ (p.2 = q.2 ∧ (p.1 + 1 = q.1 ∨ q.1 + 1 = p.1))
/-- what hangs together with s in the sign c -/
inductive Conn (g : List (List Nat)) (c : Nat) (s : Cel) : Cel → Prop
  | base : cell g s = some c → Conn g c s s
  | step {p q : Cel} : Conn g c s p → Adj p q → cell g q = some c → Conn g c s q
theorem Conn.at_ {g : List (List Nat)} {c : Nat} {s p : Cel} (h : Conn g c s p) : cell g p = some c := by
  cases h with
  | base h => exact h
  | step _ _ h => exact h
def mkr (row : List Nat) (m b e : Nat) : List Nat := row.take b ++ List.replicate (e - b) m ++ row.drop e
theorem mkr_len {row : List Nat} {m b e : Nat} (hb : b ≤ e) (he : e ≤ row.length) : (mkr row m b e).length = row.length := by
  unfold mkr
  rw [List.length_append, List.length_append, List.length_take, List.length_replicate, List.length_drop]
  omega
theorem mkr_at {row : List Nat} {m b e : Nat} (hb : b ≤ e) (he : e ≤ row.length) (i : Nat) : (mkr row m b e)[i]? = if b ≤ i ∧ i < e then some m else row[i]? := by
  unfold mkr
  have lt : (row.take b).length = b := List.length_take_of_le (by omega)
  by_cases h1 : i < b
  · rw [if_neg (by omega), List.append_assoc, List.getElem?_append_left (by omega), List.getElem?_take, if_pos h1]
  · by_cases h2 : i < e
    · rw [if_pos ⟨by omega, h2⟩, List.append_assoc, List.getElem?_append_right (by omega), lt, List.getElem?_append_left (by rw [List.length_replicate]; omega), List.getElem?_replicate, if_pos (by omega)]
    · rw [if_neg (by omega), List.getElem?_append_right (by rw [List.length_append, lt, List.length_replicate]; omega), List.getElem?_drop, List.length_append, lt, List.length_replicate]
      congr 1
      omega
theorem cell_set {g : List (List Nat)} {y : Nat} {r : List Nat} (hy : y < g.length) (p : Cel) : cell (g.set y r) p = if p.2 = y then r[p.1]? else cell g p := by
  unfold cell
  by_cases h : p.2 = y
  · rw [if_pos h, h, List.getElem?_set_self hy]
    rfl
  · rw [if_neg h, List.getElem?_set_ne (fun e => h e.symm)]
theorem cell_mk {g : List (List Nat)} {y m b e : Nat} {row : List Nat} (hy : g[y]? = some row) (hb : b ≤ e) (he : e ≤ row.length) (p : Cel) : cell (g.set y (mkr row m b e)) p = if p.2 = y ∧ b ≤ p.1 ∧ p.1 < e then some m else cell g p := by
  rw [cell_set (List.getElem?_eq_some_iff.mp hy).1]
  by_cases h : p.2 = y
  · rw [if_pos h, mkr_at hb he]
    by_cases h2 : b ≤ p.1 ∧ p.1 < e
    · rw [if_pos h2, if_pos ⟨h, h2⟩]
    · rw [if_neg h2, if_neg (fun z => h2 z.2)]
      unfold cell
      rw [h, hy]
      rfl
  · rw [if_neg h, if_neg (fun z => h z.1)]
/-- q lies on one run with a seed -/
def Reach (new : List (List Nat)) (c : Nat) (sd : List Cel) (q : Cel) : Prop := ∃ e ∈ sd, e.2 = q.2 ∧ ∀ i, min e.1 q.1 ≤ i → i ≤ max e.1 q.1 → cell new (i, q.2) = some c
structure Mid (g new : List (List Nat)) (c m : Nat) (s : Cel) (sd : List Cel) : Prop where
  cells : ∀ p, cell new p = cell g p ∨ (cell new p = some m ∧ Conn g c s p)
  seeds : ∀ q ∈ sd, Conn g c s q
  clos : ∀ p q, cell new p = some m → Adj p q → cell g q = some c → cell new q = some m ∨ Reach new c sd q
  start : cell new s = some m ∨ Reach new c sd s
theorem Mid.init {g : List (List Nat)} {c m : Nat} {s : Cel} (hs : cell g s = some c) (gm : ∀ p, cell g p ≠ some m) : Mid g g c m s [s] where
  cells _ := .inl rfl
  seeds q hq := by rw [List.mem_singleton.mp hq]; exact .base hs
  clos p _ h := absurd h (gm p)
  start := .inr ⟨s, List.mem_singleton.mpr rfl, rfl, fun i h1 h2 => by
    have : i = s.1 := by omega
    subst this
    exact hs⟩
theorem Mid.skip {g new : List (List Nat)} {c m : Nat} {s e0 : Cel} {sd : List Cel} (h : Mid g new c m s (sd ++ [e0])) (hn : cell new e0 ≠ some c) : Mid g new c m s sd := by
  have tr : ∀ q, Reach new c (sd ++ [e0]) q → Reach new c sd q := fun q ⟨e, he, e2, hr⟩ => by
    rcases List.mem_append.mp he with he | he
    · exact ⟨e, he, e2, hr⟩
    · rw [List.mem_singleton.mp he] at e2 hr
      have z := hr e0.1 (by omega) (by omega)
      rw [← e2] at z
      exact absurd z hn
  exact ⟨h.cells, fun q hq => h.seeds q (List.mem_append_left _ hq), fun p q h1 h2 h3 => (h.clos p q h1 h2 h3).imp id (tr q), h.start.imp id (tr s)⟩
theorem Mid.mark {g new : List (List Nat)} {c m : Nat} {s e0 : Cel} {sd sd' : List Cel} {row : List Nat} {b e : Nat} (hcm : c ≠ m) (h : Mid g new c m s (sd ++ [e0])) (hy : new[e0.2]? = some row) (R : Run row c e0.1 b e)
    (hk : ∀ q ∈ sd, q ∈ sd') (hs : ∀ q ∈ sd', q ∈ sd ∨ ((q.2 + 1 = e0.2 ∨ e0.2 + 1 = q.2) ∧ b ≤ q.1 ∧ q.1 < e ∧ cell new q = some c))
    (hc : ∀ q : Cel, (q.2 + 1 = e0.2 ∨ e0.2 + 1 = q.2) → b ≤ q.1 → q.1 < e → cell new q = some c → ∃ t ∈ sd', t.2 = q.2 ∧ t.1 ≤ q.1 ∧ ∀ i, t.1 ≤ i → i ≤ q.1 → cell new (i, q.2) = some c) :
    Mid g (new.set e0.2 (mkr row m b e)) c m s sd' := by
  have cm := cell_mk (m := m) hy (Nat.le_of_lt (Nat.lt_of_le_of_lt R.bx R.xe)) R.el
  have inr : ∀ i, cell new (i, e0.2) = row[i]? := fun i => by
    unfold cell
    show (new[e0.2]?).bind _ = _
    rw [hy]
    rfl
  have gc : ∀ p, cell new p = some c → cell g p = some c := fun p hp => by
    rcases h.cells p with z | z
    · rw [← z]; exact hp
    · rw [hp] at z
      exact absurd (Option.some.inj z.1) hcm
  have runC : ∀ i, b ≤ i → i < e → cell new (i, e0.2) = some c := fun i h1 h2 => (inr i).trans (R.all i h1 h2)
  have c0 := h.seeds e0 (by simp)
  have right : ∀ k, e0.1 + k < e → Conn g c s (e0.1 + k, e0.2) := fun k => by
    induction k with
    | zero => exact fun _ => c0
    | succ k ih => exact fun hk => .step (ih (by omega)) (.inr ⟨rfl, .inl rfl⟩) (gc _ (runC _ (by have := R.bx; omega) hk))
  have left : ∀ k, b + k ≤ e0.1 → Conn g c s (e0.1 - k, e0.2) := fun k => by
    induction k with
    | zero => exact fun _ => c0
    | succ k ih => exact fun hk => .step (ih (by omega)) (.inr ⟨rfl, .inr (by show e0.1 - (k + 1) + 1 = e0.1 - k; omega)⟩) (gc _ (runC _ (by have := R.xe; omega) (by have := R.xe; omega)))
  have conn : ∀ i, b ≤ i → i < e → Conn g c s (i, e0.2) := fun i h1 h2 => by
    by_cases z : e0.1 ≤ i
    · have := right (i - e0.1) (by omega)
      rw [show e0.1 + (i - e0.1) = i from by omega] at this
      exact this
    · have := left (e0.1 - i) (by omega)
      rw [show e0.1 - (e0.1 - i) = i from by omega] at this
      exact this
  have tr : ∀ q, Reach new c (sd ++ [e0]) q → cell (new.set e0.2 (mkr row m b e)) q = some m ∨ Reach (new.set e0.2 (mkr row m b e)) c sd' q := fun q ⟨d, hd, d2, hr⟩ => by
    by_cases hq : q.2 = e0.2
    · by_cases hin : b ≤ q.1 ∧ q.1 < e
      · left
        rw [cm, if_pos ⟨hq, hin⟩]
      · right
        have hr' : ∀ i, min d.1 q.1 ≤ i → i ≤ max d.1 q.1 → row[i]? = some c := fun i h1 h2 => by
          have z := hr i h1 h2
          rw [hq, inr] at z
          exact z
        have out : ∀ i, min d.1 q.1 ≤ i → i ≤ max d.1 q.1 → ¬ (b ≤ i ∧ i < e) := fun i h1 h2 h3 => by
          by_cases lo : q.1 < b
          · exact R.lo (b - 1) (by omega) (hr' (b - 1) (by omega) (by omega))
          · exact R.hi (hr' e (by omega) (by omega))
        have ne : d ≠ e0 := fun z => out d.1 (by omega) (by omega) (by rw [z]; exact ⟨R.bx, R.xe⟩)
        have hd' : d ∈ sd := by
          rcases List.mem_append.mp hd with z | z
          · exact z
          · exact absurd (List.mem_singleton.mp z) ne
        exact ⟨d, hk d hd', d2, fun i h1 h2 => by rw [cm, if_neg (fun z => out i h1 h2 z.2)]; exact hr i h1 h2⟩
    · right
      have ne : d ≠ e0 := fun z => hq (by rw [← d2, z])
      have hd' : d ∈ sd := by
        rcases List.mem_append.mp hd with z | z
        · exact z
        · exact absurd (List.mem_singleton.mp z) ne
      exact ⟨d, hk d hd', d2, fun i h1 h2 => by rw [cm, if_neg (fun z => hq z.1)]; exact hr i h1 h2⟩
  have keep : ∀ q, cell new q = some m → cell (new.set e0.2 (mkr row m b e)) q = some m := fun q hq => by
    rw [cm]
    split
    · rfl
    · exact hq
  refine ⟨fun p => ?_, fun q hq => ?_, fun p q h1 h2 h3 => ?_, h.start.elim (fun z => .inl (keep s z)) (tr s)⟩
  · rw [cm]
    by_cases hp : p.2 = e0.2 ∧ b ≤ p.1 ∧ p.1 < e
    · rw [if_pos hp]
      right
      refine ⟨rfl, ?_⟩
      have := conn p.1 hp.2.1 hp.2.2
      rw [← hp.1] at this
      exact this
    · rw [if_neg hp]
      exact h.cells p
  · rcases hs q hq with z | ⟨z1, z2, z3, z4⟩
    · exact h.seeds q (List.mem_append_left _ z)
    · exact .step (conn q.1 z2 z3) (.inl ⟨rfl, by rcases z1 with z1 | z1; exact .inr z1; exact .inl z1⟩) (gc _ z4)
  · rw [cm] at h1
    by_cases hp : p.2 = e0.2 ∧ b ≤ p.1 ∧ p.1 < e
    · rcases h2 with ⟨a1, a2⟩ | ⟨a1, a2⟩
      · have qy : q.2 + 1 = e0.2 ∨ e0.2 + 1 = q.2 := by omega
        rcases h.cells q with z | z
        · have z' : cell new q = some c := z.trans h3
          obtain ⟨t, ht, t2, t3, t4⟩ := hc q qy (by omega) (by omega) z'
          right
          refine ⟨t, ht, t2, fun i g1 g2 => ?_⟩
          rw [cm, if_neg (fun z => by have := z.1; simp only at this; omega)]
          exact t4 i (by omega) (by omega)
        · exact .inl (keep q z.1)
      · left
        by_cases hq : b ≤ q.1 ∧ q.1 < e
        · rw [cm, if_pos ⟨by omega, hq⟩]
        · rcases h.cells q with z | z
          · have z' : cell new (q.1, e0.2) = some c := by
              rw [show ((q.1, e0.2) : Cel) = q from by rw [← hp.1, a1]]
              exact z.trans h3
            rw [inr] at z'
            by_cases lo : q.1 < b
            · exact absurd z' (R.lo q.1 (by omega))
            · have : q.1 = e := by omega
              rw [this] at z'
              exact absurd z' R.hi
          · exact keep q z.1
    · rw [if_neg hp] at h1
      exact (h.clos p q h1 h2 h3).elim (fun z => .inl (keep q z)) (tr q)
theorem Mid.done {g new : List (List Nat)} {c m : Nat} {s : Cel} (gm : ∀ p, cell g p ≠ some m) (h : Mid g new c m s []) (p : Cel) : (Conn g c s p → cell new p = some m) ∧ (¬ Conn g c s p → cell new p = cell g p) := by
  have no : ∀ q, ¬ Reach new c [] q := fun q ⟨e, he, _⟩ => by cases he
  refine ⟨fun hp => ?_, fun hp => (h.cells p).elim id fun z => absurd z.2 hp⟩
  induction hp with
  | base _ => exact h.start.resolve_right (no _)
  | step _ a b ih => exact (h.clos _ _ ih a b).resolve_right (no _)
/-! ### how much is left -/
def left (g : List (List Nat)) (c : Nat) : Nat := (g.map (·.count c)).sum
theorem left_set (c : Nat) : ∀ (g : List (List Nat)) (y : Nat) (row r : List Nat), g[y]? = some row → left (g.set y r) c + row.count c = left g c + r.count c
  | [], y, row, r, h => by cases h
  | q :: g, 0, row, r, h => by
    cases h
    show (r.count c + left g c) + q.count c = (q.count c + left g c) + r.count c
    omega
  | q :: g, y + 1, row, r, h => by
    have := left_set c g y row r h
    show (q.count c + left (g.set y r) c) + row.count c = (q.count c + left g c) + r.count c
    omega
theorem mkr_count {row : List Nat} {c m x b e : Nat} (hcm : c ≠ m) (R : Run row c x b e) : (mkr row m b e).count c + (e - b) = row.count c := by
  have hbe := Nat.lt_of_le_of_lt R.bx R.xe
  have hm : (row.drop b).take (e - b) = List.replicate (e - b) c := by
    refine List.ext_getElem? fun i => ?_
    rw [List.getElem?_take, List.getElem?_drop, List.getElem?_replicate]
    by_cases hi : i < e - b
    · rw [if_pos hi, if_pos hi]
      exact R.all _ (by omega) (by omega)
    · rw [if_neg hi, if_neg hi]
  have sp : row = row.take b ++ List.replicate (e - b) c ++ row.drop e := by
    have z1 := (List.take_append_drop b row).symm
    have z2 := (List.take_append_drop (e - b) (row.drop b)).symm
    rw [hm, List.drop_drop, show b + (e - b) = e from by omega] at z2
    rw [z2, ← List.append_assoc] at z1
    exact z1
  have e1 := congrArg (List.count c) sp
  rw [List.count_append, List.count_append, List.count_replicate_self] at e1
  unfold mkr
  rw [List.count_append, List.count_append, List.count_eq_zero.mpr (show c ∉ List.replicate (e - b) m from fun z => hcm (List.mem_replicate.mp z).2)]
  omega
end Rg
end
section
/-! Comprehensions of two loops. -/
namespace Ow
open PySem PySem.Spec PyProof.Rows L2 StX
/-- the inner loop -/
def kIn (J1 : It) (g1 : TG) (tt1 : TT) (te : TE) (vs1 : List Nat) (σ2 : L2.St) (D : Addr) (N : Hp → Prop) (H4 : Hp) : Prop := ∃ W1 : Nat → Nat → Hp → Prop, (∃ m, W1 0 m H4) ∧ ∀ j k H, W1 j k H →
  (J1.stop j H ∧ N H) ∨ (J1.go j H ∧ ∃ Nx1 : Hp → Prop, (∀ H', Nx1 H' → ∃ k', k' < k ∧ W1 (j + 1) k' H') ∧ ∀ x H', J1.yld j H x H' → g1 x (wipe σ2 vs1) H' fun σ3 H5 => wipe σ3 vs1 = wipe σ2 vs1 ∧ tt1 σ3 H5 fun b H6 =>
    if b = true then te σ3 H6 (kApp D Nx1) else Nx1 H6)
def kLc2 (J : It) (g : TG) (tt : TT) (wi1 : TI) (g1 : TG) (tt1 : TT) (te : TE) (vs vs1 : List Nat) (σ : L2.St) (Q : VK) (H1 : Hp) : Prop := ∀ D, H1 D = none → ∃ W : Nat → Nat → Hp → Prop, (∃ m, W 0 m (upd H1 D (.lst []))) ∧ ∀ i m H, W i m H →
  (J.stop i H ∧ Q (.ref D) H) ∨ (J.go i H ∧ ∃ Nx : Hp → Prop, (∀ H', Nx H' → ∃ m', m' < m ∧ W (i + 1) m' H') ∧ ∀ x H', J.yld i H x H' → g x (wipe σ vs) H' fun σ2 H2 => wipe σ2 vs = wipe σ vs ∧ tt σ2 H2 fun b H3 =>
    if b = true then wi1 σ2 H3 fun J1 H4 => kIn J1 g1 tt1 te vs1 σ2 D Nx H4 else Nx H3)
theorem tLc2_k (wi : TI) (g : TG) (tt : TT) (wi1 : TI) (g1 : TG) (tt1 : TT) (te : TE) (vs vs1 : List Nat) : tLc2 wi g tt wi1 g1 tt1 te vs vs1 = fun σ H Q => wi σ H fun J H1 => kLc2 J g tt wi1 g1 tt1 te vs vs1 σ Q H1 := rfl
theorem kIn.it {J : It} {n : Nat} {G : Hp → Prop} {Y : Nat → Hp → V → Hp → Prop} (w : Walk J n G Y) {g : TG} {tt : TT} {te : TE} {vs : List Nat} {σ : L2.St} {D : Addr} {N : Hp → Prop} {H4 : Hp} (I : Nat → Hp → Prop) (h0 : I 0 H4) (hG : ∀ i H, I i H → G H)
    (hs : ∀ i x H H', i < n → I i H → Y i H x H' → g x (wipe σ vs) H' fun σ2 H2 => wipe σ2 vs = wipe σ vs ∧ tt σ2 H2 fun b H3 => if b = true then te σ2 H3 (kApp D (I (i + 1))) else I (i + 1) H3)
    (hd : ∀ H', I n H' → N H') : kIn J g tt te vs σ D N H4 := by
  refine ⟨fun i m H => m = n - i ∧ i ≤ n ∧ I i H, ⟨n, by simp, Nat.zero_le _, h0⟩, ?_⟩
  rintro i m H ⟨rfl, hi, p⟩
  have q := hG i H p
  by_cases hlt : i < n
  · exact .inr ⟨w.goes i H hlt q, I (i + 1), fun H' p' => ⟨n - (i + 1), by omega, rfl, hlt, p'⟩, fun x H' y => hs i x H H' hlt p (w.yields i H x H' hlt q y)⟩
  · have e : i = n := by omega
    subst e
    exact .inl ⟨w.stops H q, hd H p⟩
theorem kLc2.it {J : It} {n : Nat} {G : Hp → Prop} {Y : Nat → Hp → V → Hp → Prop} (w : Walk J n G Y) {g : TG} {tt : TT} {wi1 : TI} {g1 : TG} {tt1 : TT} {te : TE} {vs vs1 : List Nat} {σ : L2.St} {Q : VK} {H1 : Hp} (I : Addr → Nat → Hp → Prop) (h0 : ∀ D H', Fresh H1 H' D (.lst []) → I D 0 H') (hG : ∀ D i H, I D i H → G H)
    (hs : ∀ D i x H H', i < n → I D i H → Y i H x H' → g x (wipe σ vs) H' fun σ2 H2 => wipe σ2 vs = wipe σ vs ∧ tt σ2 H2 fun b H3 => if b = true then wi1 σ2 H3 fun J1 H4 => kIn J1 g1 tt1 te vs1 σ2 D (I D (i + 1)) H4 else I D (i + 1) H3)
    (hd : ∀ D H', I D n H' → Q (.ref D) H') : kLc2 J g tt wi1 g1 tt1 te vs vs1 σ Q H1 := fun D hD => by
  refine ⟨fun i m H => m = n - i ∧ i ≤ n ∧ I D i H, ⟨n, by simp, Nat.zero_le _, h0 D _ (fresh_upd hD)⟩, ?_⟩
  rintro i m H ⟨rfl, hi, p⟩
  have q := hG D i H p
  by_cases hlt : i < n
  · exact .inr ⟨w.goes i H hlt q, I D (i + 1), fun H' p' => ⟨n - (i + 1), by omega, rfl, hlt, p'⟩, fun x H' y => hs D i x H H' hlt p (w.yields i H x H' hlt q y)⟩
  · have e : i = n := by omega
    subst e
    exact .inl ⟨w.stops H q, hd D H p⟩
end Ow
end
section
set_option maxHeartbeats 2000000
/-! A displayed dict of one pair whose key is a tuple. -/
namespace Ow
open PySem PySem.Spec PyProof.Rows L2 StX
def tDispT (tk tv : TE) : TE := fun σ H Q => ∀ p, H p = none → tk σ (upd H p (.dT [])) fun x H1 => tv σ H1 fun y H2 => H2 p = some (.dT []) ∧ ∃ (k : List Key) (b : Addr), x = .ref b ∧ H2 b = some (.tup (k.map kV)) ∧ Q (.ref p) (upd H2 p (.dT [(k, y)]))
theorem pe_dispT {X : Cx} {pos : Pos} {k v : Expr} {tk tv : TE} (hu : X.A.units + 1 < cLine) (hk : PE X k tk) (hv : PE X v tv) : PE X (.Dict [some k] [v] pos) (tDispT tk tv) := by
  refine ⟨fun pins s σ H Q I q => ?_⟩
  have hn := I.hok.fresh (Nat.le_refl s.heap.objs.size)
  have I1 := I.laid (a := s.heap.objs.size) (o := .dT []) (h' := s.heap.push { cls := .type "dict", data := .dict #[] }) (t' := s.toks) (fun _ _ q => Heap.get?_push_of_some _ q) (Nat.le_refl _) (dt_empty s.heap I.big)
  rw [arm_eval_Dict, zip_pairTrees [some k] [v] X.env pos rfl rfl, dictDisplay_pairs (pairTrees [some k] [v] X.env pos) (by simp [pairTrees]) (by simp [pairTrees])]
  refine wpAny_bind (wpAny_standAt (wpAny_bind (wpAny_subDictH (knd := tupleKind (mixKind X.prog X.w)) (Q := fun d s' => wpAny (model X.prog X.w) X.A (pure (Value.ref d)) (EP X pins σ Q) X.xe s') (show X.A.units < cLine by omega) (by simp [pairTrees]) ?_)))
  have hp : PPs X pos [some k] [v] [(tk, tv)] := pps_cons hk hv pps_nil
  refine thn (hp.run pins _ σ _ (fun ps H2 => match ps with
    | [(x, y)] => H2 s.heap.objs.size = some (.dT []) ∧ ∃ (k : List Key) (b : Addr), x = .ref b ∧ H2 b = some (.tup (k.map kV)) ∧ Q (.ref s.heap.objs.size) (upd H2 s.heap.objs.size (.dT [(k, y)]))
    | _ => False) I1 (q _ hn)) fun vs s2 ⟨ps, H2, I2, rel, q2⟩ => ?_
  cases rel with
  | nil => exact False.elim q2
  | @cons p w ps ws hpw rest =>
    cases rest with
    | cons _ _ => exact False.elim q2
    | nil =>
      obtain ⟨x, y⟩ := p
      obtain ⟨u1, u2⟩ := w
      obtain ⟨e, ks, b, ex, eb, q3⟩ := q2
      obtain ⟨rx, ry⟩ := hpw
      subst ex
      cases (show u1 = Value.ref b from rx)
      obtain ⟨z, hd, xs, r0, dd⟩ := dt_of I2.hok e
      cases r0
      refine ⟨[(ks, b, u2)], ⟨rfl, rfl, key_of I2.hok eb, True.intro⟩, dd, fun h' tk' dd' hs => wpAny_pure ?_⟩
      obtain ⟨o, es, ep, hq, h2, h3, h4, _, h5⟩ := dd'
      refine ⟨.ref s.heap.objs.size, _, d_write (ob := .dT [(ks, y)]) I2 (by rw [e]; exact True.intro) hs ⟨o, hq⟩ ⟨by show 1 ≤ sizeLine; decide, hd, [(ks, b, u2)], .cons ⟨rfl, ?_, ry⟩ .nil, o, es, ep, hq, h2, h3, h4, h5⟩, rfl, q3⟩
      rw [upd_ne (ne_of eb e (fun z => nomatch z))]
      exact eb
end Ow
end
section
set_option maxHeartbeats 2000000
/-! A list's slice [::e], e 1 or -1. -/
namespace Ow
open PySem PySem.Spec PyProof.Rows L2 StX
def tSlSt (K : PySem.W.Frag) (te tt : TE) : TE := fun σ H Q => te σ H fun x H1 => tt σ H1 fun y H2 => ∃ (a : Addr) (xs : List V), x = .ref a ∧ SqL K H2 a xs ∧ ((y = .int 1 ∧ kN (.lst xs) Q H2) ∨ (y = .int (-1) ∧ kN (.lst xs.reverse) Q H2))
theorem pick_one (its : List Value) : PySem.slicePick its.toArray none none (some 1) = its.toArray := by
  have h : PySem.slicePick its.toArray none none (some 1) = PySem.slicePick its.toArray none none none := rfl
  rw [h, slicePick_cut]
  simp [HT.sIx]
theorem pick_back (its : List Value) : PySem.slicePick its.toArray none none (some (-1)) = its.reverse.toArray := by
  have hb : sliceBounds none none (some (-1)) its.toArray.size = ((its.length : Int) - 1, -1, -1) := by
    simp [sliceBounds]
  unfold PySem.slicePick
  rw [hb]
  unfold sliceRange
  have hc : (if (-1 : Int) > 0 then (if (its.length : Int) - 1 < -1 then (-1 - ((its.length : Int) - 1) + -1 - 1) / -1 else 0) else (if (its.length : Int) - 1 > -1 then ((its.length : Int) - 1 - -1 - -1 - 1) / (- -1) else 0)) = (its.length : Int) := by
    rw [if_neg (by decide)]
    by_cases h : (its.length : Int) - 1 > -1
    · rw [if_pos h]
      show ((its.length : Int) - 1 - -1 - -1 - 1) / 1 = _
      rw [Int.ediv_one]
      omega
    · rw [if_neg h]
      omega
  simp only at hc ⊢
  rw [hc, Int.toNat_natCast, List.filterMap_map]
  congr 1
  have key : ∀ n, n ≤ its.length → (List.range n).filterMap ((fun x => its.toArray[x]?) ∘ fun (k : Nat) => ((its.length : Int) - 1 + -1 * (k : Int)).toNat) = its.reverse.take n := fun n => by
    induction n with
    | zero => intro _; rfl
    | succ n ih =>
      intro h
      rw [List.range_succ, List.filterMap_append, ih (by omega), List.take_add_one, List.getElem?_reverse (by omega)]
      congr 1
      have e : (((fun x => its.toArray[x]?) ∘ fun (k : Nat) => ((its.length : Int) - 1 + -1 * (k : Int)).toNat) n) = its[its.length - 1 - n]? := by
        show its.toArray[((its.length : Int) - 1 + -1 * (n : Int)).toNat]? = _
        rw [show ((its.length : Int) - 1 + -1 * (n : Int)).toNat = its.length - 1 - n from by omega]
        simp
      rw [List.filterMap_cons, e, List.getElem?_eq_getElem (show its.length - 1 - n < its.length by omega)]
      rfl
  have z := key its.length (Nat.le_refl _)
  rw [List.take_of_length_le (by rw [List.length_reverse]; exact Nat.le_refl _)] at z
  exact z
theorem pe_sliceSt {X : Cx} {e st : Expr} {te tt : TE} {p2 pos : Pos} (he : PE X e te) (ht : PE X st tt) : PE X (.Subscript e (.Slice none none (some st) p2) pos) (tSlSt X.K te tt) := by
  refine ⟨fun pins s σ H Q I h => ?_⟩
  refine Subscript_ (thn (he.run pins s σ H _ I h) fun v s1 ⟨x, H1, I1, r1, q1⟩ => ?_)
  refine wpAny_Slice ?_
  rw [evalPart_none]
  refine wpAny_pure (wpAny_pure ?_)
  rw [evalPart_some]
  refine thn (ht.run pins s1 σ H1 _ I1 q1) fun u s2 ⟨y, H2, I2, r2, a, xs, ex, hx, q2⟩ => ?_
  subst ex
  cases r1
  have I3 : Inv X pins σ H2 { s2 with heap := s2.heap.push { cls := .type "slice", data := .fields #[.none, .none, u] } } := I2.kept (t' := s2.toks) fun b ob q => Heap.get?_push_of_some _ q
  obtain ⟨its, r, hl, hz⟩ := I3.list hx
  have fin : ∀ (k : Int) (ys : List V) (jts : List Value), IsPart u (some k) → k ≠ 0 → PySem.slicePick its.toArray none none (some k) = jts.toArray → Vals ys jts → ys.length ≤ xs.length → kN (.lst ys) Q H2 →
      wpAny (model X.prog X.w) X.A (getItem (.ref a) (.ref s2.heap.objs.size)) (EP X pins σ Q) X.xe { s2 with heap := s2.heap.push { cls := .type "slice", data := .fields #[.none, .none, u] } } := fun k ys jts hp k0 hpk rv hle q => by
    refine wpAny_getItem_list_slice hl.isList (Heap.IsSliceOf.new ..) .none .none hp (fun z => k0 (Option.some.inj z)) ?_ (by rw [List.size_toArray, ← r.length]; exact hz)
    rw [hpk]
    exact ⟨.ref _, _, I3.laid (t' := s2.toks) (o := .lst ys) (fun b ob q => Heap.get?_push_of_some _ q) (Nat.le_refl _) ⟨Nat.le_trans hle hz, _, 0, rv, Heap.get?_push_size _ rfl⟩, rfl, q _ (I3.hok.fresh (Nat.le_refl _))⟩
  have hid : typeLookup (.type "list") "__getitem__" = pure (some (.builtin _)) := slot_list_getitem.lookup
  have hrun : wpAny (model X.prog X.w) X.A (getItem (.ref a) (.ref s2.heap.objs.size)) (EP X pins σ Q) X.xe { s2 with heap := s2.heap.push { cls := .type "slice", data := .fields #[.none, .none, u] } } := by
    rcases q2 with ⟨rfl, q⟩ | ⟨rfl, q⟩
    · obtain ⟨t, rfl⟩ := r2
      exact fin 1 xs its (.int _ _) (by decide) (pick_one its) r (Nat.le_refl _) q
    · obtain ⟨t, rfl⟩ := r2
      exact fin (-1) xs.reverse its.reverse (.int _ _) (by decide) (pick_back its) (vals_rev r) (by rw [List.length_reverse]; exact Nat.le_refl _) q
  show wpAny (model X.prog X.w) X.A (subscriptTail e (.Slice none none (some st) p2) (.ref a) (.ref s2.heap.objs.size)) (EP X pins σ Q) X.xe { s2 with heap := s2.heap.push { cls := .type "slice", data := .fields #[.none, .none, u] } }
  exact tail_any (ops := [.ref a, .ref s2.heap.objs.size]) hl.isList.typeIs hid hrun (by with_unfolding_all rfl)
end Ow
end
section
set_option maxHeartbeats 2000000
/-! A text's and a tuple's slice [::e], e -1. -/
namespace Ow
open PySem PySem.Spec PyProof.Rows L2 StX
def revS (z : Str) : Str := ⟨z.cps.toList.reverse.toArray⟩
def tBackS (te tt : TE) : TE := fun σ H Q => te σ H fun x H1 => tt σ H1 fun y H2 => ∃ z, x = .str z ∧ y = .int (-1) ∧ z.length ≤ sizeLine ∧ Q (.str (revS z)) H2
def tBackT (K : PySem.W.Frag) (te tt : TE) : TE := fun σ H Q => te σ H fun x H1 => tt σ H1 fun y H2 => ∃ (a : Addr) (xs : List V), x = .ref a ∧ y = .int (-1) ∧ SqT K H2 a xs ∧ kN (.tup xs.reverse) Q H2
theorem pick_rev {α : Type} (xs : List α) : (List.range xs.length).filterMap (fun (k : Nat) => xs[((xs.length : Int) - 1 + -1 * (k : Int)).toNat]?) = xs.reverse := by
  have key : ∀ n, n ≤ xs.length → (List.range n).filterMap (fun (k : Nat) => xs[((xs.length : Int) - 1 + -1 * (k : Int)).toNat]?) = xs.reverse.take n := fun n => by
    induction n with
    | zero => intro _; rfl
    | succ n ih =>
      intro h
      rw [List.range_succ, List.filterMap_append, ih (by omega), List.take_add_one, List.getElem?_reverse (by omega)]
      congr 1
      rw [List.filterMap_cons, show ((xs.length : Int) - 1 + -1 * (n : Int)).toNat = xs.length - 1 - n from by omega, List.getElem?_eq_getElem (show xs.length - 1 - n < xs.length by omega)]
      rfl
  have z := key xs.length (Nat.le_refl _)
  rw [List.take_of_length_le (by rw [List.length_reverse]; exact Nat.le_refl _)] at z
  exact z
theorem range_back (n : Nat) : sliceRange ((n : Int) - 1) (-1) (-1) = (List.range n).map fun (k : Nat) => ((n : Int) - 1 + -1 * (k : Int)).toNat := by
  unfold sliceRange
  have hc : (if (-1 : Int) > 0 then (if (n : Int) - 1 < -1 then (-1 - ((n : Int) - 1) + -1 - 1) / -1 else 0) else (if (n : Int) - 1 > -1 then ((n : Int) - 1 - -1 - -1 - 1) / (- -1) else 0)) = (n : Int) := by
    rw [if_neg (by decide)]
    by_cases h : (n : Int) - 1 > -1
    · rw [if_pos h]
      show ((n : Int) - 1 - -1 - -1 - 1) / 1 = _
      rw [Int.ediv_one]
      omega
    · rw [if_neg h]
      omega
  simp only at hc ⊢
  rw [hc, Int.toNat_natCast]
theorem made_back (x : Str) (t u : Tok) : sliceMade x t none none (some (-1, u)) = .str (revS x) := by
  have e : slicePicked x none none (some (-1, u)) = (List.range x.length).map fun (k : Nat) => ((x.length : Int) - 1 + -1 * (k : Int)).toNat := range_back x.length
  unfold sliceMade
  rw [e]
  show (if ((-1 : Int) == 1 && _) = true then _ else _) = _
  rw [if_neg (by simp), List.filterMap_map]
  unfold revS
  congr 2
  have z := pick_rev x.cps.toList
  rw [Array.length_toList] at z
  rw [← z]
  congr 1
  refine congrArg (fun f => List.filterMap f _) (funext fun k => ?_)
  simp [Function.comp]
  rfl
theorem pe_backS {X : Cx} {e st : Expr} {te tt : TE} {p2 pos : Pos} (he : PE X e te) (ht : PE X st tt) : PE X (.Subscript e (.Slice none none (some st) p2) pos) (tBackS te tt) := by
  refine ⟨fun pins s σ H Q I h => ?_⟩
  refine Subscript_ (thn (he.run pins s σ H _ I h) fun v s1 ⟨x, H1, I1, r1, q1⟩ => ?_)
  refine wpAny_Slice ?_
  rw [evalPart_none]
  refine wpAny_pure (wpAny_pure ?_)
  rw [evalPart_some]
  refine thn (ht.run pins s1 σ H1 _ I1 q1) fun u s2 ⟨y, H2, I2, r2, z, ex, ey, hz, q2⟩ => ?_
  subst ex
  subst ey
  obtain ⟨t, rfl⟩ := r1
  obtain ⟨tu, rfl⟩ := r2
  have I3 : Inv X pins σ H2 { s2 with heap := s2.heap.push { cls := .type "slice", data := .fields #[.none, .none, .int (-1) tu] } } := I2.kept (t' := s2.toks) fun b ob q => Heap.get?_push_of_some _ q
  have hid : typeLookup (.type "str") "__getitem__" = pure (some (.builtin _)) := F.slot_str_getitem.lookup
  have hl : (revS z).length ≤ sizeLine := by
    have : (revS z).length = z.length := by
      show (z.cps.toList.reverse.toArray).size = z.cps.size
      simp
    rw [this]
    exact hz
  have hrun : wpAny (model X.prog X.w) X.A (getItem (.str z t) (.ref s2.heap.objs.size)) (EP X pins σ Q) X.xe { s2 with heap := s2.heap.push { cls := .type "slice", data := .fields #[.none, .none, .int (-1) tu] } } := by
    refine wpAny_getItem_str_slice (l := none) (u := none) (st := some (-1, tu)) (by
      obtain ⟨o, h1, h2, h3⟩ := Heap.IsSliceOf.new (h := s2.heap) Value.none Value.none (Value.int (-1) tu)
      exact ⟨o, h1, h2, h3⟩) rfl ?_
    rw [made_back]
    exact ⟨hl, .str _, H2, I3.tok _, ⟨_, rfl⟩, q2⟩
  show wpAny (model X.prog X.w) X.A (subscriptTail e (.Slice none none (some st) p2) (.str z t) (.ref s2.heap.objs.size)) (EP X pins σ Q) X.xe { s2 with heap := s2.heap.push { cls := .type "slice", data := .fields #[.none, .none, .int (-1) tu] } }
  exact tail_any (ops := [.str z t, .ref s2.heap.objs.size]) (typeIs_str _ _ _) hid hrun (by with_unfolding_all rfl)
section
variable {prog : Program} {w : World} {A : Around} {E : Value → Shared → Prop} {s : Shared}
theorem adjust_back (n : Nat) : Builtin.Slice.sliceAdjust none none (-1) (n : Int) = ((n : Int) - 1, -1) := by
  unfold Builtin.Slice.sliceAdjust
  rfl
theorem places_back (n : Nat) : Builtin.Slice.slicePlaces ((n : Int) - 1) (-1) (-1) = n := by
  unfold Builtin.Slice.slicePlaces
  rw [if_neg (by decide)]
  by_cases h : (n : Int) - 1 > -1
  · rw [if_pos h]
    show (((n : Int) - 1 - -1 - 1) / 1 + 1).toNat = n
    rw [Int.ediv_one]
    omega
  · rw [if_neg h]
    omega
theorem tupBack {t sl : Addr} {items : Array Value} {tu : Tok} {Q : Value → Shared → Prop} (ht : IsTup s.heap t items) (hs : s.heap.IsSliceOf sl .none .none (.int (-1) tu))
    (h : Q (.ref s.heap.objs.size) { s with heap := s.heap.push { cls := .type "tuple", data := .seq items.toList.reverse.toArray } }) (hsz : items.size ≤ sizeLine) : wpAny (model prog w) A (getItem (.ref t) (.ref sl)) Q E s := by
  have small : sizeOk (.seq items.toList.reverse.toArray) := by
    show items.toList.reverse.toArray.size ≤ sizeLine
    rw [List.size_toArray, List.length_reverse, Array.length_toList]; exact hsz
  obtain ⟨os, hos, hcs, hds⟩ := id hs
  have isl : s.TypeIs (.ref sl) "slice" := ⟨os, hos, hcs⟩
  unfold getItem
  (try with_reducible refine wpAny_holding ?_); (first | refine wpAny_bind (wpAny_pure ?_) | skip)
  refine wpAny_bind (wpAny_sequenceKey ht.typeIs (by decide) (wpAny_bind (wpAny_callSpecial?_slot (name := Str.ofString "__getitem__") ht.typeIs PyProof.Rows.slot_tuple_getitem (wpAny_call_entry PyProof.Rows.slot_tuple_getitem ht.typeIs entry_tuple_getitem ?_ (args_tuple_getitem _ _)))))
  show wpAny (model prog w) _ (Builtin.Tuple.tupleItemsOf (.ref t) >>= _) _ _ s
  refine wpAny_bind (tupleItemsOf_ ht (wpAny_bind (wpAny_typeOf isl ?_)))
  rw [if_pos (by decide : _ = true)]
  refine wpAny_bind ?_
  unfold Builtin.Slice.sliceApplied Builtin.Slice.sliceFields
  refine wpAny_bind (wpAny_bind (wpAny_field hos hds (x := .none) rfl (wpAny_bind (wpAny_field hos hds (x := .none) rfl (wpAny_bind (wpAny_field hos hds (x := .int (-1) tu) rfl (wpAny_pure ?_)))))))
  refine wpAny_bind (PyProof.Rows.slicePart_int ?_)
  show wpAny (model prog w) _ (if ((-1 : Int) == 0) = true then _ else _) _ _ s
  rw [if_neg (by decide : ¬ ((-1 : Int) == 0) = true)]
  refine wpAny_bind (PyProof.Rows.slicePart_none (wpAny_bind (PyProof.Rows.slicePart_none (wpAny_bind (wpAny_pure ?_)))))
  show wpAny (model prog w) _ (match Builtin.Slice.sliceAdjust none none (-1) (items.size : Int) with | (lo, hi) => pure (lo, (-1 : Int), Builtin.Slice.slicePlaces lo hi (-1))) _ _ s
  rw [adjust_back]
  show wpAny (model prog w) _ (pure ((items.size : Int) - 1, (-1 : Int), Builtin.Slice.slicePlaces ((items.size : Int) - 1) (-1) (-1))) _ _ s
  rw [places_back]
  refine wpAny_pure ?_
  have hno : ¬ (((((items.size : Int) - 1) == 0) && ((-1 : Int) == 1) && (items.size == items.size)) = true) := by simp
  show wpAny (model prog w) _ (if ((((items.size : Int) - 1) == 0) && ((-1 : Int) == 1) && (items.size == items.size)) = true then _ else _) _ _ s
  rw [if_neg hno]
  have ep : ((List.range items.size).filterMap fun (k : Nat) => items[(((items.size : Int) - 1) + (k : Int) * (-1)).toNat]?).toArray = items.toList.reverse.toArray := by
    have z := pick_rev items.toList
    rw [Array.length_toList] at z
    rw [← z]
    congr 1
    refine congrArg (fun f => List.filterMap f _) (funext fun k => ?_)
    rw [Int.mul_comm]
    simp
  rw [ep]
  first
    | (exact wpAny_bind (m := Builtin.Tuple.tupleExact _) (wpAny_newObj_type (wpAny_pure ⟨_, rfl, wpAny_pure h⟩) small))
    | (exact wpAny_bind (m := Builtin.Tuple.tupleExact _) (wpAny_newObj_type (wpAny_bind (wpAny_pure (wpAny_pure ⟨_, rfl, wpAny_pure h⟩))) small))
    | (exact wpAny_bind (wpAny_bind (m := Builtin.Tuple.tupleExact _) (wpAny_newObj_type (wpAny_pure (wpAny_pure ⟨_, rfl, wpAny_pure h⟩)) small)))
    | (exact wpAny_bind (wpAny_bind (m := Builtin.Tuple.tupleExact _) (wpAny_newObj_type (wpAny_pure ⟨_, rfl, wpAny_pure h⟩) small)))
end
theorem pe_backT {X : Cx} {e st : Expr} {te tt : TE} {p2 pos : Pos} (he : PE X e te) (ht : PE X st tt) : PE X (.Subscript e (.Slice none none (some st) p2) pos) (tBackT X.K te tt) := by
  refine ⟨fun pins s σ H Q I h => ?_⟩
  refine Subscript_ (thn (he.run pins s σ H _ I h) fun v s1 ⟨x, H1, I1, r1, q1⟩ => ?_)
  refine wpAny_Slice ?_
  rw [evalPart_none]
  refine wpAny_pure (wpAny_pure ?_)
  rw [evalPart_some]
  refine thn (ht.run pins s1 σ H1 _ I1 q1) fun u s2 ⟨y, H2, I2, r2, a, xs, ex, ey, hx, q2⟩ => ?_
  subst ex
  subst ey
  cases r1
  obtain ⟨tu, rfl⟩ := r2
  have I3 : Inv X pins σ H2 { s2 with heap := s2.heap.push { cls := .type "slice", data := .fields #[.none, .none, .int (-1) tu] } } := I2.kept (t' := s2.toks) fun b ob q => Heap.get?_push_of_some _ q
  obtain ⟨its, r, hl, hz⟩ := I3.tuple hx
  have hid : typeLookup (.type "tuple") "__getitem__" = pure (some (.builtin _)) := PyProof.Rows.slot_tuple_getitem.lookup
  have hrun : wpAny (model X.prog X.w) X.A (getItem (.ref a) (.ref s2.heap.objs.size)) (EP X pins σ Q) X.xe { s2 with heap := s2.heap.push { cls := .type "slice", data := .fields #[.none, .none, .int (-1) tu] } } := by
    refine tupBack hl (Heap.IsSliceOf.new ..) ?_ (by rw [List.size_toArray, ← r.length]; exact hz)
    exact ⟨.ref _, _, I3.laid (t' := s2.toks) (o := .tup xs.reverse) (fun b ob q => Heap.get?_push_of_some _ q) (Nat.le_refl _) ⟨by rw [List.length_reverse]; exact hz, _, vals_rev r, IsTup.new _ _⟩, rfl, q2 _ (I3.hok.fresh (Nat.le_refl _))⟩
  show wpAny (model X.prog X.w) X.A (subscriptTail e (.Slice none none (some st) p2) (.ref a) (.ref s2.heap.objs.size)) (EP X pins σ Q) X.xe { s2 with heap := s2.heap.push { cls := .type "slice", data := .fields #[.none, .none, .int (-1) tu] } }
  exact tail_any (ops := [.ref a, .ref s2.heap.objs.size]) hl.typeIs hid hrun (by with_unfolding_all rfl)
end Ow
end
section
/-! Rules for a comprehension's body that name K. -/
namespace Ow
open PySem PySem.Spec PyProof.Rows L2 StX
section
variable {X : Cx} {K : PySem.W.Frag}
theorem ix_tupK (hK : X.K = K) : IxR X (rIxT K) := by
  subst hK
  exact ix_tup
theorem op_notInDTK (hK : X.K = K) (hu : X.A.units + 65 < cLine) : OpR X (compareOp .NotIn) (rInDT K true) := by
  subst hK
  exact op_notInDT hu
theorem op_inDTK (hK : X.K = K) (hu : X.A.units + 65 < cLine) : OpR X (compareOp .In) (rInDT K false) := by
  subst hK
  exact op_inDT hu
end
end Ow
end
section
/-! A caught error that is kept behind its clause: `except X as n: kept = n`. -/
namespace Ow
open PySem PySem.Spec PyProof.Rows L2
/-- an error that was raised and caught, of the class cls, its dict d -/
def exk (a : Addr) (cls : Value) (d : Option Addr) : HO := .ext fun h => ∃ (oe : Obj) (vs : Array Value), h.get? a = some oe ∧ Zc cls d oe ∧ oe.data = .fields vs
theorem exk_ok {P : Program} {w : World} {H : Hp} {h : Heap} {a : Addr} {cls : Value} {d : Option Addr} {oe : Obj} {vs : Array Value} (e : h.get? a = some oe) (z : Zc cls d oe) (hd : oe.data = .fields vs) : ObjOk P w H h a (exk a cls d) :=
  ⟨⟨oe, vs, e, z, hd⟩, ⟨oe, e⟩, fun _ _ ⟨o, v, q, r⟩ k => ⟨o, v, k o q, r⟩⟩
section
variable {X : Cx} {pins : List (Addr × Obj)} {σ : L2.St} {H : Hp} {s : Shared}
theorem exk_at {P : Program} {w : World} {h : Heap} {a : Addr} {cls : Value} {d : Option Addr} (x : HOk P w H h) (e : H a = some (exk a cls d)) : ∃ (oe : Obj) (vs : Array Value), h.get? a = some oe ∧ Zc cls d oe ∧ oe.data = .fields vs := (x a _ e).1
/-- the caught error, pinned so far, is tracked from now on -/
theorem Inv.track {a : Addr} {oe : Obj} {vs : Array Value} {cls : Value} {d : Option Addr} (I : Inv X ((a, oe) :: pins) σ H s) (z : Zc cls d oe) (hd : oe.data = .fields vs) (n0 : X.s_0.heap.get? a = none) (hp : ∀ p ∈ X.pn ++ pins, p.1 ≠ a) : Inv X pins σ (upd H a (exk a cls d)) s := by
  obtain ⟨hget, hn, hL, hF, _⟩ := I.pin (a, oe) (List.mem_append_right _ List.mem_cons_self)
  have ne0 : ∀ b o, X.s_0.heap.get? b = some o → b ≠ a := fun b o e y => by
    rw [y, n0] at e
    cases e
  refine ⟨I.ok, I.os, I.bare, ?_, I.loc, I.cell, ?_, ?_, ?_, I.hok.laidN (fun _ _ e => e) hn (exk_ok hget z hd), I.len⟩
  · have B := I.base
    exact { keep := B.keep, slot := B.slot
            free := fun b o e n x => by rw [upd_ne (ne0 b o e)]; exact B.free b o e n x
            there := B.there
            tups := fun b xs e => by rw [upd_ne (ne_of_none (B.tups b xs e) hn)]; exact B.tups b xs e
            frzs := fun b o u e => by rw [upd_ne (ne_of_none (B.frzs b o u e) hn)]; exact B.frzs b o u e
            tbls := fun b ps e => by
              obtain ⟨m, q⟩ := B.tbls b ps e
              exact ⟨m, by rw [upd_ne (ne_of_none q hn)]; exact q⟩ }
  · rw [upd_ne (Ne.symm hL)]
    exact I.free
  · intro x c e
    have nc : c ≠ a := fun y => by
      obtain ⟨v, o, ho, hv⟩ := I.cell x c e
      rw [y] at ho
      have e2 : oe = o := Option.some.inj (hget.symm.trans ho)
      rw [← e2, hd] at hv
      cases hv
    rw [upd_ne nc]
    exact I.freeC x c e
  · intro p hq
    have h1 := I.pin p (by
      rcases List.mem_append.mp hq with h | h
      · exact List.mem_append_left _ h
      · exact List.mem_append_right _ (List.mem_cons_of_mem _ h))
    refine ⟨h1.1, ?_, h1.2.2⟩
    rw [upd_ne (hp p hq)]
    exact h1.2.1
theorem Inv.unsuiteK {a : Addr} {q : Addr × Obj} (I : Inv (X.suite a (q :: (X.pn ++ pins))) [] σ H s) (ok : X.Ok) : Inv X (q :: pins) σ H s :=
  ⟨ok, I.os, I.bare, I.base, I.loc, I.cell, I.free, I.freeC, fun p hp => I.pin p (by
    refine List.mem_append_left _ ?_
    rcases List.mem_append.mp hp with h | h
    · exact List.mem_cons_of_mem _ (List.mem_append_left _ h)
    · rcases List.mem_cons.mp h with h | h
      · rw [h]; exact List.mem_cons_self
      · exact List.mem_cons_of_mem _ (List.mem_append_right _ h)), I.hok, I.len⟩
end
/-- a suite that names what was caught, at its end: the slot i is empty, the error is tracked -/
def asTSk (i : Nat) (ts : Addr → Value → Option Addr → TS) : Addr → Value → Option Addr → TS := fun a cls d D σ H =>
  ts a cls d { nx := fun σ' H' => D.nx (σ'.set i none) (upd H' a (exk a cls d)), rt := fun _ _ => False, bk := fun _ _ => False, ct := fun _ _ => False } (σ.set i (some (.ref a))) H
set_option maxHeartbeats 4000000
theorem ps_try_keep {X : Cx} {body : List Stmt} {x n : Str} {i : Nat} {c : Value} {ts : Addr → Value → Option Addr → TS} {b₀ : Stmt} {suite : List Stmt} {np pos' pos : Pos} {tb : WX → TS} {Wout : WX} (hs : X.stack = X.env :: X.outer) (hf : X.env.frame = some X.env.locals) (hN : X.N.Nodup) (tk : Takes X Wout)
    (hb : ∀ (W : WX) (pn : List (Addr × Obj)) (xe : Value → Shared → Prop), Takes (X.tr pn xe) W → PassesOwn (model X.prog X.w) X.A X.env xe → PSs (X.tr pn xe) body (tb W))
    (hi : X.N[i]? = some n) (hln : X.env.kindOf n = some .local) (hc : Names X x c) (hx0 : X.ex = [])
    (hsu : ∀ (a : Addr) (oe : Obj) (cls : Value) (d : Option Addr) (pn : List (Addr × Obj)), Zc cls d oe → (∃ vs, oe.data = .fields vs) → PSs (X.suite a ((a, oe) :: pn)) (b₀ :: suite) (ts a cls d)) :
    PS X (.Try body [.ExceptHandler (some (.Name x np)) (some n) (b₀ :: suite) pos'] [] [] pos) (fun D σ H => tb (wMany X.K Wout D [(c, asTSk i ts)]) D σ H) := by
  refine ⟨fun pins s σ H D I h => ?_⟩
  have ok := I.ok
  have hfr : X.A.frames = some (X.env :: X.outer) := by rw [ok.frames, hs]
  refine wpAny_Try_except (wpAny_mono ((hb (wMany X.K Wout D [(c, asTSk i ts)]) (X.pn ++ pins) (fun e s₁ => wpAny (model X.prog X.w) X.A (noteFrame e X.env) (fun _ s₂ => wpAny (model X.prog X.w) X.A (setFlight e none) (fun _ s₃ => wpAny (model X.prog X.w) X.A (handleBy e X.env [.ExceptHandler (some (.Name x np)) (some n) (b₀ :: suite) pos']) (SP X pins D) X.xe s₃) X.xe s₂) X.xe s₁) ?_ PassesOwn.looking).run [] s σ H D (Inv.toTry I _) h) (fun f s1 hsp => ?_) fun e s1 he => he)
  · intro u s' xx
    obtain ⟨a, B, sI, pins', σ', H', cls, d, rfl, J', nb, up, sky, na, os, ag, w⟩ := xx
    have J := Inv.ofTry J' ok
    have Ba : B.get? a = none := by
      rcases sky with y | y | y
      · exact y.2.1
      · exact y.2.1
      · exact y.2.1
    have sky' : Sky B (X.env :: X.outer) a (Zc cls d) X.env.locals s'.heap := by rw [← hs]; exact sky
    refine Sky.land Zc.steady hfr hf sky' fun h3 fl3 up3 => ?_
    have J3 := Inv.landed (s' := { heap := h3, gens := s'.gens, drawn := s'.drawn, toks := s'.toks, os := s'.os }) J nb fl3.left (Heap.UpToSlots.trans up up3) os ag
    obtain ⟨oe3, vs3, he3, hz3, hd3⟩ := HandSPX.FlyingZ.there fl3
    have nfr : ¬ a ∈ List.filterMap (fun x : Env => x.frame) (X.env :: X.outer) := fun hm => by
      obtain ⟨_, o', e', hnf⟩ := Heap.FunFrames.mem fl3.right.right.left hm
      have e2 := e'.symm.trans he3
      cases e2
      exact hnf _ hd3
    have nL : a ≠ X.env.locals := fun z => nfr (List.mem_filterMap.mpr ⟨X.env, List.mem_cons_self .., by rw [hf, z]⟩)
    have nF : ¬ a ∈ X.fs := fun hm => by
      obtain ⟨e, he, q⟩ := List.mem_filterMap.mp hm
      exact nfr (List.mem_filterMap.mpr ⟨e, List.mem_cons_of_mem _ he, q⟩)
    have aI : sI.heap.get? a = none := by
      cases e : sI.heap.get? a with
      | none => rfl
      | some o =>
        have := nb a o e (by rw [hs]; exact nfr)
        rw [Ba] at this
        cases this
    have n0 : X.s_0.heap.get? a = none := by
      cases e : X.s_0.heap.get? a with
      | none => rfl
      | some o =>
        obtain ⟨o', e'⟩ := J.base.there a o e (by rw [hx0]; exact fun z => nomatch z)
        rw [aI] at e'
        cases e'
    have hpn : ∀ p ∈ X.pn ++ pins, p.1 ≠ a := fun p hp y => by
      have := (J.pin p hp).1
      rw [y, aI] at this
      cases this
    have S3 := Inv.suite J3 he3 hd3 na nL nF
    clear h hb
    have LT : W.Looks (model X.prog X.w) h3 (typeOf (Value.ref a)) cls := fun A Q E s k q => wpAny_typeOf_ref (k a oe3 he3) (by rw [hz3.left]; exact q)
    have test : ∀ {x : Str} {c : Value} {np : Pos} {Q : Value → Shared → Prop} {E : Value → Shared → Prop}, Names X x c → Q c { heap := h3, gens := s'.gens, drawn := s'.drawn, toks := s'.toks, os := s'.os } →
        wpAny (model X.prog X.w) (X.A.mark (some (.ref a))) (eval (.Name x np) X.env) Q E { heap := h3, gens := s'.gens, drawn := s'.drawn, toks := s'.toks, os := s'.os } := by
      intro x c np Q E hc q
      obtain ⟨hg, hdbg, hm | ⟨hm, hv, hnn⟩⟩ := hc
      · exact ld_glob (X := X.suite a _) S3 hg hm q hdbg
      · exact ld_blt (X := X.suite a _) S3 hg hm hv q hnn hdbg
    obtain ⟨b, hb1, hyes, hno⟩ := w
    refine wpAny_handleBy_cons (codeAny_handlers_test (test hc (W.Looks.here (W.exm_one (Inv.kIn J3) LT hb1) ?_))) (fun q => by cases q)
    cases b with
    | false =>
      have w := hno rfl
      refine wpAny_handleBy_nil ?_
      have fl := fl3
      obtain ⟨k1, k2, k3, oe, vs, T, oT, ts', he, hz, hd, h1, hr⟩ := fl3
      unfold PySem.passOn
      refine wpAny_bind (wpAny_field he hd h1 ?_)
      rw [if_neg (by simp)]
      refine wpAny_bind ?_
      rw [hf]
      exact HandSPX.setFlight_upZ fl fun h4 hh4 up4 => wpAny_throw (tk _ _ ⟨a, B, sI, pins, σ', H', cls, d, rfl, J, nb, (up.trans up3).trans up4, .inr (.inr (by rw [hs]; exact hh4)), na, os, ag, w⟩)
    | true =>
      refine codeAny_handlers_suite_as (HandSPX.lands_againZ fl3 fun h4 fl4 up4 => ?_)
      have J4 := Inv.landed (s' := { heap := h4, gens := s'.gens, drawn := s'.drawn, toks := s'.toks, os := s'.os }) J nb fl4.left (Heap.UpToSlots.trans (Heap.UpToSlots.trans up up3) up4) os ag
      obtain ⟨oe4, vs4, he4, hz4, hd4⟩ := HandSPX.FlyingZ.there fl4
      have S4 := Inv.suite J4 he4 hd4 na nL nF
      refine store_ok (X := X.suite a ((a, oe4) :: (X.pn ++ pins))) (v := .ref a) S4 hN hi (Or.inl hln) rfl (fun s5 S5 => ?_) (Or.inr hln)
      refine wpAny_mono ((hsu a oe4 cls d (X.pn ++ pins) hz4 ⟨vs4, hd4⟩).run [] s5 _ H' _ S5 (hyes rfl a na)) (fun f s6 hsp => ?_) fun _ _ z => False.elim z
      cases f with
      | next =>
        obtain ⟨σ6, H6, S6, q6⟩ := hsp
        exact gone_ok (Inv.unsuiteK S6 ok) hN hi hln fun s7 J7 => ⟨_, _, Inv.track J7 hz4 hd4 n0 hpn, q6⟩
      | brk => obtain ⟨σ6, H6, S6, q6⟩ := hsp; exact q6.elim
      | cont => obtain ⟨σ6, H6, S6, q6⟩ := hsp; exact q6.elim
      | ret u => obtain ⟨v6, σ6, H6, S6, r6, q6⟩ := hsp; exact q6.elim
  · cases f with
    | next => obtain ⟨σ', H', J', q⟩ := hsp; exact wpAny_execs_nil ⟨σ', H', Inv.ofTry J' ok, q⟩
    | brk => obtain ⟨σ', H', J', q⟩ := hsp; exact ⟨σ', H', Inv.ofTry J' ok, q⟩
    | cont => obtain ⟨σ', H', J', q⟩ := hsp; exact ⟨σ', H', Inv.ofTry J' ok, q⟩
    | ret u => obtain ⟨v, σ', H', J', r, q⟩ := hsp; exact ⟨v, σ', H', Inv.ofTry J' ok, r, q⟩
end Ow
end
section
set_option maxHeartbeats 2000000
/-! isinstance of a kept error or of anything else; a kept error's fields. -/
namespace Ow
open PySem PySem.Spec PyProof.Rows L2 StX
/-- x is a kept error of the class t -/
def KeptTy (K : PySem.W.Frag) (H : Hp) (x : V) (t : Value) : Prop := ∃ (a D : Addr) (d : Option Addr), x = .ref a ∧ t = .ref D ∧ H a = some (exk a (.ref D) d) ∧ (∀ dd, d = some dd → ∃ fs, H dd = some (.xd fs)) ∧ ExcC K D ∧ (PySem.W.clsIn K D).isSome = true
def rIsKp (K : PySem.W.Frag) : List V → Hp → VK → Prop := fun xs H Q => ∃ (x c : V) (t u : Value) (b : Bool), xs = [x, c] ∧ ClsV c u ∧ (TyX K H x t ∨ KeptTy K H x t) ∧ PySem.W.kitOne K t u = some b ∧ Q (.bl b) H
section
variable {X : Cx}
theorem call_isKp : CallR X (.builtin "isinstance") (rIsKp X.K) := by
  intro pins s σ H xs us Q I r h
  obtain ⟨x, c, t, u, b, rfl, k, ty | ty, e, q⟩ := h
  · exact call_isi pins s σ H _ us Q I r ⟨x, c, t, u, b, rfl, k, ty, e, q⟩
  obtain ⟨a, D, d, rfl, rfl, ea, ed, C, hci⟩ := ty
  cases r with
  | cons rx r2 =>
    cases r2 with
    | cons rc r3 =>
      cases r3
      cases rx
      cases k.eq rc
      obtain ⟨oe, vs, hget, hz, hv⟩ := exk_at I.hok ea
      obtain ⟨z1, z2⟩ := hz
      obtain ⟨od, J⟩ : ∃ od, PySem.W.InstAt s.heap a oe D od := by
        cases d with
        | none => exact ⟨none, hget, z1, by unfold PySem.W.notCls; rw [hv], by rw [z2]; exact True.intro⟩
        | some dd =>
          obtain ⟨fs, hdd⟩ := ed dd rfl
          obtain ⟨mA, ⟨o, _, _, e0, _⟩, _⟩ := (show ObjOk X.prog X.w H s.heap dd (.xd fs) from I.hok dd _ hdd)
          exact ⟨some o, hget, z1, by unfold PySem.W.notCls; rw [hv], by rw [z2]; exact e0⟩
      refine PySem.W.kia_one (PySem.W.kitx_exc (x := a) (ox := oe) (od := od) hci C.hg C.hk C.hs C.ha C.hn C.ht C.hm) I.kIn J e (fun z => by cases z) fun tk => ?_
      exact ⟨.bl b, H, I.kept fun _ _ e => e, rfl, q⟩
/-- o.f, o a kept error -/
def tXk (K : PySem.W.Frag) (n : Str) (te : TE) : TE := fun σ H Q => te σ H fun y H1 => ∃ (a C dd : Addr) (fs : List (Str × V)) (v : V), y = .ref a ∧ XfC K C ∧ PySem.W.findIn K (.ref C) n = some none ∧ H1 a = some (exk a (.ref C) (some dd)) ∧ H1 dd = some (.xd fs) ∧ fs.lookup n = some v ∧ Q v H1
theorem pe_xk {e : Expr} {te : TE} {n : Str} {pos : Pos} (he : PE X e te) (hb : attributeBase e n X.env (eval e X.env) = eval e X.env := by rfl) : PE X (.Attribute e n pos) (tXk X.K n te) := by
  refine ⟨fun pins s σ H Q I h => ?_⟩
  refine attr_of hb (thn (he.run pins s σ H _ I h) fun u s1 hh => ?_)
  obtain ⟨y, H1, I1, ry, a, C, dd, fs, v, ey, T, hno, ea, ed, l, q⟩ := hh
  subst ey
  obtain rfl : u = Value.ref a := ry
  obtain ⟨oe, vs, ha, hz, hv⟩ := exk_at I1.hok ea
  obtain ⟨mA, hns, hr⟩ := (show ObjOk X.prog X.w H1 s1.heap dd (.xd fs) from I1.hok dd _ ed)
  obtain ⟨od, ho, hl⟩ := lookIn_ns hns
  obtain ⟨u, hu, ru⟩ := RelO.some_of (v := v) (o := mA n) (by rw [← l]; exact hr n)
  have J : PySem.W.InstAt s1.heap a oe C (some od) := ⟨ha, hz.1, by unfold PySem.W.notCls; rw [hv] <;> rfl, by rw [hz.2]; exact ho⟩
  exact HandSPX.exc_get I1.kIn J T.ga T.gg T.exC (PySem.W.findObj_own T.hdC hno rfl (by rw [hl, hu])) (handed_of ru) ⟨v, H1, I1.tok _, ru, q⟩
end
end Ow
end
section
set_option maxHeartbeats 2000000
/-! bool(o), o an instance with its own __bool__. -/
namespace PySem
namespace OwB
section
variable {prog : Program} {w : World} {A : Around} {E : Value → Shared → Prop} {s : Shared}
theorem meets_boolIn (x : Value) : MeetsIn prog w (Builtin.«bool.__new__» ⟨[.type "bool", x], []⟩) (fun A R s => wpAny (model prog w) A.in1 (truthy x) (fun b s' => R (.ok (.ret (.bool b))) s') (fun e s' => R (.error e) s') s) :=
  .of_wp fun A R s h => by
    have f1 := F.conv_sub_bool
    obtain ⟨hp, g, d, tk, os⟩ := s
    repeat (any_goals (first | with_reducible exact (wpAny_mono h (fun b s' z => ⟨_, rfl, z⟩) fun _ _ z => z) | with_reducible refine wpAny_bind (wpAny_mono h (fun b s' z => ?_) fun _ _ z => z) | assumption | wp_step))
    all_goals first | exact ⟨_, rfl, z⟩ | exact ⟨_, rfl, by assumption⟩ | skip
theorem call_boolIn {x : Value} {Q : Value → Shared → Prop} (h : wpAny (model prog w) A.in1.in1 (truthy x) (fun b s' => Q (.bool b) s') E s) : wpAny (model prog w) A (call (.type "bool") [x]) Q E s :=
  callType_newIn F.called_bool F.newNe_bool (F.typeCall_bool_1 x) (F.newCall_bool_1 x) (fun obj => F.args_object_init_2 obj x) F.entry_bool_new (meets_boolIn x)
    (wpAny_mono h (fun b s' z => ⟨rfl, z⟩) fun e s' z => z)
theorem truthy_own {M : Model} {K : PySem.W.Frag} {x C f : Addr} {ox : Obj} {od : Option Obj} {Q : Bool → Shared → Prop} (X : K.In s.heap) (I : PySem.W.InstAt s.heap x ox C od) (hs : PySem.W.findIn K (.ref C) "__bool__" = some (some (.ref f))) (hf : PySem.W.isFn K (.ref f) = true)
    (h : wpAny M A (call (.ref f) [.ref x]) (fun v s' => ∃ b, v = .bool b ∧ Q b s') E s) : wpAny M A (truthy (.ref x)) Q E s := by
  unfold truthy
  refine wpAny_bind (PySem.W.special_fn (name := Str.ofString "__bool__") X I hs (beq_iff_eq.mp hf) (wpAny_mono h (fun v s' z => ?_) fun _ _ z => z))
  obtain ⟨b, rfl, q⟩ := z
  exact wpAny_pure q
end
end OwB
end PySem
namespace Ow
open PySem PySem.Spec PyProof.Rows L2 StX
section
variable {X : Cx} {CX : CXT} {n : Nat} {C g : Addr} {sp : Sp} {E : XK}
/-- bool(o), o an instance of C that has a __bool__ -/
def rBoolO (C : Addr) (sp : Sp) (E : XK) : List V → Hp → VK → Prop := fun xs H Q => ∃ a, xs = [.ref a] ∧ InsAt H a C ∧ sp [.ref a] H (fun v H' => ∃ b, v = .bl b ∧ Q (.bl b) H') E
theorem call_boolO (hs : PySem.W.findIn X.K (.ref C) "__bool__" = some (some (.ref g))) (hf : PySem.W.isFn X.K (.ref g) = true)
    (F : FnR X.prog X.w X.K X.mg X.base CX n g sp) (hr : Room (n + 2) X.A) (hx : Passes CX X E) : CallR X (.type "bool") (rBoolO C sp E) := by
  intro pins s σ H xs us Q I r h
  obtain ⟨a, rfl, ha, q⟩ := h
  obtain ⟨u, rfl, ru⟩ := vals1 r
  cases (show u = Value.ref a from ru)
  obtain ⟨ox, od, J⟩ := inst_of I ha
  obtain ⟨m, hF⟩ := I.fr
  refine PySem.OwB.call_boolIn (PySem.OwB.truthy_own (I.ok.mod.kin.keeps hF.keep) J hs hf ?_)
  refine wpAny_mono (wpAny_call (run_fnRS (us := [.ref a]) (vs := [.ref a]) F hr.in1.in1 rfl hx I (.cons rfl .nil) q)) (fun w s' z => ?_) fun _ _ x => x
  obtain ⟨z', H', I', rz, b, rfl, qz⟩ := z
  cases rz
  exact ⟨b, rfl, .bl b, H', I', rfl, qz⟩
end
end Ow
end
section
set_option maxHeartbeats 4000000
namespace Ow
open PySem PySem.Spec PyProof.Rows L2 PySem.W

section
variable {prog : Program} {w : World} {M : Model} {A : Around} {E : Value → Shared → Prop} {s : Shared} {K : Frag} {x C L f : Addr} {h₀ : Heap} {m : Str → Option Value} {ox : Obj} {od : Option Obj} {nm : String}

theorem mul_ref_at {i : Int} {t : Tok} {x C dx : Addr} : GivesAt (fun s => s.heap.get? x = some (instObj C dx)) (Builtin.«int.__mul__» ⟨[.int i t, .ref x], []⟩) (.val Value.notImplemented) := by
  intro prog w A R s hx h
  obtain ⟨hp, g, d, tk, os⟩ := s
  have hl : ∀ {M : Model} {A : Around} {E : Value → Shared → Prop} {Q : Option Int → Shared → Prop}, Q none ⟨hp, g, d, tk, os⟩ → wpAny M A (asInt? (.ref x)) Q E ⟨hp, g, d, tk, os⟩ := by
    intro M A E Q q
    unfold asInt?
    exact wpAny_bind (wpAny_load hx (wpAny_pure q))
  unfold Builtin.«int.__mul__»
  wp_walk using hl
  exact h
theorem int_mul_ref {i : Int} {t : Tok} {x C dx : Addr} {s : Shared} {Q : Value → Shared → Prop} (hx : s.heap.get? x = some (instObj C dx)) (h : Q .notImplemented s) :
    wpAny (model prog w) A (call (.builtin "int.__mul__") [.int i t, .ref x]) Q E s :=
  call_givesAt F.slot_int_mul (typeIs_int s i t) F.entry_int_mul (F.args_int_mul_2 _ _) mul_ref_at hx h
theorem int_mul_own {i : Int} {t : Tok} {x C dx f fa : Addr} {cd : ClassData} {rest : List Value} {Q : Value → Shared → Prop} (X : K.In s.heap) (hx : s.heap.get? x = some (instObj C dx)) (I : InstAt s.heap x ox C od) (hcd : clsIn K C = some cd) (hm : cd.mro = .ref C :: rest)
    (ha : findIn K (.ref C) (PySem.dunder "mul") = some (some (.ref fa))) (hs : findIn K (.ref C) (dunderR "mul") = some (some (.ref f))) (hf : isFn K (.ref f) = true) (hsub : subIn K (.ref C) (.type "int") = some false)
    (h : wpAny (model prog w) A (call (.ref f) [.ref x, .int i t]) (PySem.W.CmpBack Q) E s) : wpAny (model prog w) A (binaryOp .Mult (.int i t) (.ref x)) Q E s := by
  have one := ksp_try X I hs hf h
  have two : ∀ {Q' : Option Value → Shared → Prop}, Q' none s → wpAny (model prog w) A (tryMethod (.int i t) (PySem.dunder "mul") (.ref x)) Q' E s := by
    intro Q' q
    unfold tryMethod
    exact wpAny_bind (wpAny_callSpecial?_slot (typeIs_int s i t) F.slot_int_mul (int_mul_ref hx (wpAny_pure q)))
  obtain ⟨hh, g, d, tt, os⟩ := s
  have L1 : Looks (model prog w) hh (typeOf (.int i t)) (.type "int") := Looks.of_pure rfl
  have L2 : Looks (model prog w) hh (typeOf (.ref x)) (.ref C) := I.type
  have L3 : Looks (model prog w) hh (fillsNumberSlot (.type "int") "mul") true := Looks.of_pure F.fills_int_mul
  have L4 : Looks (model prog w) hh (fillsNumberSlot (.ref C) "mul") true := fills_K X hcd hm ha
  have L5 : Looks (model prog w) hh (isSubtype (.ref C) (.type "int")) false := looks_subIn X hsub
  have L7 : Looks (model prog w) hh (numberSlotInPython (.type "int") "mul") false := Looks.of_pure rfl
  have hne : (Value.type "int" == Value.ref C) = false := Bool.eq_false_iff.mpr fun q => by cases beq_iff_eq.mp q
  show wpAny (model prog w) A (binaryOp .Mult (.int i t) (.ref x)) Q E _
  have hi : Operator.info .Mult = ("*", "mul") := rfl
  simp only [binaryOp, hi]
  refine wpAny_holding (wpAny_bind ?_)
  unfold binaryOp1
  refine wpAny_bind (L1.at (wpAny_bind (L2.at (wpAny_bind (L3.at ?_)))))
  simp only [hne, Bool.false_eq_true, if_false]
  ksp_lk
  refine two ?_
  ksp_lk
  refine wpAny_mono one (fun r s' hr' => ?_) fun _ _ e => e
  obtain ⟨v, rfl, hq⟩ := hr'
  ksp_lk
  exact hq
end
end Ow
namespace Ow
open PySem PySem.Spec PyProof.Rows L2 StX
section
variable {X : Cx} {CX : CXT} {n : Nat} {C g fa : Addr} {sp : Sp} {E : XK}
theorem op_rmul (hc : PySem.W.selfFirst X.K C = true) (ha : PySem.W.findIn X.K (.ref C) (PySem.dunder "mul") = some (some (.ref fa))) (hs : PySem.W.findIn X.K (.ref C) (dunderR "mul") = some (some (.ref g))) (hf : PySem.W.isFn X.K (.ref g) = true)
    (hsub : PySem.W.subIn X.K (.ref C) (.type "int") = some false)
    (F : FnR X.prog X.w X.K X.mg X.base CX n g sp) (hr : Room n X.A) (hx : Passes CX X E) : OpR X (binaryOp .Mult) (rBinR C sp E) := by
  intro pins s σ H x y v u Q I rx ry h
  obtain ⟨a, i, rfl, rfl, hia, q⟩ := h
  obtain ⟨t, rfl⟩ := rx
  cases (show u = Value.ref a from ry)
  obtain ⟨dx, od, hx', J⟩ := inst_of2 I hia
  obtain ⟨cd, rest, hcd, hm⟩ := PySem.W.ksp_first hc
  refine int_mul_own I.kIn hx' J hcd hm ha hs hf hsub ?_
  refine wpAny_mono (wpAny_call (run_fnR (us := [.ref a, .int i t]) (vs := [.ref a, .int i]) F hr hx I (.cons rfl (.cons ⟨t, rfl⟩ .nil)) q)) (fun w s' z => ?_) fun _ _ x => x
  obtain ⟨z', H', I', rz, qz⟩ := z
  exact cmpbackR rz ⟨z', H', I', rz, qz⟩

end
end Ow
end
section
set_option maxHeartbeats 4000000
/-! zip of a list and a tuple. -/
namespace Ow
open PySem PySem.Spec PyProof.Rows L2
def ItLT (K : PySem.W.Frag) (a b : Addr) (xs ys : List V) : It := ⟨fun i H => i < min xs.length ys.length ∧ SqL K H a xs ∧ SqT K H b ys, fun i H v H' => ∃ (T : Addr) (x y : V), v = .ref T ∧ H T = none ∧ xs[i]? = some x ∧ ys[i]? = some y ∧ H' = upd H T (.tup [x, y]), fun i H => min xs.length ys.length ≤ i ∧ SqL K H a xs ∧ SqT K H b ys⟩
theorem turn_LT {P : Program} {w : World} {K : PySem.W.Frag} {elts : List Expr} {kk : Nat} {tpos : Pos} {z TI TO i1 i2 a b : Addr} {xs ys : List V} (sep : ZipSep2 z TI TO i1 i2 [i1, a] [i2, b]) (n1 : a ≠ i1) (n2 : b ≠ i2) :
    Turn P w K (.Tuple elts kk tpos) (ItLT K a b xs ys) [z, TI, TO, i1, i2] z (fun i h => i ≤ min xs.length ys.length ∧ IsZip h z TI TO .none ∧ IsTupOf2 h TI (.ref i1) (.ref i2) ∧ (∃ a1 a2, IsTupOf2 h TO a1 a2) ∧ h.IsListIter i1 a i ∧ h.IsTupleIter i2 b i) where
  mem := List.mem_cons_self
  obj := fun i h st c hc => by
    obtain ⟨_, g1, g2, ⟨a1, a2, g3⟩, g4, g5⟩ := st
    simp only [List.mem_cons, List.not_mem_nil, or_false] at hc
    rcases hc with rfl | rfl | rfl | rfl | rfl
    · exact ⟨_, g1, fun v z => by cases z⟩
    · exact ⟨_, g2, fun v z => by cases z⟩
    · exact ⟨_, g3, fun v z => by cases z⟩
    · obtain ⟨o, e1, _, e3⟩ := g4
      exact ⟨o, e1, fun v z => by rw [e3] at z; cases z⟩
    · obtain ⟨o, e1, _, e3⟩ := g5
      exact ⟨o, e1, fun v z => by rw [e3] at z; cases z⟩
  keep := fun i h h' st k => by
    obtain ⟨g0, g1, g2, ⟨a1, a2, g3⟩, g4, g5⟩ := st
    exact ⟨g0, k z (by simp) _ g1, k TI (by simp) _ g2, ⟨a1, a2, k TO (by simp) _ g3⟩, g4.at fun o q => k i1 (by simp) o q, g5.at fun o q => k i2 (by simp) o q⟩
  item := by
    intro X hP hw hK hc i pins s σ H E J hf st hg
    subst hP hw hK
    obtain ⟨hlt, hqx, hqy⟩ := hg
    obtain ⟨its, rv, p, _⟩ := J.list hqx
    obtain ⟨its2, rv2, p2, _⟩ := J.tuple hqy
    obtain ⟨g0, g1, g2, g3, g4, g5⟩ := st
    have l1 := rv.length
    have l2 := rv2.length
    have W1 := WalksT.zipD2 (prog := X.prog) (w := X.w) (A := X.A) sep (Draws.list (A := X.A.in1) (J.ok.hd hc) i1 a n1 its.toArray) (Draws.tuple (A := X.A.in1) (J.ok.hd hc) i2 b n2 its2.toArray)
    have hlive : ∀ c ∈ [z, TI, TO, i1, i2], c < s.heap.objs.size := fun c hcm => by
      simp only [List.mem_cons, List.not_mem_nil, or_false] at hcm
      obtain ⟨a1, a2, g3⟩ := g3
      rcases hcm with rfl | rfl | rfl | rfl | rfl
      · exact Heap.lt_size g1
      · exact Heap.lt_size g2
      · exact Heap.lt_size g3
      · obtain ⟨o, e1, _⟩ := g4; exact Heap.lt_size e1
      · obtain ⟨o, e1, _⟩ := g5; exact Heap.lt_size e1
    refine W1.item i s _ E (by simp only [List.size_toArray]; omega) ⟨g1, g2, g3, ⟨g4, p.isList⟩, ⟨g5, p2⟩⟩ fun T vals h' tk hp hT ht mid kk1 => ?_
    refine ⟨.ref T, rfl, W1.go elts kk tpos i T _ _ E mid fun h'' st'' kk2 => ?_⟩
    have nw : ∀ c, c ∉ [z, TI, TO, i1, i2] → c ∉ [z, TO, i1, i2] := fun c hn hm => hn (by simp only [List.mem_cons, List.not_mem_nil, or_false] at hm ⊢; rcases hm with h | h | h | h <;> simp [h])
    obtain ⟨u, u2, hu, hu2, rfl⟩ := hp
    obtain ⟨x, hx⟩ : ∃ x, xs[i]? = some x := ⟨_, List.getElem?_eq_getElem (by omega)⟩
    obtain ⟨y, hy⟩ : ∃ y, ys[i]? = some y := ⟨_, List.getElem?_eq_getElem (by omega)⟩
    obtain ⟨u', hu', ru⟩ := rv.get hx
    obtain ⟨u2', hu2', ru2⟩ := rv2.get hy
    have e1 : u' = u := Option.some.inj (hu'.symm.trans (by simpa using hu))
    have e2 : u2' = u2 := Option.some.inj (hu2'.symm.trans (by simpa using hu2))
    subst e1
    subst e2
    obtain ⟨oT, q1, q2, q3, q4⟩ := ht
    have ht2 : h''.get? T = some oT := kk2 T oT (W1.apart i T _ mid) q1
    have new : ObjOk X.prog X.w (upd H T (.tup [x, y])) h'' T (.tup [x, y]) := ⟨by show 2 ≤ sizeLine; decide, [u', u2'], .cons ru (.cons ru2 .nil), ⟨oT, ht2, q2, q3, by simpa using q4⟩⟩
    have J1 : Inv X pins σ (upd H T (.tup [x, y])) { s with heap := h'', toks := tk } :=
      J.turnedNew (ch := [z, TI, TO, i1, i2]) (fun c o hb q => kk2 c o (nw c hb) (kk1 c o (nw c hb) q)) hf hT new
    obtain ⟨f1, f2, f3, f4, f5⟩ := st''
    exact ⟨.ref T, _, J1, rfl, ⟨T, x, y, rfl, J.hok.fresh hT, hx, hy, rfl⟩, ⟨hlt, f1, f2, f3, f4.1, f5.1⟩, fun c hb => by
      rw [upd_ne (Nat.ne_of_lt (Nat.lt_of_lt_of_le (hlive c hb) hT))]
      exact (hf c hb).1⟩
  done := by
    intro X hP hw hK hc i pins s σ H E J hf st hg
    subst hP hw hK
    obtain ⟨hle, hqx, hqy⟩ := hg
    obtain ⟨its, rv, p, _⟩ := J.list hqx
    obtain ⟨its2, rv2, p2, _⟩ := J.tuple hqy
    obtain ⟨g0, g1, g2, g3, g4, g5⟩ := st
    have l1 := rv.length
    have l2 := rv2.length
    have W1 := WalksT.zipD2 (prog := X.prog) (w := X.w) (A := X.A) sep (Draws.list (A := X.A.in1) (J.ok.hd hc) i1 a n1 its.toArray) (Draws.tuple (A := X.A.in1) (J.ok.hd hc) i2 b n2 its2.toArray)
    have ei : i = min its.toArray.size its2.toArray.size := by simp only [List.size_toArray]; omega
    have nw : ∀ c, c ∉ [z, TI, TO, i1, i2] → c ∉ [z, TO, i1, i2] := fun c hn hm => hn (by simp only [List.mem_cons, List.not_mem_nil, or_false] at hm ⊢; rcases hm with h | h | h | h <;> simp [h])
    refine W1.done s _ E (by rw [← ei]; exact ⟨g1, g2, g3, ⟨g4, p.isList⟩, ⟨g5, p2⟩⟩) fun h' tk kk => ⟨rfl, J.turnedL (ch := [z, TI, TO, i1, i2]) (fun c o hb q => kk c o (nw c hb) q) hf⟩
  self := fun A i s Q E st h => wpAny_pyIter_zip st.2.1 h
theorem sepLT {n a b : Nat} (la : a < n) (lb : b < n) : ZipSep2 (n + 4) (n + 2) (n + 3) n (n + 1) [n, a] [n + 1, b] where
  TIz := show n + 2 ≠ n + 4 by omega
  TOz := show n + 3 ≠ n + 4 by omega
  TITO := show n + 2 ≠ n + 3 by omega
  TIi1 := show n + 2 ≠ n by omega
  mem1 := List.mem_cons_self
  zf1 := fun h => by
    rcases List.mem_cons.mp h with e | e
    · exact absurd (show n + 4 = n from e) (by omega)
    · exact absurd (show n + 4 = a from List.mem_singleton.mp e) (by omega)
  Tf1 := fun h => by
    rcases List.mem_cons.mp h with e | e
    · exact absurd (show n + 3 = n from e) (by omega)
    · exact absurd (show n + 3 = a from List.mem_singleton.mp e) (by omega)
  TIi2 := show n + 2 ≠ n + 1 by omega
  mem2 := List.mem_cons_self
  zf2 := fun h => by
    rcases List.mem_cons.mp h with e | e
    · exact absurd (show n + 4 = n + 1 from e) (by omega)
    · exact absurd (show n + 4 = b from List.mem_singleton.mp e) (by omega)
  Tf2 := fun h => by
    rcases List.mem_cons.mp h with e | e
    · exact absurd (show n + 3 = n + 1 from e) (by omega)
    · exact absurd (show n + 3 = b from List.mem_singleton.mp e) (by omega)
  sep1_2 := fun h => by
    rcases List.mem_cons.mp h with e | e
    · exact absurd (show n = n + 1 from e) (by omega)
    · exact absurd (show n = b from List.mem_singleton.mp e) (by omega)
  sep2_1 := fun h => by
    rcases List.mem_cons.mp h with e | e
    · exact absurd (show n + 1 = n from e) (by omega)
    · exact absurd (show n + 1 = a from List.mem_singleton.mp e) (by omega)
def iZipLT (K : PySem.W.Frag) (ta : TA) : TI := fun σ H R => ta σ H fun vs H1 => ∃ (a b : Addr) (xs ys : List V), vs = [.ref a, .ref b] ∧ SqL K H1 a xs ∧ SqT K H1 b ys ∧ R (ItLT K a b xs ys) H1
theorem pi_zipLT {X : Cx} {e e2 : Expr} {ta : TA} {p pos tpos : Pos} {elts : List Expr} {kk : Nat} (hg : Gl X "zip") (hm : X.mg "zip" = none) (ha : PA X [e, e2] ta) (hs : starEach [e, e2] X.env = [(false, eval e X.env), (false, eval e2 X.env)] := by rfl)
    (hs2 : starEach [e2] X.env = [(false, eval e2 X.env)] := by rfl) :
    PI X (.Tuple elts kk tpos) (.Call (.Name "zip" p) [e, e2] [] pos) (iZipLT X.K ta) := by
  refine ⟨fun pins s σ H R I h => ?_⟩
  refine Call_ (ld_blt I hg hm boot_zip (PyProof.Rows.callWith_type1 (thn (ha.run pos pins s σ H _ I h) fun us s1 ⟨vs, H1, I1, r1, a, b, xs, ys, ex, hqx, hqy, q⟩ => ?_) (by rw [hs, hs2]) (by rw [hs2]; rfl)))
  subst ex
  obtain ⟨u, u2, rfl, ra, rb⟩ := vals2 r1
  cases ra
  cases rb
  obtain ⟨its, rv, p1, _⟩ := I1.list hqx
  obtain ⟨its2, rv2, p2, _⟩ := I1.tuple hqy
  have la : @LT.lt Nat _ a s1.heap.objs.size := by obtain ⟨o, e, _⟩ := p1.isList; exact Heap.lt_size e
  have lb : @LT.lt Nat _ b s1.heap.objs.size := by obtain ⟨o, e, _⟩ := id p2; exact Heap.lt_size e
  refine zip_begins2 (begins_list a its.toArray) (begins_tuple b its2.toArray) p1.isList p2 fun h' hz hTI hTO h1 h2 hsz hk => wpAny_pyIter_zip hz ?_
  have sep := sepLT la lb
  have fp : ∀ c ∈ [s1.heap.objs.size + 4, s1.heap.objs.size + 2, s1.heap.objs.size + 3, s1.heap.objs.size, s1.heap.objs.size + 1], FpOk X pins H1 c := fun c hb => by
    have hle : s1.heap.objs.size ≤ c := by
      simp only [List.mem_cons, List.not_mem_nil, or_false] at hb
      omega
    exact I1.fpOk hle (I1.hok.fresh hle)
  exact ⟨s1.heap.objs.size + 4, _, _, _, H1, rfl, I1.kept (t' := s1.toks) hk, turn_LT sep (Nat.ne_of_lt la) (Nat.ne_of_lt (Nat.lt_succ_of_lt lb)), ⟨Nat.zero_le _, hz, hTI, ⟨_, _, hTO⟩, ⟨_, h1, rfl, rfl⟩, ⟨_, h2, rfl, rfl⟩⟩, fp, q⟩
theorem walk_LT {K : PySem.W.Frag} {a b : Addr} {xs ys : List V} : Walk (ItLT K a b xs ys) (min xs.length ys.length) (fun H => SqL K H a xs ∧ SqT K H b ys) (fun i H v H' => ∃ (T : Addr) (x y : V), v = .ref T ∧ H T = none ∧ xs[i]? = some x ∧ ys[i]? = some y ∧ H' = upd H T (.tup [x, y])) :=
  ⟨fun i _ hi g => ⟨hi, g⟩, fun _ g => ⟨Nat.le_refl _, g⟩, fun i H v H' _ _ y => y⟩
end Ow
end
section
set_option maxHeartbeats 4000000
/-! powers of ten, kept opaque. -/
namespace Ow
open PySem PySem.Spec PyProof.Rows L2
@[irreducible] def powC (k : Nat) : Int := 10 ^ k
theorem powC_lt {k : Nat} (h : k ≤ 41) : 0 ≤ powC k ∧ powC k < 2 ^ 139 := by
  unfold powC
  constructor
  · exact Int.pow_nonneg (by decide)
  · have h1 : (10 : Nat) ^ k ≤ 10 ^ 41 := Nat.pow_le_pow_right (by decide) h
    have h2 : (10 : Nat) ^ 41 < 2 ^ 139 := by decide +kernel
    have h3 : (10 : Nat) ^ k < 2 ^ 139 := Nat.lt_of_le_of_lt h1 h2
    exact_mod_cast h3
def rPowC : R2 := fun x y H Q => x = .int 10 ∧ ∃ k : Nat, y = .int (k : Nat) ∧ k ≤ 100 ∧ Q (.int (powC k)) H
theorem op_powC {X : Cx} : OpR X (binaryOp .Pow) rPowC := by
  intro pins s σ H x y v u Q I rx ry h
  obtain ⟨rfl, k, rfl, hk, q⟩ := h
  refine op_pow pins s σ H _ _ v u Q I rx ry ⟨_, _, rfl, rfl, ⟨by omega, by omega, by decide⟩, ?_⟩
  show Q (.int ((10 : Int) ^ ((k : Int).toNat))) H
  rw [Int.toNat_natCast]
  unfold powC at q
  exact q
def rPowK (k : Nat) : R2 := fun x y H Q => x = .int 10 ∧ y = .int (k : Nat) ∧ k ≤ 100 ∧ Q (.int (powC k)) H
theorem op_powK {X : Cx} (k : Nat) : OpR X (binaryOp .Pow) (rPowK k) := by
  intro pins s σ H x y v u Q I rx ry h
  obtain ⟨rfl, rfl, hk, q⟩ := h
  exact op_powC pins s σ H _ _ v u Q I rx ry ⟨rfl, k, rfl, hk, q⟩
section
variable {X : Cx} {CX : CXT} {n : Nat} {sp : Sp} {E : XK} {C g : Addr}
theorem op_cmpTK {K : PySem.W.Frag} {op : CmpOp} (hK : X.K = K) (hop : ∀ a b, compareOp op a b = richCompare op a b) (hs : PySem.W.findIn X.K (.ref C) (cmpInfo op).2.1 = some (some (.ref g))) (hf : PySem.W.isFn X.K (.ref g) = true)
    (F : FnR X.prog X.w X.K X.mg X.base CX n g sp) (hr : Room n X.A) (hx : Passes CX X E) : OpR X (compareOp op) (rBinT K C sp E) := by
  subst hK
  exact op_cmpT hop hs hf F hr hx
end
end Ow
end
section
set_option maxHeartbeats 4000000
/-! o.x(..): an own instance that lies in a field of another one, called. -/
namespace Ow
open PySem PySem.Spec PyProof.Rows L2 StX
section
variable {X : Cx} {CX : CXT} {k : Nat} {C g : Addr} {sp : Sp} {E : XK} {o e : Expr} {es : List Expr} {apos pos : Pos} {ta : TE} {t : TA} {m : Str}
def tFCall (K : PySem.W.Frag) (C : Addr) (m : Str) (sp : Sp) (E : XK) (ta : TE) (t : TA) : TE := fun σ H Q => ta σ H fun x H1 => ∃ (a C0 dx : Addr) (fs : List (Str × V)) (v : Addr), x = .ref a ∧ H1 a = some (.ins C0 dx fs) ∧ Cls K C0 ∧ NoAttr K C0 m ∧ fs.lookup m = some (.ref v) ∧ t σ H1 fun vs H2 => InsAt H2 v C ∧ sp (V.ref v :: vs) H2 Q E
theorem pe_fcall {pl : Sem Bool} (he : PE X o ta) (c : CallO X.K C g) (F : FnR X.prog X.w X.K X.mg X.base CX k g sp) (hr : Room k X.A) (hx : Passes CX X E) (ha : PA X (e :: es) t)
    (hst : starEach (e :: es) X.env = (false, eval e X.env) :: starEach es X.env := by rfl) (hpl : (backTo pos (starEach es X.env)).any (·.1) = false := by rfl)
    (ht : eval (.Call (.Attribute o m apos) (e :: es) [] pos) X.env = (do
      let ov ← eval o X.env
      standAt apos.atName
      let (f, first) ← holding [ov] (getMethod ov m pl)
      callWith pos f first (backTo pos (starEach (e :: es) X.env)) (backToKw pos (keywordEach [] X.env))) := by rfl) :
    PE X (.Call (.Attribute o m apos) (e :: es) [] pos) (tFCall X.K C m sp E ta t) := by
  refine ⟨fun pins s σ H Q I h => ?_⟩
  refine PySem.W.methodCall_KW (pl := pl) (thn (he.run pins s σ H _ I h) fun u s1 ⟨x, H1, I1, rx, a, C0, dx, fs, v, ex, ea, c0, n, l, q⟩ => ?_) ht
  subst ex
  obtain rfl : u = Value.ref a := rx
  obtain ⟨mA, O, r, _, _, _⟩ := ins_get I1.hok ea
  obtain ⟨od, J, hl⟩ := O.look
  refine PySem.W.method_usual (r := none) I1.kIn J (PySem.W.plainGet_of (c0.get m)).1 (PySem.W.plainGet_of (c0.get m)).2 n rfl ?_
  refine getattr_ok I1 ea c0 n l fun u' s2 I2 ru => ?_
  obtain rfl : u' = Value.ref v := ru
  refine callO_with (thn (ha.run pos pins s2 σ H1 _ I2 q) fun us s3 z => ?_) hst hpl
  obtain ⟨vs, H2, I3, r, ⟨dx, fs, hi⟩, q2⟩ := z
  have hc : InsC X H2 v C := .inr ⟨dx, fs, hi⟩
  obtain ⟨ox, od, J, hd⟩ := insC_at I3 hc
  exact ⟨⟨C, ox, od, J, hd⟩, run_callO c F hr hx I3 hc r q2⟩
end
end Ow
end
section
set_option maxHeartbeats 4000000
/-! == of two tuples whose items' own == may change the state. -/
namespace Ow
open PySem PySem.Spec PyProof.Rows L2 PySem.SeqAt
open PySem.AutoSeq1 (wpAny_loadPart')
/-- the items compared one pair behind the other, till one pair differs -/
def EqChain (prog : Program) (w : World) (A : Around) (E : Value → Shared → Prop) (R : Bool → Shared → Prop) : List (Value × Value) → Shared → Prop
  | [], s => R true s
  | p :: r, s => wpAny (model prog w) A.in1 (eqBool p.1 p.2) (fun v s' => if v = true then EqChain prog w A E R r s' else R false s') E s
section
variable {prog : Program} {w : World}
theorem tup_eqChain (la lb : Addr) (xs ys : Array Value) (m m2 : Nat) (da db : Option Addr) (ta tb : Array (Option Value)) :
    MeetsIn prog w (Builtin.«tuple.__eq__» ⟨[.ref la, .ref lb], []⟩) (fun A R s => s.heap.get? la = some ⟨.type "tuple", da, .seq xs m, ta⟩ ∧ s.heap.get? lb = some ⟨.type "tuple", db, .seq ys m2, tb⟩ ∧
      EqChain prog w A (fun er s' => R (.error er) s') (fun v s' => R (.ok (.ret (.bool (v && xs.size == ys.size)))) s') (xs.toList.zip ys.toList) s) :=
  .of_wp fun A R s h => by
    obtain ⟨hp, g, d, tk, os⟩ := s
    obtain ⟨ga, gb, hc⟩ := h
    have sub := AutoSeq1.sub_tuple_tuple
    wp_walk using wpAny_loadPart' ga, wpAny_loadPart' gb, wpAny_forIn_list _ (fun rest acc s' => acc.1 = none ∧ EqChain prog w A (fun er s' => R (.error er) s') (fun v s' => R (.ok (.ret (.bool (v && xs.size == ys.size)))) s') rest s') _
    case turn =>
      intro p rest acc s' hin
      obtain ⟨p1, p2⟩ := p
      obtain ⟨_, hch⟩ := hin
      refine wpAny_bind (wpAny_mono hch (fun v s2 hv => ?_) fun _ _ z => z)
      cases v with
      | true =>
        rw [if_pos rfl] at hv
        wp_walk
        exact ⟨rfl, hv⟩
      | false =>
        rw [if_neg (by decide)] at hv
        wp_walk
        exact ⟨_, rfl, by simpa using hv⟩
    case fin =>
      intro acc s' hin
      obtain ⟨a1, a2⟩ := acc
      obtain ⟨e1, hch⟩ := hin
      cases (show a1 = none from e1)
      wp_walk
      exact ⟨_, rfl, by simpa [Builtin.Tuple.tupleCompareSizes, EqChain] using hch⟩
    case h => exact ⟨rfl, hc⟩
theorem EqChain.mono {A : Around} {E E' : Value → Shared → Prop} {R R' : Bool → Shared → Prop} (he : ∀ er s', E er s' → E' er s') (hr : ∀ v s', R v s' → R' v s') : ∀ (ps : List (Value × Value)) (s : Shared), EqChain prog w A E R ps s → EqChain prog w A E' R' ps s
  | [], s, h => hr _ _ h
  | p :: r, s, h => wpAny_mono h (fun v s' q => by
      cases v with
      | true => rw [if_pos rfl] at q ⊢; exact EqChain.mono he hr r s' q
      | false => rw [if_neg (by decide)] at q ⊢; exact hr _ _ q) fun er s' q => he er s' q
theorem rc_tupChain {A : Around} {s : Shared} {E : Value → Shared → Prop} {Q : Value → Shared → Prop} {la lb : Addr} {xs ys : Array Value} (ga : s.heap.IsTuple la xs) (gb : s.heap.IsTuple lb ys) (hu : A.units < cLine)
    (h : EqChain prog w A E (fun v s' => Q (.bool (v && xs.size == ys.size)) s') (xs.toList.zip ys.toList) s) : wpAny (model prog w) A (richCompare .Eq (.ref la) (.ref lb)) Q E s := by
  obtain ⟨oa, h1, h2, m, h3⟩ := ga
  obtain ⟨ob, k1, k2, m2, k3⟩ := gb
  obtain ⟨ca, da, ea, ta⟩ := oa
  obtain ⟨cb, db, eb, tb⟩ := ob
  cases (show ca = _ from h2)
  cases (show cb = _ from k2)
  cases (show ea = _ from h3)
  cases (show eb = _ from k3)
  refine wpAny_richCompare_same_room (T := "tuple") (op := .Eq) ⟨_, h1, rfl⟩ ⟨_, k1, rfl⟩ F.slot_tuple_eq (call_meetsIn F.slot_tuple_eq ⟨_, h1, rfl⟩ F.entry_tuple_eq (F.args_tuple_eq_2 _ _) (tup_eqChain la lb xs ys m m2 da db ta tb) ⟨h1, k1, ?_⟩) hu
  exact EqChain.mono (fun _ _ q => q) (fun v s' q => ⟨(fun z => nomatch z), q⟩) _ _ h
end
end Ow
end
section
set_option maxHeartbeats 4000000
/-! == of two tuples of own instances that have an own ==. -/
namespace Ow
open PySem PySem.Spec PyProof.Rows L2 StX
/-- the pairs compared one behind the other: one instance with itself is alike without a call -/
def kEqs (C : Addr) (sp : Sp) (E : XK) (Q : Bool → Hp → Prop) : List (Addr × Addr) → Hp → Prop
  | [], H => Q true H
  | p :: r, H => (p.1 = p.2 ∧ kEqs C sp E Q r H) ∨ (p.1 ≠ p.2 ∧ InsAt H p.1 C ∧ InsAt H p.2 C ∧ sp [.ref p.1, .ref p.2] H (fun v H' => ∃ k, v = .bl k ∧ (k = true → kEqs C sp E Q r H') ∧ (k = false → Q false H')) E)
def rEqTO (C : Addr) (sp : Sp) (E : XK) : R2 := fun x y H Q => ∃ (ta tb : Addr) (as bs : List Addr), x = .ref ta ∧ y = .ref tb ∧ H ta = some (.tup (as.map V.ref)) ∧ H tb = some (.tup (bs.map V.ref)) ∧ as.length = bs.length ∧ kEqs C sp E (fun k H' => Q (.bl k) H') (as.zip bs) H
theorem vals_refsT : ∀ {as : List Addr} {us : List Value}, Vals (as.map V.ref) us → us = as.map Value.ref
  | [], _, .nil => rfl
  | a :: as, _, .cons h t => by
    cases (show _ = Value.ref a from h)
    rw [vals_refsT t]
    rfl
section
variable {X : Cx} {CX : CXT} {n : Nat} {C g : Addr} {sp : Sp} {E : XK}
theorem chain_own (hs : PySem.W.findIn X.K (.ref C) (cmpInfo .Eq).2.1 = some (some (.ref g))) (hf : PySem.W.isFn X.K (.ref g) = true) (hn : PySem.W.notFirst X.K C (.ref C) = true)
    (F : FnR X.prog X.w X.K X.mg X.base CX n g sp) (hr : Room (n + 1) X.A) (hx : Passes CX X E) {pins : List (Addr × Obj)} {σ : L2.St} {Q : Bool → Hp → Prop} :
    ∀ (ps : List (Addr × Addr)) (s : Shared) (H : Hp), Inv X pins σ H s → kEqs C sp E Q ps H →
      EqChain X.prog X.w X.A X.xe (fun k s' => ∃ H', Inv X pins σ H' s' ∧ Q k H') (ps.map fun p => (Value.ref p.1, Value.ref p.2)) s
  | [], s, H, I, h => ⟨H, I, h⟩
  | p :: r, s, H, I, h => by
    obtain ⟨a, b⟩ := p
    show wpAny _ _ (eqBool (.ref a) (.ref b)) _ _ s
    rcases h with ⟨e, h⟩ | ⟨ne, ha, hb, q⟩
    · cases (show a = b from e)
      refine PySem.SeqAt.EqAt.same _ X.prog X.w _ _ ?_
      rw [if_pos rfl]
      exact chain_own hs hf hn F hr hx r s H I h
    · have ne : a ≠ b := ne
      have ha : InsAt H a C := ha
      have hb : InsAt H b C := hb
      unfold eqBool
      refine wpAny_holding (wpAny_ite_split (fun hab => absurd (by have := eq_of_beq hab; injection this) ne) fun _ => wpAny_bind ?_)
      obtain ⟨ox, od, J⟩ := inst_of I ha
      obtain ⟨oy, od', J'⟩ := inst_of I hb
      obtain ⟨m, hF⟩ := I.fr
      refine PySem.W.cmp_K (op := .Eq) (tb := .ref C) hr.in1.units0 hF I.ok.mod.kin J J'.type hn hs hf ?_
      refine wpAny_mono (wpAny_call (run_fnRS (us := [.ref a, .ref b]) (vs := [.ref a, .ref b]) F hr.in1 rfl hx I (.cons rfl (.cons rfl .nil)) q)) (fun w s' z => ?_) fun _ _ x => x
      obtain ⟨z', H', I', rz, k, rfl, q1, q2⟩ := z
      refine cmpbackR rz ?_
      cases (show w = Value.bool k from rz)
      refine wpAny_truthy_bool ?_
      cases k with
      | true => rw [if_pos rfl]; exact chain_own hs hf hn F hr hx r s' H' I' (q1 rfl)
      | false => rw [if_neg (by decide)]; exact ⟨H', I', q2 rfl⟩
theorem op_eqTO (hs : PySem.W.findIn X.K (.ref C) (cmpInfo .Eq).2.1 = some (some (.ref g))) (hf : PySem.W.isFn X.K (.ref g) = true) (hn : PySem.W.notFirst X.K C (.ref C) = true)
    (F : FnR X.prog X.w X.K X.mg X.base CX n g sp) (hr : Room (n + 1) X.A) (hx : Passes CX X E) : OpR X (compareOp .Eq) (rEqTO C sp E) := by
  intro pins s σ H x y v u Q I rx ry h
  obtain ⟨ta, tb, as, bs, rfl, rfl, ga, gb, hl, q⟩ := h
  cases (show v = Value.ref ta from rx)
  cases (show u = Value.ref tb from ry)
  obtain ⟨xs, rva, pa, _⟩ := I.tuple (.inl (.inl ga))
  obtain ⟨ys, rvb, pb, _⟩ := I.tuple (.inl (.inl gb))
  cases vals_refsT rva
  cases vals_refsT rvb
  show wpAny _ _ (richCompare .Eq _ _) _ _ s
  refine rc_tupChain pa pb hr.units0 ?_
  have c := chain_own hs hf hn F hr hx (as.zip bs) s H I q
  have e : (as.zip bs).map (fun p => (Value.ref p.1, Value.ref p.2)) = (as.map Value.ref).zip (bs.map Value.ref) := by
    rw [List.zip_map]
    rfl
  rw [e] at c
  refine EqChain.mono (fun _ _ z => z) (fun k s' z => ?_) _ _ c
  obtain ⟨H', I', z⟩ := z
  refine ⟨.bl k, H', I', ?_, z⟩
  show Value.bool _ = Value.bool k
  simp [hl]
end
end Ow
end
section
set_option maxHeartbeats 4000000
/-! A static method called with nothing; one def with two readings. -/
namespace Ow
open PySem PySem.Spec PyProof.Rows L2 StX
section
variable {X : Cx} {CX : CXT} {k : Nat} {C p g : Addr} {mc : Value} {sp : Sp} {E : XK} {o : Expr} {m : Str} {pos apos : Pos} {ta : TE} {pl : Sem Bool}
theorem pe_smeth0 (he : PE X o ta) (r : ClX.CRead X.K C mc) (c : SMet X.K C mc m p g) (F : FnR X.prog X.w X.K X.mg X.base CX k g sp) (hr : Room k X.A) (hx : Passes CX X E)
    (ht : eval (.Call (.Attribute o m apos) [] [] pos) X.env = (do
      let ov ← eval o X.env
      standAt apos.atName
      let (f, first) ← holding [ov] (getMethod ov m pl)
      callWith pos f first (backTo pos (starEach [] X.env)) (backToKw pos (keywordEach [] X.env))) := by rfl) :
    PE X (.Call (.Attribute o m apos) [] [] pos) (tSMeth C sp E ta tNil) := by
  refine ⟨fun pins s σ H Q I h => ?_⟩
  refine PySem.W.methodCall_KW (pl := pl) (thn (he.run pins s σ H _ I h) fun u s1 ⟨x, H1, I1, rx, ex, q⟩ => ?_) ht
  subst ex
  obtain rfl : u = Value.ref C := rx
  refine getmethsm_ok I1 r c fun s2 I2 => ?_
  refine PySem.W.callWith_K0 I2.kIn c.kp ?_
  refine wpAny_mono (wpAny_call (run_fnR F hr hx I2 .nil q)) (fun w s' z => z) fun _ _ x => x
end
theorem FnR.or {P : Program} {w : World} {K : PySem.W.Frag} {mg : Str → Option Value} {base : Heap} {CX : CXT} {k : Nat} {g : Addr} {sp sp' : Sp} (F : FnR P w K mg base CX k g sp) (F' : FnR P w K mg base CX k g sp') : FnR P w K mg base CX k g fun vs H Q E => sp vs H Q E ∨ sp' vs H Q E := fun A outer s H us vs Q E hr e0 r h => by
  rcases h with h | h
  · exact F A outer s H us vs Q E hr e0 r h
  · exact F' A outer s H us vs Q E hr e0 r h
end Ow
end
section
set_option maxHeartbeats 4000000
/-! A comprehension whose elements make objects: what is known of each element is kept. -/
namespace Ow
open PySem PySem.Spec PyProof.Rows L2 StX
/-- the first j elements lie in the list at D, each as it should be -/
def LcOf (H1 : Hp) (Pv : Hp → Nat → V → Prop) (D : Addr) (j : Nat) (H' : Hp) : Prop := ∃ acc : List V, acc.length = j ∧ LcIn H1 H' D acc ∧ ∀ k v, acc[k]? = some v → Pv H' k v
/-- facts that stay when objects are made and when a list is changed -/
structure Stays (Pv : Hp → Nat → V → Prop) : Prop where
  same : ∀ {H H' : Hp} {k : Nat} {v : V}, Pv H k v → Same H H' → Pv H' k v
  put : ∀ {H : Hp} {D : Addr} {xs ys : List V} {k : Nat} {v : V}, Pv H k v → H D = some (.lst xs) → Pv (upd H D (.lst ys)) k v
theorem LcOf.add {H1 H H4 : Hp} {Pv : Hp → Nat → V → Prop} {D : Addr} {j : Nat} {y : V} (S : Stays Pv) (c : LcOf H1 Pv D j H) (s : Same H H4) (hj : j < sizeLine) (hy : Pv H4 j y) : kApp D (LcOf H1 Pv D (j + 1)) y H4 := by
  obtain ⟨acc, hl, c, hv⟩ := c
  have a4 := s _ _ c.at_
  refine ⟨acc, a4, by omega, acc ++ [y], by rw [List.length_append, hl]; rfl, ⟨fun b u e => ?_, upd_same, c.new⟩, fun k v hk => ?_⟩
  · rw [upd_ne (ne_of_none e c.new)]
    exact s _ _ (c.same _ _ e)
  · by_cases hi : k < acc.length
    · rw [List.getElem?_append_left hi] at hk
      exact S.put (S.same (hv k v hk) s) a4
    · rw [List.getElem?_append_right (by omega)] at hk
      have hi0 : k - acc.length = 0 := by
        match hz : k - acc.length with
        | 0 => rfl
        | m + 1 => rw [hz] at hk; cases hk
      rw [hi0] at hk
      cases hk
      have : k = j := by omega
      subst this
      exact S.put hy a4
theorem kLc.objs {J : It} {n : Nat} {G : Hp → Prop} {Y : Nat → Hp → V → Hp → Prop} (w : Walk J n G Y) {g : TG} {tt : TT} {te : TE} {vs : List Nat} {σ : L2.St} {Q : VK} {H1 : Hp} (Pv : Hp → Nat → V → Prop) (hG : ∀ H, Same H1 H → G H)
    (hs : ∀ D i x H H', i < n → LcOf H1 Pv D i H → Y i H x H' → g x (wipe σ vs) H' fun σ2 H2 => wipe σ2 vs = wipe σ vs ∧ tt σ2 H2 fun b H3 => if b = true then te σ2 H3 (kApp D (LcOf H1 Pv D (i + 1))) else LcOf H1 Pv D (i + 1) H3)
    (hd : ∀ D H' acc, acc.length = n → Fresh H1 H' D (.lst acc) → (∀ k v, acc[k]? = some v → Pv H' k v) → Q (.ref D) H') : kLc J g tt te vs σ Q H1 := fun D hD =>
  lc_it w (fun i H => LcOf H1 Pv D i H) ⟨[], rfl, ⟨(fresh_upd hD).same, upd_same, hD⟩, fun k v h => by cases k <;> cases h⟩ (fun i H _ c => hG H c.choose_spec.2.1.same) (fun i x H H' hi c y => hs D i x H H' hi c y) fun H c => by
    obtain ⟨acc, hl, c, hv⟩ := c
    exact hd D H acc hl ⟨c.same, c.at_, c.new⟩ hv
end Ow
end
section
/-! A guarded def called with nothing. -/
namespace Ow
open PySem PySem.Spec PyProof.Rows L2 StX
section
variable {X : Cx} {CX : CXT} {n : Nat} {sp : Sp} {E : XK}
theorem pe_callG0 {x : Str} {f : Addr} {p pos : Pos} (F : FnG X.prog X.w X.K X.mg X.base CX n f sp) (hr : Room n X.A) (gd : X.A.guards = some []) (hm : X.mg x = some (.ref f)) (hk : PySem.W.keepIn X.K (.ref f) = true) (hx : Passes CX X E)
    (hg : Gl X x := by rfl) (hdb : (x == ("__debug__" : Str)) = false := by decide) : PE X (.Call (.Name x p) [] [] pos) (tCallR sp E tNil) := by
  refine ⟨fun pins s σ H Q I h => ?_⟩
  refine wpAny_Call_Name_kw (ld_glob I hg hm ?_ hdb)
  refine PySem.W.callWith_K0 I.kIn hk ?_
  refine wpAny_call (codeAny_mono (F X.A X.stack s H [] [] Q E hr gd I.env0 .nil h) fun r s' hq => ?_)
  cases r with
  | error e => exact hx pins σ H s e s' I hq
  | ok fl =>
    cases fl with
    | ret u => exact I.after hq
    | next => exact False.elim hq
    | brk => exact False.elim hq
    | cont => exact False.elim hq
end
end Ow
end
section
set_option maxHeartbeats 4000000
/-! An own instance in an f-string; o.m( *y, e). -/
namespace Ow
open PySem PySem.Spec PyProof.Rows L2 StX
section
variable {X : Cx} {CX : CXT} {n : Nat} {C g : Addr} {sp : Sp} {E : XK} {e : Expr} {te : TE} {pos : Pos}
/-- {o}, o an instance of C that has a __str__ -/
def tFmtO (C : Addr) (sp : Sp) (E : XK) (te : TE) : TE := fun σ H Q => te σ H fun x H1 => ∃ a, x = .ref a ∧ InsAt H1 a C ∧ sp [.ref a] H1 (fun v H' => ∃ t, v = .str t ∧ Q (.str t) H') E
theorem pe_fmtO (he : PE X e te) (hfm : PySem.W.findIn X.K (.ref C) "__format__" = some (some (.builtin "object.__format__"))) (hm : PySem.W.mroIn X.K C (.type "object") = some true) (hs : PySem.W.findIn X.K (.ref C) "__str__" = some (some (.ref g))) (hf : PySem.W.isFn X.K (.ref g) = true)
    (F : FnR X.prog X.w X.K X.mg X.base CX n g sp) (hr : Room (n + 2) X.A) (hx : Passes CX X E) : PE X (.FormattedValue e (-1) none pos) (tFmtO C sp E te) := by
  refine ⟨fun pins s σ H Q I h => ?_⟩
  refine wpAny_FormattedValue_plain (thn (he.run pins s σ H _ I h) fun v s1 ⟨x, H1, I1, r1, a, ex, ha, q⟩ => ?_)
  subst ex
  obtain rfl : v = Value.ref a := r1
  obtain ⟨ox, od, J⟩ := inst_of I1 ha
  refine PySem.W.kfo_fieldS hr.in1.units0 I1.kIn J hfm hm hs hf ?_
  refine wpAny_mono (wpAny_call (run_fnRS (us := [.ref a]) (vs := [.ref a]) F (hr.in1.mono (Nat.le_succ n)) rfl hx (I1.tok _) (.cons rfl .nil) q)) (fun w s' z => ?_) fun _ _ x => x
  obtain ⟨z', H', I', rz, t, rfl, qz⟩ := z
  obtain ⟨tk, rfl⟩ := rz
  exact ⟨.str t, H', I', ⟨tk, rfl⟩, qz⟩
end
theorem starcallF_of {M : Model} {A : Around} {E : Value → Shared → Prop} {s : Shared} {env : Env} {o e1 e2 : Expr} {m : Str} {p apos pos : Pos} {Q : Value → Shared → Prop} (hbase : attributeBase o m env (eval o env) = eval o env)
    (hst : starEach [.Starred e1 p, e2] env = [(true, eval e1 env), (false, eval e2 env)])
    (h : wpAny M A (eval o env) (fun ov s₁ => wpAny M A (getAttr ov m true) (fun f s₂ => wpAny M A (callWith pos f [] (backTo pos [(true, eval e1 env), (false, eval e2 env)]) []) Q E s₂) E s₁) E s) :
    wpAny M A (eval (.Call (.Attribute o m apos) [.Starred e1 p, e2] [] pos) env) Q E s := by
  have k1 : backToKw pos (keywordEach [] env) = [] := rfl
  have k2 : methodCallForm ([Expr.Starred e1 p, e2].length + ([] : List Keyword).length) (backTo pos [(true, eval e1 env), (false, eval e2 env)]) [] = false := rfl
  have k3 : methodCallPos false o env apos pos = pure pos := rfl
  have k4 : ∀ ov, calleeOf false o env ov m = (getAttr ov m true >>= fun v => pure (v, [])) := fun _ => rfl
  rw [arm_eval_Call, hbase, hst, k1]
  refine wpAny_bind (wpAny_mono h (fun ov s₁ z => ?_) fun _ _ x => x)
  refine wpAny_bind (wpAny_standAt ?_)
  unfold methodCall
  rw [k2, k3, k4]
  refine wpAny_bind (wpAny_holding (wpAny_bind (wpAny_mono z (fun f s₂ y => wpAny_pure ?_) fun _ _ x => x)))
  exact wpAny_bind (wpAny_pure y)
theorem evalArgs_star {M : Model} {A : Around} {E : Value → Shared → Prop} {s : Shared} {f : Value} {x y : Sem Value} {b : Bool} {rest : List (Bool × Sem Value)} {Q : Args → Shared → Prop}
    (h : wpAny M A (spliced ((true, x) :: (b, y) :: rest)) (fun vs s' => Q ⟨vs, []⟩ s') E s) : wpAny M A (evalArgs f true ((true, x) :: (b, y) :: rest) []) Q E s := by
  unfold evalArgs
  show wpAny M A (spliced ((true, x) :: (b, y) :: rest) >>= _) Q E s
  refine wpAny_bind (wpAny_mono h (fun vs s' z => ?_) fun _ _ x => x)
  refine wpAny_holding ?_
  exact wpAny_bind (wpAny_pure (wpAny_bind (wpAny_pure (wpAny_pure z))))
/-- o.m( *y, e), o an instance of C -/
def tMethSF (K : PySem.W.Frag) (C : Addr) (m : Str) (g : Addr) (sp : Sp) (E : XK) (ta t1 t2 : TE) : TE := fun σ H Q => ta σ H fun x H1 => ∃ a dx fs, x = .ref a ∧ H1 a = some (.ins C dx fs) ∧ fs.lookup m = none ∧
  ∀ q, H1 q = none → t1 σ (upd H1 q (.met g a)) fun y1 H2 => ∃ b vs, y1 = .ref b ∧ (SqT K H2 b vs ∨ SqL K H2 b vs) ∧ t2 σ H2 fun y2 H3 => H3 q = some (.met g a) ∧ sp (.ref a :: (vs ++ [y2])) H3 Q E
theorem pe_methSF {X : Cx} {CX : CXT} {k : Nat} {C g : Addr} {m : Str} {sp : Sp} {E : XK} {o e1 e2 : Expr} {ta t1 t2 : TE} {p apos pos : Pos} (he : PE X o ta) (c : Cls X.K C) (b : BMeth X.K C m g) (F : FnR X.prog X.w X.K X.mg X.base CX k g sp) (hr : Room k X.A)
    (hx : Passes CX X E) (h1 : PE X e1 t1) (h2 : PE X e2 t2) (hbase : attributeBase o m X.env (eval o X.env) = eval o X.env := by rfl)
    (hst : starEach [.Starred e1 p, e2] X.env = [(true, eval e1 X.env), (false, eval e2 X.env)] := by rfl) : PE X (.Call (.Attribute o m apos) [.Starred e1 p, e2] [] pos) (tMethSF X.K C m g sp E ta t1 t2) := by
  refine ⟨fun pins s σ H Q I h => ?_⟩
  refine starcallF_of hbase hst (thn (he.run pins s σ H _ I h) fun u s1 ⟨x, H1, I1, rx, a, dx, fs, ex, ea, l, q⟩ => ?_)
  subst ex
  obtain rfl : u = Value.ref a := rx
  refine getbound_ok I1 ea c b l fun q1 s2 hq1 I2 => ?_
  refine PySem.W.ks_call (P := PySem.W.MethP X.K q1 g (.ref a)) rfl (PySem.W.keeps_M b.fi) (evalArgs_star (PySem.W.ks_spliced (thn (h1.run pins s2 σ _ _ I2 (q q1 hq1)) fun v1 s3 ⟨y1, H2, I3, ry1, t, vs, ey, ht, q2⟩ => ?_)))
  subst ey
  obtain rfl : v1 = Value.ref t := ry1
  refine StX.star_any I3 ht fun us s4 I4 rv => Calls.spliced_cons (thn (h2.run pins s4 σ H2 _ I4 q2) fun v2 s5 ⟨y2, H3, I5, ry2, hm, hsp⟩ => Calls.spliced_nil ?_)
  show PySem.W.MethP X.K q1 g (.ref a) s5.heap ∧ wpAny (model X.prog X.w) X.A (call (.ref q1) (us ++ [v2]) []) (EP X pins σ Q) X.xe s5
  exact ⟨met_P I5 hm, wpAny_call (PySem.W.method_call (met_P I5 hm).1 (run_fnR (us := Value.ref a :: (us ++ [v2])) (vs := V.ref a :: (vs ++ [y2])) F hr hx I5 (.cons rfl (rv.append (.cons ry2 .nil))) hsp))⟩
end Ow
namespace Ow
open PySem PySem.Spec PyProof.Rows L2 StX
/-- one expression read in two ways (a call of one class's method or of another's) -/
theorem pe_or {X : Cx} {e : Expr} {t u : TE} (h : PE X e t) (h' : PE X e u) : PE X e fun σ H Q => t σ H Q ∨ u σ H Q := ⟨fun pins s σ H Q I z => z.elim (h.run pins s σ H Q I) (h'.run pins s σ H Q I)⟩
theorem callR_or {X : Cx} {v : Value} {r r' : List V → Hp → VK → Prop} (h : CallR X v r) (h' : CallR X v r') : CallR X v fun xs H Q => r xs H Q ∨ r' xs H Q := fun pins s σ H xs us Q I rv z => z.elim (h pins s σ H xs us Q I rv) (h' pins s σ H xs us Q I rv)
end Ow
end
section
namespace Pf
open PySem PySem.Spec PyProof.Rows L2 Ow
def topS (i : Nat) : Stmt := PySem.Challenge.pw_heldfloods_k38_copies_by_pixels.main.body.getD i (.Pass ⟨0, 0, 0, 0⟩)
abbrev s_BadPlace_init : Stmt := inClass (topS 3) 0
theorem sc_BadPlace_init : FnScope ["self", "part"] ["self", "part"] (defScope s_BadPlace_init) := ⟨rfl, rfl, rfl, by decide +kernel, rfl, by decide +kernel, by decide +kernel⟩
abbrev s_BadSize_init : Stmt := inClass (topS 4) 0
theorem sc_BadSize_init : FnScope ["self", "part"] ["self", "part"] (defScope s_BadSize_init) := ⟨rfl, rfl, rfl, by decide +kernel, rfl, by decide +kernel, by decide +kernel⟩
abbrev s_is_int : Stmt := topS 13
theorem sc_is_int : FnScope ["value"] ["value"] (defScope s_is_int) := ⟨rfl, rfl, rfl, by decide +kernel, rfl, by decide +kernel, by decide +kernel⟩
abbrev s_check_size : Stmt := topS 17
theorem sc_check_size : FnScope ["value", "part"] ["value", "part"] (defScope s_check_size) := ⟨rfl, rfl, rfl, by decide +kernel, rfl, by decide +kernel, by decide +kernel⟩
abbrev s_Place_init : Stmt := inClass (topS 24) 0
theorem sc_Place_init : FnScope ["self", "slope", "offset", "odd"] ["self", "slope", "offset", "odd"] (defScope s_Place_init) := ⟨rfl, rfl, rfl, by decide +kernel, rfl, by decide +kernel, by decide +kernel⟩
abbrev s_Place_slope : Stmt := inClass (topS 24) 1
theorem sc_Place_slope : FnScope ["self"] ["self"] (defScope s_Place_slope) := ⟨rfl, rfl, rfl, by decide +kernel, rfl, by decide +kernel, by decide +kernel⟩
abbrev s_Place_offset : Stmt := inClass (topS 24) 2
theorem sc_Place_offset : FnScope ["self"] ["self"] (defScope s_Place_offset) := ⟨rfl, rfl, rfl, by decide +kernel, rfl, by decide +kernel, by decide +kernel⟩
abbrev s_Place_odd : Stmt := inClass (topS 24) 3
theorem sc_Place_odd : FnScope ["self"] ["self"] (defScope s_Place_odd) := ⟨rfl, rfl, rfl, by decide +kernel, rfl, by decide +kernel, by decide +kernel⟩
abbrev s_Place_call : Stmt := inClass (topS 24) 4
theorem sc_Place_call : FnScope ["self", "size"] ["self", "size"] (defScope s_Place_call) := ⟨rfl, rfl, rfl, by decide +kernel, rfl, by decide +kernel, by decide +kernel⟩
abbrev s_from_left : Stmt := topS 25
theorem sc_from_left : FnScope ["k"] ["k"] (defScope s_from_left) := ⟨rfl, rfl, rfl, by decide +kernel, rfl, by decide +kernel, by decide +kernel⟩
abbrev s_from_right : Stmt := topS 26
theorem sc_from_right : FnScope ["k"] ["k"] (defScope s_from_right) := ⟨rfl, rfl, rfl, by decide +kernel, rfl, by decide +kernel, by decide +kernel⟩
abbrev s_parts_of : Stmt := topS 28
theorem sc_parts_of : FnScope ["place"] ["place"] (defScope s_parts_of) := ⟨rfl, rfl, rfl, by decide +kernel, rfl, by decide +kernel, by decide +kernel⟩
abbrev s_place_words : Stmt := topS 32
theorem sc_place_words : FnScope ["slope", "offset", "odd"] ["slope", "offset", "odd"] (defScope s_place_words) := ⟨rfl, rfl, rfl, by decide +kernel, rfl, by decide +kernel, by decide +kernel⟩
abbrev s_Place_str : Stmt := inClass (topS 24) 14
theorem sc_Place_str : FnScope ["self"] ["self"] (defScope s_Place_str) := ⟨rfl, rfl, rfl, by decide +kernel, rfl, by decide +kernel, by decide +kernel⟩
abbrev s_bounded_place : Stmt := topS 30
theorem sc_bounded_place : FnScope ["value", "place", "number"] ["value"] (defScope s_bounded_place) := ⟨rfl, rfl, rfl, by decide +kernel, rfl, by decide +kernel, by decide +kernel⟩
abbrev s_checked_place : Stmt := topS 31
theorem sc_checked_place : FnScope ["value", "part", "place"] ["value", "part"] (defScope s_checked_place) := ⟨rfl, rfl, rfl, by decide +kernel, rfl, by decide +kernel, by decide +kernel⟩
abbrev s_Box_init : Stmt := inClass (topS 37) 0
theorem sc_Box_init : FnScope ["self", "x0", "x1", "y0", "y1"] ["self", "x0", "x1", "y0", "y1"] (defScope s_Box_init) := ⟨rfl, rfl, rfl, by decide +kernel, rfl, by decide +kernel, by decide +kernel⟩
abbrev s_Box_call : Stmt := inClass (topS 37) 1
theorem sc_Box_call : FnScope ["self", "width", "height"] ["self", "width", "height"] (defScope s_Box_call) := ⟨rfl, rfl, rfl, by decide +kernel, rfl, by decide +kernel, by decide +kernel⟩
abbrev s_box_places : Stmt := topS 38
theorem sc_box_places : FnScope ["box"] ["box"] (defScope s_box_places) := ⟨rfl, rfl, rfl, by decide +kernel, rfl, by decide +kernel, by decide +kernel⟩
abbrev s_Box_str : Stmt := inClass (topS 37) 4
theorem sc_Box_str : FnScope ["self", "place"] ["self"] (defScope s_Box_str) := ⟨rfl, rfl, rfl, by decide +kernel, rfl, by decide +kernel, by decide +kernel⟩
abbrev s_BadColour_init : Stmt := inClass (topS 5) 0
theorem sc_BadColour_init : FnScope ["self", "value"] ["self", "value"] (defScope s_BadColour_init) := ⟨rfl, rfl, rfl, by decide +kernel, rfl, by decide +kernel, by decide +kernel⟩
abbrev s_BadPixel_init : Stmt := inClass (topS 6) 0
theorem sc_BadPixel_init : FnScope ["self", "x", "y"] ["self", "x", "y"] (defScope s_BadPixel_init) := ⟨rfl, rfl, rfl, by decide +kernel, rfl, by decide +kernel, by decide +kernel⟩
abbrev s_is_int_in : Stmt := topS 14
theorem sc_is_int_in : FnScope ["value", "low", "beyond"] ["value", "low", "beyond"] (defScope s_is_int_in) := ⟨rfl, rfl, rfl, by decide +kernel, rfl, by decide +kernel, by decide +kernel⟩
abbrev s_is_colour : Stmt := topS 15
theorem sc_is_colour : FnScope ["value"] ["value"] (defScope s_is_colour) := ⟨rfl, rfl, rfl, by decide +kernel, rfl, by decide +kernel, by decide +kernel⟩
abbrev s_check_colour : Stmt := topS 16
theorem sc_check_colour : FnScope ["value"] ["value"] (defScope s_check_colour) := ⟨rfl, rfl, rfl, by decide +kernel, rfl, by decide +kernel, by decide +kernel⟩
abbrev s_check_side : Stmt := topS 18
theorem sc_check_side : FnScope ["value", "part", "most"] ["value", "part", "most"] (defScope s_check_side) := ⟨rfl, rfl, rfl, by decide +kernel, rfl, by decide +kernel, by decide +kernel⟩
abbrev s_is_row : Stmt := topS 61
theorem sc_is_row : FnScope ["value", "most"] ["value", "most"] (defScope s_is_row) := ⟨rfl, rfl, rfl, by decide +kernel, rfl, by decide +kernel, by decide +kernel⟩
abbrev s_wrong_row : Stmt := topS 60
theorem sc_wrong_row : FnScope ["rows", "most", "at", "row"] ["rows", "most"] (defScope s_wrong_row) := ⟨rfl, rfl, rfl, by decide +kernel, rfl, by decide +kernel, by decide +kernel⟩
abbrev s_is_pixel : Stmt := topS 62
theorem sc_is_pixel : FnScope ["rows", "x", "y"] ["rows", "x", "y"] (defScope s_is_pixel) := ⟨rfl, rfl, rfl, by decide +kernel, rfl, by decide +kernel, by decide +kernel⟩
abbrev s_check_pixel : Stmt := topS 63
theorem sc_check_pixel : FnScope ["rows", "x", "y"] ["rows", "x", "y"] (defScope s_check_pixel) := ⟨rfl, rfl, rfl, by decide +kernel, rfl, by decide +kernel, by decide +kernel⟩
abbrev s_clipped : Stmt := topS 64
theorem sc_clipped : FnScope ["begin", "end", "size"] ["begin", "end", "size"] (defScope s_clipped) := ⟨rfl, rfl, rfl, by decide +kernel, rfl, by decide +kernel, by decide +kernel⟩
abbrev s_painted : Stmt := topS 65
theorem sc_painted : FnScope ["row", "begin", "end", "sign"] ["row", "begin", "end", "sign"] (defScope s_painted) := ⟨rfl, rfl, rfl, by decide +kernel, rfl, by decide +kernel, by decide +kernel⟩
abbrev s_filled_rows : Stmt := topS 66
theorem sc_filled_rows : FnScope ["rows", "x0", "x1", "y0", "y1", "colour", "left", "right", "top", "foot", "new", "y"] ["rows", "x0", "x1", "y0", "y1", "colour"] (defScope s_filled_rows) := ⟨rfl, rfl, rfl, by decide +kernel, rfl, by decide +kernel, by decide +kernel⟩
abbrev s_Picture_init : Stmt := inClass (topS 78) 1
theorem sc_Picture_init : FnScope ["self", "rows", "wrong"] ["self", "rows"] (defScope s_Picture_init) := ⟨rfl, rfl, rfl, by decide +kernel, rfl, by decide +kernel, by decide +kernel⟩
abbrev s_Picture_rows : Stmt := inClass (topS 78) 3
theorem sc_Picture_rows : FnScope ["self"] ["self"] (defScope s_Picture_rows) := ⟨rfl, rfl, rfl, by decide +kernel, rfl, by decide +kernel, by decide +kernel⟩
abbrev s_Canvas_init : Stmt := inClass (topS 85) 1
theorem sc_Canvas_init : FnScope ["self", "width", "height"] ["self", "width", "height"] (defScope s_Canvas_init) := ⟨rfl, rfl, rfl, by decide +kernel, rfl, by decide +kernel, by decide +kernel⟩
abbrev s_Canvas_width : Stmt := inClass (topS 85) 2
theorem sc_Canvas_width : FnScope ["self"] ["self"] (defScope s_Canvas_width) := ⟨rfl, rfl, rfl, by decide +kernel, rfl, by decide +kernel, by decide +kernel⟩
abbrev s_Canvas_height : Stmt := inClass (topS 85) 4
theorem sc_Canvas_height : FnScope ["self"] ["self"] (defScope s_Canvas_height) := ⟨rfl, rfl, rfl, by decide +kernel, rfl, by decide +kernel, by decide +kernel⟩
abbrev s_Canvas_setitem : Stmt := inClass (topS 85) 7
theorem sc_Canvas_setitem : FnScope ["self", "at", "worth", "x", "y"] ["self", "at", "worth"] (defScope s_Canvas_setitem) := ⟨rfl, rfl, rfl, by decide +kernel, rfl, by decide +kernel, by decide +kernel⟩
abbrev s_Canvas_picture : Stmt := inClass (topS 85) 9
theorem sc_Canvas_picture : FnScope ["self"] ["self"] (defScope s_Canvas_picture) := ⟨rfl, rfl, rfl, by decide +kernel, rfl, by decide +kernel, by decide +kernel⟩
abbrev s_Canvas_fill : Stmt := inClass (topS 85) 14
theorem sc_Canvas_fill : FnScope ["self", "x0", "x1", "y0", "y1", "colour"] ["self", "x0", "x1", "y0", "y1", "colour"] (defScope s_Canvas_fill) := ⟨rfl, rfl, rfl, by decide +kernel, rfl, by decide +kernel, by decide +kernel⟩
abbrev s_check_box : Stmt := topS 54
theorem sc_check_box : FnScope ["value"] ["value"] (defScope s_check_box) := ⟨rfl, rfl, rfl, by decide +kernel, rfl, by decide +kernel, by decide +kernel⟩
abbrev s_Copy_init : Stmt := inClass (topS 48) 0
theorem sc_Copy_init : FnScope ["self", "box", "x", "y"] ["self", "box", "x", "y"] (defScope s_Copy_init) := ⟨rfl, rfl, rfl, by decide +kernel, rfl, by decide +kernel, by decide +kernel⟩
abbrev s_copied_rows : Stmt := topS 67
theorem sc_copied_rows : FnScope ["rows", "box", "right", "down", "x0", "x1", "y0", "y1", "width", "height", "new", "y"] ["rows", "box", "right", "down"] (defScope s_copied_rows) := ⟨rfl, rfl, rfl, by decide +kernel, rfl, by decide +kernel, by decide +kernel⟩
abbrev s_Canvas_copy_box : Stmt := inClass (topS 85) 17
theorem sc_Canvas_copy_box : FnScope ["self", "box", "right", "down"] ["self", "box", "right", "down"] (defScope s_Canvas_copy_box) := ⟨rfl, rfl, rfl, by decide +kernel, rfl, by decide +kernel, by decide +kernel⟩
abbrev s_Copy_on : Stmt := inClass (topS 48) 1
theorem sc_Copy_on : FnScope ["self", "canvas", "sides"] ["self", "canvas"] (defScope s_Copy_on) := ⟨rfl, rfl, rfl, by decide +kernel, rfl, by decide +kernel, by decide +kernel⟩
abbrev s__law_pen : Stmt := topS 87
theorem sc__law_pen : FnScope ["_law_script"] ["_law_script"] (defScope s__law_pen) := ⟨rfl, rfl, rfl, by decide +kernel, rfl, by decide +kernel, by decide +kernel⟩
abbrev s__law_draw : Stmt := topS 88
theorem sc__law_draw : FnScope ["_law_pen_here", "_law_many", "_law_digit", "_law_at_here", "_law_cell", "_law_great", "_law_mixed"] ["_law_pen_here", "_law_many"] (defScope s__law_draw) := ⟨rfl, rfl, rfl, by decide +kernel, rfl, by decide +kernel, by decide +kernel⟩
abbrev s__law_pick : Stmt := topS 89
theorem sc__law_pick : FnScope ["_law_pen_here", "_law_some"] ["_law_pen_here", "_law_some"] (defScope s__law_pick) := ⟨rfl, rfl, rfl, by decide +kernel, rfl, by decide +kernel, by decide +kernel⟩
abbrev s__law_place : Stmt := topS 90
theorem sc__law_place : FnScope ["_law_pen_here", "_law_k"] ["_law_pen_here"] (defScope s__law_place) := ⟨rfl, rfl, rfl, by decide +kernel, rfl, by decide +kernel, by decide +kernel⟩
abbrev s__law_at : Stmt := topS 91
theorem sc__law_at : FnScope ["_law_place_here", "_law_size"] ["_law_place_here", "_law_size"] (defScope s__law_at) := ⟨rfl, rfl, rfl, by decide +kernel, rfl, by decide +kernel, by decide +kernel⟩
abbrev s__law_built_place : Stmt := topS 92
theorem sc__law_built_place : FnScope ["_law_pen_here", "_law_place_here"] ["_law_pen_here", "_law_place_here"] (defScope s__law_built_place) := ⟨rfl, rfl, rfl, by decide +kernel, rfl, by decide +kernel, by decide +kernel⟩
abbrev s__law_box : Stmt := topS 93
theorem sc__law_box : FnScope ["_law_pen_here", "_law_way", "_law_k"] ["_law_pen_here"] (defScope s__law_box) := ⟨rfl, rfl, rfl, by decide +kernel, rfl, by decide +kernel, by decide +kernel⟩
abbrev s__law_built_box : Stmt := topS 94
theorem sc__law_built_box : FnScope ["_law_pen_here", "_law_four", "_law_some", "_law_place_here"] ["_law_pen_here", "_law_four"] (defScope s__law_built_box) := ⟨rfl, rfl, rfl, by decide +kernel, rfl, by decide +kernel, by decide +kernel⟩
abbrev s__law_ends : Stmt := topS 95
theorem sc__law_ends : FnScope ["_law_box_here", "_law_width", "_law_height"] ["_law_box_here", "_law_width", "_law_height"] (defScope s__law_ends) := ⟨rfl, rfl, rfl, by decide +kernel, rfl, by decide +kernel, by decide +kernel⟩
abbrev s__law_built : Stmt := topS 97
theorem sc__law_built : FnScope ["_law_pen_here", "_law_told", "_law_kind", "_law_x", "_law_y", "_law_deeds", "_law_one"] ["_law_pen_here", "_law_told"] (defScope s__law_built) := ⟨rfl, rfl, rfl, by decide +kernel, rfl, by decide +kernel, by decide +kernel⟩
abbrev s__law_is_pixel : Stmt := topS 98
theorem sc__law_is_pixel : FnScope ["_law_grid", "_law_x", "_law_y"] ["_law_grid", "_law_x", "_law_y"] (defScope s__law_is_pixel) := ⟨rfl, rfl, rfl, by decide +kernel, rfl, by decide +kernel, by decide +kernel⟩
abbrev s__law_spots : Stmt := topS 99
theorem sc__law_spots : FnScope ["_law_grid", "_law_found", "_law_y", "_law_x"] ["_law_grid"] (defScope s__law_spots) := ⟨rfl, rfl, rfl, by decide +kernel, rfl, by decide +kernel, by decide +kernel⟩
abbrev s__law_within : Stmt := topS 100
theorem sc__law_within : FnScope ["_law_grid", "_law_box_here", "_law_x0", "_law_x1", "_law_y0", "_law_y1", "_law_x", "_law_y"] ["_law_grid", "_law_box_here"] (defScope s__law_within) := ⟨rfl, rfl, rfl, by decide +kernel, rfl, by decide +kernel, by decide +kernel⟩
abbrev s__law_copied : Stmt := topS 101
theorem sc__law_copied : FnScope ["_law_grid", "_law_told", "_law_width", "_law_height", "_law_begin", "_law_by", "_law_found", "_law_x", "_law_y", "_law_line", "_law_row"] ["_law_grid", "_law_told"] (defScope s__law_copied) := ⟨rfl, rfl, rfl, by decide +kernel, rfl, by decide +kernel, by decide +kernel⟩
abbrev s__law_lines : Stmt := topS 102
theorem sc__law_lines : FnScope ["_law_grid", "_law_row", "_law_one"] ["_law_grid"] (defScope s__law_lines) := ⟨rfl, rfl, rfl, by decide +kernel, rfl, by decide +kernel, by decide +kernel⟩
abbrev s__law_noise : Stmt := topS 103
theorem sc__law_noise : FnScope ["_law_pen_here", "_law_canvas", "_law_rows", "_law_y", "_law_x"] ["_law_pen_here", "_law_canvas"] (defScope s__law_noise) := ⟨rfl, rfl, rfl, by decide +kernel, rfl, by decide +kernel, by decide +kernel⟩
abbrev s__law_near : Stmt := topS 104
theorem sc__law_near : FnScope ["_law_pen_here", "_law_box_here", "_law_found", "_law_begin"] ["_law_pen_here", "_law_box_here"] (defScope s__law_near) := ⟨rfl, rfl, rfl, by decide +kernel, rfl, by decide +kernel, by decide +kernel⟩
abbrev s_law : Stmt := topS 105
theorem sc_law : FnScope ["_law_script", "_law_pen_here", "_law_turn", "_law_canvas", "_law_grid", "_law_again_here", "_law_box_here", "_law_x", "_law_y", "_law_told", "_law_deed"] ["_law_script"] (defScope s_law) := ⟨rfl, rfl, rfl, by decide +kernel, rfl, by decide +kernel, by decide +kernel⟩
structure Adr where
  BadPlace_init : Addr
  BadSize_init : Addr
  is_int : Addr
  check_size : Addr
  Place_init : Addr
  Place_slope : Addr
  Place_offset : Addr
  Place_odd : Addr
  Place_call : Addr
  from_left : Addr
  from_right : Addr
  parts_of : Addr
  place_words : Addr
  Place_str : Addr
  bounded_place : Addr
  checked_place : Addr
  Box_init : Addr
  Box_call : Addr
  box_places : Addr
  Box_str : Addr
  BadColour_init : Addr
  BadPixel_init : Addr
  is_int_in : Addr
  is_colour : Addr
  check_colour : Addr
  check_side : Addr
  is_row : Addr
  wrong_row : Addr
  is_pixel : Addr
  check_pixel : Addr
  clipped : Addr
  painted : Addr
  filled_rows : Addr
  Picture_init : Addr
  Picture_rows : Addr
  Canvas_init : Addr
  Canvas_width : Addr
  Canvas_height : Addr
  Canvas_setitem : Addr
  Canvas_picture : Addr
  Canvas_fill : Addr
  check_box : Addr
  Copy_init : Addr
  copied_rows : Addr
  Canvas_copy_box : Addr
  Copy_on : Addr
  _law_pen : Addr
  _law_draw : Addr
  _law_pick : Addr
  _law_place : Addr
  _law_at : Addr
  _law_built_place : Addr
  _law_box : Addr
  _law_built_box : Addr
  _law_ends : Addr
  _law_built : Addr
  _law_is_pixel : Addr
  _law_spots : Addr
  _law_within : Addr
  _law_copied : Addr
  _law_lines : Addr
  _law_noise : Addr
  _law_near : Addr
  law : Addr
  Place : Addr
  pr_Place_slope : Addr
  pr_Place_offset : Addr
  pr_Place_odd : Addr
  Box : Addr
  Picture : Addr
  pr_Picture_rows : Addr
  Canvas : Addr
  pr_Canvas_width : Addr
  pr_Canvas_height : Addr
  Copy : Addr
  BadPlace : Addr
  BadSize : Addr
  BadColour : Addr
  BadPixel : Addr
  BOUNDt : Addr
structure Txt (K : PySem.W.Frag) (mg : Str → Option Value) (a : Adr) : Prop where
  n_len : mg "len" = none
  n_int : mg "int" = none
  n_abs : mg "abs" = none
  n_list : mg "list" = none
  n_range : mg "range" = none
  n_repr : mg "repr" = none
  n_tuple : mg "tuple" = none
  n_str : mg "str" = none
  n_isinstance : mg "isinstance" = none
  n_bool : mg "bool" = none
  n_all : mg "all" = none
  n_enumerate : mg "enumerate" = none
  d_BadPlace_init : FnT K "__init__" "BadPlace.__init__" s_BadPlace_init [] a.BadPlace_init
  d_BadSize_init : FnT K "__init__" "BadSize.__init__" s_BadSize_init [] a.BadSize_init
  d_is_int : FnT K "is_int" "is_int" s_is_int [] a.is_int
  m_is_int : mg "is_int" = some (.ref a.is_int)
  k_is_int : PySem.W.keepIn K (.ref a.is_int) = true
  d_check_size : FnT K "check_size" "check_size" s_check_size [] a.check_size
  m_check_size : mg "check_size" = some (.ref a.check_size)
  k_check_size : PySem.W.keepIn K (.ref a.check_size) = true
  d_Place_init : FnT K "__init__" "Place.__init__" s_Place_init [.int 0] a.Place_init
  d_Place_slope : FnT K "slope" "Place.slope" s_Place_slope [] a.Place_slope
  d_Place_offset : FnT K "offset" "Place.offset" s_Place_offset [] a.Place_offset
  d_Place_odd : FnT K "odd" "Place.odd" s_Place_odd [] a.Place_odd
  d_Place_call : FnT K "__call__" "Place.__call__" s_Place_call [] a.Place_call
  d_from_left : FnT K "from_left" "from_left" s_from_left [.int 0] a.from_left
  m_from_left : mg "from_left" = some (.ref a.from_left)
  k_from_left : PySem.W.keepIn K (.ref a.from_left) = true
  d_from_right : FnT K "from_right" "from_right" s_from_right [.int 0] a.from_right
  m_from_right : mg "from_right" = some (.ref a.from_right)
  k_from_right : PySem.W.keepIn K (.ref a.from_right) = true
  d_parts_of : FnT K "parts_of" "parts_of" s_parts_of [] a.parts_of
  m_parts_of : mg "parts_of" = some (.ref a.parts_of)
  k_parts_of : PySem.W.keepIn K (.ref a.parts_of) = true
  d_place_words : FnT K "place_words" "place_words" s_place_words [] a.place_words
  m_place_words : mg "place_words" = some (.ref a.place_words)
  k_place_words : PySem.W.keepIn K (.ref a.place_words) = true
  d_Place_str : FnT K "__str__" "Place.__str__" s_Place_str [] a.Place_str
  d_bounded_place : FnT K "bounded_place" "bounded_place" s_bounded_place [] a.bounded_place
  m_bounded_place : mg "bounded_place" = some (.ref a.bounded_place)
  k_bounded_place : PySem.W.keepIn K (.ref a.bounded_place) = true
  d_checked_place : FnT K "checked_place" "checked_place" s_checked_place [] a.checked_place
  m_checked_place : mg "checked_place" = some (.ref a.checked_place)
  k_checked_place : PySem.W.keepIn K (.ref a.checked_place) = true
  d_Box_init : FnT K "__init__" "Box.__init__" s_Box_init [] a.Box_init
  d_Box_call : FnT K "__call__" "Box.__call__" s_Box_call [] a.Box_call
  d_box_places : FnT K "box_places" "box_places" s_box_places [] a.box_places
  m_box_places : mg "box_places" = some (.ref a.box_places)
  k_box_places : PySem.W.keepIn K (.ref a.box_places) = true
  d_Box_str : FnT K "__str__" "Box.__str__" s_Box_str [] a.Box_str
  d_BadColour_init : FnT K "__init__" "BadColour.__init__" s_BadColour_init [] a.BadColour_init
  d_BadPixel_init : FnT K "__init__" "BadPixel.__init__" s_BadPixel_init [] a.BadPixel_init
  d_is_int_in : FnT K "is_int_in" "is_int_in" s_is_int_in [] a.is_int_in
  m_is_int_in : mg "is_int_in" = some (.ref a.is_int_in)
  k_is_int_in : PySem.W.keepIn K (.ref a.is_int_in) = true
  d_is_colour : FnT K "is_colour" "is_colour" s_is_colour [] a.is_colour
  m_is_colour : mg "is_colour" = some (.ref a.is_colour)
  k_is_colour : PySem.W.keepIn K (.ref a.is_colour) = true
  d_check_colour : FnT K "check_colour" "check_colour" s_check_colour [] a.check_colour
  m_check_colour : mg "check_colour" = some (.ref a.check_colour)
  k_check_colour : PySem.W.keepIn K (.ref a.check_colour) = true
  d_check_side : FnT K "check_side" "check_side" s_check_side [] a.check_side
  m_check_side : mg "check_side" = some (.ref a.check_side)
  k_check_side : PySem.W.keepIn K (.ref a.check_side) = true
  d_is_row : FnT K "is_row" "is_row" s_is_row [] a.is_row
  m_is_row : mg "is_row" = some (.ref a.is_row)
  k_is_row : PySem.W.keepIn K (.ref a.is_row) = true
  d_wrong_row : FnT K "wrong_row" "wrong_row" s_wrong_row [] a.wrong_row
  m_wrong_row : mg "wrong_row" = some (.ref a.wrong_row)
  k_wrong_row : PySem.W.keepIn K (.ref a.wrong_row) = true
  d_is_pixel : FnT K "is_pixel" "is_pixel" s_is_pixel [] a.is_pixel
  m_is_pixel : mg "is_pixel" = some (.ref a.is_pixel)
  k_is_pixel : PySem.W.keepIn K (.ref a.is_pixel) = true
  d_check_pixel : FnT K "check_pixel" "check_pixel" s_check_pixel [] a.check_pixel
  m_check_pixel : mg "check_pixel" = some (.ref a.check_pixel)
  k_check_pixel : PySem.W.keepIn K (.ref a.check_pixel) = true
  d_clipped : FnT K "clipped" "clipped" s_clipped [] a.clipped
  m_clipped : mg "clipped" = some (.ref a.clipped)
  k_clipped : PySem.W.keepIn K (.ref a.clipped) = true
  d_painted : FnT K "painted" "painted" s_painted [] a.painted
  m_painted : mg "painted" = some (.ref a.painted)
  k_painted : PySem.W.keepIn K (.ref a.painted) = true
  d_filled_rows : FnT K "filled_rows" "filled_rows" s_filled_rows [] a.filled_rows
  m_filled_rows : mg "filled_rows" = some (.ref a.filled_rows)
  k_filled_rows : PySem.W.keepIn K (.ref a.filled_rows) = true
  d_Picture_init : FnT K "__init__" "Picture.__init__" s_Picture_init [] a.Picture_init
  d_Picture_rows : FnT K "rows" "Picture.rows" s_Picture_rows [] a.Picture_rows
  d_Canvas_init : FnT K "__init__" "Canvas.__init__" s_Canvas_init [] a.Canvas_init
  d_Canvas_width : FnT K "width" "Canvas.width" s_Canvas_width [] a.Canvas_width
  d_Canvas_height : FnT K "height" "Canvas.height" s_Canvas_height [] a.Canvas_height
  d_Canvas_setitem : FnT K "__setitem__" "Canvas.__setitem__" s_Canvas_setitem [] a.Canvas_setitem
  d_Canvas_picture : FnT K "picture" "Canvas.picture" s_Canvas_picture [] a.Canvas_picture
  d_Canvas_fill : FnT K "fill" "Canvas.fill" s_Canvas_fill [] a.Canvas_fill
  d_check_box : FnT K "check_box" "check_box" s_check_box [] a.check_box
  m_check_box : mg "check_box" = some (.ref a.check_box)
  k_check_box : PySem.W.keepIn K (.ref a.check_box) = true
  d_Copy_init : FnT K "__init__" "Copy.__init__" s_Copy_init [] a.Copy_init
  d_copied_rows : FnT K "copied_rows" "copied_rows" s_copied_rows [] a.copied_rows
  m_copied_rows : mg "copied_rows" = some (.ref a.copied_rows)
  k_copied_rows : PySem.W.keepIn K (.ref a.copied_rows) = true
  d_Canvas_copy_box : FnT K "copy_box" "Canvas.copy_box" s_Canvas_copy_box [] a.Canvas_copy_box
  d_Copy_on : FnT K "on" "Copy.on" s_Copy_on [] a.Copy_on
  d__law_pen : FnT K "_law_pen" "_law_pen" s__law_pen [] a._law_pen
  m__law_pen : mg "_law_pen" = some (.ref a._law_pen)
  k__law_pen : PySem.W.keepIn K (.ref a._law_pen) = true
  d__law_draw : FnT K "_law_draw" "_law_draw" s__law_draw [] a._law_draw
  m__law_draw : mg "_law_draw" = some (.ref a._law_draw)
  k__law_draw : PySem.W.keepIn K (.ref a._law_draw) = true
  d__law_pick : FnT K "_law_pick" "_law_pick" s__law_pick [] a._law_pick
  m__law_pick : mg "_law_pick" = some (.ref a._law_pick)
  k__law_pick : PySem.W.keepIn K (.ref a._law_pick) = true
  d__law_place : FnT K "_law_place" "_law_place" s__law_place [] a._law_place
  m__law_place : mg "_law_place" = some (.ref a._law_place)
  k__law_place : PySem.W.keepIn K (.ref a._law_place) = true
  d__law_at : FnT K "_law_at" "_law_at" s__law_at [] a._law_at
  m__law_at : mg "_law_at" = some (.ref a._law_at)
  k__law_at : PySem.W.keepIn K (.ref a._law_at) = true
  d__law_built_place : FnT K "_law_built_place" "_law_built_place" s__law_built_place [] a._law_built_place
  m__law_built_place : mg "_law_built_place" = some (.ref a._law_built_place)
  k__law_built_place : PySem.W.keepIn K (.ref a._law_built_place) = true
  d__law_box : FnT K "_law_box" "_law_box" s__law_box [] a._law_box
  m__law_box : mg "_law_box" = some (.ref a._law_box)
  k__law_box : PySem.W.keepIn K (.ref a._law_box) = true
  d__law_built_box : FnT K "_law_built_box" "_law_built_box" s__law_built_box [] a._law_built_box
  m__law_built_box : mg "_law_built_box" = some (.ref a._law_built_box)
  k__law_built_box : PySem.W.keepIn K (.ref a._law_built_box) = true
  d__law_ends : FnT K "_law_ends" "_law_ends" s__law_ends [] a._law_ends
  m__law_ends : mg "_law_ends" = some (.ref a._law_ends)
  k__law_ends : PySem.W.keepIn K (.ref a._law_ends) = true
  d__law_built : FnT K "_law_built" "_law_built" s__law_built [] a._law_built
  m__law_built : mg "_law_built" = some (.ref a._law_built)
  k__law_built : PySem.W.keepIn K (.ref a._law_built) = true
  d__law_is_pixel : FnT K "_law_is_pixel" "_law_is_pixel" s__law_is_pixel [] a._law_is_pixel
  m__law_is_pixel : mg "_law_is_pixel" = some (.ref a._law_is_pixel)
  k__law_is_pixel : PySem.W.keepIn K (.ref a._law_is_pixel) = true
  d__law_spots : FnT K "_law_spots" "_law_spots" s__law_spots [] a._law_spots
  m__law_spots : mg "_law_spots" = some (.ref a._law_spots)
  k__law_spots : PySem.W.keepIn K (.ref a._law_spots) = true
  d__law_within : FnT K "_law_within" "_law_within" s__law_within [] a._law_within
  m__law_within : mg "_law_within" = some (.ref a._law_within)
  k__law_within : PySem.W.keepIn K (.ref a._law_within) = true
  d__law_copied : FnT K "_law_copied" "_law_copied" s__law_copied [] a._law_copied
  m__law_copied : mg "_law_copied" = some (.ref a._law_copied)
  k__law_copied : PySem.W.keepIn K (.ref a._law_copied) = true
  d__law_lines : FnT K "_law_lines" "_law_lines" s__law_lines [] a._law_lines
  m__law_lines : mg "_law_lines" = some (.ref a._law_lines)
  k__law_lines : PySem.W.keepIn K (.ref a._law_lines) = true
  d__law_noise : FnT K "_law_noise" "_law_noise" s__law_noise [] a._law_noise
  m__law_noise : mg "_law_noise" = some (.ref a._law_noise)
  k__law_noise : PySem.W.keepIn K (.ref a._law_noise) = true
  d__law_near : FnT K "_law_near" "_law_near" s__law_near [] a._law_near
  m__law_near : mg "_law_near" = some (.ref a._law_near)
  k__law_near : PySem.W.keepIn K (.ref a._law_near) = true
  d_law : FnT K "law" "law" s_law [] a.law
  m_law : mg "law" = some (.ref a.law)
  k_law : PySem.W.keepIn K (.ref a.law) = true
  m_Place : mg "Place" = some (.ref a.Place)
  c_Place : ClsF K a.Place
  M_Place : Mk K a.Place a.Place_init
  a_Place__slope : NoAttr K a.Place "_slope"
  a_Place__offset : NoAttr K a.Place "_offset"
  a_Place__odd : NoAttr K a.Place "_odd"
  p_Place_slope : PropR K a.Place "slope" a.pr_Place_slope a.Place_slope
  p_Place_offset : PropR K a.Place "offset" a.pr_Place_offset a.Place_offset
  p_Place_odd : PropR K a.Place "odd" a.pr_Place_odd a.Place_odd
  o_Place_call : PySem.W.findIn K (.ref a.Place) "__call__" = some (some (.ref a.Place_call))
  f_Place_call : PySem.W.isFn K (.ref a.Place_call) = true
  o_Place_str : PySem.W.findIn K (.ref a.Place) "__str__" = some (some (.ref a.Place_str))
  f_Place_str : PySem.W.isFn K (.ref a.Place_str) = true
  s_Place_int : PySem.W.subIn K (.type "int") (.ref a.Place) = some false
  fi_Place_call : PySem.W.fnIn K a.Place_call = true
  s_Place_first : PySem.W.selfFirst K a.Place = true
  s_Place_isint : PySem.W.subIn K (.ref a.Place) (.type "int") = some false
  m_Box : mg "Box" = some (.ref a.Box)
  c_Box : ClsF K a.Box
  M_Box : Mk K a.Box a.Box_init
  a_Box_x0 : NoAttr K a.Box "x0"
  a_Box_x1 : NoAttr K a.Box "x1"
  a_Box_y0 : NoAttr K a.Box "y0"
  a_Box_y1 : NoAttr K a.Box "y1"
  o_Box_call : PySem.W.findIn K (.ref a.Box) "__call__" = some (some (.ref a.Box_call))
  f_Box_call : PySem.W.isFn K (.ref a.Box_call) = true
  o_Box_str : PySem.W.findIn K (.ref a.Box) "__str__" = some (some (.ref a.Box_str))
  f_Box_str : PySem.W.isFn K (.ref a.Box_str) = true
  fi_Box_call : PySem.W.fnIn K a.Box_call = true
  m_Picture : mg "Picture" = some (.ref a.Picture)
  c_Picture : ClsF K a.Picture
  M_Picture : Mk K a.Picture a.Picture_init
  a_Picture__rows : NoAttr K a.Picture "_rows"
  p_Picture_rows : PropR K a.Picture "rows" a.pr_Picture_rows a.Picture_rows
  cr_Picture : ClX.CRead K a.Picture (.type "type")
  cv_MOST : ∃ u, ClX.CVal K a.Picture (.type "type") "MOST" (.int 200) u
  m_Canvas : mg "Canvas" = some (.ref a.Canvas)
  c_Canvas : ClsF K a.Canvas
  M_Canvas : Mk K a.Canvas a.Canvas_init
  a_Canvas__rows : NoAttr K a.Canvas "_rows"
  p_Canvas_width : PropR K a.Canvas "width" a.pr_Canvas_width a.Canvas_width
  p_Canvas_height : PropR K a.Canvas "height" a.pr_Canvas_height a.Canvas_height
  o_Canvas_setitem : PySem.W.findIn K (.ref a.Canvas) "__setitem__" = some (some (.ref a.Canvas_setitem))
  f_Canvas_setitem : PySem.W.isFn K (.ref a.Canvas_setitem) = true
  cr_Canvas : ClX.CRead K a.Canvas (.type "type")
  cv_CMOST : ∃ u, ClX.CVal K a.Canvas (.type "type") "MOST" (.int 200) u
  mt_fill : Meth K a.Canvas "fill" a.Canvas_fill
  bm_fill : BMeth K a.Canvas "fill" a.Canvas_fill
  mt_picture : Meth K a.Canvas "picture" a.Canvas_picture
  ns_Canvas : PySem.W.noSeq K a.Canvas = true
  mt_copy_box : Meth K a.Canvas "copy_box" a.Canvas_copy_box
  m_Copy : mg "Copy" = some (.ref a.Copy)
  c_Copy : ClsF K a.Copy
  M_Copy : Mk K a.Copy a.Copy_init
  a_Copy_box : NoAttr K a.Copy "box"
  a_Copy_x : NoAttr K a.Copy "x"
  a_Copy_y : NoAttr K a.Copy "y"
  mt_Copy_on : Meth K a.Copy "on" a.Copy_on
  m_BOUND : mg "BOUND" = some (.int 1000000000000 a.BOUNDt)
  m_BadPlace : mg "BadPlace" = some (.ref a.BadPlace)
  e_BadPlace : ErrF K a.BadPlace a.BadPlace_init
  a_BadPlace_part : PySem.W.findIn K (.ref a.BadPlace) "part" = some none
  m_BadSize : mg "BadSize" = some (.ref a.BadSize)
  e_BadSize : ErrF K a.BadSize a.BadSize_init
  a_BadSize_part : PySem.W.findIn K (.ref a.BadSize) "part" = some none
  m_BadColour : mg "BadColour" = some (.ref a.BadColour)
  e_BadColour : ErrF K a.BadColour a.BadColour_init
  a_BadColour_value : PySem.W.findIn K (.ref a.BadColour) "value" = some none
  m_BadPixel : mg "BadPixel" = some (.ref a.BadPixel)
  e_BadPixel : ErrF K a.BadPixel a.BadPixel_init
  a_BadPixel_x : PySem.W.findIn K (.ref a.BadPixel) "x" = some none
  a_BadPixel_y : PySem.W.findIn K (.ref a.BadPixel) "y" = some none
end Pf
end
section
namespace Pf
open PySem PySem.Spec PyProof.Rows L2 Ow StX
/-! ### places -/
theorem kSO : ¬ (("_slope" : Str) = "_offset") := by decide +kernel
theorem kSD : ¬ (("_slope" : Str) = "_odd") := by decide +kernel
theorem kOD : ¬ (("_offset" : Str) = "_odd") := by decide +kernel
def plF (s o d : Int) : List (Str × V) := putF "_odd" (.int d) (putF "_offset" (.int o) (putF "_slope" (.int s) []))
theorem plF_slope (s o d : Int) : (plF s o d).lookup ("_slope" : Str) = some (.int s) := by
  unfold plF
  rw [lookup_putF, if_neg kSD, lookup_putF, if_neg kSO, lookup_putF, if_pos rfl]
theorem plF_offset (s o d : Int) : (plF s o d).lookup ("_offset" : Str) = some (.int o) := by
  unfold plF
  rw [lookup_putF, if_neg kOD, lookup_putF, if_pos rfl]
theorem plF_odd (s o d : Int) : (plF s o d).lookup ("_odd" : Str) = some (.int d) := by
  unfold plF
  rw [lookup_putF, if_pos rfl]
theorem putF_le (f : Str) (v : V) : ∀ fs : List (Str × V), (putF f v fs).length ≤ fs.length + 1
  | [] => Nat.le_refl 1
  | p :: r => by
    show (if p.1 = f then (p.1, v) :: r else p :: putF f v r).length ≤ r.length + 1 + 1
    split
    · exact Nat.le_succ _
    · exact Nat.succ_le_succ (putF_le f v r)
theorem len2 (s o : Int) : (putF "_offset" (.int o) (putF "_slope" (.int s) [])).length ≤ 2 := Nat.le_trans (putF_le _ _ _) (Nat.succ_le_succ (putF_le _ _ _))
/-- the place s, o, d stands at p -/
def PlaceAt (H : Hp) (C p : Addr) (s o d : Int) : Prop := ∃ dx, H p = some (.ins C dx (plF s o d))
theorem PlaceAt.same {H H' : Hp} {C p : Addr} {s o d : Int} (h : PlaceAt H C p s o d) (e : Same H H') : PlaceAt H' C p s o d := h.elim fun dx z => ⟨dx, e _ _ z⟩
theorem PlaceAt.ins {H : Hp} {C p : Addr} {s o d : Int} (h : PlaceAt H C p s o d) : InsAt H p C := h.elim fun dx z => ⟨dx, _, z⟩
theorem PlaceAt.insC {X : Cx} {H : Hp} {C p : Addr} {s o d : Int} (h : PlaceAt H C p s o d) : StX.InsC X H p C := .inr (h.elim fun dx z => ⟨dx, _, z⟩)
/-- what follows a new place -/
def NewP (C : Addr) (H : Hp) (s o d : Int) (Q : VK) : Prop := ∀ x H', Same H H' → H x = none → PlaceAt H' C x s o d → Q (.ref x) H'
def spIntI : Sp := fun vs H Q _ => ∃ i : Int, vs = [.int i] ∧ Q (.bl true) H
def spSizeI : Sp := fun vs H Q _ => ∃ (i : Int) (part : Str), vs = [.int i, .str part] ∧ 1 ≤ i ∧ Q .non H
def spPInit (C : Addr) : Sp := fun vs H Q _ => ∃ (p dx : Addr) (s o d : Int), vs = [.ref p, .int s, .int o, .int d] ∧ H p = some (.ins C dx []) ∧ Q .non (upd H p (.ins C dx (plF s o d)))
def spPSlope (C : Addr) : Sp := fun vs H Q _ => ∃ (p : Addr) (s o d : Int), vs = [.ref p] ∧ PlaceAt H C p s o d ∧ Q (.int s) H
def spPOffset (C : Addr) : Sp := fun vs H Q _ => ∃ (p : Addr) (s o d : Int), vs = [.ref p] ∧ PlaceAt H C p s o d ∧ Q (.int o) H
def spPOdd (C : Addr) : Sp := fun vs H Q _ => ∃ (p : Addr) (s o d : Int), vs = [.ref p] ∧ PlaceAt H C p s o d ∧ Q (.int d) H
def valP (s o d n : Int) : Int := s * (n / 2) + o + d * (n % 2)
def spPCall (C : Addr) : Sp := fun vs H Q _ => ∃ (p : Addr) (s o d n : Int), vs = [.ref p, .int n] ∧ PlaceAt H C p s o d ∧ 1 ≤ n ∧ CMulW s (n / 2) ∧ CMulW d (n % 2) ∧ Q (.int (valP s o d n)) H
def spPParts (C : Addr) : Sp := fun vs H Q _ => ∃ (p : Addr) (s o d : Int), vs = [.ref p] ∧ PlaceAt H C p s o d ∧ ∀ t, H t = none → Q (.ref t) (upd H t (.tup [.int s, .int o, .int d]))
def spPAddP (C : Addr) (f : Int → Int → Int) : Sp := fun vs H Q _ => ∃ (p q : Addr) (s o d s' o' d' : Int), vs = [.ref p, .ref q] ∧ PlaceAt H C p s o d ∧ PlaceAt H C q s' o' d' ∧ NewP C H (f s s') (f o o') (f d d') Q
def spPAddI (C : Addr) (f : Int → Int → Int) : Sp := fun vs H Q _ => ∃ (p : Addr) (s o d i : Int), vs = [.ref p, .int i] ∧ PlaceAt H C p s o d ∧ NewP C H s (f o i) d Q
def spPInv (C : Addr) : Sp := fun vs H Q _ => ∃ (p : Addr) (s o d : Int), vs = [.ref p] ∧ PlaceAt H C p s o d ∧ NewP C H (2 - s) (-o) (1 - d) Q
def spPEq (C : Addr) : Sp := fun vs H Q _ => ∃ (p q : Addr) (s o d s' o' d' : Int), vs = [.ref p, .ref q] ∧ PlaceAt H C p s o d ∧ PlaceAt H C q s' o' d' ∧ ∀ H', Same H H' → Q (.bl (decide (s = s' ∧ o = o' ∧ d = d'))) H'
def spPOfI (C : Addr) (f : Int → Int × Int × Int) : Sp := fun vs H Q _ => ∃ i : Int, vs = [.int i] ∧ NewP C H (f i).1 (f i).2.1 (f i).2.2 Q
/-- a place made of three ints: what the making asks -/
theorem newP_make {C : Addr} {H : Hp} {s o d : Int} {Q : VK} {E : XK} (k : NewP C H s o d Q) : ∀ x dx, H x = none → H dx = none → dx ≠ x →
    spPInit C [.ref x, .int s, .int o, .int d] (upd (upd H dx (.own x)) x (.ins C dx [])) (fun v H2 => v = .non ∧ Q (.ref x) H2) E := by
  intro x dx nx ndx ne
  refine ⟨x, dx, s, o, d, rfl, upd_same, rfl, ?_⟩
  rw [upd_upd]
  refine k x _ (fun b u e => ?_) nx ⟨dx, upd_same⟩
  rw [upd_ne (ne_of_none e nx), upd_ne (ne_of_none e ndx)]
  exact e
/-! ### values of any kind: the errors of places and sizes -/
def spSizeX (K : PySem.W.Frag) (B : Addr) : Sp := fun vs H Q E => ∃ (v : V) (part : Str), vs = [v, .str part] ∧ ((∃ i : Int, v = .int i ∧ 1 ≤ i ∧ Q .non H) ∨ ((NoInt K H v ∨ ∃ i : Int, v = .int i ∧ i < 1) ∧ Out1 B "part" H E (.str part)))
/-- a place's parts: the first wrong one is told, or all are integers -/
def spPInitX (K : PySem.W.Frag) (C B : Addr) : Sp := fun vs H Q E => ∃ (p dx : Addr) (v1 v2 v3 : V), vs = [.ref p, v1, v2, v3] ∧ H p = some (.ins C dx []) ∧
  ((NoInt K H v1 ∧ Out1 B "part" H E (.str "slope")) ∨ ∃ s : Int, v1 = .int s ∧
    ((NoInt K H v2 ∧ Out1 B "part" H E (.str "offset")) ∨ ∃ o : Int, v2 = .int o ∧
      ((NoInt K H v3 ∧ Out1 B "part" H E (.str "odd")) ∨ ∃ d : Int, v3 = .int d ∧ Q .non (upd H p (.ins C dx (plF s o d))))))
section
variable {P : Program} {w : World} {K : PySem.W.Frag} {mg : Str → Option Value} {base : Heap} {a : Adr}
set_option maxHeartbeats 4000000
theorem ok_badplace (T : Txt K mg a) : ∃ fd, FnOk P w K mg base CX0 1 a.BadPlace_init fd ["self", "part"] (spErr1 a.BadPlace "part") ∧ Binds K fd ["self", "part"] [] := by
  refine T.d_BadPlace_init.okB sc_BadPlace_init (fun _ _ _ _ _ _ us hl => match us, hl with | [_, _], _ => rfl) (fun vs H Q E h => by obtain ⟨b, v, rfl, _⟩ := h; rfl) (fun cdv A outer s H vs Q E hr h => ?_)
  obtain ⟨b, v, rfl, hb, k⟩ := h
  exact ⟨_, (pss_one (ps_ost (pv 0) (pv 1))), _, rfl, _, rfl, b, _, rfl, T.e_BadPlace.ox, T.a_BadPlace_part, .inl ⟨hb, k⟩⟩
theorem ok_badsize (T : Txt K mg a) : ∃ fd, FnOk P w K mg base CX0 1 a.BadSize_init fd ["self", "part"] (spErr1 a.BadSize "part") ∧ Binds K fd ["self", "part"] [] := by
  refine T.d_BadSize_init.okB sc_BadSize_init (fun _ _ _ _ _ _ us hl => match us, hl with | [_, _], _ => rfl) (fun vs H Q E h => by obtain ⟨b, v, rfl, _⟩ := h; rfl) (fun cdv A outer s H vs Q E hr h => ?_)
  obtain ⟨b, v, rfl, hb, k⟩ := h
  exact ⟨_, (pss_one (ps_ost (pv 0) (pv 1))), _, rfl, _, rfl, b, _, rfl, T.e_BadSize.ox, T.a_BadSize_part, .inl ⟨hb, k⟩⟩
theorem ok_intV (T : Txt K mg a) : FnR P w K mg base CX0 1 a.is_int (spIntV K) := by
  refine T.d_is_int.ok sc_is_int (fun _ _ _ _ _ _ us hl => match us, hl with | [_], _ => rfl) (fun vs H Q E h => by obtain ⟨v, rfl, _⟩ := h; rfl) (fun cdv A outer s H vs Q E hr h => ?_)
  obtain ⟨v, rfl, h⟩ := h
  refine ⟨_, (pss_one (ps_ret (pe_and (pe_callB call_isi (by rfl) T.n_isinstance (by decide +kernel) (pa_cons (pv 0) (pa_cons (pe_bltn (v := .ty "int") (by rfl) T.n_int (by decide +kernel) rfl) pa_nil))) (pe_one (pe_not (pe_callB call_isi (by rfl) T.n_isinstance (by decide +kernel) (pa_cons (pv 0) (pa_cons (pe_bltn (v := .ty "bool") (by rfl) T.n_bool (by decide +kernel) rfl) pa_nil)))))))), ?_⟩
  rcases h with ⟨i, rfl, k⟩ | ⟨⟨b, rfl⟩ | ⟨t, ht, hk⟩, k⟩
  · exact ⟨_, rfl, _, _, _, _, _, rfl, .ty _, .base (.int _), kit_int_int, true, rfl, _, rfl, _, _, _, _, _, rfl, .ty _, .base (.int _), kit_int_bool, false, rfl, k⟩
  · exact ⟨_, rfl, _, _, _, _, _, rfl, .ty _, .base (.bl _), kit_bool_int, true, rfl, _, rfl, _, _, _, _, _, rfl, .ty _, .base (.bl _), kit_self, true, rfl, k⟩
  · exact ⟨_, rfl, _, _, _, _, _, rfl, .ty _, ht, hk, false, rfl, k⟩
theorem ok_sizeX (T : Txt K mg a) : FnR P w K mg base (CX P w) 3 a.check_size (spSizeX K a.BadSize) := by
  have G_is_int : FnR P w K mg base CX0 1 a.is_int (spIntV K) := ok_intV T
  obtain ⟨_, O_BadSize, B_BadSize⟩ := ok_badsize (P := P) (w := w) (base := base) T
  refine T.d_check_size.okX sc_check_size (fun _ _ _ _ _ _ us hl => match us, hl with | [_, _], _ => rfl) (fun vs H Q E h => by obtain ⟨v, part, rfl, _⟩ := h; rfl) (fun cdv A outer s H vs Q E hr h => ?_)
  obtain ⟨v, part, rfl, h⟩ := h
  refine ⟨_, (pss_one (ps_if (PW.pt (pw_or (pt_not (pt_val (pe_callR G_is_int (hr.mono (by decide)) T.m_is_int T.k_is_int pass0 (pa_cons (pv 0) pa_nil)))) (pw_or1 (pt_cmpR op_lt (pv 0) pe_int (nomark _)))))
          (pss_one (ps_raise rfl (takes_of rfl rfl rfl rfl) (pmk_oex T.e_BadSize.ox T.e_BadSize.iC T.e_BadSize.tI O_BadSize (hr.mono (by decide)) B_BadSize .nil pass0 rfl T.m_BadSize (pa_cons (pv 1) pa_nil))))
          pss_nil)), ?_⟩
  rcases h with ⟨i, rfl, h1, k⟩ | ⟨hn | ⟨i, rfl, hi⟩, k⟩
  · exact ⟨_, rfl, _, rfl, .inl ⟨i, rfl, true, rfl, iteF ⟨_, rfl, _, _, rfl, rfl, _, rfl, ite2 (fun z => by have := of_decide_eq_true z; omega) fun _ => k⟩⟩⟩
  · exact ⟨_, rfl, _, rfl, .inr ⟨hn, false, rfl, iteT ⟨_, rfl, err1_made k⟩⟩⟩
  · exact ⟨_, rfl, _, rfl, .inl ⟨i, rfl, true, rfl, iteF ⟨_, rfl, _, _, rfl, rfl, _, rfl, ite2 (fun _ => ⟨_, rfl, err1_made k⟩) fun z => absurd (decide_eq_true hi) z⟩⟩⟩
theorem ok_p_initX_fn (T : Txt K mg a) {fd : FuncData} (F : FunD K "__init__" "Place.__init__" (defArgs s_Place_init) (defBody s_Place_init) (defScope s_Place_init) [.int 0] [] a.Place_init fd) : FnOk P w K mg base (CX P w) 3 a.Place_init fd ["self", "slope", "offset", "odd"] (spPInitX K a.Place a.BadPlace) := by
  have G_is_int : FnR P w K mg base CX0 1 a.is_int (spIntV K) := ok_intV T
  obtain ⟨_, O_BadPlace, B_BadPlace⟩ := ok_badplace (P := P) (w := w) (base := base) T
  refine F.ok sc_Place_init (fun vs H Q E h => by obtain ⟨p, dx, v1, v2, v3, rfl, _⟩ := h; rfl) (fun cdv A outer s H vs Q E hr h => ?_)
  obtain ⟨p, dx, v1, v2, v3, rfl, hp, h⟩ := h
  refine ⟨_, (pss_cons (ps_if (pt_not (pt_val (pe_callR G_is_int (hr.mono (by decide)) T.m_is_int T.k_is_int pass0 (pa_cons (pv 1) pa_nil))))
          (pss_one (ps_raise rfl (takes_of rfl rfl rfl rfl) (pmk_oex T.e_BadPlace.ox T.e_BadPlace.iC T.e_BadPlace.tI O_BadPlace (hr.mono (by decide)) B_BadPlace .nil pass0 rfl T.m_BadPlace (pa_cons pe_str pa_nil))))
          pss_nil)
      (pss_cons (ps_if (pt_not (pt_val (pe_callR G_is_int (hr.mono (by decide)) T.m_is_int T.k_is_int pass0 (pa_cons (pv 2) pa_nil))))
          (pss_one (ps_raise rfl (takes_of rfl rfl rfl rfl) (pmk_oex T.e_BadPlace.ox T.e_BadPlace.iC T.e_BadPlace.tI O_BadPlace (hr.mono (by decide)) B_BadPlace .nil pass0 rfl T.m_BadPlace (pa_cons pe_str pa_nil))))
          pss_nil)
      (pss_cons (ps_if (pt_not (pt_val (pe_callR G_is_int (hr.mono (by decide)) T.m_is_int T.k_is_int pass0 (pa_cons (pv 3) pa_nil))))
          (pss_one (ps_raise rfl (takes_of rfl rfl rfl rfl) (pmk_oex T.e_BadPlace.ox T.e_BadPlace.iC T.e_BadPlace.tI O_BadPlace (hr.mono (by decide)) B_BadPlace .nil pass0 rfl T.m_BadPlace (pa_cons pe_str pa_nil))))
          pss_nil)
      (pss_cons (ps_fld (pv 0) (pv 1) rfl)
      (pss_cons (ps_fld (pv 0) (pv 2) rfl)
      (pss_one (ps_fld (pv 0) (pv 3) rfl))))))), ?_⟩
  rcases h with ⟨n1, k⟩ | ⟨s, rfl, h⟩
  · exact ⟨_, rfl, _, rfl, .inr ⟨n1, false, rfl, iteT (err1_made k)⟩⟩
  refine ⟨_, rfl, _, rfl, .inl ⟨s, rfl, true, rfl, iteF ?_⟩⟩
  rcases h with ⟨n2, k⟩ | ⟨o, rfl, h⟩
  · exact ⟨_, rfl, _, rfl, .inr ⟨n2, false, rfl, iteT (err1_made k)⟩⟩
  refine ⟨_, rfl, _, rfl, .inl ⟨o, rfl, true, rfl, iteF ?_⟩⟩
  rcases h with ⟨n3, k⟩ | ⟨d, rfl, k⟩
  · exact ⟨_, rfl, _, rfl, .inr ⟨n3, false, rfl, iteT (err1_made k)⟩⟩
  refine ⟨_, rfl, _, rfl, .inl ⟨d, rfl, true, rfl, iteF ?_⟩⟩
  refine ⟨_, rfl, _, rfl, p, _, dx, [], rfl, hp, T.c_Place.cl, T.a_Place__slope, (by show 0 < 1000; decide), ?_⟩
  refine ⟨_, rfl, _, rfl, p, _, dx, _, rfl, upd_same, T.c_Place.cl, T.a_Place__offset, (by show 1 < 1000; decide), ?_⟩
  rw [upd_upd]
  refine ⟨_, rfl, _, rfl, p, _, dx, _, rfl, upd_same, T.c_Place.cl, T.a_Place__odd, Nat.lt_of_le_of_lt (len2 s o) (by decide), ?_⟩
  rw [upd_upd]
  exact k
theorem ok_p_initX (T : Txt K mg a) : FnR P w K mg base (CX P w) 3 a.Place_init (spPInitX K a.Place a.BadPlace) := by
  obtain ⟨fd, F⟩ := id T.d_Place_init
  refine (posR F (ok_p_initX_fn T F) 4 1 (by simp) rfl (fun T kV doc pm an cdv ct us its hu hi => match us, its, hu, hi with | [_, _, _, _], [_], _, _ => ⟨_, rfl, rfl⟩)).imp fun vs H Q E h => ?_
  show (spPInitX K a.Place a.BadPlace) (vs ++ []) H Q E
  rw [List.append_nil]
  exact h
end
def spPCallX (K : PySem.W.Frag) (C B : Addr) : Sp := fun vs H Q E => ∃ (p : Addr) (v : V), vs = [.ref p, v] ∧
  ((∃ s o d n : Int, PlaceAt H C p s o d ∧ v = .int n ∧ 1 ≤ n ∧ CMulW s (n / 2) ∧ CMulW d (n % 2) ∧ Q (.int (valP s o d n)) H) ∨ ((NoInt K H v ∨ ∃ i : Int, v = .int i ∧ i < 1) ∧ Out1 B "part" H E (.str "size")))
def spFromX (K : PySem.W.Frag) (C B : Addr) (f : Int → Int × Int × Int) : Sp := fun vs H Q E => ∃ v : V, vs = [v] ∧ ((∃ i : Int, v = .int i ∧ NewP C H (f i).1 (f i).2.1 (f i).2.2 Q) ∨ (NoInt K H v ∧ OutS B "part" H E (.str "offset")))
theorem new_grown {H : Hp} {x dx : Addr} {C : Addr} (nx : H x = none) (nd : H dx = none) : ∀ b o, H b = some o → (upd (upd H dx (.own x)) x (.ins C dx [])) b = some o := fun b o e => by
  rw [upd_ne (ne_of_none e nx), upd_ne (ne_of_none e nd)]
  exact e
theorem newP_makeX {K : PySem.W.Frag} {C B : Addr} {H : Hp} {s o d : Int} {Q : VK} {E : XK} (k : NewP C H s o d Q) : ∀ x dx, H x = none → H dx = none → dx ≠ x →
    spPInitX K C B [.ref x, .int s, .int o, .int d] (upd (upd H dx (.own x)) x (.ins C dx [])) (fun v H2 => v = .non ∧ Q (.ref x) H2) E := by
  intro x dx nx ndx ne
  refine ⟨x, dx, _, _, _, rfl, upd_same, .inr ⟨s, rfl, .inr ⟨o, rfl, .inr ⟨d, rfl, rfl, ?_⟩⟩⟩⟩
  rw [upd_upd]
  refine k x _ (fun b u e => ?_) nx ⟨dx, upd_same⟩
  rw [upd_ne (ne_of_none e nx), upd_ne (ne_of_none e ndx)]
  exact e
section
variable {P : Program} {w : World} {K : PySem.W.Frag} {mg : Str → Option Value} {base : Heap} {a : Adr}
set_option maxHeartbeats 4000000
theorem ok_p_callX_fn (T : Txt K mg a) {fd : FuncData} (F : FunD K "__call__" "Place.__call__" (defArgs s_Place_call) (defBody s_Place_call) (defScope s_Place_call) [] [] a.Place_call fd) : FnOk P w K mg base (CX P w) 4 a.Place_call fd ["self", "size"] (spPCallX K a.Place a.BadSize) := by
  have G_check_size : FnR P w K mg base (CX P w) 3 a.check_size (spSizeX K a.BadSize) := ok_sizeX T
  refine F.ok sc_Place_call (fun vs H Q E h => by obtain ⟨p, v, rfl, _⟩ := h; rfl) (fun cdv A outer s H vs Q E hr h => ?_)
  obtain ⟨p, v, rfl, h⟩ := h
  refine ⟨_, (pss_cons (ps_expr (pe_callR G_check_size (hr.mono (by decide)) T.m_check_size T.k_check_size (passUp (takes_of rfl rfl rfl rfl)) (pa_cons (pv 1) (pa_cons pe_str pa_nil))))
      (pss_one (ps_ret (pe_op op_add (pe_op op_add (pe_op op_mulW (pe_fld (pv 0) rfl) (pe_op op_fdiv (pv 1) pe_int)) (pe_fld (pv 0) rfl)) (pe_op op_mulW (pe_fld (pv 0) rfl) (pe_op op_mod (pv 1) pe_int)))))), ?_⟩
  rcases h with ⟨s, o, d, n, ⟨dx, hp⟩, rfl, h1, hm1, hm2, k⟩ | ⟨hn, k⟩
  · refine ⟨_, rfl, _, _, rfl, .inl ⟨n, rfl, h1, ?_⟩⟩
    exact ⟨_, rfl, p, _, dx, _, _, rfl, hp, T.c_Place.cl, T.a_Place__slope, plF_slope _ _ _, _, rfl, _, _, rfl, rfl, ⟨by decide, by decide⟩, _, _, rfl, rfl, hm1,
      _, rfl, p, _, dx, _, _, rfl, hp, T.c_Place.cl, T.a_Place__offset, plF_offset _ _ _, _, _, rfl, rfl,
      _, rfl, p, _, dx, _, _, rfl, hp, T.c_Place.cl, T.a_Place__odd, plF_odd _ _ _, _, rfl, _, _, rfl, rfl, (by show (0 : Int) < 2; decide), _, _, rfl, rfl, hm2, _, _, rfl, rfl, k⟩
  · exact ⟨_, rfl, _, _, rfl, .inr ⟨hn, k⟩⟩
theorem ok_p_callX (T : Txt K mg a) : FnR P w K mg base (CX P w) 4 a.Place_call (spPCallX K a.Place a.BadSize) := by
  obtain ⟨fd, F⟩ := id T.d_Place_call
  exact ((ok_p_callX_fn T F).raw (F.bindsN (fun _ _ _ _ _ _ us hl => match us, hl with | [_, _], _ => rfl)) .nil).imp fun vs H Q E h => by rw [List.append_nil]; exact h
theorem ok_leftX_fn (T : Txt K mg a) {fd : FuncData} (F : FunD K "from_left" "from_left" (defArgs s_from_left) (defBody s_from_left) (defScope s_from_left) [.int 0] [] a.from_left fd) : FnOk P w K mg base (CX P w) 5 a.from_left fd ["k"] (spFromX K a.Place a.BadPlace fun i => (0, i, 0)) := by
  have G_Place_init : FnR P w K mg base (CX P w) 3 a.Place_init (spPInitX K a.Place a.BadPlace) := ok_p_initX T
  refine F.ok sc_from_left (fun vs H Q E h => by obtain ⟨v, rfl, _⟩ := h; rfl) (fun cdv A outer s H vs Q E hr h => ?_)
  obtain ⟨v, rfl, h⟩ := h
  refine ⟨_, (pss_one (ps_ret (pe_makeRR T.M_Place G_Place_init (hr.mono (by decide)) T.m_Place (passUp (takes_of rfl rfl rfl rfl)) (pa_cons pe_int (pa_cons (pv 0) (pa_cons pe_int pa_nil)))))), ?_⟩
  rcases h with ⟨i, rfl, k⟩ | ⟨hn, k⟩
  · exact ⟨_, rfl, newP_makeX k⟩
  · exact ⟨_, rfl, fun x dx nx nd ne => ⟨x, dx, _, _, _, rfl, upd_same, .inr ⟨0, rfl, .inl ⟨hn.same (new_grown nx nd), k _ (new_grown nx nd)⟩⟩⟩⟩
theorem ok_leftX (T : Txt K mg a) : FnR P w K mg base (CX P w) 5 a.from_left (spFromX K a.Place a.BadPlace fun i => (0, i, 0)) := by
  obtain ⟨fd, F⟩ := id T.d_from_left
  refine (posR F (ok_leftX_fn T F) 1 1 (by simp) rfl (fun T kV doc pm an cdv ct us its hu hi => match us, its, hu, hi with | [_], [_], _, _ => ⟨_, rfl, rfl⟩)).imp fun vs H Q E h => ?_
  show (spFromX K a.Place a.BadPlace fun i => (0, i, 0)) (vs ++ []) H Q E
  rw [List.append_nil]
  exact h
theorem ok_rightX_fn (T : Txt K mg a) {fd : FuncData} (F : FunD K "from_right" "from_right" (defArgs s_from_right) (defBody s_from_right) (defScope s_from_right) [.int 0] [] a.from_right fd) : FnOk P w K mg base (CX P w) 5 a.from_right fd ["k"] (spFromX K a.Place a.BadPlace fun i => (2, -i, 1)) := by
  have G_is_int : FnR P w K mg base CX0 1 a.is_int (spIntV K) := ok_intV T
  have G_Place_init : FnR P w K mg base (CX P w) 3 a.Place_init (spPInitX K a.Place a.BadPlace) := ok_p_initX T
  obtain ⟨_, O_BadPlace, B_BadPlace⟩ := ok_badplace (P := P) (w := w) (base := base) T
  refine F.ok sc_from_right (fun vs H Q E h => by obtain ⟨v, rfl, _⟩ := h; rfl) (fun cdv A outer s H vs Q E hr h => ?_)
  obtain ⟨v, rfl, h⟩ := h
  refine ⟨_, (pss_cons (ps_if (pt_not (pt_val (pe_callR G_is_int (hr.mono (by decide)) T.m_is_int T.k_is_int pass0 (pa_cons (pv 0) pa_nil))))
          (pss_one (ps_raise rfl (takes_of rfl rfl rfl rfl) (pmk_oex T.e_BadPlace.ox T.e_BadPlace.iC T.e_BadPlace.tI O_BadPlace (hr.mono (by decide)) B_BadPlace .nil pass0 rfl T.m_BadPlace (pa_cons pe_str pa_nil))))
          pss_nil)
      (pss_one (ps_ret (pe_makeRR T.M_Place G_Place_init (hr.mono (by decide)) T.m_Place (passUp (takes_of rfl rfl rfl rfl)) (pa_cons pe_int (pa_cons (pe_un un_neg (pv 0)) (pa_cons pe_int pa_nil))))))), ?_⟩
  rcases h with ⟨i, rfl, k⟩ | ⟨hn, k⟩
  · exact ⟨_, rfl, _, rfl, .inl ⟨i, rfl, true, rfl, iteF ⟨_, rfl, _, rfl, newP_makeX k⟩⟩⟩
  · exact ⟨_, rfl, _, rfl, .inr ⟨hn, false, rfl, iteT (err1_made (k _ fun _ _ e => e))⟩⟩
theorem ok_rightX (T : Txt K mg a) : FnR P w K mg base (CX P w) 5 a.from_right (spFromX K a.Place a.BadPlace fun i => (2, -i, 1)) := by
  obtain ⟨fd, F⟩ := id T.d_from_right
  refine (posR F (ok_rightX_fn T F) 1 1 (by simp) rfl (fun T kV doc pm an cdv ct us its hu hi => match us, its, hu, hi with | [_], [_], _, _ => ⟨_, rfl, rfl⟩)).imp fun vs H Q E h => ?_
  show (spFromX K a.Place a.BadPlace fun i => (2, -i, 1)) (vs ++ []) H Q E
  rw [List.append_nil]
  exact h
end
end Pf
end
section
namespace Pf
open PySem PySem.Spec PyProof.Rows L2 Ow StX
theorem kit_ty_own {K : PySem.W.Frag} {C : Addr} {T : String} {b : Bool} (c : ClsF K C) (h : PySem.W.subIn K (.type T) (.ref C) = some b) : PySem.W.kitOne K (.type T) (.ref C) = some b :=
  kit_own c h (Bool.eq_false_iff.mpr fun q => by cases beq_iff_eq.mp q)
theorem eqv3 (s o d s' o' d' : Int) : PyData.eqv (.tuple [.int s, .int o, .int d]) (.tuple [.int s', .int o', .int d']) = decide (s = s' ∧ o = o' ∧ d = d') := by
  rw [Bool.eq_iff_iff]
  simp [PyData.eqv, PyData.eqvAll]
section
variable {P : Program} {w : World} {K : PySem.W.Frag} {mg : Str → Option Value} {base : Heap} {a : Adr}
set_option maxHeartbeats 4000000
theorem ok_p_slope (T : Txt K mg a) : FnR P w K mg base CX0 1 a.Place_slope (spPSlope a.Place) := by
  refine T.d_Place_slope.ok sc_Place_slope (fun _ _ _ _ _ _ us hl => match us, hl with | [_], _ => rfl) (fun vs H Q E h => by obtain ⟨p, s, o, d, rfl, _⟩ := h; rfl) (fun cdv A outer s H vs Q E hr h => ?_)
  obtain ⟨p, s, o, d, rfl, ⟨dx, hp⟩, k⟩ := h
  exact ⟨_, (pss_one (ps_ret (pe_fld (pv 0) rfl))), _, rfl, p, _, dx, _, _, rfl, hp, T.c_Place.cl, T.a_Place__slope, plF_slope _ _ _, k⟩
theorem ok_p_offset (T : Txt K mg a) : FnR P w K mg base CX0 1 a.Place_offset (spPOffset a.Place) := by
  refine T.d_Place_offset.ok sc_Place_offset (fun _ _ _ _ _ _ us hl => match us, hl with | [_], _ => rfl) (fun vs H Q E h => by obtain ⟨p, s, o, d, rfl, _⟩ := h; rfl) (fun cdv A outer s H vs Q E hr h => ?_)
  obtain ⟨p, s, o, d, rfl, ⟨dx, hp⟩, k⟩ := h
  exact ⟨_, (pss_one (ps_ret (pe_fld (pv 0) rfl))), _, rfl, p, _, dx, _, _, rfl, hp, T.c_Place.cl, T.a_Place__offset, plF_offset _ _ _, k⟩
theorem ok_p_odd (T : Txt K mg a) : FnR P w K mg base CX0 1 a.Place_odd (spPOdd a.Place) := by
  refine T.d_Place_odd.ok sc_Place_odd (fun _ _ _ _ _ _ us hl => match us, hl with | [_], _ => rfl) (fun vs H Q E h => by obtain ⟨p, s, o, d, rfl, _⟩ := h; rfl) (fun cdv A outer s H vs Q E hr h => ?_)
  obtain ⟨p, s, o, d, rfl, ⟨dx, hp⟩, k⟩ := h
  exact ⟨_, (pss_one (ps_ret (pe_fld (pv 0) rfl))), _, rfl, p, _, dx, _, _, rfl, hp, T.c_Place.cl, T.a_Place__odd, plF_odd _ _ _, k⟩
theorem ok_parts (T : Txt K mg a) : FnR P w K mg base CX0 3 a.parts_of (spPParts a.Place) := by
  have G_Place_slope : FnR P w K mg base CX0 1 a.Place_slope (spPSlope a.Place) := ok_p_slope T
  have G_Place_offset : FnR P w K mg base CX0 1 a.Place_offset (spPOffset a.Place) := ok_p_offset T
  have G_Place_odd : FnR P w K mg base CX0 1 a.Place_odd (spPOdd a.Place) := ok_p_odd T
  refine T.d_parts_of.ok sc_parts_of (fun _ _ _ _ _ _ us hl => match us, hl with | [_], _ => rfl) (fun vs H Q E h => by obtain ⟨p, s, o, d, rfl, _⟩ := h; rfl) (fun cdv A outer s H vs Q E hr h => ?_)
  obtain ⟨p, s, o, d, rfl, ⟨dx, hp⟩, k⟩ := h
  refine ⟨_, (pss_one (ps_ret (pe_tup (pa_cons (pe_propR (pv 0) T.c_Place.cl T.p_Place_slope G_Place_slope (hr.mono (by decide))  pass0) (pa_cons (pe_propR (pv 0) T.c_Place.cl T.p_Place_offset G_Place_offset (hr.mono (by decide))  pass0) (pa_cons (pe_propR (pv 0) T.c_Place.cl T.p_Place_odd G_Place_odd (hr.mono (by decide))  pass0) pa_nil)))))), ?_⟩
  exact ⟨_, rfl, p, dx, _, rfl, hp, p, s, o, d, rfl, ⟨dx, hp⟩, _, rfl, p, dx, _, rfl, hp, p, s, o, d, rfl, ⟨dx, hp⟩, _, rfl, p, dx, _, rfl, hp, p, s, o, d, rfl, ⟨dx, hp⟩, (by show 3 ≤ sizeLine; decide), k⟩
theorem same_new0 {H : Hp} {p : Addr} {o : HO} (h : H p = none) : Same H (upd H p o) := fun b u e => by rw [upd_ne (ne_of_none e h)]; exact e
theorem NewP.grow {C : Addr} {H H' : Hp} {s o d : Int} {Q : VK} (k : NewP C H s o d Q) (e : Same H H') : NewP C H' s o d Q := fun x H2 s2 nx px => k x H2 (e.trans s2) (e.free nx) px
end
end Pf
end
section
namespace Pf
open PySem PySem.Spec PyProof.Rows L2 Ow StX
/-! ### boxes -/
def Bd1 (n : Int) : Prop := -1000000000000 ≤ n ∧ n ≤ 1000000000000
instance (n : Int) : Decidable (Bd1 n) := inferInstanceAs (Decidable (_ ∧ _))
def Bd (s o d : Int) : Prop := Bd1 s ∧ Bd1 o ∧ Bd1 d
instance (s o d : Int) : Decidable (Bd s o d) := inferInstanceAs (Decidable (_ ∧ _))
/-- a value of another kind than int and place -/
def NoPl (K : PySem.W.Frag) (C : Addr) (H : Hp) (v : V) : Prop := NoInt K H v ∧ ∃ t : Value, TyX K H v t ∧ PySem.W.kitOne K t (.ref C) = some false
def spBP (K : PySem.W.Frag) (C : Addr) : Sp := fun vs H Q _ => ∃ v, vs = [v] ∧ ((∃ i : Int, v = .int i ∧ (Bd1 i → NewP C H 0 i 0 Q) ∧ (¬ Bd1 i → ∀ H', Same H H' → Q .non H')) ∨
  (∃ (p : Addr) (s o d : Int), v = .ref p ∧ PlaceAt H C p s o d ∧ ∀ H', Same H H' → (Bd s o d → Q (.ref p) H') ∧ (¬ Bd s o d → Q .non H')) ∨ (NoPl K C H v ∧ Q .non H))
theorem bd_all (s o d : Int) : ([decide (Bd1 s), decide (Bd1 o), decide (Bd1 d)].all id) = decide (Bd s o d) := by
  by_cases h1 : Bd1 s <;> by_cases h2 : Bd1 o <;> by_cases h3 : Bd1 d <;> simp [Bd, h1, h2, h3]

/-- is_int of anything, a place too -/
def spIntA (K : PySem.W.Frag) (C : Addr) : Sp := fun vs H Q E => spIntV K vs H Q E ∨ ∃ (p : Addr) (s o d : Int), vs = [.ref p] ∧ PlaceAt H C p s o d ∧ Q (.bl false) H
section
variable {P : Program} {w : World} {K : PySem.W.Frag} {mg : Str → Option Value} {base : Heap} {a : Adr}
set_option maxHeartbeats 4000000
theorem ok_intA (T : Txt K mg a) : FnR P w K mg base CX0 1 a.is_int (spIntA K a.Place) := fun A outer s H us vs Q E hr e0 r h => by
  rcases h with h | h
  · exact ok_intV T A outer s H us vs Q E hr e0 r h
  · refine (show FnR P w K mg base CX0 1 a.is_int (fun vs H Q _ => ∃ (p : Addr) (s o d : Int), vs = [.ref p] ∧ PlaceAt H a.Place p s o d ∧ Q (.bl false) H) from ?_) A outer s H us vs Q E hr e0 r h
    refine T.d_is_int.ok sc_is_int (fun _ _ _ _ _ _ us hl => match us, hl with | [_], _ => rfl) (fun vs H Q E h => by obtain ⟨p, s, o, d, rfl, _⟩ := h; rfl) (fun cdv A outer s0 H vs Q E hr h => ?_)
    obtain ⟨p, s, o, d, rfl, ⟨dx, hp⟩, k⟩ := h
    refine ⟨_, (pss_one (ps_ret (pe_and (pe_callB call_isi (by rfl) T.n_isinstance (by decide +kernel) (pa_cons (pv 0) (pa_cons (pe_bltn (v := .ty "int") (by rfl) T.n_int (by decide +kernel) rfl) pa_nil))) (pe_one (pe_not (pe_callB call_isi (by rfl) T.n_isinstance (by decide +kernel) (pa_cons (pv 0) (pa_cons (pe_bltn (v := .ty "bool") (by rfl) T.n_bool (by decide +kernel) rfl) pa_nil)))))))), ?_⟩
    exact ⟨_, rfl, _, _, _, _, _, rfl, .ty _, T.c_Place.tyOf hp, kit_bty (by decide) T.s_Place_isint, false, rfl, k⟩
theorem ok_bounded (T : Txt K mg a) : FnR P w K mg base CX0 7 a.bounded_place (spBP K a.Place) := by
  have G_is_int : FnR P w K mg base CX0 1 a.is_int (spIntA K a.Place) := ok_intA T
  have G_from_left : FnR P w K mg base (CX P w) 5 a.from_left (spFromX K a.Place a.BadPlace fun i => (0, i, 0)) := ok_leftX T
  have G_parts_of : FnR P w K mg base CX0 3 a.parts_of (spPParts a.Place) := ok_parts T
  refine T.d_bounded_place.ok sc_bounded_place (fun _ _ _ _ _ _ us hl => match us, hl with | [_], _ => rfl) (fun vs H Q E h => by obtain ⟨v, rfl, _⟩ := h; rfl) (fun cdv A outer s H vs Q E hr h => ?_)
  obtain ⟨v, rfl, h⟩ := h
  refine ⟨_, (pss_cons (ps_set (i := 1) sc_bounded_place.nd rfl (Or.inl rfl) (pe_ifExp (pt_val (pe_callR G_is_int (hr.mono (by decide)) T.m_is_int T.k_is_int pass0 (pa_cons (pv 0) pa_nil))) (pe_callR G_from_left (hr.mono (by decide)) T.m_from_left T.k_from_left (passUp LamX.takes0) (pa_cons (pv 0) pa_nil)) (pv 0)))
      (pss_cons (ps_if (PW.pt (pw_and (pt_val (pe_callB call_isi (by rfl) T.n_isinstance (by decide +kernel) (pa_cons (pv 1) (pa_cons (pe_glob (v := .ref a.Place) rfl T.m_Place rfl) pa_nil)))) (pw_and1 (pt_val (pe_callB (cr_all rfl) (by rfl) T.n_all (by decide +kernel) (pa_cons (pe_lc (own := [("number", 2)]) (g := gName 2) (by rfl) sc_bounded_place.nd ((show PI _ _ _ (iTup K _) from pi_tup (pe_callR G_parts_of (hr.mono (by decide)) T.m_parts_of T.k_parts_of pass0 (pa_cons (pv 1) pa_nil)))) (blkOk_by (own := [("number", 2)]) (N := ["value", "place", "number"]) (sc := defScope s_bounded_place) (by decide +kernel)) (fun _ _ _ _ _ => (pg_name (i := 2) sc_bounded_place.nd rfl (Or.inl rfl))) (fun _ _ _ _ _ => pts_nil) (fun _ _ _ _ _ => (pe_chain op_le op_le (pe_un un_neg (pe_glob (v := .int 1000000000000) rfl T.m_BOUND ⟨_, rfl⟩)) (pv 2) (pe_glob (v := .int 1000000000000) rfl T.m_BOUND ⟨_, rfl⟩)))) pa_nil))))))
          (pss_one (ps_ret (pv 1)))
          pss_nil)
      (pss_one (ps_ret pe_non)))), ?_⟩
  simp only [tSeq, tIfS, tTest, tB, tAnd, tOr, tNot, tAndV, tOrV, tNotV, tIf, tOp, tUn, tChain, rEq, rNe, rI0, rI, rU, tCallR, tCons, tNil, tC, tVar, tRet, tRetN, tTup_k, tLst_k, tCB, tNext, tAsg, gName, gTup, gCons, gNil, tDrop, tPar, tFld, ClX.tCVal, tPropR, rBin, rBinT, rNeOwn, rSetL_k, gSub, tMakeK_k, tMethR, rInO, tDNewK_k, tYes, wipe, tMakeR_k, tSMeth, tSMethK, rMulS, decide_true, tNever, sFld, rIsiT, and_false, rListOf, rTupOf, rLenSeq, rIxL, rIxT, rIxS, rCat_k, rRep_k, rSlL_k, rSlS, rNewStrs_k, rAppend_k, tBM, tBM0, tM0, tM1, tSl, tNoPart, tPart, tLc_k, tFor_k, iList, iTup, iEnumT, iRng1, iRng2, iRng2L, iStr, L2.start, List.map, List.length_cons, List.length_nil, List.cons_append, List.nil_append, List.getElem?_cons_succ, List.getElem?_cons_zero, Option.some.injEq, V.int.injEq, V.bl.injEq, V.str.injEq, V.ref.injEq, exists_eq_left', exists_eq_left, and_assoc, exists_and_left, exists_eq, exists_eq', true_and, and_true, List.set_cons_zero, List.set_cons_succ, List.set, decide_eq_true_eq, Bool.not_eq_true', if_true, if_false, rIx, cx_K, nox_K, List.replicate_succ, List.replicate_zero, Nat.reduceSub, Bool.true_eq_false, Bool.false_eq_true, Nat.reduceAdd, List.cons.injEq, reduceCtorEq, false_and, false_or, or_false, tAug, rSetO, rStrO, rUn, rBinI, rBinR, rJoin, tJs, tOrT, rIsi, tCallOI, rBinT, tFCall, tCall, tPar3, tFmtO, tMethSF, tFmt, rExtend]
  rcases h with ⟨i, rfl, k1, k2⟩ | ⟨x, s, o, d, rfl, px, k⟩ | ⟨⟨hni, ty, hty, hk⟩, k⟩
  · refine .inl ⟨_, rfl, .inl ⟨i, rfl, true, rfl, ?_⟩⟩
    rw [if_pos rfl]
    refine ⟨_, rfl, .inl ⟨i, rfl, fun x H1 s1 nx px => ?_⟩⟩
    obtain ⟨dx, hp⟩ := id px
    refine ⟨_, _, .own _, T.c_Place.tyOf hp, true, kit_self, ?_⟩
    rw [if_pos rfl]
    have b0 : Bd1 0 := by decide
    have kk : ∀ H', Same H1 H' → (Bd 0 i 0 → Q (.ref x) H') ∧ (¬ Bd 0 i 0 → Q .non H') := fun H' s' => ⟨fun hb => k1 hb.2.1 x H' (s1.trans s') nx (px.same s'), fun hb => k2 (fun q => hb ⟨b0, q, b0⟩) H' (s1.trans s')⟩
    obtain ⟨s, hs0⟩ : ∃ s : Int, s = 0 := ⟨_, rfl⟩
    obtain ⟨d, hd0⟩ : ∃ d : Int, d = 0 := ⟨_, rfl⟩
    have px : PlaceAt H1 a.Place x s i d := by rw [hs0, hd0]; exact px
    have kk : ∀ H', Same H1 H' → (Bd s i d → Q (.ref x) H') ∧ (¬ Bd s i d → Q .non H') := by rw [hs0, hd0]; exact kk
    refine ⟨x, s, i, d, rfl, px, fun tt htt => ⟨tt, rfl, ⟨_, .inl (.inl upd_same)⟩, ?_⟩⟩
    refine kLc.map (walk_tup (xs := [.int s, .int i, .int d])) [.bl (decide (Bd1 s)), .bl (decide (Bd1 i)), .bl (decide (Bd1 d))] rfl (fun H' s' => .inl (.inl (s' _ _ upd_same))) (fun D j xv HA HB hj cl hY => ?_) fun l HA fA => ?_
    · obtain ⟨rfl, e⟩ := hY
      have hj : j < 3 := hj
      obtain ⟨z, rfl, hz2⟩ : ∃ z : Int, xv = .int z ∧ ([V.bl (decide (Bd1 s)), .bl (decide (Bd1 i)), .bl (decide (Bd1 d))])[j]? = some (.bl (decide (Bd1 z))) := by
        match j, hj with
        | 0, _ => cases e; exact ⟨s, rfl, rfl⟩
        | 1, _ => cases e; exact ⟨i, rfl, rfl⟩
        | 2, _ => cases e; exact ⟨d, rfl, rfl⟩
      simp only [tSeq, tIfS, tTest, tB, tAnd, tOr, tNot, tAndV, tOrV, tNotV, tIf, tOp, tUn, tChain, rEq, rNe, rI0, rI, rU, tCallR, tCons, tNil, tC, tVar, tRet, tRetN, tTup_k, tLst_k, tCB, tNext, tAsg, gName, gTup, gCons, gNil, tDrop, tPar, tFld, ClX.tCVal, tPropR, rBin, rBinT, rNeOwn, rSetL_k, gSub, tMakeK_k, tMethR, rInO, tDNewK_k, tYes, wipe, tMakeR_k, tSMeth, tSMethK, rMulS, decide_true, tNever, sFld, rIsiT, and_false, rListOf, rTupOf, rLenSeq, rIxL, rIxT, rIxS, rCat_k, rRep_k, rSlL_k, rSlS, rNewStrs_k, rAppend_k, tBM, tBM0, tM0, tM1, tSl, tNoPart, tPart, tLc_k, tFor_k, iList, iTup, iEnumT, iRng1, iRng2, iRng2L, iStr, L2.start, List.map, List.length_cons, List.length_nil, List.cons_append, List.nil_append, List.getElem?_cons_succ, List.getElem?_cons_zero, Option.some.injEq, V.int.injEq, V.bl.injEq, V.str.injEq, V.ref.injEq, exists_eq_left', exists_eq_left, and_assoc, exists_and_left, exists_eq, exists_eq', true_and, and_true, List.set_cons_zero, List.set_cons_succ, List.set, decide_eq_true_eq, Bool.not_eq_true', if_true, if_false, rIx, cx_K, nox_K, List.replicate_succ, List.replicate_zero, Nat.reduceSub, Bool.true_eq_false, Bool.false_eq_true, Nat.reduceAdd, List.cons.injEq, reduceCtorEq, false_and, false_or, or_false, tAug, rSetO, rStrO, rUn, rBinI, rBinR, rJoin, tJs, tOrT, rIsi, tCallOI, rBinT, tFCall, tCall, tPar3, tFmtO, tMethSF, tFmt, rExtend]
      by_cases h1 : -1000000000000 ≤ z
      · rw [if_pos h1]
        refine kApp.at cl (fun _ _ e => e) (by show 3 ≤ sizeLine; decide) ?_
        rw [hz2]
        exact congrArg (fun b => some (V.bl b)) (decide_eq_decide.mpr ⟨fun h => h.2, fun h => ⟨h1, h⟩⟩)
      · rw [if_neg h1]
        refine kApp.at cl (fun _ _ e => e) (by show 3 ≤ sizeLine; decide) ?_
        rw [hz2]
        exact congrArg (fun b => some (V.bl b)) (decide_eq_false fun h => h1 h.1)
    · refine ⟨l, [decide (Bd1 s), decide (Bd1 i), decide (Bd1 d)], rfl, SqL.of fA.at_, _, rfl, ?_⟩
      have e : ([decide (Bd1 s), decide (Bd1 i), decide (Bd1 d)].all id) = decide (Bd s i d) := bd_all s i d
      rw [e]
      obtain ⟨g1, g2⟩ := kk HA ((fresh_upd htt).same.trans fA.same)
      by_cases hb : Bd s i d
      · rw [if_pos (decide_eq_true hb)]; exact g1 hb
      · rw [if_neg (by rw [decide_eq_false hb]; decide)]; exact g2 hb
  · refine .inr ⟨x, s, o, d, rfl, px, false, rfl, ?_⟩
    rw [if_neg (by decide)]
    obtain ⟨dx, hp⟩ := id px
    refine ⟨_, _, .own _, T.c_Place.tyOf hp, true, kit_self, ?_⟩
    rw [if_pos rfl]
    have kk := k
    refine ⟨x, s, o, d, rfl, px, fun tt htt => ⟨tt, rfl, ⟨_, .inl (.inl upd_same)⟩, ?_⟩⟩
    refine kLc.map (walk_tup (xs := [.int s, .int o, .int d])) [.bl (decide (Bd1 s)), .bl (decide (Bd1 o)), .bl (decide (Bd1 d))] rfl (fun H' s' => .inl (.inl (s' _ _ upd_same))) (fun D j xv HA HB hj cl hY => ?_) fun l HA fA => ?_
    · obtain ⟨rfl, e⟩ := hY
      have hj : j < 3 := hj
      obtain ⟨z, rfl, hz2⟩ : ∃ z : Int, xv = .int z ∧ ([V.bl (decide (Bd1 s)), .bl (decide (Bd1 o)), .bl (decide (Bd1 d))])[j]? = some (.bl (decide (Bd1 z))) := by
        match j, hj with
        | 0, _ => cases e; exact ⟨s, rfl, rfl⟩
        | 1, _ => cases e; exact ⟨o, rfl, rfl⟩
        | 2, _ => cases e; exact ⟨d, rfl, rfl⟩
      simp only [tSeq, tIfS, tTest, tB, tAnd, tOr, tNot, tAndV, tOrV, tNotV, tIf, tOp, tUn, tChain, rEq, rNe, rI0, rI, rU, tCallR, tCons, tNil, tC, tVar, tRet, tRetN, tTup_k, tLst_k, tCB, tNext, tAsg, gName, gTup, gCons, gNil, tDrop, tPar, tFld, ClX.tCVal, tPropR, rBin, rBinT, rNeOwn, rSetL_k, gSub, tMakeK_k, tMethR, rInO, tDNewK_k, tYes, wipe, tMakeR_k, tSMeth, tSMethK, rMulS, decide_true, tNever, sFld, rIsiT, and_false, rListOf, rTupOf, rLenSeq, rIxL, rIxT, rIxS, rCat_k, rRep_k, rSlL_k, rSlS, rNewStrs_k, rAppend_k, tBM, tBM0, tM0, tM1, tSl, tNoPart, tPart, tLc_k, tFor_k, iList, iTup, iEnumT, iRng1, iRng2, iRng2L, iStr, L2.start, List.map, List.length_cons, List.length_nil, List.cons_append, List.nil_append, List.getElem?_cons_succ, List.getElem?_cons_zero, Option.some.injEq, V.int.injEq, V.bl.injEq, V.str.injEq, V.ref.injEq, exists_eq_left', exists_eq_left, and_assoc, exists_and_left, exists_eq, exists_eq', true_and, and_true, List.set_cons_zero, List.set_cons_succ, List.set, decide_eq_true_eq, Bool.not_eq_true', if_true, if_false, rIx, cx_K, nox_K, List.replicate_succ, List.replicate_zero, Nat.reduceSub, Bool.true_eq_false, Bool.false_eq_true, Nat.reduceAdd, List.cons.injEq, reduceCtorEq, false_and, false_or, or_false, tAug, rSetO, rStrO, rUn, rBinI, rBinR, rJoin, tJs, tOrT, rIsi, tCallOI, rBinT, tFCall, tCall, tPar3, tFmtO, tMethSF, tFmt, rExtend]
      by_cases h1 : -1000000000000 ≤ z
      · rw [if_pos h1]
        refine kApp.at cl (fun _ _ e => e) (by show 3 ≤ sizeLine; decide) ?_
        rw [hz2]
        exact congrArg (fun b => some (V.bl b)) (decide_eq_decide.mpr ⟨fun h => h.2, fun h => ⟨h1, h⟩⟩)
      · rw [if_neg h1]
        refine kApp.at cl (fun _ _ e => e) (by show 3 ≤ sizeLine; decide) ?_
        rw [hz2]
        exact congrArg (fun b => some (V.bl b)) (decide_eq_false fun h => h1 h.1)
    · refine ⟨l, [decide (Bd1 s), decide (Bd1 o), decide (Bd1 d)], rfl, SqL.of fA.at_, _, rfl, ?_⟩
      have e : ([decide (Bd1 s), decide (Bd1 o), decide (Bd1 d)].all id) = decide (Bd s o d) := bd_all s o d
      rw [e]
      obtain ⟨g1, g2⟩ := kk HA ((fresh_upd htt).same.trans fA.same)
      by_cases hb : Bd s o d
      · rw [if_pos (decide_eq_true hb)]; exact g1 hb
      · rw [if_neg (by rw [decide_eq_false hb]; decide)]; exact g2 hb
  · refine .inl ⟨_, rfl, .inr ⟨hni, false, rfl, ?_⟩⟩
    rw [if_neg (by decide)]
    refine ⟨_, _, .own _, hty, false, hk, ?_⟩
    rw [if_neg (by decide)]
    exact k
end
end Pf
end
section
namespace Pf
open PySem PySem.Spec PyProof.Rows L2 Ow StX
/-- a value that a box takes for a place -/
def InPl (K : PySem.W.Frag) (C : Addr) (H : Hp) (v : V) (s o d : Int) : Prop := ((v = .int o ∧ s = 0 ∧ d = 0) ∨ ∃ p, v = .ref p ∧ PlaceAt H C p s o d) ∧ Bd s o d
def BadPl (K : PySem.W.Frag) (C : Addr) (H : Hp) (v : V) : Prop := (∃ i : Int, v = .int i ∧ ¬ Bd1 i) ∨ (∃ (p : Addr) (s o d : Int), v = .ref p ∧ PlaceAt H C p s o d ∧ ¬ Bd s o d) ∨ NoPl K C H v
def spCP (K : PySem.W.Frag) (C B : Addr) : Sp := fun vs H Q E => ∃ (v : V) (z : Str), vs = [v, .str z] ∧ ((∃ s o d, InPl K C H v s o d ∧ ∀ x H', Same H H' → PlaceAt H' C x s o d → Q (.ref x) H') ∨ (BadPl K C H v ∧ ∀ H', Same H H' → Out1 B "part" H' E (.str z)))
structure Pl where
  s : Int
  o : Int
  d : Int
deriving DecidableEq
structure Bx where
  x0 : Pl
  x1 : Pl
  y0 : Pl
  y1 : Pl
deriving DecidableEq
abbrev PlA (H : Hp) (C p : Addr) (q : Pl) : Prop := PlaceAt H C p q.s q.o q.d
abbrev InP (K : PySem.W.Frag) (C : Addr) (H : Hp) (v : V) (q : Pl) : Prop := InPl K C H v q.s q.o q.d
def bxF (p0 p1 p2 p3 : Addr) : List (Str × V) := putF "y1" (.ref p3) (putF "y0" (.ref p2) (putF "x1" (.ref p1) (putF "x0" (.ref p0) [])))
/-- the box q stands at b -/
def BoxAt (H : Hp) (B C b : Addr) (q : Bx) : Prop := ∃ (dx p0 p1 p2 p3 : Addr), H b = some (.ins B dx (bxF p0 p1 p2 p3)) ∧ PlA H C p0 q.x0 ∧ PlA H C p1 q.x1 ∧ PlA H C p2 q.y0 ∧ PlA H C p3 q.y1
def spBInit (K : PySem.W.Frag) (B C : Addr) : Sp := fun vs H Q _ => ∃ (b dx : Addr) (v0 v1 v2 v3 : V) (q : Bx), vs = [.ref b, v0, v1, v2, v3] ∧ H b = some (.ins B dx []) ∧ InP K C H v0 q.x0 ∧ InP K C H v1 q.x1 ∧ InP K C H v2 q.y0 ∧ InP K C H v3 q.y1 ∧
  ∀ H', (∀ b' o, b' ≠ b → H b' = some o → H' b' = some o) → BoxAt H' B C b q → Q .non H'
theorem ne_box {H : Hp} {B C dx b p : Addr} {fs : List (Str × V)} {s o d : Int} (hb : H b = some (.ins B dx fs)) (hf : fs.lookup ("_slope" : Str) = none) (hp : PlaceAt H C p s o d) : p ≠ b := fun z => by
  obtain ⟨dxp, hp⟩ := hp
  rw [z, hb] at hp
  have e := Option.some.inj hp
  injection e with e1 e2 e3
  rw [e3, plF_slope] at hf
  cases hf
theorem PlaceAt.move {H H' : Hp} {C p b : Addr} {s o d : Int} (h : PlaceAt H C p s o d) (n : p ≠ b) (m : ∀ b' u, b' ≠ b → H b' = some u → H' b' = some u) : PlaceAt H' C p s o d := h.elim fun dx e => ⟨dx, m _ _ n e⟩
theorem InPl.move {K : PySem.W.Frag} {H H' : Hp} {B C dx b : Addr} {v : V} {s o d : Int} {fs : List (Str × V)} (h : InPl K C H v s o d) (hb : H b = some (.ins B dx fs)) (hf : fs.lookup ("_slope" : Str) = none) (m : ∀ b' u, b' ≠ b → H b' = some u → H' b' = some u) : InPl K C H' v s o d :=
  ⟨h.1.imp id fun ⟨p, e, hp⟩ => ⟨p, e, hp.move (ne_box hb hf hp) m⟩, h.2⟩
theorem InPl.same {K : PySem.W.Frag} {H H' : Hp} {C : Addr} {v : V} {s o d : Int} (h : InPl K C H v s o d) (m : Same H H') : InPl K C H' v s o d :=
  ⟨h.1.imp id fun ⟨p, e, hp⟩ => ⟨p, e, hp.same m⟩, h.2⟩
theorem kS0 : ¬ (("_slope" : Str) = "x0") := by decide +kernel
theorem kS1 : ¬ (("_slope" : Str) = "x1") := by decide +kernel
theorem kS2 : ¬ (("_slope" : Str) = "y0") := by decide +kernel
theorem kS3 : ¬ (("_slope" : Str) = "y1") := by decide +kernel
theorem bx1 (p0 : Addr) : (putF ("x0" : Str) (.ref p0) []).lookup ("_slope" : Str) = none := by rw [lookup_putF, if_neg kS0]; rfl
theorem bx2 (p0 p1 : Addr) : (putF ("x1" : Str) (.ref p1) (putF ("x0" : Str) (.ref p0) [])).lookup ("_slope" : Str) = none := by rw [lookup_putF, if_neg kS1]; exact bx1 p0
theorem bx3 (p0 p1 p2 : Addr) : (putF ("y0" : Str) (.ref p2) (putF ("x1" : Str) (.ref p1) (putF ("x0" : Str) (.ref p0) []))).lookup ("_slope" : Str) = none := by rw [lookup_putF, if_neg kS2]; exact bx2 p0 p1
theorem bl1 (p0 : Addr) : (putF ("x0" : Str) (.ref p0) []).length ≤ 1 := putF_le _ _ _
theorem bl2 (p0 p1 : Addr) : (putF ("x1" : Str) (.ref p1) (putF ("x0" : Str) (.ref p0) [])).length ≤ 2 := Nat.le_trans (putF_le _ _ _) (Nat.succ_le_succ (bl1 p0))
theorem bl3 (p0 p1 p2 : Addr) : (putF ("y0" : Str) (.ref p2) (putF ("x1" : Str) (.ref p1) (putF ("x0" : Str) (.ref p0) []))).length ≤ 3 := Nat.le_trans (putF_le _ _ _) (Nat.succ_le_succ (bl2 p0 p1))
section
variable {P : Program} {w : World} {K : PySem.W.Frag} {mg : Str → Option Value} {base : Heap} {a : Adr}
set_option maxHeartbeats 4000000
theorem ok_checked (T : Txt K mg a) : FnR P w K mg base (CX P w) 9 a.checked_place (spCP K a.Place a.BadPlace) := by
  have G_bounded_place : FnR P w K mg base CX0 7 a.bounded_place (spBP K a.Place) := ok_bounded T
  obtain ⟨_, O_BadPlace, B_BadPlace⟩ := ok_badplace (P := P) (w := w) (base := base) T
  refine T.d_checked_place.okX sc_checked_place (fun _ _ _ _ _ _ us hl => match us, hl with | [_, _], _ => rfl) (fun vs H Q E h => by obtain ⟨v, z, rfl, _⟩ := h; rfl) (fun cdv A outer s H vs Q E hr h => ?_)
  obtain ⟨v, z, rfl, h⟩ := h
  refine ⟨_, (pss_cons (ps_set (i := 2) sc_checked_place.nd rfl (Or.inl rfl) (pe_callR G_bounded_place (hr.mono (by decide)) T.m_bounded_place T.k_bounded_place pass0 (pa_cons (pv 0) pa_nil)))
      (pss_cons (ps_if (pt_cmpR op_isN (pv 2) pe_non (nomark _))
          (pss_one (ps_raise rfl (takes_of rfl rfl rfl rfl) (pmk_oex T.e_BadPlace.ox T.e_BadPlace.iC T.e_BadPlace.tI O_BadPlace (hr.mono (by decide)) B_BadPlace .nil pass0 rfl T.m_BadPlace (pa_cons (pv 1) pa_nil))))
          pss_nil)
      (pss_one (ps_ret (pv 2))))), ?_⟩
  simp only [tSeq, tIfS, tTest, tB, tAnd, tOr, tNot, tAndV, tOrV, tNotV, tIf, tOp, tUn, tChain, rEq, rNe, rI0, rI, rU, tCallR, tCons, tNil, tC, tVar, tRet, tRetN, tTup_k, tLst_k, tCB, tNext, tAsg, gName, gTup, gCons, gNil, tDrop, tPar, tFld, ClX.tCVal, tPropR, rBin, rBinT, rNeOwn, rSetL_k, gSub, tMakeK_k, tMethR, rInO, tDNewK_k, tYes, wipe, tMakeR_k, tSMeth, tSMethK, rMulS, decide_true, tNever, sFld, rIsiT, and_false, rListOf, rTupOf, rLenSeq, rIxL, rIxT, rIxS, rCat_k, rRep_k, rSlL_k, rSlS, rNewStrs_k, rAppend_k, tBM, tBM0, tM0, tM1, tSl, tNoPart, tPart, tLc_k, tFor_k, iList, iTup, iEnumT, iRng1, iRng2, iRng2L, iStr, L2.start, List.map, List.length_cons, List.length_nil, List.cons_append, List.nil_append, List.getElem?_cons_succ, List.getElem?_cons_zero, Option.some.injEq, V.int.injEq, V.bl.injEq, V.str.injEq, V.ref.injEq, exists_eq_left', exists_eq_left, and_assoc, exists_and_left, exists_eq, exists_eq', true_and, and_true, List.set_cons_zero, List.set_cons_succ, List.set, decide_eq_true_eq, Bool.not_eq_true', if_true, if_false, rIx, cx_K, nox_K, List.replicate_succ, List.replicate_zero, Nat.reduceSub, Bool.true_eq_false, Bool.false_eq_true, Nat.reduceAdd, List.cons.injEq, reduceCtorEq, false_and, false_or, or_false, tAug, rSetO, rStrO, rUn, rBinI, rBinR, rJoin, tJs, tOrT, rIsi, tCallOI, rBinT, tFCall, tCall, tPar3, tFmtO, tMethSF, tFmt, rExtend]
  rcases h with ⟨s, o, d, ⟨hin, hb⟩, k⟩ | ⟨hbad, k⟩
  · refine ⟨v, rfl, ?_⟩
    rcases hin with ⟨rfl, rfl, rfl⟩ | ⟨p, rfl, pp⟩
    · refine .inl ⟨o, rfl, fun _ => fun x H' s' nx px => ?_, fun q => absurd hb.2.1 q⟩
      show ite _ _ _
      rw [if_neg (by simp)]
      exact k x H' s' px
    · refine .inr (.inl ⟨p, s, o, d, rfl, pp, fun H' s' => ⟨fun _ => ?_, fun q => absurd hb q⟩⟩)
      show ite _ _ _
      rw [if_neg (by simp)]
      exact k p H' s' (pp.same s')
  · refine ⟨v, rfl, ?_⟩
    rcases hbad with ⟨i, rfl, hb⟩ | ⟨p, s, o, d, rfl, pp, hb⟩ | hno
    · refine .inl ⟨i, rfl, fun q => absurd q hb, fun _ H' s' => ?_⟩
      show ite _ _ _
      rw [if_pos rfl]
      exact ⟨_, rfl, err1_made (k H' s')⟩
    · refine .inr (.inl ⟨p, s, o, d, rfl, pp, fun H' s' => ⟨fun q => absurd q hb, fun _ => ?_⟩⟩)
      show ite _ _ _
      rw [if_pos rfl]
      exact ⟨_, rfl, err1_made (k H' s')⟩
    · refine .inr (.inr ⟨hno, ?_⟩)
      show ite _ _ _
      rw [if_pos rfl]
      exact ⟨_, rfl, err1_made (k H fun _ _ e => e)⟩
theorem ok_bxinit_fn (T : Txt K mg a) {fd : FuncData} (F : FunD K "__init__" "Box.__init__" (defArgs s_Box_init) (defBody s_Box_init) (defScope s_Box_init) [] [] a.Box_init fd) : FnOk P w K mg base (CX P w) 11 a.Box_init fd ["self", "x0", "x1", "y0", "y1"] (spBInit K a.Box a.Place) := by
  have G_checked_place : FnR P w K mg base (CX P w) 9 a.checked_place (spCP K a.Place a.BadPlace) := ok_checked T
  refine F.ok sc_Box_init (fun vs H Q E h => by obtain ⟨b, dx, v0, v1, v2, v3, q, rfl, _⟩ := h; rfl) (fun cdv A outer s H vs Q E hr h => ?_)
  obtain ⟨b, dx, v0, v1, v2, v3, q, rfl, hb, i0, i1, i2, i3, k⟩ := h
  refine ⟨_, (pss_cons (ps_fld (pv 0) (pe_callR G_checked_place (hr.mono (by decide)) T.m_checked_place T.k_checked_place (passUp (takes_of rfl rfl rfl rfl)) (pa_cons (pv 1) (pa_cons pe_str pa_nil))) rfl)
      (pss_cons (ps_fld (pv 0) (pe_callR G_checked_place (hr.mono (by decide)) T.m_checked_place T.k_checked_place (passUp (takes_of rfl rfl rfl rfl)) (pa_cons (pv 2) (pa_cons pe_str pa_nil))) rfl)
      (pss_cons (ps_fld (pv 0) (pe_callR G_checked_place (hr.mono (by decide)) T.m_checked_place T.k_checked_place (passUp (takes_of rfl rfl rfl rfl)) (pa_cons (pv 3) (pa_cons pe_str pa_nil))) rfl)
      (pss_one (ps_fld (pv 0) (pe_callR G_checked_place (hr.mono (by decide)) T.m_checked_place T.k_checked_place (passUp (takes_of rfl rfl rfl rfl)) (pa_cons (pv 4) (pa_cons pe_str pa_nil))) rfl))))), ?_⟩
  simp only [tSeq, tIfS, tTest, tB, tAnd, tOr, tNot, tAndV, tOrV, tNotV, tIf, tOp, tUn, tChain, rEq, rNe, rI0, rI, rU, tCallR, tCons, tNil, tC, tVar, tRet, tRetN, tTup_k, tLst_k, tCB, tNext, tAsg, gName, gTup, gCons, gNil, tDrop, tPar, tFld, ClX.tCVal, tPropR, rBin, rBinT, rNeOwn, rSetL_k, gSub, tMakeK_k, tMethR, rInO, tDNewK_k, tYes, wipe, tMakeR_k, tSMeth, tSMethK, rMulS, decide_true, tNever, sFld, rIsiT, and_false, rListOf, rTupOf, rLenSeq, rIxL, rIxT, rIxS, rCat_k, rRep_k, rSlL_k, rSlS, rNewStrs_k, rAppend_k, tBM, tBM0, tM0, tM1, tSl, tNoPart, tPart, tLc_k, tFor_k, iList, iTup, iEnumT, iRng1, iRng2, iRng2L, iStr, L2.start, List.map, List.length_cons, List.length_nil, List.cons_append, List.nil_append, List.getElem?_cons_succ, List.getElem?_cons_zero, Option.some.injEq, V.int.injEq, V.bl.injEq, V.str.injEq, V.ref.injEq, exists_eq_left', exists_eq_left, and_assoc, exists_and_left, exists_eq, exists_eq', true_and, and_true, List.set_cons_zero, List.set_cons_succ, List.set, decide_eq_true_eq, Bool.not_eq_true', if_true, if_false, rIx, cx_K, nox_K, List.replicate_succ, List.replicate_zero, Nat.reduceSub, Bool.true_eq_false, Bool.false_eq_true, Nat.reduceAdd, List.cons.injEq, reduceCtorEq, false_and, false_or, or_false, tAug, rSetO, rStrO, rUn, rBinI, rBinR, rJoin, tJs, tOrT, rIsi, tCallOI, rBinT, tFCall, tCall, tPar3, tFmtO, tMethSF, tFmt, rExtend]
  refine ⟨v0, _, rfl, .inl ⟨_, _, _, i0, fun p0 H1 s1 q0 => ⟨_, dx, _, s1 _ _ hb, T.c_Box.cl, T.a_Box_x0, by show 0 < 1000; decide, ?_⟩⟩⟩
  have hb1 := s1 _ _ hb
  have m1 : ∀ b' u, b' ≠ b → H1 b' = some u → (upd H1 b (.ins a.Box dx (putF "x0" (.ref p0) []))) b' = some u := fun b' u n e => by rw [upd_ne n]; exact e
  have j1 := (i1.same s1).move hb1 rfl m1
  have j2 := (i2.same s1).move hb1 rfl m1
  have j3 := (i3.same s1).move hb1 rfl m1
  have q0' := q0.move (ne_box hb1 rfl q0) m1
  refine ⟨v1, _, rfl, .inl ⟨_, _, _, j1, fun p1 H2 s2 q1 => ⟨_, dx, _, s2 _ _ upd_same, T.c_Box.cl, T.a_Box_x1, Nat.lt_of_le_of_lt (bl1 p0) (by decide), ?_⟩⟩⟩
  have hb2 := s2 _ _ (upd_same (H := H1) (a := b) (o := .ins a.Box dx (putF "x0" (.ref p0) [])))
  have m2 : ∀ b' u, b' ≠ b → H2 b' = some u → (upd H2 b (.ins a.Box dx (putF "x1" (.ref p1) (putF "x0" (.ref p0) [])))) b' = some u := fun b' u n e => by rw [upd_ne n]; exact e
  have r2 := (j2.same s2).move hb2 (bx1 p0) m2
  have r3 := (j3.same s2).move hb2 (bx1 p0) m2
  have q0'' := (q0'.same s2).move (ne_box hb2 (bx1 p0) (q0'.same s2)) m2
  have q1' := q1.move (ne_box hb2 (bx1 p0) q1) m2
  refine ⟨v2, _, rfl, .inl ⟨_, _, _, r2, fun p2 H3 s3 q2 => ⟨_, dx, _, s3 _ _ upd_same, T.c_Box.cl, T.a_Box_y0, Nat.lt_of_le_of_lt (bl2 p0 p1) (by decide), ?_⟩⟩⟩
  have hb3 := s3 _ _ (upd_same (H := H2) (a := b) (o := .ins a.Box dx (putF "x1" (.ref p1) (putF "x0" (.ref p0) []))))
  have m3 : ∀ b' u, b' ≠ b → H3 b' = some u → (upd H3 b (.ins a.Box dx (putF "y0" (.ref p2) (putF "x1" (.ref p1) (putF "x0" (.ref p0) []))))) b' = some u := fun b' u n e => by rw [upd_ne n]; exact e
  have u3 := (r3.same s3).move hb3 (bx2 p0 p1) m3
  have w0 := (q0''.same s3).move (ne_box hb3 (bx2 p0 p1) (q0''.same s3)) m3
  have w1 := (q1'.same s3).move (ne_box hb3 (bx2 p0 p1) (q1'.same s3)) m3
  have w2 := q2.move (ne_box hb3 (bx2 p0 p1) q2) m3
  refine ⟨v3, _, rfl, .inl ⟨_, _, _, u3, fun p3 H4 s4 q3 => ⟨_, dx, _, s4 _ _ upd_same, T.c_Box.cl, T.a_Box_y1, Nat.lt_of_le_of_lt (bl3 p0 p1 p2) (by decide), ?_⟩⟩⟩
  have hb4 := s4 _ _ (upd_same (H := H3) (a := b) (o := .ins a.Box dx (putF "y0" (.ref p2) (putF "x1" (.ref p1) (putF "x0" (.ref p0) [])))))
  have m4 : ∀ b' u, b' ≠ b → H4 b' = some u → (upd H4 b (.ins a.Box dx (bxF p0 p1 p2 p3))) b' = some u := fun b' u n e => by rw [upd_ne n]; exact e
  have z := bx3 p0 p1 p2
  refine k _ (fun b' u n e => m4 b' u n (s4 _ _ (m3 b' u n (s3 _ _ (m2 b' u n (s2 _ _ (m1 b' u n (s1 _ _ e)))))))) ⟨dx, p0, p1, p2, p3, upd_same, (w0.same s4).move (ne_box hb4 z (w0.same s4)) m4, (w1.same s4).move (ne_box hb4 z (w1.same s4)) m4, (w2.same s4).move (ne_box hb4 z (w2.same s4)) m4, q3.move (ne_box hb4 z q3) m4⟩
theorem ok_bxinit (T : Txt K mg a) : FnR P w K mg base (CX P w) 11 a.Box_init (spBInit K a.Box a.Place) := by
  obtain ⟨fd, F⟩ := id T.d_Box_init
  exact ((ok_bxinit_fn T F).raw (F.bindsN (fun _ _ _ _ _ _ us hl => match us, hl with | [_, _, _, _, _], _ => rfl)) .nil).imp fun vs H Q E h => by rw [List.append_nil]; exact h
end
end Pf
end
section
namespace Pf
open PySem PySem.Spec PyProof.Rows L2 Ow StX
theorem k01 : ¬ (("x0" : Str) = "x1") := by decide +kernel
theorem k02 : ¬ (("x0" : Str) = "y0") := by decide +kernel
theorem k03 : ¬ (("x0" : Str) = "y1") := by decide +kernel
theorem k12 : ¬ (("x1" : Str) = "y0") := by decide +kernel
theorem k13 : ¬ (("x1" : Str) = "y1") := by decide +kernel
theorem k23 : ¬ (("y0" : Str) = "y1") := by decide +kernel
theorem bxF_x0 (p0 p1 p2 p3 : Addr) : (bxF p0 p1 p2 p3).lookup ("x0" : Str) = some (.ref p0) := by
  unfold bxF
  rw [lookup_putF, if_neg k03, lookup_putF, if_neg k02, lookup_putF, if_neg k01, lookup_putF, if_pos rfl]
theorem bxF_x1 (p0 p1 p2 p3 : Addr) : (bxF p0 p1 p2 p3).lookup ("x1" : Str) = some (.ref p1) := by
  unfold bxF
  rw [lookup_putF, if_neg k13, lookup_putF, if_neg k12, lookup_putF, if_pos rfl]
theorem bxF_y0 (p0 p1 p2 p3 : Addr) : (bxF p0 p1 p2 p3).lookup ("y0" : Str) = some (.ref p2) := by
  unfold bxF
  rw [lookup_putF, if_neg k23, lookup_putF, if_pos rfl]
theorem bxF_y1 (p0 p1 p2 p3 : Addr) : (bxF p0 p1 p2 p3).lookup ("y1" : Str) = some (.ref p3) := by
  unfold bxF
  rw [lookup_putF, if_pos rfl]
def BoxV (H : Hp) (B C b : Addr) (q : Bx) (p0 p1 p2 p3 : Addr) : Prop := (∃ dx : Addr, H b = some (.ins B dx (bxF p0 p1 p2 p3))) ∧ PlA H C p0 q.x0 ∧ PlA H C p1 q.x1 ∧ PlA H C p2 q.y0 ∧ PlA H C p3 q.y1
theorem BoxAt.v {H : Hp} {B C b : Addr} {q : Bx} (h : BoxAt H B C b q) : ∃ p0 p1 p2 p3, BoxV H B C b q p0 p1 p2 p3 := by
  obtain ⟨dx, p0, p1, p2, p3, e, h⟩ := h
  exact ⟨p0, p1, p2, p3, ⟨dx, e⟩, h⟩
theorem BoxAt.same {H H' : Hp} {B C b : Addr} {q : Bx} (h : BoxAt H B C b q) (s : Same H H') : BoxAt H' B C b q := by
  obtain ⟨dx, p0, p1, p2, p3, e, h0, h1, h2, h3⟩ := h
  exact ⟨dx, p0, p1, p2, p3, s _ _ e, h0.same s, h1.same s, h2.same s, h3.same s⟩
def plV (q : Pl) (n : Int) : Int := valP q.s q.o q.d n
def MulsP (q : Pl) (n : Int) : Prop := CMulW q.s (n / 2) ∧ CMulW q.d (n % 2)
/-- a box called with two sizes -/
def spBCall (B C : Addr) : Sp := fun vs H Q _ => ∃ (b : Addr) (q : Bx) (w h : Int), vs = [.ref b, .int w, .int h] ∧ BoxAt H B C b q ∧ 1 ≤ w ∧ 1 ≤ h ∧ MulsP q.x0 w ∧ MulsP q.x1 w ∧ MulsP q.y0 h ∧ MulsP q.y1 h ∧
  ∀ t H', Fresh H H' t (.tup [.int (plV q.x0 w), .int (plV q.x1 w), .int (plV q.y0 h), .int (plV q.y1 h)]) → Q (.ref t) H'
def BadSz (K : PySem.W.Frag) (H : Hp) (v : V) : Prop := NoInt K H v ∨ ∃ i : Int, v = .int i ∧ i < 1
def spBCallX (K : PySem.W.Frag) (B : Addr) : Sp := fun vs H Q E => ∃ (b : Addr) (v u : V), vs = [.ref b, v, u] ∧ ((BadSz K H v ∧ Out1 B "part" H E (.str "width")) ∨ ∃ i : Int, v = .int i ∧ 1 ≤ i ∧ BadSz K H u ∧ Out1 B "part" H E (.str "height"))
def spBPlaces (B C : Addr) : Sp := fun vs H Q _ => ∃ (b : Addr) (q : Bx) (p0 p1 p2 p3 : Addr), vs = [.ref b] ∧ BoxV H B C b q p0 p1 p2 p3 ∧ ∀ t H', Fresh H H' t (.tup [.ref p0, .ref p1, .ref p2, .ref p3]) → Q (.ref t) H'
section
variable {P : Program} {w : World} {K : PySem.W.Frag} {mg : Str → Option Value} {base : Heap} {a : Adr}
set_option maxHeartbeats 4000000
theorem ok_bplaces (T : Txt K mg a) : FnR P w K mg base CX0 1 a.box_places (spBPlaces a.Box a.Place) := by
  refine T.d_box_places.ok sc_box_places (fun _ _ _ _ _ _ us hl => match us, hl with | [_], _ => rfl) (fun vs H Q E h => by obtain ⟨b, q, p0, p1, p2, p3, rfl, _⟩ := h; rfl) (fun cdv A outer s H vs Q E hr h => ?_)
  obtain ⟨b, q, p0, p1, p2, p3, rfl, ⟨⟨dx, hb⟩, _⟩, k⟩ := h
  refine ⟨_, (pss_one (ps_ret (pe_tup (pa_cons (pe_fld (pv 0) rfl) (pa_cons (pe_fld (pv 0) rfl) (pa_cons (pe_fld (pv 0) rfl) (pa_cons (pe_fld (pv 0) rfl) pa_nil))))))), ?_⟩
  simp only [tSeq, tIfS, tTest, tB, tAnd, tOr, tNot, tAndV, tOrV, tNotV, tIf, tOp, tUn, tChain, rEq, rNe, rI0, rI, rU, tCallR, tCons, tNil, tC, tVar, tRet, tRetN, tTup_k, tLst_k, tCB, tNext, tAsg, gName, gTup, gCons, gNil, tDrop, tPar, tFld, ClX.tCVal, tPropR, rBin, rBinT, rNeOwn, rSetL_k, gSub, tMakeK_k, tMethR, rInO, tDNewK_k, tYes, wipe, tMakeR_k, tSMeth, tSMethK, rMulS, decide_true, tNever, sFld, rIsiT, and_false, rListOf, rTupOf, rLenSeq, rIxL, rIxT, rIxS, rCat_k, rRep_k, rSlL_k, rSlS, rNewStrs_k, rAppend_k, tBM, tBM0, tM0, tM1, tSl, tNoPart, tPart, tLc_k, tFor_k, iList, iTup, iEnumT, iRng1, iRng2, iRng2L, iStr, L2.start, List.map, List.length_cons, List.length_nil, List.cons_append, List.nil_append, List.getElem?_cons_succ, List.getElem?_cons_zero, Option.some.injEq, V.int.injEq, V.bl.injEq, V.str.injEq, V.ref.injEq, exists_eq_left', exists_eq_left, and_assoc, exists_and_left, exists_eq, exists_eq', true_and, and_true, List.set_cons_zero, List.set_cons_succ, List.set, decide_eq_true_eq, Bool.not_eq_true', if_true, if_false, rIx, cx_K, nox_K, List.replicate_succ, List.replicate_zero, Nat.reduceSub, Bool.true_eq_false, Bool.false_eq_true, Nat.reduceAdd, List.cons.injEq, reduceCtorEq, false_and, false_or, or_false, tAug, rSetO, rStrO, rUn, rBinI, rBinR, rJoin, tJs, tOrT, rIsi, tCallOI, rBinT, tFCall, tCall, tPar3, tFmtO, tMethSF, tFmt, rExtend]
  exact ⟨_, _, _, hb, T.c_Box.cl, T.a_Box_x0, _, bxF_x0 .., _, _, _, hb, T.c_Box.cl, T.a_Box_x1, _, bxF_x1 .., _, _, _, hb, T.c_Box.cl, T.a_Box_y0, _, bxF_y0 .., _, _, _, hb, T.c_Box.cl, T.a_Box_y1, _, bxF_y1 .., kNew.mk (by show 4 ≤ sizeLine; decide) fun t H' f => k t H' f⟩
theorem ok_bcall (T : Txt K mg a) : FnR P w K mg base (CX P w) 6 a.Box_call (spBCall a.Box a.Place) := by
  have G_check_size : FnR P w K mg base (CX P w) 3 a.check_size (spSizeX K a.BadSize) := ok_sizeX T
  have G_Place_call : FnR P w K mg base (CX P w) 4 a.Place_call (spPCallX K a.Place a.BadSize) := ok_p_callX T
  refine T.d_Box_call.okX sc_Box_call (fun _ _ _ _ _ _ us hl => match us, hl with | [_, _, _], _ => rfl) (fun vs H Q E h => by obtain ⟨b, q, w, h, rfl, _⟩ := h; rfl) (fun cdv A outer s H vs Q E hr h => ?_)
  obtain ⟨b, q, wd, hg, rfl, ⟨dx, p0, p1, p2, p3, hb, h0, h1, h2, h3⟩, w1, g1, mx0, mx1, my0, my1, k⟩ := h
  refine ⟨_, (pss_cons (ps_expr (pe_callR G_check_size (hr.mono (by decide)) T.m_check_size T.k_check_size (passUp (takes_of rfl rfl rfl rfl)) (pa_cons (pv 1) (pa_cons pe_str pa_nil))))
      (pss_cons (ps_expr (pe_callR G_check_size (hr.mono (by decide)) T.m_check_size T.k_check_size (passUp (takes_of rfl rfl rfl rfl)) (pa_cons (pv 2) (pa_cons pe_str pa_nil))))
      (pss_one (ps_ret (pe_tup (pa_cons (pe_fcall (pv 0) ⟨T.o_Place_call, T.f_Place_call, T.fi_Place_call⟩ G_Place_call (hr.mono (by decide)) (passUp (takes_of rfl rfl rfl rfl)) (pa_cons (pv 1) pa_nil)) (pa_cons (pe_fcall (pv 0) ⟨T.o_Place_call, T.f_Place_call, T.fi_Place_call⟩ G_Place_call (hr.mono (by decide)) (passUp (takes_of rfl rfl rfl rfl)) (pa_cons (pv 1) pa_nil)) (pa_cons (pe_fcall (pv 0) ⟨T.o_Place_call, T.f_Place_call, T.fi_Place_call⟩ G_Place_call (hr.mono (by decide)) (passUp (takes_of rfl rfl rfl rfl)) (pa_cons (pv 2) pa_nil)) (pa_cons (pe_fcall (pv 0) ⟨T.o_Place_call, T.f_Place_call, T.fi_Place_call⟩ G_Place_call (hr.mono (by decide)) (passUp (takes_of rfl rfl rfl rfl)) (pa_cons (pv 2) pa_nil)) pa_nil))))))))), ?_⟩
  simp only [tSeq, tIfS, tTest, tB, tAnd, tOr, tNot, tAndV, tOrV, tNotV, tIf, tOp, tUn, tChain, rEq, rNe, rI0, rI, rU, tCallR, tCons, tNil, tC, tVar, tRet, tRetN, tTup_k, tLst_k, tCB, tNext, tAsg, gName, gTup, gCons, gNil, tDrop, tPar, tFld, ClX.tCVal, tPropR, rBin, rBinT, rNeOwn, rSetL_k, gSub, tMakeK_k, tMethR, rInO, tDNewK_k, tYes, wipe, tMakeR_k, tSMeth, tSMethK, rMulS, decide_true, tNever, sFld, rIsiT, and_false, rListOf, rTupOf, rLenSeq, rIxL, rIxT, rIxS, rCat_k, rRep_k, rSlL_k, rSlS, rNewStrs_k, rAppend_k, tBM, tBM0, tM0, tM1, tSl, tNoPart, tPart, tLc_k, tFor_k, iList, iTup, iEnumT, iRng1, iRng2, iRng2L, iStr, L2.start, List.map, List.length_cons, List.length_nil, List.cons_append, List.nil_append, List.getElem?_cons_succ, List.getElem?_cons_zero, Option.some.injEq, V.int.injEq, V.bl.injEq, V.str.injEq, V.ref.injEq, exists_eq_left', exists_eq_left, and_assoc, exists_and_left, exists_eq, exists_eq', true_and, and_true, List.set_cons_zero, List.set_cons_succ, List.set, decide_eq_true_eq, Bool.not_eq_true', if_true, if_false, rIx, cx_K, nox_K, List.replicate_succ, List.replicate_zero, Nat.reduceSub, Bool.true_eq_false, Bool.false_eq_true, Nat.reduceAdd, List.cons.injEq, reduceCtorEq, false_and, false_or, or_false, tAug, rSetO, rStrO, rUn, rBinI, rBinR, rJoin, tJs, tOrT, rIsi, tCallOI, rBinT, tFCall, tCall, tPar3, tFmtO, tMethSF, tFmt, rExtend]
  refine ⟨_, _, rfl, .inl ⟨wd, rfl, w1, _, _, rfl, .inl ⟨hg, rfl, g1, _, dx, _, hb, T.c_Box.cl, T.a_Box_x0, p0, bxF_x0 .., h0.ins, p0, _, rfl, .inl ⟨_, _, _, wd, h0, rfl, w1, mx0.1, mx0.2, ?_⟩⟩⟩⟩
  refine ⟨_, dx, _, hb, T.c_Box.cl, T.a_Box_x1, p1, bxF_x1 .., h1.ins, p1, _, rfl, .inl ⟨_, _, _, wd, h1, rfl, w1, mx1.1, mx1.2, ?_⟩⟩
  refine ⟨_, dx, _, hb, T.c_Box.cl, T.a_Box_y0, p2, bxF_y0 .., h2.ins, p2, _, rfl, .inl ⟨_, _, _, hg, h2, rfl, g1, my0.1, my0.2, ?_⟩⟩
  refine ⟨_, dx, _, hb, T.c_Box.cl, T.a_Box_y1, p3, bxF_y1 .., h3.ins, p3, _, rfl, .inl ⟨_, _, _, hg, h3, rfl, g1, my1.1, my1.2, ?_⟩⟩
  exact kNew.mk (by show 4 ≤ sizeLine; decide) fun t H' f => k t H' f
/-- sizes that a box refuses -/
theorem ok_bcallX (T : Txt K mg a) : FnR P w K mg base (CX P w) 6 a.Box_call (spBCallX K a.BadSize) := by
  have G_check_size : FnR P w K mg base (CX P w) 3 a.check_size (spSizeX K a.BadSize) := ok_sizeX T
  have G_Place_call : FnR P w K mg base (CX P w) 4 a.Place_call (spPCallX K a.Place a.BadSize) := ok_p_callX T
  refine T.d_Box_call.okX sc_Box_call (fun _ _ _ _ _ _ us hl => match us, hl with | [_, _, _], _ => rfl) (fun vs H Q E h => by obtain ⟨b, v, u, rfl, _⟩ := h; rfl) (fun cdv A outer s H vs Q E hr h => ?_)
  obtain ⟨b, v, u, rfl, h⟩ := h
  refine ⟨_, (pss_cons (ps_expr (pe_callR G_check_size (hr.mono (by decide)) T.m_check_size T.k_check_size (passUp (takes_of rfl rfl rfl rfl)) (pa_cons (pv 1) (pa_cons pe_str pa_nil))))
      (pss_cons (ps_expr (pe_callR G_check_size (hr.mono (by decide)) T.m_check_size T.k_check_size (passUp (takes_of rfl rfl rfl rfl)) (pa_cons (pv 2) (pa_cons pe_str pa_nil))))
      (pss_one (ps_ret (pe_tup (pa_cons (pe_fcall (pv 0) ⟨T.o_Place_call, T.f_Place_call, T.fi_Place_call⟩ G_Place_call (hr.mono (by decide)) (passUp (takes_of rfl rfl rfl rfl)) (pa_cons (pv 1) pa_nil)) (pa_cons (pe_fcall (pv 0) ⟨T.o_Place_call, T.f_Place_call, T.fi_Place_call⟩ G_Place_call (hr.mono (by decide)) (passUp (takes_of rfl rfl rfl rfl)) (pa_cons (pv 1) pa_nil)) (pa_cons (pe_fcall (pv 0) ⟨T.o_Place_call, T.f_Place_call, T.fi_Place_call⟩ G_Place_call (hr.mono (by decide)) (passUp (takes_of rfl rfl rfl rfl)) (pa_cons (pv 2) pa_nil)) (pa_cons (pe_fcall (pv 0) ⟨T.o_Place_call, T.f_Place_call, T.fi_Place_call⟩ G_Place_call (hr.mono (by decide)) (passUp (takes_of rfl rfl rfl rfl)) (pa_cons (pv 2) pa_nil)) pa_nil))))))))), ?_⟩
  simp only [tSeq, tIfS, tTest, tB, tAnd, tOr, tNot, tAndV, tOrV, tNotV, tIf, tOp, tUn, tChain, rEq, rNe, rI0, rI, rU, tCallR, tCons, tNil, tC, tVar, tRet, tRetN, tTup_k, tLst_k, tCB, tNext, tAsg, gName, gTup, gCons, gNil, tDrop, tPar, tFld, ClX.tCVal, tPropR, rBin, rBinT, rNeOwn, rSetL_k, gSub, tMakeK_k, tMethR, rInO, tDNewK_k, tYes, wipe, tMakeR_k, tSMeth, tSMethK, rMulS, decide_true, tNever, sFld, rIsiT, and_false, rListOf, rTupOf, rLenSeq, rIxL, rIxT, rIxS, rCat_k, rRep_k, rSlL_k, rSlS, rNewStrs_k, rAppend_k, tBM, tBM0, tM0, tM1, tSl, tNoPart, tPart, tLc_k, tFor_k, iList, iTup, iEnumT, iRng1, iRng2, iRng2L, iStr, L2.start, List.map, List.length_cons, List.length_nil, List.cons_append, List.nil_append, List.getElem?_cons_succ, List.getElem?_cons_zero, Option.some.injEq, V.int.injEq, V.bl.injEq, V.str.injEq, V.ref.injEq, exists_eq_left', exists_eq_left, and_assoc, exists_and_left, exists_eq, exists_eq', true_and, and_true, List.set_cons_zero, List.set_cons_succ, List.set, decide_eq_true_eq, Bool.not_eq_true', if_true, if_false, rIx, cx_K, nox_K, List.replicate_succ, List.replicate_zero, Nat.reduceSub, Bool.true_eq_false, Bool.false_eq_true, Nat.reduceAdd, List.cons.injEq, reduceCtorEq, false_and, false_or, or_false, tAug, rSetO, rStrO, rUn, rBinI, rBinR, rJoin, tJs, tOrT, rIsi, tCallOI, rBinT, tFCall, tCall, tPar3, tFmtO, tMethSF, tFmt, rExtend]
  rcases h with ⟨hv, k⟩ | ⟨i, rfl, hi, hu, k⟩
  · exact ⟨_, _, rfl, .inr ⟨hv, k⟩⟩
  · exact ⟨_, _, rfl, .inl ⟨i, rfl, hi, _, _, rfl, .inr ⟨hu, k⟩⟩⟩
end
end Pf
end
section
namespace Pf
open PySem PySem.Spec PyProof.Rows L2 Ow StX
def NewB (B C : Addr) (H : Hp) (q : Bx) (Q : VK) : Prop := ∀ b H', Same H H' → H b = none → BoxAt H' B C b q → Q (.ref b) H'
theorem newB_make {K : PySem.W.Frag} {B C : Addr} {H : Hp} {v0 v1 v2 v3 : V} {q : Bx} {Q : VK} {E : XK} (i0 : InP K C H v0 q.x0) (i1 : InP K C H v1 q.x1) (i2 : InP K C H v2 q.y0) (i3 : InP K C H v3 q.y1) (k : NewB B C H q Q) : kMake B (spBInit K B C) E Q [v0, v1, v2, v3] H :=
  kMake.mk fun x dx H1 s1 nx hx so => ⟨x, dx, v0, v1, v2, v3, q, rfl, hx, i0.same s1, i1.same s1, i2.same s1, i3.same s1, fun H' m hB => ⟨rfl, k x H' (fun b' u e => m b' u (ne_of_none e nx) (s1 _ _ e)) nx hB⟩⟩
def BdP (q : Pl) : Prop := Bd q.s q.o q.d
instance (q : Pl) : Decidable (BdP q) := inferInstanceAs (Decidable (Bd ..))
theorem bd_zero : Bd1 0 := by decide
theorem bd_one : Bd1 1 := by decide
theorem bd_two : Bd1 2 := by decide
theorem bd_neg {m : Int} (h : Bd1 m) : Bd1 (-m) := by
  obtain ⟨h1, h2⟩ := h
  exact ⟨by omega, by omega⟩
theorem BoxAt.ins {H : Hp} {B C b : Addr} {q : Bx} (h : BoxAt H B C b q) : InsAt H b B := by
  obtain ⟨dx, p0, p1, p2, p3, e, _⟩ := h
  exact ⟨dx, _, e⟩
end Pf
end
section
namespace Pf
open PySem PySem.Spec PyProof.Rows L2 Ow StX
open SX (S)
def DigL (r : List Nat) : Prop := ∀ c ∈ r, 48 ≤ c ∧ c ≤ 57
structure Good (w : Nat) (rs : List (List Nat)) : Prop where
  l0 : 1 ≤ rs.length
  l1 : rs.length ≤ 200
  w0 : 1 ≤ w
  w1 : w ≤ 200
  row : ∀ r ∈ rs, r.length = w ∧ DigL r
abbrev rowsV (rs : List (List Nat)) : List V := rs.map fun r => V.str (S r)
def Pic (H : Hp) (C x : Addr) (rs : List (List Nat)) : Prop := ∃ dx t, H x = some (.ins C dx [("_rows", .ref t)]) ∧ H t = some (.tup (rowsV rs))
theorem Pic.same {H H' : Hp} {C x : Addr} {rs : List (List Nat)} (p : Pic H C x rs) (s : Same H H') : Pic H' C x rs := by
  obtain ⟨dx, t, h1, h2⟩ := p
  exact ⟨dx, t, s _ _ h1, s _ _ h2⟩
theorem Pic.ins {H : Hp} {C x : Addr} {rs : List (List Nat)} (p : Pic H C x rs) : InsAt H x C := by
  obtain ⟨dx, t, h1, h2⟩ := p
  exact ⟨dx, _, h1⟩
theorem dig_isDigit {c : Nat} (h : 48 ≤ c ∧ c ≤ 57) : Unicode.isDigit c = true := by
  obtain ⟨h1, h2⟩ := h
  rcases (by omega : c = 48 ∨ c = 49 ∨ c = 50 ∨ c = 51 ∨ c = 52 ∨ c = 53 ∨ c = 54 ∨ c = 55 ∨ c = 56 ∨ c = 57) with rfl | rfl | rfl | rfl | rfl | rfl | rfl | rfl | rfl | rfl <;> decide +kernel
theorem digL_ascii {r : List Nat} (h : DigL r) : Txt.isascii (S r) = true := by
  show (r.toArray.all fun c => decide (c < 128)) = true
  rw [← Array.all_toList]
  exact List.all_eq_true.mpr fun c hc => decide_eq_true (by have := h c hc; omega)
theorem digL_digit {r : List Nat} (h : DigL r) (h0 : 1 ≤ r.length) : Txt.isdigit (S r) = true := by
  show (decide ((S r).length > 0) && r.toArray.all fun c => Unicode.isDigit c) = true
  rw [← Array.all_toList, SX.S_len, Bool.and_eq_true]
  exact ⟨decide_eq_true (by omega), List.all_eq_true.mpr fun c hc => dig_isDigit (h c hc)⟩
theorem size200 {n : Nat} (h : n ≤ 200) : n ≤ sizeLine := Nat.le_trans h (by decide +kernel)
def spIntIn (K : PySem.W.Frag) : Sp := fun vs H Q _ => ∃ v lo hi, vs = [v, .int lo, .int hi] ∧ ((∃ i, v = .int i ∧ Q (.bl (decide (lo ≤ i) && decide (i < hi))) H) ∨ (NoInt K H v ∧ Q (.bl false) H))
def spIsCol (K : PySem.W.Frag) : Sp := fun vs H Q _ => ∃ v, vs = [v] ∧ ((∃ i, v = .int i ∧ Q (.bl (decide (0 ≤ i) && decide (i < 10))) H) ∨ (NoInt K H v ∧ Q (.bl false) H))
def spIsRow : Sp := fun vs H Q _ => ∃ (r : List Nat) (m : Int), vs = [.str (S r), .int m] ∧ DigL r ∧ 1 ≤ r.length ∧ r.length ≤ 200 ∧ (r.length : Int) ≤ m ∧ Q (.bl true) H
def spWrong (K : PySem.W.Frag) : Sp := fun vs H Q _ => ∃ (l : Addr) (w : Nat) (rs : List (List Nat)), vs = [.ref l, .int 200] ∧ Good w rs ∧ (SqL K H l (rowsV rs) ∨ SqT K H l (rowsV rs)) ∧ ∀ H', Same H H' → Q .non H'
section
variable {P : Program} {w : World} {K : PySem.W.Frag} {mg : Str → Option Value} {base : Heap} {a : Adr}
set_option maxHeartbeats 4000000
theorem ok_int_in (T : Txt K mg a) : FnR P w K mg base CX0 2 a.is_int_in (spIntIn K) := by
  have G_is_int : FnR P w K mg base CX0 1 a.is_int (spIntV K) := ok_intV T
  refine T.d_is_int_in.ok sc_is_int_in (fun _ _ _ _ _ _ us hl => match us, hl with | [_, _, _], _ => rfl) (fun vs H Q E h => by obtain ⟨v, lo, hi, rfl, _⟩ := h; rfl) (fun cdv A outer s H vs Q E hr h => ?_)
  obtain ⟨v, lo, hi, rfl, h⟩ := h
  refine ⟨_, (pss_one (ps_ret (pe_and (pe_callR G_is_int (hr.mono (by decide)) T.m_is_int T.k_is_int pass0 (pa_cons (pv 0) pa_nil)) (pe_one (pe_chain op_le op_lt (pv 1) (pv 0) (pv 2)))))), ?_⟩
  simp only [tSeq, tIfS, tTest, tB, tAnd, tOr, tNot, tAndV, tOrV, tNotV, tIf, tOp, tUn, tChain, rEq, rNe, rI0, rI, rU, tCallR, tCons, tNil, tC, tVar, tRet, tRetN, tTup_k, tLst_k, tCB, tNext, tAsg, gName, gTup, gCons, gNil, tDrop, tPar, tFld, ClX.tCVal, tPropR, rBin, rBinT, rNeOwn, rSetL_k, gSub, tMakeK_k, tMethR, rInO, tDNewK_k, tYes, wipe, tMakeR_k, tSMeth, tSMethK, rMulS, decide_true, tNever, sFld, rIsiT, and_false, rListOf, rTupOf, rLenSeq, rIxL, rIxT, rIxS, rCat_k, rRep_k, rSlL_k, rSlS, rNewStrs_k, rAppend_k, tBM, tBM0, tM0, tM1, tSl, tNoPart, tPart, tLc_k, tFor_k, iList, iTup, iEnumT, iRng1, iRng2, iRng2L, iStr, L2.start, List.map, List.length_cons, List.length_nil, List.cons_append, List.nil_append, List.getElem?_cons_succ, List.getElem?_cons_zero, Option.some.injEq, V.int.injEq, V.bl.injEq, V.str.injEq, V.ref.injEq, exists_eq_left', exists_eq_left, and_assoc, exists_and_left, exists_eq, exists_eq', true_and, and_true, List.set_cons_zero, List.set_cons_succ, List.set, decide_eq_true_eq, Bool.not_eq_true', if_true, if_false, rIx, cx_K, nox_K, List.replicate_succ, List.replicate_zero, Nat.reduceSub, Bool.true_eq_false, Bool.false_eq_true, Nat.reduceAdd, List.cons.injEq, reduceCtorEq, false_and, false_or, or_false, tAug, rSetO, rJoin, rExtend]
  rcases h with ⟨i, rfl, k⟩ | ⟨hn, k⟩
  · refine ⟨_, rfl, .inl ⟨i, rfl, true, rfl, ?_⟩⟩
    simp only [tSeq, tIfS, tTest, tB, tAnd, tOr, tNot, tAndV, tOrV, tNotV, tIf, tOp, tUn, tChain, rEq, rNe, rI0, rI, rU, tCallR, tCons, tNil, tC, tVar, tRet, tRetN, tTup_k, tLst_k, tCB, tNext, tAsg, gName, gTup, gCons, gNil, tDrop, tPar, tFld, ClX.tCVal, tPropR, rBin, rBinT, rNeOwn, rSetL_k, gSub, tMakeK_k, tMethR, rInO, tDNewK_k, tYes, wipe, tMakeR_k, tSMeth, tSMethK, rMulS, decide_true, tNever, sFld, rIsiT, and_false, rListOf, rTupOf, rLenSeq, rIxL, rIxT, rIxS, rCat_k, rRep_k, rSlL_k, rSlS, rNewStrs_k, rAppend_k, tBM, tBM0, tM0, tM1, tSl, tNoPart, tPart, tLc_k, tFor_k, iList, iTup, iEnumT, iRng1, iRng2, iRng2L, iStr, L2.start, List.map, List.length_cons, List.length_nil, List.cons_append, List.nil_append, List.getElem?_cons_succ, List.getElem?_cons_zero, Option.some.injEq, V.int.injEq, V.bl.injEq, V.str.injEq, V.ref.injEq, exists_eq_left', exists_eq_left, and_assoc, exists_and_left, exists_eq, exists_eq', true_and, and_true, List.set_cons_zero, List.set_cons_succ, List.set, decide_eq_true_eq, Bool.not_eq_true', if_true, if_false, rIx, cx_K, nox_K, List.replicate_succ, List.replicate_zero, Nat.reduceSub, Bool.true_eq_false, Bool.false_eq_true, Nat.reduceAdd, List.cons.injEq, reduceCtorEq, false_and, false_or, or_false, tAug, rSetO, rJoin, rExtend]
    by_cases h : lo ≤ i
    · simpa [h] using k
    · simpa [h] using k
  · exact ⟨_, rfl, .inr ⟨hn, false, rfl, k⟩⟩
theorem ok_is_colour (T : Txt K mg a) : FnR P w K mg base CX0 3 a.is_colour (spIsCol K) := by
  have G_is_int_in : FnR P w K mg base CX0 2 a.is_int_in (spIntIn K) := ok_int_in T
  refine T.d_is_colour.ok sc_is_colour (fun _ _ _ _ _ _ us hl => match us, hl with | [_], _ => rfl) (fun vs H Q E h => by obtain ⟨v, rfl, _⟩ := h; rfl) (fun cdv A outer s H vs Q E hr h => ?_)
  obtain ⟨v, rfl, h⟩ := h
  refine ⟨_, (pss_one (ps_ret (pe_callR G_is_int_in (hr.mono (by decide)) T.m_is_int_in T.k_is_int_in pass0 (pa_cons (pv 0) (pa_cons pe_int (pa_cons pe_int pa_nil)))))), ?_⟩
  simp only [tSeq, tIfS, tTest, tB, tAnd, tOr, tNot, tAndV, tOrV, tNotV, tIf, tOp, tUn, tChain, rEq, rNe, rI0, rI, rU, tCallR, tCons, tNil, tC, tVar, tRet, tRetN, tTup_k, tLst_k, tCB, tNext, tAsg, gName, gTup, gCons, gNil, tDrop, tPar, tFld, ClX.tCVal, tPropR, rBin, rBinT, rNeOwn, rSetL_k, gSub, tMakeK_k, tMethR, rInO, tDNewK_k, tYes, wipe, tMakeR_k, tSMeth, tSMethK, rMulS, decide_true, tNever, sFld, rIsiT, and_false, rListOf, rTupOf, rLenSeq, rIxL, rIxT, rIxS, rCat_k, rRep_k, rSlL_k, rSlS, rNewStrs_k, rAppend_k, tBM, tBM0, tM0, tM1, tSl, tNoPart, tPart, tLc_k, tFor_k, iList, iTup, iEnumT, iRng1, iRng2, iRng2L, iStr, L2.start, List.map, List.length_cons, List.length_nil, List.cons_append, List.nil_append, List.getElem?_cons_succ, List.getElem?_cons_zero, Option.some.injEq, V.int.injEq, V.bl.injEq, V.str.injEq, V.ref.injEq, exists_eq_left', exists_eq_left, and_assoc, exists_and_left, exists_eq, exists_eq', true_and, and_true, List.set_cons_zero, List.set_cons_succ, List.set, decide_eq_true_eq, Bool.not_eq_true', if_true, if_false, rIx, cx_K, nox_K, List.replicate_succ, List.replicate_zero, Nat.reduceSub, Bool.true_eq_false, Bool.false_eq_true, Nat.reduceAdd, List.cons.injEq, reduceCtorEq, false_and, false_or, or_false, tAug, rSetO, rJoin, rExtend]
  exact ⟨_, _, _, rfl, h⟩
end
/-- no colour -/
def BadC (K : PySem.W.Frag) (H : Hp) (v : V) : Prop := NoInt K H v ∨ ∃ i : Int, v = .int i ∧ ¬ (0 ≤ i ∧ i < 10)
def spChColE (K : PySem.W.Frag) (B : Addr) : Sp := fun vs H Q E => ∃ v, vs = [v] ∧ ((∃ i : Int, v = .int i ∧ 0 ≤ i ∧ i < 10 ∧ Q .non H) ∨ (BadC K H v ∧ Out1 B "value" H E v))
section
variable {P : Program} {w : World} {K : PySem.W.Frag} {mg : Str → Option Value} {base : Heap} {a : Adr}
set_option maxHeartbeats 4000000
theorem ok_badcolour (T : Txt K mg a) : ∃ fd, FnOk P w K mg base CX0 1 a.BadColour_init fd ["self", "value"] (spErr1 a.BadColour "value") ∧ Binds K fd ["self", "value"] [] := by
  refine T.d_BadColour_init.okB sc_BadColour_init (fun _ _ _ _ _ _ us hl => match us, hl with | [_, _], _ => rfl) (fun vs H Q E h => by obtain ⟨b, v, rfl, _⟩ := h; rfl) (fun cdv A outer s H vs Q E hr h => ?_)
  obtain ⟨b, v, rfl, hb, k⟩ := h
  exact ⟨_, (pss_one (ps_ost (pv 0) (pv 1))), _, rfl, _, rfl, b, _, rfl, T.e_BadColour.ox, T.a_BadColour_value, .inl ⟨hb, k⟩⟩
theorem ok_check_colourE (T : Txt K mg a) : FnR P w K mg base (CX P w) 4 a.check_colour (spChColE K a.BadColour) := by
  have G_is_colour : FnR P w K mg base CX0 3 a.is_colour (spIsCol K) := ok_is_colour T
  obtain ⟨_, O_BadColour, B_BadColour⟩ := ok_badcolour (P := P) (w := w) (base := base) T
  refine T.d_check_colour.okX sc_check_colour (fun _ _ _ _ _ _ us hl => match us, hl with | [_], _ => rfl) (fun vs H Q E h => by obtain ⟨v, rfl, _⟩ := h; rfl) (fun cdv A outer s H vs Q E hr h => ?_)
  obtain ⟨v, rfl, h⟩ := h
  refine ⟨_, (pss_one (ps_if (pt_not (pt_val (pe_callR G_is_colour (hr.mono (by decide)) T.m_is_colour T.k_is_colour pass0 (pa_cons (pv 0) pa_nil))))
          (pss_one (ps_raise rfl (takes_of rfl rfl rfl rfl) (pmk_oex T.e_BadColour.ox T.e_BadColour.iC T.e_BadColour.tI O_BadColour (hr.mono (by decide)) B_BadColour .nil pass0 rfl T.m_BadColour (pa_cons (pv 0) pa_nil))))
          pss_nil)), ?_⟩
  simp only [tSeq, tIfS, tTest, tB, tAnd, tOr, tNot, tAndV, tOrV, tNotV, tIf, tOp, tUn, tChain, rEq, rNe, rI0, rI, rU, tCallR, tCons, tNil, tC, tVar, tRet, tRetN, tTup_k, tLst_k, tCB, tNext, tAsg, gName, gTup, gCons, gNil, tDrop, tPar, tFld, ClX.tCVal, tPropR, rBin, rBinT, rNeOwn, rSetL_k, gSub, tMakeK_k, tMethR, rInO, tDNewK_k, tYes, wipe, tMakeR_k, tSMeth, tSMethK, rMulS, decide_true, tNever, sFld, rIsiT, and_false, rListOf, rTupOf, rLenSeq, rIxL, rIxT, rIxS, rCat_k, rRep_k, rSlL_k, rSlS, rNewStrs_k, rAppend_k, tBM, tBM0, tM0, tM1, tSl, tNoPart, tPart, tLc_k, tFor_k, iList, iTup, iEnumT, iRng1, iRng2, iRng2L, iStr, L2.start, List.map, List.length_cons, List.length_nil, List.cons_append, List.nil_append, List.getElem?_cons_succ, List.getElem?_cons_zero, Option.some.injEq, V.int.injEq, V.bl.injEq, V.str.injEq, V.ref.injEq, exists_eq_left', exists_eq_left, and_assoc, exists_and_left, exists_eq, exists_eq', true_and, and_true, List.set_cons_zero, List.set_cons_succ, List.set, decide_eq_true_eq, Bool.not_eq_true', if_true, if_false, rIx, cx_K, nox_K, List.replicate_succ, List.replicate_zero, Nat.reduceSub, Bool.true_eq_false, Bool.false_eq_true, Nat.reduceAdd, List.cons.injEq, reduceCtorEq, false_and, false_or, or_false, tAug, rSetO, rJoin, rExtend]
  rcases h with ⟨i, rfl, h0, h1, k⟩ | ⟨hn | ⟨i, rfl, hi⟩, k⟩
  · refine ⟨_, rfl, .inl ⟨i, rfl, ?_⟩⟩
    simpa [h0, h1] using k
  · refine ⟨_, rfl, .inr ⟨hn, false, rfl, ?_⟩⟩
    rw [if_pos rfl]
    exact ⟨_, rfl, err1_made k⟩
  · refine ⟨_, rfl, .inl ⟨i, rfl, ?_⟩⟩
    have e : (decide (0 ≤ i) && decide (i < 10)) = false := by
      by_cases h0 : 0 ≤ i
      · rw [decide_eq_false (fun z => hi ⟨h0, z⟩), Bool.and_false]
      · rw [decide_eq_false h0, Bool.false_and]
    rw [e]
    refine ⟨false, rfl, ?_⟩
    rw [if_pos rfl]
    exact ⟨_, rfl, err1_made k⟩
end
end Pf
end
section
namespace Pf
open PySem PySem.Spec PyProof.Rows L2 Ow StX
open SX (S)
theorem rowsV_get {rs : List (List Nat)} {i : Nat} {x : V} (h : (rowsV rs)[i]? = some x) : ∃ r, rs[i]? = some r ∧ x = .str (S r) := by
  rw [List.getElem?_map] at h
  cases q : rs[i]? with
  | none => rw [q] at h; cases h
  | some r => rw [q] at h; cases h; exact ⟨r, rfl, rfl⟩
theorem Good.at_ {w i : Nat} {rs : List (List Nat)} {r : List Nat} (g : Good w rs) (h : rs[i]? = some r) : r.length = w ∧ DigL r := g.row r (List.mem_of_getElem? h)
theorem at0 {rs : List (List Nat)} {w : Nat} (g : Good w rs) : ∃ r, rs[0]? = some r ∧ atI (rowsV rs) 0 = some (.str (S r)) := by
  cases rs with
  | nil => exact absurd g.l0 (by decide)
  | cons r t => exact ⟨r, rfl, atI_nat (j := 0) rfl⟩
theorem Good.len {w : Nat} {rs : List (List Nat)} {r : List Nat} (g : Good w rs) (h : r ∈ rs) : r.length ≤ 200 := by rw [(g.row r h).1]; exact g.w1
theorem rowsV_len (rs : List (List Nat)) : (rowsV rs).length = rs.length := List.length_map ..
section
variable {P : Program} {w : World} {K : PySem.W.Frag} {mg : Str → Option Value} {base : Heap} {a : Adr}
set_option maxHeartbeats 4000000
theorem ok_is_row (T : Txt K mg a) : FnR P w K mg base CX0 1 a.is_row spIsRow := by
  refine T.d_is_row.ok sc_is_row (fun _ _ _ _ _ _ us hl => match us, hl with | [_, _], _ => rfl) (fun vs H Q E h => by obtain ⟨r, m, rfl, _⟩ := h; rfl) (fun cdv A outer s H vs Q E hr h => ?_)
  obtain ⟨r, m, rfl, hd, h0, hl, hm, k⟩ := h
  refine ⟨_, (pss_one (ps_ret (pe_and (pe_callB call_isi (by rfl) T.n_isinstance (by decide +kernel) (pa_cons (pv 0) (pa_cons (pe_bltn (v := .ty "str") (by rfl) T.n_str (by decide +kernel) rfl) pa_nil))) (pe_and (pe_m0 PySem.F.slot_str_isascii PySem.F.type_str_isascii mt_isascii (pv 0)) (pe_and (pe_m0 PySem.F.slot_str_isdigit PySem.F.type_str_isdigit mt_isdigit (pv 0)) (pe_one (pe_cmpR op_le (pe_callB call_len_str (by rfl) T.n_len (by decide +kernel) (pa_cons (pv 0) pa_nil)) (pv 1) (nomark _)))))))), ?_⟩
  simp only [tSeq, tIfS, tTest, tB, tAnd, tOr, tNot, tAndV, tOrV, tNotV, tIf, tOp, tUn, tChain, rEq, rNe, rI0, rI, rU, tCallR, tCons, tNil, tC, tVar, tRet, tRetN, tTup_k, tLst_k, tCB, tNext, tAsg, gName, gTup, gCons, gNil, tDrop, tPar, tFld, ClX.tCVal, tPropR, rBin, rBinT, rNeOwn, rSetL_k, gSub, tMakeK_k, tMethR, rInO, tDNewK_k, tYes, wipe, tMakeR_k, tSMeth, tSMethK, rMulS, decide_true, tNever, sFld, rIsiT, and_false, rListOf, rTupOf, rLenSeq, rIxL, rIxT, rIxS, rCat_k, rRep_k, rSlL_k, rSlS, rNewStrs_k, rAppend_k, tBM, tBM0, tM0, tM1, tSl, tNoPart, tPart, tLc_k, tFor_k, iList, iTup, iEnumT, iRng1, iRng2, iRng2L, iStr, L2.start, List.map, List.length_cons, List.length_nil, List.cons_append, List.nil_append, List.getElem?_cons_succ, List.getElem?_cons_zero, Option.some.injEq, V.int.injEq, V.bl.injEq, V.str.injEq, V.ref.injEq, exists_eq_left', exists_eq_left, and_assoc, exists_and_left, exists_eq, exists_eq', true_and, and_true, List.set_cons_zero, List.set_cons_succ, List.set, decide_eq_true_eq, Bool.not_eq_true', if_true, if_false, rIx, cx_K, nox_K, List.replicate_succ, List.replicate_zero, Nat.reduceSub, Bool.true_eq_false, Bool.false_eq_true, Nat.reduceAdd, List.cons.injEq, reduceCtorEq, false_and, false_or, or_false, tAug, rSetO, rJoin, rExtend]
  refine ⟨_, _, _, _, true, rfl, .ty _, .base (.str _), kit_self, _, rfl, ?_⟩
  simp only [digL_ascii hd, digL_digit hd h0, tSeq, tIfS, tTest, tB, tAnd, tOr, tNot, tAndV, tOrV, tNotV, tIf, tOp, tUn, tChain, rEq, rNe, rI0, rI, rU, tCallR, tCons, tNil, tC, tVar, tRet, tRetN, tTup_k, tLst_k, tCB, tNext, tAsg, gName, gTup, gCons, gNil, tDrop, tPar, tFld, ClX.tCVal, tPropR, rBin, rBinT, rNeOwn, rSetL_k, gSub, tMakeK_k, tMethR, rInO, tDNewK_k, tYes, wipe, tMakeR_k, tSMeth, tSMethK, rMulS, decide_true, tNever, sFld, rIsiT, and_false, rListOf, rTupOf, rLenSeq, rIxL, rIxT, rIxS, rCat_k, rRep_k, rSlL_k, rSlS, rNewStrs_k, rAppend_k, tBM, tBM0, tM0, tM1, tSl, tNoPart, tPart, tLc_k, tFor_k, iList, iTup, iEnumT, iRng1, iRng2, iRng2L, iStr, L2.start, List.map, List.length_cons, List.length_nil, List.cons_append, List.nil_append, List.getElem?_cons_succ, List.getElem?_cons_zero, Option.some.injEq, V.int.injEq, V.bl.injEq, V.str.injEq, V.ref.injEq, exists_eq_left', exists_eq_left, and_assoc, exists_and_left, exists_eq, exists_eq', true_and, and_true, List.set_cons_zero, List.set_cons_succ, List.set, decide_eq_true_eq, Bool.not_eq_true', if_true, if_false, rIx, cx_K, nox_K, List.replicate_succ, List.replicate_zero, Nat.reduceSub, Bool.true_eq_false, Bool.false_eq_true, Nat.reduceAdd, List.cons.injEq, reduceCtorEq, false_and, false_or, or_false, tAug, rSetO, rJoin, rExtend]
  rw [SX.S_len, decide_eq_true hm]
  exact ⟨size200 hl, k⟩
theorem ok_wrong_row (T : Txt K mg a) : FnR P w K mg base CX0 2 a.wrong_row (spWrong K) := by
  have G_is_row : FnR P w K mg base CX0 1 a.is_row spIsRow := ok_is_row T
  refine T.d_wrong_row.ok sc_wrong_row (fun _ _ _ _ _ _ us hl => match us, hl with | [_, _], _ => rfl) (fun vs H Q E h => by obtain ⟨l, w, rs, rfl, _⟩ := h; rfl) (fun cdv A outer s H vs Q E hr h => ?_)
  obtain ⟨l, wd, rs, rfl, g, hs, k⟩ := h
  refine ⟨_, (pss_cons (ps_for PassesOwn.never rfl (pi_enumT (by rfl) T.n_enumerate (pa_cons (pv 0) pa_nil)) (pg_tup rfl (pgs_cons (pg_name (i := 2) sc_wrong_row.nd rfl (Or.inl rfl)) (pgs_cons (pg_name (i := 3) sc_wrong_row.nd rfl (Or.inl rfl)) pgs_nil)))
          (pss_one (ps_if (PW.pt (pw_or (pt_not (pt_val (pe_callR G_is_row (hr.mono (by decide)) T.m_is_row T.k_is_row pass0 (pa_cons (pv 3) (pa_cons (pv 1) pa_nil))))) (pw_or1 (pt_cmpR op_ne (pe_callB call_len_str (by rfl) T.n_len (by decide +kernel) (pa_cons (pv 3) pa_nil)) (pe_callB call_len_str (by rfl) T.n_len (by decide +kernel) (pa_cons (pe_ix ix_seq (pv 0) pe_int (fun _ _ => rfl)) pa_nil)) (nomark _)))))
              (pss_one (ps_ret (pv 2)))
              pss_nil)))
      (pss_one (ps_ret pe_non))), ?_⟩
  simp only [tSeq, tIfS, tTest, tB, tAnd, tOr, tNot, tAndV, tOrV, tNotV, tIf, tOp, tUn, tChain, rEq, rNe, rI0, rI, rU, tCallR, tCons, tNil, tC, tVar, tRet, tRetN, tTup_k, tLst_k, tCB, tNext, tAsg, gName, gTup, gCons, gNil, tDrop, tPar, tFld, ClX.tCVal, tPropR, rBin, rBinT, rNeOwn, rSetL_k, gSub, tMakeK_k, tMethR, rInO, tDNewK_k, tYes, wipe, tMakeR_k, tSMeth, tSMethK, rMulS, decide_true, tNever, sFld, rIsiT, and_false, rListOf, rTupOf, rLenSeq, rIxL, rIxT, rIxS, rCat_k, rRep_k, rSlL_k, rSlS, rNewStrs_k, rAppend_k, tBM, tBM0, tM0, tM1, tSl, tNoPart, tPart, tLc_k, tFor_k, iList, iTup, iEnumT, iRng1, iRng2, iRng2L, iStr, L2.start, List.map, List.length_cons, List.length_nil, List.cons_append, List.nil_append, List.getElem?_cons_succ, List.getElem?_cons_zero, Option.some.injEq, V.int.injEq, V.bl.injEq, V.str.injEq, V.ref.injEq, exists_eq_left', exists_eq_left, and_assoc, exists_and_left, exists_eq, exists_eq', true_and, and_true, List.set_cons_zero, List.set_cons_succ, List.set, decide_eq_true_eq, Bool.not_eq_true', if_true, if_false, rIx, cx_K, nox_K, List.replicate_succ, List.replicate_zero, Nat.reduceSub, Bool.true_eq_false, Bool.false_eq_true, Nat.reduceAdd, List.cons.injEq, reduceCtorEq, false_and, false_or, or_false, tAug, rSetO, rJoin, rExtend]
  obtain ⟨r0, hr0, ha0⟩ := at0 g
  have h0 : ∃ (x2 x3 : Option V), Same H H ∧ ([some (V.ref l), some (.int 200), none, none] : List (Option V)) = [some (.ref l), some (.int 200), x2, x3] := ⟨_, _, Same.refl H, rfl⟩
  rcases hs with hs | hs
  · refine ⟨_, .inl ⟨hs, kFor.it walk_enum (fun _ σ H' => ∃ (x2 x3 : Option V), Same H H' ∧ σ = [some (.ref l), some (.int 200), x2, x3]) h0 (fun _ _ H' _ q => by obtain ⟨_, _, s1, _⟩ := q; exact s1.seq hs) (fun i x σ H1 H2 hi hP hY => ?_) fun σ H' q => by obtain ⟨_, _, s1, _⟩ := q; exact k _ s1⟩⟩
    obtain ⟨at_, rw_, s1, rfl⟩ := hP
    obtain ⟨t1, y1, y2, rfl, ht1, rfl, e1, e2⟩ := hY
    cases e1
    obtain ⟨r, hri, rfl⟩ := rowsV_get e2
    have f1 := fresh_upd (o := .tup [.int (i : Nat), .str (S r)]) ht1
    obtain ⟨hw, hd⟩ := g.at_ hri
    have s2 := s1.trans f1.same
    refine ⟨t1, _, rfl, .inl (.inl f1.at_), rfl, ?_⟩
    simp only [tSeq, tIfS, tTest, tB, tAnd, tOr, tNot, tAndV, tOrV, tNotV, tIf, tOp, tUn, tChain, rEq, rNe, rI0, rI, rU, tCallR, tCons, tNil, tC, tVar, tRet, tRetN, tTup_k, tLst_k, tCB, tNext, tAsg, gName, gTup, gCons, gNil, tDrop, tPar, tFld, ClX.tCVal, tPropR, rBin, rBinT, rNeOwn, rSetL_k, gSub, tMakeK_k, tMethR, rInO, tDNewK_k, tYes, wipe, tMakeR_k, tSMeth, tSMethK, rMulS, decide_true, tNever, sFld, rIsiT, and_false, rListOf, rTupOf, rLenSeq, rIxL, rIxT, rIxS, rCat_k, rRep_k, rSlL_k, rSlS, rNewStrs_k, rAppend_k, tBM, tBM0, tM0, tM1, tSl, tNoPart, tPart, tLc_k, tFor_k, iList, iTup, iEnumT, iRng1, iRng2, iRng2L, iStr, L2.start, List.map, List.length_cons, List.length_nil, List.cons_append, List.nil_append, List.getElem?_cons_succ, List.getElem?_cons_zero, Option.some.injEq, V.int.injEq, V.bl.injEq, V.str.injEq, V.ref.injEq, exists_eq_left', exists_eq_left, and_assoc, exists_and_left, exists_eq, exists_eq', true_and, and_true, List.set_cons_zero, List.set_cons_succ, List.set, decide_eq_true_eq, Bool.not_eq_true', if_true, if_false, rIx, cx_K, nox_K, List.replicate_succ, List.replicate_zero, Nat.reduceSub, Bool.true_eq_false, Bool.false_eq_true, Nat.reduceAdd, List.cons.injEq, reduceCtorEq, false_and, false_or, or_false, tAug, rSetO, rJoin, rExtend]
    refine ⟨r, 200, rfl, hd, by rw [hw]; exact g.w0, by rw [hw]; exact g.w1, by rw [hw]; have := g.w1; omega, ?_⟩
    simp only [tSeq, tIfS, tTest, tB, tAnd, tOr, tNot, tAndV, tOrV, tNotV, tIf, tOp, tUn, tChain, rEq, rNe, rI0, rI, rU, tCallR, tCons, tNil, tC, tVar, tRet, tRetN, tTup_k, tLst_k, tCB, tNext, tAsg, gName, gTup, gCons, gNil, tDrop, tPar, tFld, ClX.tCVal, tPropR, rBin, rBinT, rNeOwn, rSetL_k, gSub, tMakeK_k, tMethR, rInO, tDNewK_k, tYes, wipe, tMakeR_k, tSMeth, tSMethK, rMulS, decide_true, tNever, sFld, rIsiT, and_false, rListOf, rTupOf, rLenSeq, rIxL, rIxT, rIxS, rCat_k, rRep_k, rSlL_k, rSlS, rNewStrs_k, rAppend_k, tBM, tBM0, tM0, tM1, tSl, tNoPart, tPart, tLc_k, tFor_k, iList, iTup, iEnumT, iRng1, iRng2, iRng2L, iStr, L2.start, List.map, List.length_cons, List.length_nil, List.cons_append, List.nil_append, List.getElem?_cons_succ, List.getElem?_cons_zero, Option.some.injEq, V.int.injEq, V.bl.injEq, V.str.injEq, V.ref.injEq, exists_eq_left', exists_eq_left, and_assoc, exists_and_left, exists_eq, exists_eq', true_and, and_true, List.set_cons_zero, List.set_cons_succ, List.set, decide_eq_true_eq, Bool.not_eq_true', if_true, if_false, rIx, cx_K, nox_K, List.replicate_succ, List.replicate_zero, Nat.reduceSub, Bool.true_eq_false, Bool.false_eq_true, Nat.reduceAdd, List.cons.injEq, reduceCtorEq, false_and, false_or, or_false, tAug, rSetO, rJoin, rExtend]
    have hw0 := (g.at_ hr0).1
    have q1 := g.w1
    refine ⟨by rw [SX.S_len, hw]; exact size200 q1, ?_⟩
    first
      | refine .inl ⟨_, Same.seq s2 hs, _, ha0, _, rfl, by rw [SX.S_len, hw0]; exact size200 q1, rfl, ?_⟩
      | refine .inr (.inl ⟨_, Same.tup s2 hs, _, ha0, _, rfl, by rw [SX.S_len, hw0]; exact size200 q1, rfl, ?_⟩)
    rw [SX.S_len, SX.S_len, hw, hw0, decide_eq_true rfl]
    exact s2
  · refine ⟨_, .inr ⟨hs, kFor.it walk_enumT (fun _ σ H' => ∃ (x2 x3 : Option V), Same H H' ∧ σ = [some (.ref l), some (.int 200), x2, x3]) h0 (fun _ _ H' _ q => by obtain ⟨_, _, s1, _⟩ := q; exact Same.tup s1 hs) (fun i x σ H1 H2 hi hP hY => ?_) fun σ H' q => by obtain ⟨_, _, s1, _⟩ := q; exact k _ s1⟩⟩
    obtain ⟨at_, rw_, s1, rfl⟩ := hP
    obtain ⟨t1, y1, y2, rfl, ht1, rfl, e1, e2⟩ := hY
    cases e1
    obtain ⟨r, hri, rfl⟩ := rowsV_get e2
    have f1 := fresh_upd (o := .tup [.int (i : Nat), .str (S r)]) ht1
    obtain ⟨hw, hd⟩ := g.at_ hri
    have s2 := s1.trans f1.same
    refine ⟨t1, _, rfl, .inl (.inl f1.at_), rfl, ?_⟩
    simp only [tSeq, tIfS, tTest, tB, tAnd, tOr, tNot, tAndV, tOrV, tNotV, tIf, tOp, tUn, tChain, rEq, rNe, rI0, rI, rU, tCallR, tCons, tNil, tC, tVar, tRet, tRetN, tTup_k, tLst_k, tCB, tNext, tAsg, gName, gTup, gCons, gNil, tDrop, tPar, tFld, ClX.tCVal, tPropR, rBin, rBinT, rNeOwn, rSetL_k, gSub, tMakeK_k, tMethR, rInO, tDNewK_k, tYes, wipe, tMakeR_k, tSMeth, tSMethK, rMulS, decide_true, tNever, sFld, rIsiT, and_false, rListOf, rTupOf, rLenSeq, rIxL, rIxT, rIxS, rCat_k, rRep_k, rSlL_k, rSlS, rNewStrs_k, rAppend_k, tBM, tBM0, tM0, tM1, tSl, tNoPart, tPart, tLc_k, tFor_k, iList, iTup, iEnumT, iRng1, iRng2, iRng2L, iStr, L2.start, List.map, List.length_cons, List.length_nil, List.cons_append, List.nil_append, List.getElem?_cons_succ, List.getElem?_cons_zero, Option.some.injEq, V.int.injEq, V.bl.injEq, V.str.injEq, V.ref.injEq, exists_eq_left', exists_eq_left, and_assoc, exists_and_left, exists_eq, exists_eq', true_and, and_true, List.set_cons_zero, List.set_cons_succ, List.set, decide_eq_true_eq, Bool.not_eq_true', if_true, if_false, rIx, cx_K, nox_K, List.replicate_succ, List.replicate_zero, Nat.reduceSub, Bool.true_eq_false, Bool.false_eq_true, Nat.reduceAdd, List.cons.injEq, reduceCtorEq, false_and, false_or, or_false, tAug, rSetO, rJoin, rExtend]
    refine ⟨r, 200, rfl, hd, by rw [hw]; exact g.w0, by rw [hw]; exact g.w1, by rw [hw]; have := g.w1; omega, ?_⟩
    simp only [tSeq, tIfS, tTest, tB, tAnd, tOr, tNot, tAndV, tOrV, tNotV, tIf, tOp, tUn, tChain, rEq, rNe, rI0, rI, rU, tCallR, tCons, tNil, tC, tVar, tRet, tRetN, tTup_k, tLst_k, tCB, tNext, tAsg, gName, gTup, gCons, gNil, tDrop, tPar, tFld, ClX.tCVal, tPropR, rBin, rBinT, rNeOwn, rSetL_k, gSub, tMakeK_k, tMethR, rInO, tDNewK_k, tYes, wipe, tMakeR_k, tSMeth, tSMethK, rMulS, decide_true, tNever, sFld, rIsiT, and_false, rListOf, rTupOf, rLenSeq, rIxL, rIxT, rIxS, rCat_k, rRep_k, rSlL_k, rSlS, rNewStrs_k, rAppend_k, tBM, tBM0, tM0, tM1, tSl, tNoPart, tPart, tLc_k, tFor_k, iList, iTup, iEnumT, iRng1, iRng2, iRng2L, iStr, L2.start, List.map, List.length_cons, List.length_nil, List.cons_append, List.nil_append, List.getElem?_cons_succ, List.getElem?_cons_zero, Option.some.injEq, V.int.injEq, V.bl.injEq, V.str.injEq, V.ref.injEq, exists_eq_left', exists_eq_left, and_assoc, exists_and_left, exists_eq, exists_eq', true_and, and_true, List.set_cons_zero, List.set_cons_succ, List.set, decide_eq_true_eq, Bool.not_eq_true', if_true, if_false, rIx, cx_K, nox_K, List.replicate_succ, List.replicate_zero, Nat.reduceSub, Bool.true_eq_false, Bool.false_eq_true, Nat.reduceAdd, List.cons.injEq, reduceCtorEq, false_and, false_or, or_false, tAug, rSetO, rJoin, rExtend]
    have hw0 := (g.at_ hr0).1
    have q1 := g.w1
    refine ⟨by rw [SX.S_len, hw]; exact size200 q1, ?_⟩
    first
      | refine .inl ⟨_, Same.seq s2 hs, _, ha0, _, rfl, by rw [SX.S_len, hw0]; exact size200 q1, rfl, ?_⟩
      | refine .inr (.inl ⟨_, Same.tup s2 hs, _, ha0, _, rfl, by rw [SX.S_len, hw0]; exact size200 q1, rfl, ?_⟩)
    rw [SX.S_len, SX.S_len, hw, hw0, decide_eq_true rfl]
    exact s2
end
def IsRows (H : Hp) (l : Addr) (rs : List (List Nat)) : Prop := H l = some (.lst (rowsV rs)) ∨ H l = some (.tup (rowsV rs))
theorem IsRows.same {H H' : Hp} {l : Addr} {rs : List (List Nat)} (h : IsRows H l rs) (s : Same H H') : IsRows H' l rs := h.elim (fun h => .inl (s _ _ h)) fun h => .inr (s _ _ h)
theorem IsRows.seq {K : PySem.W.Frag} {H : Hp} {l : Addr} {rs : List (List Nat)} (h : IsRows H l rs) : SqL K H l (rowsV rs) ∨ SqT K H l (rowsV rs) := h.elim (fun h => .inl (SqL.of h)) fun h => .inr (.inl (.inl h))
def spPicInit (C : Addr) : Sp := fun vs H Q _ => ∃ (p dx l : Addr) (w : Nat) (rs : List (List Nat)), vs = [.ref p, .ref l] ∧ H p = some (.ins C dx []) ∧ Good w rs ∧ IsRows H l rs ∧
  ∀ (t : Addr) (H1 : Hp), Same H H1 → H1 t = some (.tup (rowsV rs)) → Q .non (upd H1 p (.ins C dx [("_rows", .ref t)]))
section
variable {P : Program} {w : World} {K : PySem.W.Frag} {mg : Str → Option Value} {base : Heap} {a : Adr}
set_option maxHeartbeats 4000000
theorem pic_init_body (T : Txt K mg a) {cdv : Value} {A : Around} {outer : List Env} {s : Shared} {H : Hp} {vs : List V} {Q : VK} {E : XK} (hr : Room 2 (A.deeper (envOfC "Picture.__init__" (defScope s_Picture_init) s.heap.objs.size a.Picture_init cdv))) (h : spPicInit a.Picture vs H Q E) :
    ∃ t, PSs (cxOf CX0 P w K mg base ["self", "rows", "wrong"] "Picture.__init__" (defScope s_Picture_init) a.Picture_init cdv A outer s H E).nox (defBody s_Picture_init) t ∧ t { nx := fun _ H' => Q .non H', rt := Q } (L2.start ["self", "rows", "wrong"] vs) H := by
  have G_wrong_row : FnR P w K mg base CX0 2 a.wrong_row (spWrong K) := ok_wrong_row T
  obtain ⟨uM, cvM⟩ := T.cv_MOST
  obtain ⟨p, dx, l, wd, rs, rfl, hp, g, hl, k⟩ := h
  refine ⟨_, (pss_cons (ps_if (PW.pt (pw_or (pt_not (pt_val (pe_callB call_isiT (by rfl) T.n_isinstance (by decide +kernel) (pa_cons (pv 1) (pa_cons (pe_tup (pa_cons (pe_bltn (v := .ty "list") (by rfl) T.n_list (by decide +kernel) rfl) (pa_cons (pe_bltn (v := .ty "tuple") (by rfl) T.n_tuple (by decide +kernel) rfl) pa_nil))) pa_nil))))) (pw_or1 (pt_not (pt_chain op_le op_le pe_int (pe_callB call_len_seq (by rfl) T.n_len (by decide +kernel) (pa_cons (pv 1) pa_nil)) (ClX.pe_cval (pe_glob (v := .ref a.Picture) rfl T.m_Picture rfl)))))))
          (pss_one ps_never)
          pss_nil)
      (pss_cons (ps_set (i := 2) sc_Picture_init.nd rfl (Or.inl rfl) (pe_callR G_wrong_row (hr.mono (by decide)) T.m_wrong_row T.k_wrong_row pass0 (pa_cons (pv 1) (pa_cons (ClX.pe_cval (pe_glob (v := .ref a.Picture) rfl T.m_Picture rfl)) pa_nil))))
      (pss_cons (ps_if (pt_cmpR op_notN (pv 2) pe_non (nomark _))
          (pss_one ps_never)
          pss_nil)
      (pss_one (ps_fld (pv 0) (pe_callTy call_tupleK (by rfl) T.n_tuple (by decide +kernel) (pa_cons (pv 1) pa_nil)) rfl))))), ?_⟩
  simp only [tSeq, tIfS, tTest, tB, tAnd, tOr, tNot, tAndV, tOrV, tNotV, tIf, tOp, tUn, tChain, rEq, rNe, rI0, rI, rU, tCallR, tCons, tNil, tC, tVar, tRet, tRetN, tTup_k, tLst_k, tCB, tNext, tAsg, gName, gTup, gCons, gNil, tDrop, tPar, tFld, ClX.tCVal, tPropR, rBin, rBinT, rNeOwn, rSetL_k, gSub, tMakeK_k, tMethR, rInO, tDNewK_k, tYes, wipe, tMakeR_k, tSMeth, tSMethK, rMulS, decide_true, tNever, sFld, rIsiT, and_false, rListOf, rTupOf, rLenSeq, rIxL, rIxT, rIxS, rCat_k, rRep_k, rSlL_k, rSlS, rNewStrs_k, rAppend_k, tBM, tBM0, tM0, tM1, tSl, tNoPart, tPart, tLc_k, tFor_k, iList, iTup, iEnumT, iRng1, iRng2, iRng2L, iStr, L2.start, List.map, List.length_cons, List.length_nil, List.cons_append, List.nil_append, List.getElem?_cons_succ, List.getElem?_cons_zero, Option.some.injEq, V.int.injEq, V.bl.injEq, V.str.injEq, V.ref.injEq, exists_eq_left', exists_eq_left, and_assoc, exists_and_left, exists_eq, exists_eq', true_and, and_true, List.set_cons_zero, List.set_cons_succ, List.set, decide_eq_true_eq, Bool.not_eq_true', if_true, if_false, rIx, cx_K, nox_K, List.replicate_succ, List.replicate_zero, Nat.reduceSub, Bool.true_eq_false, Bool.false_eq_true, Nat.reduceAdd, List.cons.injEq, reduceCtorEq, false_and, false_or, or_false, tAug, rSetO, rJoin, rExtend]
  have lt : TyX K H (.ref l) (.type "list") ∨ TyX K H (.ref l) (.type "tuple") := hl.elim (fun h => .inl (.base (.lst h))) fun h => .inr (.base (.tup h))
  refine kNew.mk (by show 2 ≤ sizeLine; decide) fun tp H1 f1 => ?_
  have hl1 := hl.same f1.same
  obtain ⟨tt, hty, hk⟩ : ∃ tt, TyX K H1 (.ref l) tt ∧ PySem.W.kitAny K tt [.type "list", .type "tuple"] = some true := by
    rcases hl1 with h | h
    · exact ⟨_, .base (.lst h), kitAny_cons kit_self (by intro z; cases z) (fun _ => rfl)⟩
    · exact ⟨_, .base (.tup h), kitAny_cons (b := false) (kit_ty (by decide +kernel)) (fun _ => kitAny_cons kit_self (by intro z; cases z) (fun _ => rfl)) (by intro z; cases z)⟩
  simp only [tSeq, tIfS, tTest, tB, tAnd, tOr, tNot, tAndV, tOrV, tNotV, tIf, tOp, tUn, tChain, rEq, rNe, rI0, rI, rU, tCallR, tCons, tNil, tC, tVar, tRet, tRetN, tTup_k, tLst_k, tCB, tNext, tAsg, gName, gTup, gCons, gNil, tDrop, tPar, tFld, ClX.tCVal, tPropR, rBin, rBinT, rNeOwn, rSetL_k, gSub, tMakeK_k, tMethR, rInO, tDNewK_k, tYes, wipe, tMakeR_k, tSMeth, tSMethK, rMulS, decide_true, tNever, sFld, rIsiT, and_false, rListOf, rTupOf, rLenSeq, rIxL, rIxT, rIxS, rCat_k, rRep_k, rSlL_k, rSlS, rNewStrs_k, rAppend_k, tBM, tBM0, tM0, tM1, tSl, tNoPart, tPart, tLc_k, tFor_k, iList, iTup, iEnumT, iRng1, iRng2, iRng2L, iStr, L2.start, List.map, List.length_cons, List.length_nil, List.cons_append, List.nil_append, List.getElem?_cons_succ, List.getElem?_cons_zero, Option.some.injEq, V.int.injEq, V.bl.injEq, V.str.injEq, V.ref.injEq, exists_eq_left', exists_eq_left, and_assoc, exists_and_left, exists_eq, exists_eq', true_and, and_true, List.set_cons_zero, List.set_cons_succ, List.set, decide_eq_true_eq, Bool.not_eq_true', if_true, if_false, rIx, cx_K, nox_K, List.replicate_succ, List.replicate_zero, Nat.reduceSub, Bool.true_eq_false, Bool.false_eq_true, Nat.reduceAdd, List.cons.injEq, reduceCtorEq, false_and, false_or, or_false, tAug, rSetO, rJoin, rExtend]
  refine ⟨_, f1.at_, _, _, .cons (.ty _) (.cons (.ty _) .nil), hty, true, hk, ?_⟩
  simp only [tSeq, tIfS, tTest, tB, tAnd, tOr, tNot, tAndV, tOrV, tNotV, tIf, tOp, tUn, tChain, rEq, rNe, rI0, rI, rU, tCallR, tCons, tNil, tC, tVar, tRet, tRetN, tTup_k, tLst_k, tCB, tNext, tAsg, gName, gTup, gCons, gNil, tDrop, tPar, tFld, ClX.tCVal, tPropR, rBin, rBinT, rNeOwn, rSetL_k, gSub, tMakeK_k, tMethR, rInO, tDNewK_k, tYes, wipe, tMakeR_k, tSMeth, tSMethK, rMulS, decide_true, tNever, sFld, rIsiT, and_false, rListOf, rTupOf, rLenSeq, rIxL, rIxT, rIxS, rCat_k, rRep_k, rSlL_k, rSlS, rNewStrs_k, rAppend_k, tBM, tBM0, tM0, tM1, tSl, tNoPart, tPart, tLc_k, tFor_k, iList, iTup, iEnumT, iRng1, iRng2, iRng2L, iStr, L2.start, List.map, List.length_cons, List.length_nil, List.cons_append, List.nil_append, List.getElem?_cons_succ, List.getElem?_cons_zero, Option.some.injEq, V.int.injEq, V.bl.injEq, V.str.injEq, V.ref.injEq, exists_eq_left', exists_eq_left, and_assoc, exists_and_left, exists_eq, exists_eq', true_and, and_true, List.set_cons_zero, List.set_cons_succ, List.set, decide_eq_true_eq, Bool.not_eq_true', if_true, if_false, rIx, cx_K, nox_K, List.replicate_succ, List.replicate_zero, Nat.reduceSub, Bool.true_eq_false, Bool.false_eq_true, Nat.reduceAdd, List.cons.injEq, reduceCtorEq, false_and, false_or, or_false, tAug, rSetO, rJoin, rExtend]
  refine ⟨_, hl1.seq, ?_⟩
  have l0 : 1 ≤ ((rowsV rs).length : Int) := by rw [rowsV_len]; have := g.l0; omega
  have l1 : ((rowsV rs).length : Int) ≤ 200 := by rw [rowsV_len]; have := g.l1; omega
  rw [if_pos l0]
  refine ⟨_, T.cr_Picture, _, _, cvM, _, rfl, ?_⟩
  simp only [decide_eq_true l1, tSeq, tIfS, tTest, tB, tAnd, tOr, tNot, tAndV, tOrV, tNotV, tIf, tOp, tUn, tChain, rEq, rNe, rI0, rI, rU, tCallR, tCons, tNil, tC, tVar, tRet, tRetN, tTup_k, tLst_k, tCB, tNext, tAsg, gName, gTup, gCons, gNil, tDrop, tPar, tFld, ClX.tCVal, tPropR, rBin, rBinT, rNeOwn, rSetL_k, gSub, tMakeK_k, tMethR, rInO, tDNewK_k, tYes, wipe, tMakeR_k, tSMeth, tSMethK, rMulS, decide_true, tNever, sFld, rIsiT, and_false, rListOf, rTupOf, rLenSeq, rIxL, rIxT, rIxS, rCat_k, rRep_k, rSlL_k, rSlS, rNewStrs_k, rAppend_k, tBM, tBM0, tM0, tM1, tSl, tNoPart, tPart, tLc_k, tFor_k, iList, iTup, iEnumT, iRng1, iRng2, iRng2L, iStr, L2.start, List.map, List.length_cons, List.length_nil, List.cons_append, List.nil_append, List.getElem?_cons_succ, List.getElem?_cons_zero, Option.some.injEq, V.int.injEq, V.bl.injEq, V.str.injEq, V.ref.injEq, exists_eq_left', exists_eq_left, and_assoc, exists_and_left, exists_eq, exists_eq', true_and, and_true, List.set_cons_zero, List.set_cons_succ, List.set, decide_eq_true_eq, Bool.not_eq_true', if_true, if_false, rIx, cx_K, nox_K, List.replicate_succ, List.replicate_zero, Nat.reduceSub, Bool.true_eq_false, Bool.false_eq_true, Nat.reduceAdd, List.cons.injEq, reduceCtorEq, false_and, false_or, or_false, tAug, rSetO, rJoin, rExtend]
  refine ⟨_, T.cr_Picture, _, _, cvM, _, _, _, rfl, g, hl1.seq, fun H2 s2 => ?_⟩
  have hl2 := hl1.same s2
  have hp2 := s2 _ _ (f1.same _ _ hp)
  simp only [tSeq, tIfS, tTest, tB, tAnd, tOr, tNot, tAndV, tOrV, tNotV, tIf, tOp, tUn, tChain, rEq, rNe, rI0, rI, rU, tCallR, tCons, tNil, tC, tVar, tRet, tRetN, tTup_k, tLst_k, tCB, tNext, tAsg, gName, gTup, gCons, gNil, tDrop, tPar, tFld, ClX.tCVal, tPropR, rBin, rBinT, rNeOwn, rSetL_k, gSub, tMakeK_k, tMethR, rInO, tDNewK_k, tYes, wipe, tMakeR_k, tSMeth, tSMethK, rMulS, decide_true, tNever, sFld, rIsiT, and_false, rListOf, rTupOf, rLenSeq, rIxL, rIxT, rIxS, rCat_k, rRep_k, rSlL_k, rSlS, rNewStrs_k, rAppend_k, tBM, tBM0, tM0, tM1, tSl, tNoPart, tPart, tLc_k, tFor_k, iList, iTup, iEnumT, iRng1, iRng2, iRng2L, iStr, L2.start, List.map, List.length_cons, List.length_nil, List.cons_append, List.nil_append, List.getElem?_cons_succ, List.getElem?_cons_zero, Option.some.injEq, V.int.injEq, V.bl.injEq, V.str.injEq, V.ref.injEq, exists_eq_left', exists_eq_left, and_assoc, exists_and_left, exists_eq, exists_eq', true_and, and_true, List.set_cons_zero, List.set_cons_succ, List.set, decide_eq_true_eq, Bool.not_eq_true', if_true, if_false, rIx, cx_K, nox_K, List.replicate_succ, List.replicate_zero, Nat.reduceSub, Bool.true_eq_false, Bool.false_eq_true, Nat.reduceAdd, List.cons.injEq, reduceCtorEq, false_and, false_or, or_false, tAug, rSetO, rJoin, rExtend]
  rcases hl2 with h | h
  · exact ⟨_, .inl ⟨SqL.of h, kN.mk fun t H3 f3 => ⟨_, dx, [], f3.get hp2, T.c_Picture.cl, T.a_Picture__rows, by decide, k t H3 ((f1.same.trans s2).trans f3.same) f3.at_⟩⟩⟩
  · exact ⟨_, .inr ⟨.inl (.inl h), _, dx, [], hp2, T.c_Picture.cl, T.a_Picture__rows, by decide, k l H2 (f1.same.trans s2) h⟩⟩
theorem ok_pic_init (T : Txt K mg a) : FnR P w K mg base CX0 3 a.Picture_init (spPicInit a.Picture) :=
  T.d_Picture_init.ok sc_Picture_init (fun _ _ _ _ _ _ us hl => match us, hl with | [_, _], _ => rfl) (fun vs H Q E h => by obtain ⟨p, dx, l, w, rs, rfl, _⟩ := h; rfl) (fun cdv A outer s H vs Q E hr h => pic_init_body T hr h)
theorem newPic {C l : Addr} {w : Nat} {rs : List (List Nat)} {H : Hp} {Q : VK} {E : XK} (g : Good w rs) (hl : IsRows H l rs) (k : ∀ x H', Same H H' → H x = none → Pic H' C x rs → Q (.ref x) H') : kMake C (spPicInit C) E Q [.ref l] H :=
  kMake.mk fun x dx H1 s1 nx hx so => ⟨x, dx, l, w, rs, rfl, hx, g, hl.same s1, fun t H2 s2 ht => by
    refine ⟨rfl, k x _ ?_ nx ⟨dx, t, upd_same, ?_⟩⟩
    · intro b u e
      rw [upd_ne (ne_of_none e nx)]
      exact s2 _ _ (s1 _ _ e)
    · rw [upd_ne (ne_of ht (s2 _ _ hx) (fun z => by cases z))]
      exact ht⟩
end
theorem dig_S {c : Int} (h0 : 0 ≤ c) (h1 : c < 10) : Str.ofString (toString c) = S [48 + c.toNat] ∧ c.natAbs.log2 < 1920 := by
  rcases (by omega : c = 0 ∨ c = 1 ∨ c = 2 ∨ c = 3 ∨ c = 4 ∨ c = 5 ∨ c = 6 ∨ c = 7 ∨ c = 8 ∨ c = 9) with rfl | rfl | rfl | rfl | rfl | rfl | rfl | rfl | rfl | rfl <;> exact ⟨by decide +kernel, by decide +kernel⟩
theorem int_dig {d : Nat} (h : 48 ≤ d ∧ d ≤ 57) : PySem.intText? (S [d]) = some ((d : Int) - 48) := by
  obtain ⟨h1, h2⟩ := h
  rcases (by omega : d = 48 ∨ d = 49 ∨ d = 50 ∨ d = 51 ∨ d = 52 ∨ d = 53 ∨ d = 54 ∨ d = 55 ∨ d = 56 ∨ d = 57) with rfl | rfl | rfl | rfl | rfl | rfl | rfl | rfl | rfl | rfl <;> decide +kernel
abbrev plainRs (w h c : Int) : List (List Nat) := List.replicate h.toNat (List.replicate w.toNat (48 + c.toNat))
theorem good_plain {w h c : Int} (w0 : 1 ≤ w) (w1 : w ≤ 200) (h0 : 1 ≤ h) (h1 : h ≤ 200) (c0 : 0 ≤ c) (c1 : c < 10) : Good w.toNat (plainRs w h c) := by
  refine ⟨by rw [List.length_replicate]; omega, by rw [List.length_replicate]; omega, by omega, by omega, fun r hr => ?_⟩
  obtain ⟨_, rfl⟩ := List.mem_replicate.mp hr
  refine ⟨List.length_replicate, fun d hd => ?_⟩
  obtain ⟨_, rfl⟩ := List.mem_replicate.mp hd
  omega
theorem plain_rows (w h c : Int) : rowsV (plainRs w h c) = List.replicate h.toNat (.str (S (List.replicate w.toNat (48 + c.toNat)))) := by
  show List.map _ (List.replicate _ _) = _
  rw [List.map_replicate]
theorem flat_one {α : Type} (x : α) : ∀ n : Nat, (List.replicate n [x]).flatten = List.replicate n x
  | 0 => rfl
  | n + 1 => by rw [List.replicate_succ, List.flatten_cons, flat_one x n, List.replicate_succ]; rfl
def spPRows (C : Addr) : Sp := fun vs H Q _ => ∃ (x dx t : Addr), vs = [.ref x] ∧ H x = some (.ins C dx [("_rows", .ref t)]) ∧ Q (.ref t) H
def pixAt (rs : List (List Nat)) (x y : Int) : Int := (((rs.getD y.toNat []).getD x.toNat 48 : Nat) : Int) - 48
section
variable {P : Program} {w : World} {K : PySem.W.Frag} {mg : Str → Option Value} {base : Heap} {a : Adr}
set_option maxHeartbeats 4000000
theorem ok_prows (T : Txt K mg a) : FnR P w K mg base CX0 1 a.Picture_rows (spPRows a.Picture) := by
  refine T.d_Picture_rows.ok sc_Picture_rows (fun _ _ _ _ _ _ us hl => match us, hl with | [_], _ => rfl) (fun vs H Q E h => by obtain ⟨x, dx, t, rfl, _⟩ := h; rfl) (fun cdv A outer s H vs Q E hr h => ?_)
  obtain ⟨x, dx, t, rfl, hx, k⟩ := h
  refine ⟨_, (pss_one (ps_ret (pe_fld (pv 0) rfl))), ?_⟩
  simp only [tSeq, tIfS, tTest, tB, tAnd, tOr, tNot, tAndV, tOrV, tNotV, tIf, tOp, tUn, tChain, rEq, rNe, rI0, rI, rU, tCallR, tCons, tNil, tC, tVar, tRet, tRetN, tTup_k, tLst_k, tCB, tNext, tAsg, gName, gTup, gCons, gNil, tDrop, tPar, tFld, ClX.tCVal, tPropR, rBin, rBinT, rNeOwn, rSetL_k, gSub, tMakeK_k, tMethR, rInO, tDNewK_k, tYes, wipe, tMakeR_k, tSMeth, tSMethK, rMulS, decide_true, tNever, sFld, rIsiT, and_false, rListOf, rTupOf, rLenSeq, rIxL, rIxT, rIxS, rCat_k, rRep_k, rSlL_k, rSlS, rNewStrs_k, rAppend_k, tBM, tBM0, tM0, tM1, tSl, tNoPart, tPart, tLc_k, tFor_k, iList, iTup, iEnumT, iRng1, iRng2, iRng2L, iStr, L2.start, List.map, List.length_cons, List.length_nil, List.cons_append, List.nil_append, List.getElem?_cons_succ, List.getElem?_cons_zero, Option.some.injEq, V.int.injEq, V.bl.injEq, V.str.injEq, V.ref.injEq, exists_eq_left', exists_eq_left, and_assoc, exists_and_left, exists_eq, exists_eq', true_and, and_true, List.set_cons_zero, List.set_cons_succ, List.set, decide_eq_true_eq, Bool.not_eq_true', if_true, if_false, rIx, cx_K, nox_K, List.replicate_succ, List.replicate_zero, Nat.reduceSub, Bool.true_eq_false, Bool.false_eq_true, Nat.reduceAdd, List.cons.injEq, reduceCtorEq, false_and, false_or, or_false, tAug, rSetO, rJoin, rExtend]
  exact ⟨_, dx, _, hx, T.c_Picture.cl, T.a_Picture__rows, _, rfl, k⟩
end
abbrev rowsD (rs : List (List Nat)) : List PyData := rs.map fun r => .str (S r)
theorem dp_rows {K : PySem.W.Frag} {H : Hp} : ∀ rs : List (List Nat), DpAll K H (rowsV rs) (rowsD rs)
  | [] => .nil
  | r :: t => .cons (.str _) (dp_rows t)
theorem digL_ok {r : List Nat} (h : DigL r) : PyData.strOk (S r) = true := by
  show (r.toArray.all fun c => decide (c < 0x110000)) = true
  rw [← Array.all_toList]
  exact List.all_eq_true.mpr fun c hc => decide_eq_true (by have := h c hc; omega)
theorem rows_lay : ∀ rs : List (List Nat), (∀ r ∈ rs, DigL r) → PyData.canLayAll0 (rowsD rs) = true ∧ PyData.depthAll (rowsD rs) = 0
  | [], _ => ⟨rfl, by simp [PyData.depthAll]⟩
  | r :: t, h => by
    obtain ⟨h1, h2⟩ := rows_lay t fun s q => h s (List.mem_cons_of_mem _ q)
    refine ⟨?_, ?_⟩
    · simp only [List.map_cons, PyData.canLayAll0, PyData.canLay0, h1, digL_ok (h r List.mem_cons_self)]
      rfl
    · simp only [List.map_cons, PyData.depthAll, PyData.depth, h2]
      rfl
theorem rows_shaped {w : Nat} {rs : List (List Nat)} (g : Good w rs) : SeqAt.shaped (.tuple (rowsD rs)) = true := by
  obtain ⟨h1, h2⟩ := rows_lay rs fun r hr => (g.row r hr).2
  refine Bool.and_eq_true_iff.mpr ⟨h1, decide_eq_true ?_⟩
  simp only [PyData.depth, h2]
  decide
theorem eqv_rows : ∀ rs rs' : List (List Nat), PyData.eqv (.tuple (rowsD rs)) (.tuple (rowsD rs')) = decide (rs = rs') := by
  have key : ∀ rs rs' : List (List Nat), PyData.eqvAll (rowsD rs) (rowsD rs') = decide (rs = rs') := by
    intro rs
    induction rs with
    | nil => intro rs'; cases rs' <;> simp [PyData.eqvAll]
    | cons r t ih =>
      intro rs'
      cases rs' with
      | nil => simp [PyData.eqvAll]
      | cons r' t' =>
        simp only [List.map_cons, PyData.eqvAll, PyData.eqv, ih t', SX.S_beq_eq]
        by_cases h1 : r = r' <;> by_cases h2 : t = t' <;> simp [h1, h2]
  intro rs rs'
  simp only [PyData.eqv, key]
theorem cut_to {a : List Nat} {i : Nat} (h : i ≤ a.length) : cutS (S a) none (some (i : Int)) = S (a.take i) := by
  unfold cutS
  rw [HT.sIx_nat, HT.sIx_none, SX.S_len, Nat.min_eq_left h, List.drop_zero, Nat.sub_zero]
theorem cut_from {a : List Nat} {i : Nat} (h : i ≤ a.length) : cutS (S a) (some (i : Int)) none = S (a.drop i) := by
  unfold cutS
  rw [HT.sIx_nat, HT.sIx_none, SX.S_len, Nat.min_eq_left h]
  exact congrArg S (List.take_of_length_le (by rw [List.length_drop]; exact Nat.le_refl _))
theorem Good.set {w j : Nat} {rs : List (List Nat)} {r : List Nat} (g : Good w rs) (h1 : r.length = w) (h2 : DigL r) : Good w (rs.set j r) :=
  ⟨by rw [List.length_set]; exact g.l0, by rw [List.length_set]; exact g.l1, g.w0, g.w1, fun q hq => by
    rcases List.mem_or_eq_of_mem_set hq with h | h
    · exact g.row q h
    · subst h
      exact ⟨h1, h2⟩⟩
theorem rowsV_set (rs : List (List Nat)) (j : Nat) (r : List Nat) : (rowsV rs).set j (.str (S r)) = rowsV (rs.set j r) := by
  show (List.map _ rs).set j _ = List.map _ (rs.set j r)
  rw [List.map_set]
theorem eqv_rowsL (rs rs' : List (List Nat)) : PyData.eqv (.list (rowsD rs)) (.list (rowsD rs')) = decide (rs = rs') := by
  have h := eqv_rows rs rs'
  simp only [PyData.eqv] at h ⊢
  exact h
theorem rows_shapedL {w : Nat} {rs : List (List Nat)} (g : Good w rs) : SeqAt.shaped (.list (rowsD rs)) = true := by
  obtain ⟨h1, h2⟩ := rows_lay rs fun r hr => (g.row r hr).2
  refine Bool.and_eq_true_iff.mpr ⟨h1, decide_eq_true ?_⟩
  simp only [PyData.depth, h2]
  decide
end Pf
end
section
namespace Pf
open PySem PySem.Spec PyProof.Rows L2 Ow StX
open SX (S)
/-- no integer of lo .. hi - 1 -/
def BadI (K : PySem.W.Frag) (lo hi : Int) (H : Hp) (v : V) : Prop := NoInt K H v ∨ ∃ i : Int, v = .int i ∧ ¬ (lo ≤ i ∧ i < hi)
theorem BadI.same {K : PySem.W.Frag} {lo hi : Int} {H H' : Hp} {v : V} (h : BadI K lo hi H v) (s : Same H H') : BadI K lo hi H' v := h.elim (fun h => .inl (h.same s)) .inr
def Out2 (B : Addr) (n m : Str) (H : Hp) (E : XK) (v u : V) : Prop := ∀ d, H d = none → E (.ref B) (some d) (upd H d (.xd [(m, u), (n, v)]))
/-- no pixel of w by h -/
def BadPx (K : PySem.W.Frag) (w h : Int) (H : Hp) (v u : V) : Prop := BadI K 0 w H v ∨ (∃ x : Int, v = .int x ∧ 0 ≤ x ∧ x < w ∧ BadI K 0 h H u)
theorem BadPx.same {K : PySem.W.Frag} {w h : Int} {H H' : Hp} {v u : V} (b : BadPx K w h H v u) (s : Same H H') : BadPx K w h H' v u := b.elim (fun b => .inl (b.same s)) fun ⟨x, e, h0, h1, b⟩ => .inr ⟨x, e, h0, h1, b.same s⟩
theorem dec_no {lo hi i : Int} (h : ¬ (lo ≤ i ∧ i < hi)) : (decide (lo ≤ i) && decide (i < hi)) = false := by
  by_cases h0 : lo ≤ i
  · rw [decide_eq_false (fun z => h ⟨h0, z⟩), Bool.and_false]
  · rw [decide_eq_false h0, Bool.false_and]
theorem intIn_bad {K : PySem.W.Frag} {lo hi : Int} {H : Hp} {v : V} {Q : VK} {E : XK} (h : BadI K lo hi H v) (k : Q (.bl false) H) : spIntIn K [v, .int lo, .int hi] H Q E := by
  rcases h with h | ⟨i, rfl, h⟩
  · exact ⟨_, _, _, rfl, .inr ⟨h, k⟩⟩
  · exact ⟨_, _, _, rfl, .inl ⟨i, rfl, by rw [dec_no h]; exact k⟩⟩
theorem intIn_ok {K : PySem.W.Frag} {lo hi i : Int} {H : Hp} {Q : VK} {E : XK} (h0 : lo ≤ i) (h1 : i < hi) (k : Q (.bl true) H) : spIntIn K [.int i, .int lo, .int hi] H Q E := ⟨_, _, _, rfl, .inl ⟨i, rfl, by rw [decide_eq_true h0, decide_eq_true h1]; exact k⟩⟩
def spChSideE (K : PySem.W.Frag) (B : Addr) : Sp := fun vs H Q E => ∃ (v : V) (m : Int) (z : Str), vs = [v, .str z, .int m] ∧ ((∃ i : Int, v = .int i ∧ 1 ≤ i ∧ i ≤ m ∧ Q .non H) ∨ (BadI K 1 (m + 1) H v ∧ Out1 B "part" H E (.str z)))
def spPixX (K : PySem.W.Frag) : Sp := fun vs H Q _ => ∃ (t : Addr) (w : Nat) (rs : List (List Nat)) (v u : V), vs = [.ref t, v, u] ∧ H t = some (.lst (rowsV rs)) ∧ Good w rs ∧
  ((∃ x y : Int, v = .int x ∧ u = .int y ∧ 0 ≤ x ∧ x < w ∧ 0 ≤ y ∧ y < rs.length ∧ Q (.bl true) H) ∨ (BadPx K w rs.length H v u ∧ Q (.bl false) H))
def spChPixE (K : PySem.W.Frag) (B : Addr) : Sp := fun vs H Q E => ∃ (t : Addr) (w : Nat) (rs : List (List Nat)) (v u : V), vs = [.ref t, v, u] ∧ H t = some (.lst (rowsV rs)) ∧ Good w rs ∧
  ((∃ x y : Int, v = .int x ∧ u = .int y ∧ 0 ≤ x ∧ x < w ∧ 0 ≤ y ∧ y < rs.length ∧ Q .non H) ∨ (BadPx K w rs.length H v u ∧ Out2 B "x" "y" H E v u))
section
variable {P : Program} {w : World} {K : PySem.W.Frag} {mg : Str → Option Value} {base : Heap} {a : Adr}
set_option maxHeartbeats 4000000
theorem ok_badpixel (T : Txt K mg a) : ∃ fd, FnOk P w K mg base CX0 1 a.BadPixel_init fd ["self", "x", "y"] (spErr2 a.BadPixel "x" "y") ∧ Binds K fd ["self", "x", "y"] [] := by
  refine T.d_BadPixel_init.okB sc_BadPixel_init (fun _ _ _ _ _ _ us hl => match us, hl with | [_, _, _], _ => rfl) (fun vs H Q E h => by obtain ⟨b, v, u, rfl, _⟩ := h; rfl) (fun cdv A outer s H vs Q E hr h => ?_)
  obtain ⟨b, v, u, rfl, hb, k⟩ := h
  refine ⟨_, (pss_cons (ps_ost (pv 0) (pv 1))
      (pss_one (ps_ost (pv 0) (pv 2)))), ?_⟩
  refine ⟨_, rfl, _, rfl, b, _, rfl, T.e_BadPixel.ox, T.a_BadPixel_x, .inl ⟨hb, fun d hd n => ?_⟩⟩
  refine ⟨_, rfl, _, rfl, b, _, rfl, T.e_BadPixel.ox, T.a_BadPixel_y, .inr ⟨d, [("x", v)], upd_same, by rw [upd_ne n]; exact upd_same, ?_⟩⟩
  refine ⟨by show 1 ≤ 900; decide, ?_⟩
  have e := k d hd n
  have z : upd (upd (upd H d (exd d [("x", v)])) b (exo b a.BadPixel (some d))) d (exd d [("y", u), ("x", v)]) = upd (upd H d (exd d [("y", u), ("x", v)])) b (exo b a.BadPixel (some d)) := by
    funext y
    by_cases e1 : y = d
    · subst e1
      rw [upd_same, upd_ne n, upd_same]
    · by_cases e2 : y = b
      · subst e2
        rw [upd_ne e1, upd_same, upd_same]
      · rw [upd_ne e1, upd_ne e2, upd_ne e1, upd_ne e2, upd_ne e1]
  exact z ▸ e
theorem ok_check_sideE (T : Txt K mg a) : FnR P w K mg base (CX P w) 3 a.check_side (spChSideE K a.BadSize) := by
  have G_is_int_in : FnR P w K mg base CX0 2 a.is_int_in (spIntIn K) := ok_int_in T
  obtain ⟨_, O_BadSize, B_BadSize⟩ := ok_badsize (P := P) (w := w) (base := base) T
  refine T.d_check_side.okX sc_check_side (fun _ _ _ _ _ _ us hl => match us, hl with | [_, _, _], _ => rfl) (fun vs H Q E h => by obtain ⟨v, m, z, rfl, _⟩ := h; rfl) (fun cdv A outer s H vs Q E hr h => ?_)
  obtain ⟨v, m, z, rfl, h⟩ := h
  refine ⟨_, (pss_one (ps_if (pt_not (pt_val (pe_callR G_is_int_in (hr.mono (by decide)) T.m_is_int_in T.k_is_int_in pass0 (pa_cons (pv 0) (pa_cons pe_int (pa_cons (pe_op op_add (pv 2) pe_int) pa_nil))))))
          (pss_one (ps_raise rfl (takes_of rfl rfl rfl rfl) (pmk_oex T.e_BadSize.ox T.e_BadSize.iC T.e_BadSize.tI O_BadSize (hr.mono (by decide)) B_BadSize .nil pass0 rfl T.m_BadSize (pa_cons (pv 1) pa_nil))))
          pss_nil)), ?_⟩
  simp only [tSeq, tIfS, tTest, tB, tAnd, tOr, tNot, tAndV, tOrV, tNotV, tIf, tOp, tUn, tChain, rEq, rNe, rI0, rI, rU, tCallR, tCons, tNil, tC, tVar, tRet, tRetN, tTup_k, tLst_k, tCB, tNext, tAsg, gName, gTup, gCons, gNil, tDrop, tPar, tFld, ClX.tCVal, tPropR, rBin, rBinT, rNeOwn, rSetL_k, gSub, tMakeK_k, tMethR, rInO, tDNewK_k, tYes, wipe, tMakeR_k, tSMeth, tSMethK, rMulS, decide_true, tNever, sFld, rIsiT, and_false, rListOf, rTupOf, rLenSeq, rIxL, rIxT, rIxS, rCat_k, rRep_k, rSlL_k, rSlS, rNewStrs_k, rAppend_k, tBM, tBM0, tM0, tM1, tSl, tNoPart, tPart, tLc_k, tFor_k, iList, iTup, iEnumT, iRng1, iRng2, iRng2L, iStr, L2.start, List.map, List.length_cons, List.length_nil, List.cons_append, List.nil_append, List.getElem?_cons_succ, List.getElem?_cons_zero, Option.some.injEq, V.int.injEq, V.bl.injEq, V.str.injEq, V.ref.injEq, exists_eq_left', exists_eq_left, and_assoc, exists_and_left, exists_eq, exists_eq', true_and, and_true, List.set_cons_zero, List.set_cons_succ, List.set, decide_eq_true_eq, Bool.not_eq_true', if_true, if_false, rIx, cx_K, nox_K, List.replicate_succ, List.replicate_zero, Nat.reduceSub, Bool.true_eq_false, Bool.false_eq_true, Nat.reduceAdd, List.cons.injEq, reduceCtorEq, false_and, false_or, or_false, tAug, rSetO, rJoin, rExtend]
  rcases h with ⟨i, rfl, h0, h1, k⟩ | ⟨hb, k⟩
  · exact intIn_ok h0 (by omega) ⟨_, rfl, k⟩
  · exact intIn_bad hb ⟨_, rfl, _, rfl, err1_made k⟩
theorem ok_is_pixelX (T : Txt K mg a) : FnR P w K mg base CX0 3 a.is_pixel (spPixX K) := by
  have G_is_int_in : FnR P w K mg base CX0 2 a.is_int_in (spIntIn K) := ok_int_in T
  refine T.d_is_pixel.ok sc_is_pixel (fun _ _ _ _ _ _ us hl => match us, hl with | [_, _, _], _ => rfl) (fun vs H Q E h => by obtain ⟨t, w, rs, v, u, rfl, _⟩ := h; rfl) (fun cdv A outer s H vs Q E hr h => ?_)
  obtain ⟨t, wd, rs, v, u, rfl, ht, g, h⟩ := h
  refine ⟨_, (pss_one (ps_ret (pe_and (pe_callR G_is_int_in (hr.mono (by decide)) T.m_is_int_in T.k_is_int_in pass0 (pa_cons (pv 1) (pa_cons pe_int (pa_cons (pe_callB call_len_str (by rfl) T.n_len (by decide +kernel) (pa_cons (pe_ix ix_list (pv 0) pe_int (fun _ _ => rfl)) pa_nil)) pa_nil)))) (pe_one (pe_callR G_is_int_in (hr.mono (by decide)) T.m_is_int_in T.k_is_int_in pass0 (pa_cons (pv 2) (pa_cons pe_int (pa_cons (pe_callB call_len_seq (by rfl) T.n_len (by decide +kernel) (pa_cons (pv 0) pa_nil)) pa_nil)))))))), ?_⟩
  obtain ⟨r0, hr0, ha0⟩ := at0 g
  have hw0 := (g.at_ hr0).1
  have q1 := g.w1
  simp only [tSeq, tIfS, tTest, tB, tAnd, tOr, tNot, tAndV, tOrV, tNotV, tIf, tOp, tUn, tChain, rEq, rNe, rI0, rI, rU, tCallR, tCons, tNil, tC, tVar, tRet, tRetN, tTup_k, tLst_k, tCB, tNext, tAsg, gName, gTup, gCons, gNil, tDrop, tPar, tFld, ClX.tCVal, tPropR, rBin, rBinT, rNeOwn, rSetL_k, gSub, tMakeK_k, tMethR, rInO, tDNewK_k, tYes, wipe, tMakeR_k, tSMeth, tSMethK, rMulS, decide_true, tNever, sFld, rIsiT, and_false, rListOf, rTupOf, rLenSeq, rIxL, rIxT, rIxS, rCat_k, rRep_k, rSlL_k, rSlS, rNewStrs_k, rAppend_k, tBM, tBM0, tM0, tM1, tSl, tNoPart, tPart, tLc_k, tFor_k, iList, iTup, iEnumT, iRng1, iRng2, iRng2L, iStr, L2.start, List.map, List.length_cons, List.length_nil, List.cons_append, List.nil_append, List.getElem?_cons_succ, List.getElem?_cons_zero, Option.some.injEq, V.int.injEq, V.bl.injEq, V.str.injEq, V.ref.injEq, exists_eq_left', exists_eq_left, and_assoc, exists_and_left, exists_eq, exists_eq', true_and, and_true, List.set_cons_zero, List.set_cons_succ, List.set, decide_eq_true_eq, Bool.not_eq_true', if_true, if_false, rIx, cx_K, nox_K, List.replicate_succ, List.replicate_zero, Nat.reduceSub, Bool.true_eq_false, Bool.false_eq_true, Nat.reduceAdd, List.cons.injEq, reduceCtorEq, false_and, false_or, or_false, tAug, rSetO, rJoin, rExtend]
  refine ⟨_, SqL.of ht, _, ha0, _, rfl, by rw [SX.S_len, hw0]; exact size200 q1, ?_⟩
  rw [SX.S_len, hw0]
  have second : ∀ {c : Bool}, (c = true → ∃ y : Int, u = .int y ∧ 0 ≤ y ∧ y < rs.length) → (c = false → BadI K 0 rs.length H u) → Q (.bl c) H → ∃ x, (SqL K H t x ∨ SqT K H t x) ∧ spIntIn K [u, .int 0, .int (x.length : Nat)] H Q E0 := fun {c} k1 k2 k => by
    refine ⟨_, .inl (SqL.of ht), ?_⟩
    rw [rowsV_len]
    cases c with
    | true =>
      obtain ⟨y, rfl, y0, y1⟩ := k1 rfl
      exact intIn_ok y0 y1 k
    | false => exact intIn_bad (k2 rfl) k
  rcases h with ⟨x, y, rfl, rfl, x0, x1, y0, y1, k⟩ | ⟨hb | ⟨x, rfl, x0, x1, hb⟩, k⟩
  · exact intIn_ok x0 x1 ⟨_, rfl, second (c := true) (fun _ => ⟨y, rfl, y0, y1⟩) (fun z => by cases z) k⟩
  · exact intIn_bad hb ⟨_, rfl, k⟩
  · exact intIn_ok x0 x1 ⟨_, rfl, second (c := false) (fun z => by cases z) (fun _ => hb) k⟩
theorem ok_check_pixelE (T : Txt K mg a) : FnR P w K mg base (CX P w) 4 a.check_pixel (spChPixE K a.BadPixel) := by
  have G_is_pixel : FnR P w K mg base CX0 3 a.is_pixel (spPixX K) := ok_is_pixelX T
  obtain ⟨_, O_BadPixel, B_BadPixel⟩ := ok_badpixel (P := P) (w := w) (base := base) T
  refine T.d_check_pixel.okX sc_check_pixel (fun _ _ _ _ _ _ us hl => match us, hl with | [_, _, _], _ => rfl) (fun vs H Q E h => by obtain ⟨t, w, rs, v, u, rfl, _⟩ := h; rfl) (fun cdv A outer s H vs Q E hr h => ?_)
  obtain ⟨t, wd, rs, v, u, rfl, ht, g, h⟩ := h
  refine ⟨_, (pss_one (ps_if (pt_not (pt_val (pe_callR G_is_pixel (hr.mono (by decide)) T.m_is_pixel T.k_is_pixel pass0 (pa_cons (pv 0) (pa_cons (pv 1) (pa_cons (pv 2) pa_nil))))))
          (pss_one (ps_raise rfl (takes_of rfl rfl rfl rfl) (pmk_oex T.e_BadPixel.ox T.e_BadPixel.iC T.e_BadPixel.tI O_BadPixel (hr.mono (by decide)) B_BadPixel .nil pass0 rfl T.m_BadPixel (pa_cons (pv 1) (pa_cons (pv 2) pa_nil)))))
          pss_nil)), ?_⟩
  simp only [tSeq, tIfS, tTest, tB, tAnd, tOr, tNot, tAndV, tOrV, tNotV, tIf, tOp, tUn, tChain, rEq, rNe, rI0, rI, rU, tCallR, tCons, tNil, tC, tVar, tRet, tRetN, tTup_k, tLst_k, tCB, tNext, tAsg, gName, gTup, gCons, gNil, tDrop, tPar, tFld, ClX.tCVal, tPropR, rBin, rBinT, rNeOwn, rSetL_k, gSub, tMakeK_k, tMethR, rInO, tDNewK_k, tYes, wipe, tMakeR_k, tSMeth, tSMethK, rMulS, decide_true, tNever, sFld, rIsiT, and_false, rListOf, rTupOf, rLenSeq, rIxL, rIxT, rIxS, rCat_k, rRep_k, rSlL_k, rSlS, rNewStrs_k, rAppend_k, tBM, tBM0, tM0, tM1, tSl, tNoPart, tPart, tLc_k, tFor_k, iList, iTup, iEnumT, iRng1, iRng2, iRng2L, iStr, L2.start, List.map, List.length_cons, List.length_nil, List.cons_append, List.nil_append, List.getElem?_cons_succ, List.getElem?_cons_zero, Option.some.injEq, V.int.injEq, V.bl.injEq, V.str.injEq, V.ref.injEq, exists_eq_left', exists_eq_left, and_assoc, exists_and_left, exists_eq, exists_eq', true_and, and_true, List.set_cons_zero, List.set_cons_succ, List.set, decide_eq_true_eq, Bool.not_eq_true', if_true, if_false, rIx, cx_K, nox_K, List.replicate_succ, List.replicate_zero, Nat.reduceSub, Bool.true_eq_false, Bool.false_eq_true, Nat.reduceAdd, List.cons.injEq, reduceCtorEq, false_and, false_or, or_false, tAug, rSetO, rJoin, rExtend]
  refine ⟨t, wd, rs, v, u, rfl, ht, g, ?_⟩
  rcases h with ⟨x, y, rfl, rfl, x0, x1, y0, y1, k⟩ | ⟨hb, k⟩
  · refine .inl ⟨x, y, rfl, rfl, x0, x1, y0, y1, ?_⟩
    exact ⟨_, rfl, k⟩
  · refine .inr ⟨hb, _, rfl, ?_⟩
    exact ⟨_, rfl, _, rfl, err2_made k⟩
end
end Pf
end
section
namespace Pf
open PySem PySem.Spec PyProof.Rows L2 Ow StX
open SX (S)
theorem vals_rev {vs : List V} {us : List Value} (r : Vals vs us) : Vals vs.reverse us.reverse := by
  induction r with
  | nil => exact .nil
  | cons h t ih => rw [List.reverse_cons, List.reverse_cons]; exact ih.append (.cons h .nil)
/-! ### rows with a box painted -/
def paintR (r : List Nat) (x0 x1 : Int) (k : Nat) : List Nat := r.mapIdx fun i d => if x0 ≤ (i : Int) ∧ (i : Int) < x1 then k else d
def fillRs (rs : List (List Nat)) (x0 x1 y0 y1 : Int) (k : Nat) : List (List Nat) := rs.mapIdx fun j r => if y0 ≤ (j : Int) ∧ (j : Int) < y1 then paintR r x0 x1 k else r
theorem paintR_len (r : List Nat) (x0 x1 : Int) (k : Nat) : (paintR r x0 x1 k).length = r.length := List.length_mapIdx ..
theorem fillRs_len (rs : List (List Nat)) (x0 x1 y0 y1 : Int) (k : Nat) : (fillRs rs x0 x1 y0 y1 k).length = rs.length := List.length_mapIdx ..
theorem paintR_at (r : List Nat) (x0 x1 : Int) (k i : Nat) : (paintR r x0 x1 k)[i]? = r[i]?.map fun d => if x0 ≤ (i : Int) ∧ (i : Int) < x1 then k else d := List.getElem?_mapIdx ..
theorem fillRs_at (rs : List (List Nat)) (x0 x1 y0 y1 : Int) (k j : Nat) : (fillRs rs x0 x1 y0 y1 k)[j]? = rs[j]?.map fun r => if y0 ≤ (j : Int) ∧ (j : Int) < y1 then paintR r x0 x1 k else r := List.getElem?_mapIdx ..
theorem paintR_dig {r : List Nat} {x0 x1 : Int} {k : Nat} (hr : DigL r) (hk : 48 ≤ k ∧ k ≤ 57) : DigL (paintR r x0 x1 k) := fun c hc => by
  obtain ⟨i, hi⟩ := List.getElem?_of_mem hc
  rw [paintR_at] at hi
  cases e : r[i]? with
  | none => rw [e] at hi; cases hi
  | some d =>
    rw [e] at hi
    simp only [Option.map_some, Option.some.injEq] at hi
    subst hi
    split
    · exact hk
    · exact hr d (List.mem_of_getElem? e)
theorem Good.fill {w k : Nat} {rs : List (List Nat)} {x0 x1 y0 y1 : Int} (g : Good w rs) (hk : 48 ≤ k ∧ k ≤ 57) : Good w (fillRs rs x0 x1 y0 y1 k) := by
  refine ⟨by rw [fillRs_len]; exact g.l0, by rw [fillRs_len]; exact g.l1, g.w0, g.w1, fun r hr => ?_⟩
  obtain ⟨i, hi⟩ := List.getElem?_of_mem hr
  rw [fillRs_at] at hi
  cases e : rs[i]? with
  | none => rw [e] at hi; cases hi
  | some q =>
    rw [e] at hi
    simp only [Option.map_some, Option.some.injEq] at hi
    subst hi
    obtain ⟨h1, h2⟩ := g.at_ e
    split
    · exact ⟨by rw [paintR_len]; exact h1, paintR_dig h2 hk⟩
    · exact ⟨h1, h2⟩
def lowI (b : Int) : Int := if b > 0 then b else 0
def highI (e s : Int) : Int := if e < s then e else s
theorem paint_cut {r : List Nat} {x0 x1 : Int} {k l e : Nat} (hl : (l : Int) = lowI x0) (he : (e : Int) = highI x1 r.length) (hle : l < e) : r.take l ++ List.replicate (e - l) k ++ r.drop e = paintR r x0 x1 k := by
  have hl2 : e ≤ r.length := by unfold highI at he; split at he <;> omega
  apply List.ext_getElem?
  intro i
  rw [paintR_at]
  unfold lowI at hl
  unfold highI at he
  by_cases h1 : i < l
  · rw [List.append_assoc, List.getElem?_append_left (by rw [List.length_take]; omega), List.getElem?_take, if_pos h1, List.getElem?_eq_getElem (by omega)]
    simp only [Option.map_some, Option.some.injEq]
    rw [if_neg (by split at hl <;> omega)]
  · by_cases h2 : i < e
    · rw [List.getElem?_append_left (by rw [List.length_append, List.length_take, List.length_replicate]; omega), List.getElem?_append_right (by rw [List.length_take]; omega), List.getElem?_replicate, if_pos (by rw [List.length_take]; omega), List.getElem?_eq_getElem (by omega : i < r.length)]
      simp only [Option.map_some, Option.some.injEq]
      rw [if_pos (by split at hl <;> split at he <;> omega)]
    · rw [List.getElem?_append_right (by rw [List.length_append, List.length_take, List.length_replicate]; omega), List.getElem?_drop, List.length_append, List.length_take, List.length_replicate]
      have e1 : e + (i - (min l r.length + (e - l))) = i := by omega
      rw [e1]
      cases q : r[i]? with
      | none => rfl
      | some d =>
        have hi : i < r.length := by
          by_cases z : i < r.length
          · exact z
          · rw [List.getElem?_eq_none (by omega)] at q; cases q
        simp only [Option.map_some, Option.some.injEq]
        rw [if_neg (by split at he <;> omega)]
theorem paint_none {r : List Nat} {x0 x1 : Int} {k : Nat} (h : ¬ (lowI x0 < highI x1 r.length)) : paintR r x0 x1 k = r := by
  apply List.ext_getElem?
  intro i
  rw [paintR_at]
  cases q : r[i]? with
  | none => rfl
  | some d =>
    have hi : i < r.length := by
      by_cases z : i < r.length
      · exact z
      · rw [List.getElem?_eq_none (by omega)] at q; cases q
    simp only [Option.map_some, Option.some.injEq]
    unfold lowI highI at h
    rw [if_neg (by split at h <;> split at h <;> omega)]
theorem fill_none {w k : Nat} {rs : List (List Nat)} {x0 x1 y0 y1 : Int} (g : Good w rs) (h : ¬ (lowI x0 < highI x1 w)) : fillRs rs x0 x1 y0 y1 k = rs := by
  apply List.ext_getElem?
  intro j
  rw [fillRs_at]
  cases q : rs[j]? with
  | none => rfl
  | some r =>
    have hw := (g.at_ q).1
    simp only [Option.map_some, Option.some.injEq]
    rw [paint_none (by rw [hw]; exact h)]
    split <;> rfl
theorem fill_clip (rs : List (List Nat)) (x0 x1 y0 y1 : Int) (k : Nat) : fillRs rs x0 x1 (lowI y0) (highI y1 rs.length) k = fillRs rs x0 x1 y0 y1 k := by
  apply List.ext_getElem?
  intro j
  rw [fillRs_at, fillRs_at]
  cases q : rs[j]? with
  | none => rfl
  | some r =>
    have hj : j < rs.length := by
      by_cases z : j < rs.length
      · exact z
      · rw [List.getElem?_eq_none (by omega)] at q; cases q
    simp only [Option.map_some, Option.some.injEq]
    have e : (lowI y0 ≤ (j : Int) ∧ (j : Int) < highI y1 rs.length) ↔ (y0 ≤ (j : Int) ∧ (j : Int) < y1) := by
      unfold lowI highI
      split <;> split <;> omega
    by_cases h : y0 ≤ (j : Int) ∧ (j : Int) < y1
    · rw [if_pos h, if_pos (e.mpr h)]
    · rw [if_neg h, if_neg fun z => h (e.mp z)]
theorem fill_begin (rs : List (List Nat)) (x0 x1 y0 : Int) (k : Nat) : fillRs rs x0 x1 y0 (y0 + ((0 : Nat) : Int)) k = rs := by
  apply List.ext_getElem?
  intro j
  rw [fillRs_at]
  cases q : rs[j]? with
  | none => rfl
  | some r =>
    simp only [Option.map_some, Option.some.injEq]
    rw [if_neg (by omega)]
theorem fill_end (rs : List (List Nat)) (x0 x1 a b : Int) (k : Nat) : fillRs rs x0 x1 a (a + ((b - a).toNat : Nat)) k = fillRs rs x0 x1 a b k := by
  apply List.ext_getElem?
  intro j
  rw [fillRs_at, fillRs_at]
  cases q : rs[j]? with
  | none => rfl
  | some r =>
    simp only [Option.map_some, Option.some.injEq]
    have e : (a ≤ (j : Int) ∧ (j : Int) < a + ((b - a).toNat : Nat)) ↔ (a ≤ (j : Int) ∧ (j : Int) < b) := by omega
    by_cases h : a ≤ (j : Int) ∧ (j : Int) < b
    · rw [if_pos h, if_pos (e.mpr h)]
    · rw [if_neg h, if_neg fun z => h (e.mp z)]
theorem fill_step {rs : List (List Nat)} {x0 x1 y0 : Int} {k i j : Nat} {r : List Nat} (hj : (j : Int) = y0 + i) (hr : rs[j]? = some r) : (fillRs rs x0 x1 y0 (y0 + (i : Nat)) k).set j (paintR r x0 x1 k) = fillRs rs x0 x1 y0 (y0 + ((i + 1 : Nat) : Int)) k := by
  apply List.ext_getElem?
  intro m
  rw [List.getElem?_set, fillRs_len, fillRs_at, fillRs_at]
  have hjl : j < rs.length := by
    by_cases z : j < rs.length
    · exact z
    · rw [List.getElem?_eq_none (by omega)] at hr; cases hr
  by_cases e : j = m
  · subst e
    rw [if_pos rfl, if_pos hjl, hr]
    simp only [Option.map_some, Option.some.injEq]
    rw [if_pos (by omega)]
  · rw [if_neg e]
    cases q : rs[m]? with
    | none => rfl
    | some d =>
      simp only [Option.map_some, Option.some.injEq]
      have e2 : (y0 ≤ (m : Int) ∧ (m : Int) < y0 + (i : Nat)) ↔ (y0 ≤ (m : Int) ∧ (m : Int) < y0 + ((i + 1 : Nat) : Int)) := by omega
      by_cases h : y0 ≤ (m : Int) ∧ (m : Int) < y0 + (i : Nat)
      · rw [if_pos h, if_pos (e2.mp h)]
      · rw [if_neg h, if_neg fun z => h (e2.mpr z)]
theorem fill_at_j {rs : List (List Nat)} {x0 x1 y0 : Int} {k i j : Nat} {r : List Nat} (hj : (j : Int) = y0 + i) (hr : rs[j]? = some r) : (fillRs rs x0 x1 y0 (y0 + (i : Nat)) k)[j]? = some r := by
  rw [fillRs_at, hr]
  simp only [Option.map_some, Option.some.injEq]
  rw [if_neg (by omega)]
def spClip : Sp := fun vs H Q _ => ∃ b e s : Int, vs = [.int b, .int e, .int s] ∧ ∀ t H', Fresh H H' t (.tup [.int (lowI b), .int (highI e s)]) → Q (.ref t) H'
def spPaint : Sp := fun vs H Q _ => ∃ (r : List Nat) (b e c : Nat), vs = [.str (S r), .int b, .int e, .str (S [c])] ∧ b < e ∧ e ≤ r.length ∧ r.length ≤ 200 ∧ Q (.str (S (r.take b ++ List.replicate (e - b) c ++ r.drop e))) H
def spFilled : Sp := fun vs H Q _ => ∃ (l : Addr) (w : Nat) (rs : List (List Nat)) (x0 x1 y0 y1 c : Int), vs = [.ref l, .int x0, .int x1, .int y0, .int y1, .int c] ∧ H l = some (.lst (rowsV rs)) ∧ Good w rs ∧ 0 ≤ c ∧ c < 10 ∧
  ∀ t H', Fresh H H' t (.lst (rowsV (fillRs rs x0 x1 y0 y1 (48 + c.toNat)))) → Q (.ref t) H'
section
variable {P : Program} {w : World} {K : PySem.W.Frag} {mg : Str → Option Value} {base : Heap} {a : Adr}
set_option maxHeartbeats 4000000
theorem ok_clipped (T : Txt K mg a) : FnR P w K mg base CX0 1 a.clipped spClip := by
  refine T.d_clipped.ok sc_clipped (fun _ _ _ _ _ _ us hl => match us, hl with | [_, _, _], _ => rfl) (fun vs H Q E h => by obtain ⟨b, e, s, rfl, _⟩ := h; rfl) (fun cdv A outer s H vs Q E hr h => ?_)
  obtain ⟨b, e, sz, rfl, k⟩ := h
  refine ⟨_, (pss_one (ps_ret (pe_tup (pa_cons (pe_ifExp (pt_cmpR op_gt (pv 0) pe_int (nomark _)) (pv 0) pe_int) (pa_cons (pe_ifExp (pt_cmpR op_lt (pv 1) (pv 2) (nomark _)) (pv 1) (pv 2)) pa_nil))))), ?_⟩
  simp only [tSeq, tIfS, tTest, tB, tAnd, tOr, tNot, tAndV, tOrV, tNotV, tIf, tOp, tUn, tChain, rEq, rNe, rI0, rI, rU, tCallR, tCons, tNil, tC, tVar, tRet, tRetN, tTup_k, tLst_k, tCB, tNext, tAsg, gName, gTup, gCons, gNil, tDrop, tPar, tFld, ClX.tCVal, tPropR, rBin, rBinT, rNeOwn, rSetL_k, gSub, tMakeK_k, tMethR, rInO, tDNewK_k, tYes, wipe, tMakeR_k, tSMeth, tSMethK, rMulS, decide_true, tNever, sFld, rIsiT, and_false, rListOf, rTupOf, rLenSeq, rIxL, rIxT, rIxS, rCat_k, rRep_k, rSlL_k, rSlS, rNewStrs_k, rAppend_k, tBM, tBM0, tM0, tM1, tSl, tNoPart, tPart, tLc_k, tFor_k, iList, iTup, iEnumT, iRng1, iRng2, iRng2L, iStr, L2.start, List.map, List.length_cons, List.length_nil, List.cons_append, List.nil_append, List.getElem?_cons_succ, List.getElem?_cons_zero, Option.some.injEq, V.int.injEq, V.bl.injEq, V.str.injEq, V.ref.injEq, exists_eq_left', exists_eq_left, and_assoc, exists_and_left, exists_eq, exists_eq', true_and, and_true, List.set_cons_zero, List.set_cons_succ, List.set, decide_eq_true_eq, Bool.not_eq_true', if_true, if_false, rIx, cx_K, nox_K, List.replicate_succ, List.replicate_zero, Nat.reduceSub, Bool.true_eq_false, Bool.false_eq_true, Nat.reduceAdd, List.cons.injEq, reduceCtorEq, false_and, false_or, or_false, tAug, rSetO, rJoin, rExtend]
  unfold lowI highI at k
  by_cases h1 : b > 0
  · by_cases h2 : e < sz
    · simp only [h1, h2, if_true, tSeq, tIfS, tTest, tB, tAnd, tOr, tNot, tAndV, tOrV, tNotV, tIf, tOp, tUn, tChain, rEq, rNe, rI0, rI, rU, tCallR, tCons, tNil, tC, tVar, tRet, tRetN, tTup_k, tLst_k, tCB, tNext, tAsg, gName, gTup, gCons, gNil, tDrop, tPar, tFld, ClX.tCVal, tPropR, rBin, rBinT, rNeOwn, rSetL_k, gSub, tMakeK_k, tMethR, rInO, tDNewK_k, tYes, wipe, tMakeR_k, tSMeth, tSMethK, rMulS, decide_true, tNever, sFld, rIsiT, and_false, rListOf, rTupOf, rLenSeq, rIxL, rIxT, rIxS, rCat_k, rRep_k, rSlL_k, rSlS, rNewStrs_k, rAppend_k, tBM, tBM0, tM0, tM1, tSl, tNoPart, tPart, tLc_k, tFor_k, iList, iTup, iEnumT, iRng1, iRng2, iRng2L, iStr, L2.start, List.map, List.length_cons, List.length_nil, List.cons_append, List.nil_append, List.getElem?_cons_succ, List.getElem?_cons_zero, Option.some.injEq, V.int.injEq, V.bl.injEq, V.str.injEq, V.ref.injEq, exists_eq_left', exists_eq_left, and_assoc, exists_and_left, exists_eq, exists_eq', true_and, and_true, List.set_cons_zero, List.set_cons_succ, List.set, decide_eq_true_eq, Bool.not_eq_true', if_true, if_false, rIx, cx_K, nox_K, List.replicate_succ, List.replicate_zero, Nat.reduceSub, Bool.true_eq_false, Bool.false_eq_true, Nat.reduceAdd, List.cons.injEq, reduceCtorEq, false_and, false_or, or_false, tAug, rSetO, rJoin, rExtend] at k ⊢
      exact kNew.mk (by show 2 ≤ sizeLine; decide) k
    · simp only [h1, h2, if_true, if_false, tSeq, tIfS, tTest, tB, tAnd, tOr, tNot, tAndV, tOrV, tNotV, tIf, tOp, tUn, tChain, rEq, rNe, rI0, rI, rU, tCallR, tCons, tNil, tC, tVar, tRet, tRetN, tTup_k, tLst_k, tCB, tNext, tAsg, gName, gTup, gCons, gNil, tDrop, tPar, tFld, ClX.tCVal, tPropR, rBin, rBinT, rNeOwn, rSetL_k, gSub, tMakeK_k, tMethR, rInO, tDNewK_k, tYes, wipe, tMakeR_k, tSMeth, tSMethK, rMulS, decide_true, tNever, sFld, rIsiT, and_false, rListOf, rTupOf, rLenSeq, rIxL, rIxT, rIxS, rCat_k, rRep_k, rSlL_k, rSlS, rNewStrs_k, rAppend_k, tBM, tBM0, tM0, tM1, tSl, tNoPart, tPart, tLc_k, tFor_k, iList, iTup, iEnumT, iRng1, iRng2, iRng2L, iStr, L2.start, List.map, List.length_cons, List.length_nil, List.cons_append, List.nil_append, List.getElem?_cons_succ, List.getElem?_cons_zero, Option.some.injEq, V.int.injEq, V.bl.injEq, V.str.injEq, V.ref.injEq, exists_eq_left', exists_eq_left, and_assoc, exists_and_left, exists_eq, exists_eq', true_and, and_true, List.set_cons_zero, List.set_cons_succ, List.set, decide_eq_true_eq, Bool.not_eq_true', if_true, if_false, rIx, cx_K, nox_K, List.replicate_succ, List.replicate_zero, Nat.reduceSub, Bool.true_eq_false, Bool.false_eq_true, Nat.reduceAdd, List.cons.injEq, reduceCtorEq, false_and, false_or, or_false, tAug, rSetO, rJoin, rExtend] at k ⊢
      exact kNew.mk (by show 2 ≤ sizeLine; decide) k
  · by_cases h2 : e < sz
    · simp only [h1, h2, if_true, if_false, tSeq, tIfS, tTest, tB, tAnd, tOr, tNot, tAndV, tOrV, tNotV, tIf, tOp, tUn, tChain, rEq, rNe, rI0, rI, rU, tCallR, tCons, tNil, tC, tVar, tRet, tRetN, tTup_k, tLst_k, tCB, tNext, tAsg, gName, gTup, gCons, gNil, tDrop, tPar, tFld, ClX.tCVal, tPropR, rBin, rBinT, rNeOwn, rSetL_k, gSub, tMakeK_k, tMethR, rInO, tDNewK_k, tYes, wipe, tMakeR_k, tSMeth, tSMethK, rMulS, decide_true, tNever, sFld, rIsiT, and_false, rListOf, rTupOf, rLenSeq, rIxL, rIxT, rIxS, rCat_k, rRep_k, rSlL_k, rSlS, rNewStrs_k, rAppend_k, tBM, tBM0, tM0, tM1, tSl, tNoPart, tPart, tLc_k, tFor_k, iList, iTup, iEnumT, iRng1, iRng2, iRng2L, iStr, L2.start, List.map, List.length_cons, List.length_nil, List.cons_append, List.nil_append, List.getElem?_cons_succ, List.getElem?_cons_zero, Option.some.injEq, V.int.injEq, V.bl.injEq, V.str.injEq, V.ref.injEq, exists_eq_left', exists_eq_left, and_assoc, exists_and_left, exists_eq, exists_eq', true_and, and_true, List.set_cons_zero, List.set_cons_succ, List.set, decide_eq_true_eq, Bool.not_eq_true', if_true, if_false, rIx, cx_K, nox_K, List.replicate_succ, List.replicate_zero, Nat.reduceSub, Bool.true_eq_false, Bool.false_eq_true, Nat.reduceAdd, List.cons.injEq, reduceCtorEq, false_and, false_or, or_false, tAug, rSetO, rJoin, rExtend] at k ⊢
      exact kNew.mk (by show 2 ≤ sizeLine; decide) k
    · simp only [h1, h2, if_true, if_false, tSeq, tIfS, tTest, tB, tAnd, tOr, tNot, tAndV, tOrV, tNotV, tIf, tOp, tUn, tChain, rEq, rNe, rI0, rI, rU, tCallR, tCons, tNil, tC, tVar, tRet, tRetN, tTup_k, tLst_k, tCB, tNext, tAsg, gName, gTup, gCons, gNil, tDrop, tPar, tFld, ClX.tCVal, tPropR, rBin, rBinT, rNeOwn, rSetL_k, gSub, tMakeK_k, tMethR, rInO, tDNewK_k, tYes, wipe, tMakeR_k, tSMeth, tSMethK, rMulS, decide_true, tNever, sFld, rIsiT, and_false, rListOf, rTupOf, rLenSeq, rIxL, rIxT, rIxS, rCat_k, rRep_k, rSlL_k, rSlS, rNewStrs_k, rAppend_k, tBM, tBM0, tM0, tM1, tSl, tNoPart, tPart, tLc_k, tFor_k, iList, iTup, iEnumT, iRng1, iRng2, iRng2L, iStr, L2.start, List.map, List.length_cons, List.length_nil, List.cons_append, List.nil_append, List.getElem?_cons_succ, List.getElem?_cons_zero, Option.some.injEq, V.int.injEq, V.bl.injEq, V.str.injEq, V.ref.injEq, exists_eq_left', exists_eq_left, and_assoc, exists_and_left, exists_eq, exists_eq', true_and, and_true, List.set_cons_zero, List.set_cons_succ, List.set, decide_eq_true_eq, Bool.not_eq_true', if_true, if_false, rIx, cx_K, nox_K, List.replicate_succ, List.replicate_zero, Nat.reduceSub, Bool.true_eq_false, Bool.false_eq_true, Nat.reduceAdd, List.cons.injEq, reduceCtorEq, false_and, false_or, or_false, tAug, rSetO, rJoin, rExtend] at k ⊢
      exact kNew.mk (by show 2 ≤ sizeLine; decide) k
theorem ok_painted (T : Txt K mg a) : FnR P w K mg base CX0 1 a.painted spPaint := by
  refine T.d_painted.ok sc_painted (fun _ _ _ _ _ _ us hl => match us, hl with | [_, _, _, _], _ => rfl) (fun vs H Q E h => by obtain ⟨r, b, e, c, rfl, _⟩ := h; rfl) (fun cdv A outer s H vs Q E hr h => ?_)
  obtain ⟨r, b, e, c, rfl, h1, h2, h3, k⟩ := h
  refine ⟨_, (pss_one (ps_ret (pe_op op_add_str (pe_op op_add_str (pe_slice sl_str (pv 0) po_none (po_some (pv 1))) (pe_op op_mulS (pv 3) (pe_op op_sub (pv 2) (pv 1)))) (pe_slice sl_str (pv 0) (po_some (pv 2)) po_none)))), ?_⟩
  simp only [tSeq, tIfS, tTest, tB, tAnd, tOr, tNot, tAndV, tOrV, tNotV, tIf, tOp, tUn, tChain, rEq, rNe, rI0, rI, rU, tCallR, tCons, tNil, tC, tVar, tRet, tRetN, tTup_k, tLst_k, tCB, tNext, tAsg, gName, gTup, gCons, gNil, tDrop, tPar, tFld, ClX.tCVal, tPropR, rBin, rBinT, rNeOwn, rSetL_k, gSub, tMakeK_k, tMethR, rInO, tDNewK_k, tYes, wipe, tMakeR_k, tSMeth, tSMethK, rMulS, decide_true, tNever, sFld, rIsiT, and_false, rListOf, rTupOf, rLenSeq, rIxL, rIxT, rIxS, rCat_k, rRep_k, rSlL_k, rSlS, rNewStrs_k, rAppend_k, tBM, tBM0, tM0, tM1, tSl, tNoPart, tPart, tLc_k, tFor_k, iList, iTup, iEnumT, iRng1, iRng2, iRng2L, iStr, L2.start, List.map, List.length_cons, List.length_nil, List.cons_append, List.nil_append, List.getElem?_cons_succ, List.getElem?_cons_zero, Option.some.injEq, V.int.injEq, V.bl.injEq, V.str.injEq, V.ref.injEq, exists_eq_left', exists_eq_left, and_assoc, exists_and_left, exists_eq, exists_eq', true_and, and_true, List.set_cons_zero, List.set_cons_succ, List.set, decide_eq_true_eq, Bool.not_eq_true', if_true, if_false, rIx, cx_K, nox_K, List.replicate_succ, List.replicate_zero, Nat.reduceSub, Bool.true_eq_false, Bool.false_eq_true, Nat.reduceAdd, List.cons.injEq, reduceCtorEq, false_and, false_or, or_false, tAug, rSetO, rJoin, rExtend]
  have e0 : ((e : Int) - b).toNat = e - b := by omega
  rw [cut_to (by omega), cut_from (by omega), mul_one c (by omega), e0, SX.S_cat, SX.S_cat]
  have z1 : (List.take b r).length ≤ 200 := by rw [List.length_take]; omega
  refine ⟨by rw [SX.S_len]; exact size200 h3, mulOk_one c (by omega) (by omega), ?_, by rw [SX.S_len]; exact size200 h3, ?_, k⟩
  · rw [SX.S_len, SX.S_len, List.length_take, List.length_replicate]
    exact size200 (by omega)
  · rw [SX.S_len, SX.S_len, List.length_append, List.length_take, List.length_replicate, List.length_drop]
    exact size200 (by omega)
theorem ok_filled_rows (T : Txt K mg a) : FnR P w K mg base CX0 2 a.filled_rows spFilled := by
  have G_clipped : FnR P w K mg base CX0 1 a.clipped spClip := ok_clipped T
  have G_painted : FnR P w K mg base CX0 1 a.painted spPaint := ok_painted T
  refine T.d_filled_rows.ok sc_filled_rows (fun _ _ _ _ _ _ us hl => match us, hl with | [_, _, _, _, _, _], _ => rfl) (fun vs H Q E h => by obtain ⟨l, w, rs, x0, x1, y0, y1, c, rfl, _⟩ := h; rfl) (fun cdv A outer s H vs Q E hr h => ?_)
  obtain ⟨l, wd, rs, x0, x1, y0, y1, c, rfl, hl, g, c0, c1, k⟩ := h
  refine ⟨_, (pss_cons (ps_asg (pe_callR G_clipped (hr.mono (by decide)) T.m_clipped T.k_clipped pass0 (pa_cons (pv 1) (pa_cons (pv 2) (pa_cons (pe_callB call_len_str (by rfl) T.n_len (by decide +kernel) (pa_cons (pe_ix ix_list (pv 0) pe_int (fun _ _ => rfl)) pa_nil)) pa_nil)))) (pg_tup rfl (pgs_cons (pg_name (i := 6) sc_filled_rows.nd rfl (Or.inl rfl)) (pgs_cons (pg_name (i := 7) sc_filled_rows.nd rfl (Or.inl rfl)) pgs_nil))))
      (pss_cons (ps_asg (pe_callR G_clipped (hr.mono (by decide)) T.m_clipped T.k_clipped pass0 (pa_cons (pv 3) (pa_cons (pv 4) (pa_cons (pe_callB call_len_seq (by rfl) T.n_len (by decide +kernel) (pa_cons (pv 0) pa_nil)) pa_nil)))) (pg_tup rfl (pgs_cons (pg_name (i := 8) sc_filled_rows.nd rfl (Or.inl rfl)) (pgs_cons (pg_name (i := 9) sc_filled_rows.nd rfl (Or.inl rfl)) pgs_nil))))
      (pss_cons (ps_set (i := 10) sc_filled_rows.nd rfl (Or.inl rfl) (pe_callTy call_listK (by rfl) T.n_list (by decide +kernel) (pa_cons (pv 0) pa_nil)))
      (pss_cons (ps_if (pt_cmpR op_lt (pv 6) (pv 7) (nomark _))
          (pss_one (ps_for PassesOwn.never rfl (pi_range2L rfl T.n_range (pa_cons (pv 8) (pa_cons (pv 9) pa_nil))) (pg_name (i := 11) sc_filled_rows.nd rfl (Or.inl rfl))
              (pss_one (ps_asg (pe_callR G_painted (hr.mono (by decide)) T.m_painted T.k_painted pass0 (pa_cons (pe_ix ix_list (pv 0) (pv 11) (fun _ _ => rfl)) (pa_cons (pv 6) (pa_cons (pv 7) (pa_cons (pe_callTy call_str_int (by rfl) T.n_str (by decide +kernel) (pa_cons (pv 5) pa_nil)) pa_nil))))) (pg_sub (pv 10) (pv 11) set_list)))))
          pss_nil)
      (pss_one (ps_ret (pv 10))))))), ?_⟩
  simp only [tSeq, tIfS, tTest, tB, tAnd, tOr, tNot, tAndV, tOrV, tNotV, tIf, tOp, tUn, tChain, rEq, rNe, rI0, rI, rU, tCallR, tCons, tNil, tC, tVar, tRet, tRetN, tTup_k, tLst_k, tCB, tNext, tAsg, gName, gTup, gCons, gNil, tDrop, tPar, tFld, ClX.tCVal, tPropR, rBin, rBinT, rNeOwn, rSetL_k, gSub, tMakeK_k, tMethR, rInO, tDNewK_k, tYes, wipe, tMakeR_k, tSMeth, tSMethK, rMulS, decide_true, tNever, sFld, rIsiT, and_false, rListOf, rTupOf, rLenSeq, rIxL, rIxT, rIxS, rCat_k, rRep_k, rSlL_k, rSlS, rNewStrs_k, rAppend_k, tBM, tBM0, tM0, tM1, tSl, tNoPart, tPart, tLc_k, tFor_k, iList, iTup, iEnumT, iRng1, iRng2, iRng2L, iStr, L2.start, List.map, List.length_cons, List.length_nil, List.cons_append, List.nil_append, List.getElem?_cons_succ, List.getElem?_cons_zero, Option.some.injEq, V.int.injEq, V.bl.injEq, V.str.injEq, V.ref.injEq, exists_eq_left', exists_eq_left, and_assoc, exists_and_left, exists_eq, exists_eq', true_and, and_true, List.set_cons_zero, List.set_cons_succ, List.set, decide_eq_true_eq, Bool.not_eq_true', if_true, if_false, rIx, cx_K, nox_K, List.replicate_succ, List.replicate_zero, Nat.reduceSub, Bool.true_eq_false, Bool.false_eq_true, Nat.reduceAdd, List.cons.injEq, reduceCtorEq, false_and, false_or, or_false, tAug, rSetO, rJoin, rExtend]
  obtain ⟨r0, hr0, ha0⟩ := at0 g
  have hw0 := (g.at_ hr0).1
  have q1 := g.w1
  have q2 := g.l1
  refine ⟨_, SqL.of hl, _, ha0, _, rfl, by rw [SX.S_len, hw0]; exact size200 q1, _, _, _, rfl, fun t1 H1 f1 => ?_⟩
  rw [SX.S_len, hw0] at f1
  have hl1 := f1.get hl
  refine ⟨_, rfl, _, .inl (.inl f1.at_), rfl, _, _, rfl, _, _, rfl, rfl, _, .inl (SqL.of hl1), _, _, _, rfl, fun t2 H2 f2 => ?_⟩
  rw [rowsV_len] at f2
  have hl2 := f2.get hl1
  refine ⟨_, rfl, _, .inl (.inl f2.at_), rfl, _, _, rfl, _, _, rfl, rfl, ?_⟩
  simp only [tSeq, tIfS, tTest, tB, tAnd, tOr, tNot, tAndV, tOrV, tNotV, tIf, tOp, tUn, tChain, rEq, rNe, rI0, rI, rU, tCallR, tCons, tNil, tC, tVar, tRet, tRetN, tTup_k, tLst_k, tCB, tNext, tAsg, gName, gTup, gCons, gNil, tDrop, tPar, tFld, ClX.tCVal, tPropR, rBin, rBinT, rNeOwn, rSetL_k, gSub, tMakeK_k, tMethR, rInO, tDNewK_k, tYes, wipe, tMakeR_k, tSMeth, tSMethK, rMulS, decide_true, tNever, sFld, rIsiT, and_false, rListOf, rTupOf, rLenSeq, rIxL, rIxT, rIxS, rCat_k, rRep_k, rSlL_k, rSlS, rNewStrs_k, rAppend_k, tBM, tBM0, tM0, tM1, tSl, tNoPart, tPart, tLc_k, tFor_k, iList, iTup, iEnumT, iRng1, iRng2, iRng2L, iStr, L2.start, List.map, List.length_cons, List.length_nil, List.cons_append, List.nil_append, List.getElem?_cons_succ, List.getElem?_cons_zero, Option.some.injEq, V.int.injEq, V.bl.injEq, V.str.injEq, V.ref.injEq, exists_eq_left', exists_eq_left, and_assoc, exists_and_left, exists_eq, exists_eq', true_and, and_true, List.set_cons_zero, List.set_cons_succ, List.set, decide_eq_true_eq, Bool.not_eq_true', if_true, if_false, rIx, cx_K, nox_K, List.replicate_succ, List.replicate_zero, Nat.reduceSub, Bool.true_eq_false, Bool.false_eq_true, Nat.reduceAdd, List.cons.injEq, reduceCtorEq, false_and, false_or, or_false, tAug, rSetO, rJoin, rExtend]
  obtain ⟨e1, e2⟩ := dig_S c0 c1
  have kd : 48 ≤ 48 + c.toNat ∧ 48 + c.toNat ≤ 57 := by omega
  refine ⟨_, .inl (SqL.of hl2), kN.mk fun nw H3 f3 => ?_⟩
  have hl3 := f3.get hl2
  by_cases hx : lowI x0 < highI x1 wd
  · rw [if_pos hx]
    obtain ⟨lx, elx⟩ : ∃ m : Nat, (m : Int) = lowI x0 := ⟨(lowI x0).toNat, by unfold lowI; split <;> omega⟩
    obtain ⟨ex, eex⟩ : ∃ m : Nat, (m : Int) = highI x1 wd := ⟨(highI x1 wd).toNat, by unfold lowI at hx; split at hx <;> omega⟩
    have hex : ex ≤ wd := by unfold highI at eex; split at eex <;> omega
    have hty : 0 ≤ lowI y0 := by unfold lowI; split <;> omega
    have htf : highI y1 rs.length ≤ rs.length := by unfold highI; split <;> omega
    refine kFor.it walk_range (fun i σ H' => Fresh H H' nw (.lst (rowsV (fillRs rs x0 x1 (lowI y0) (lowI y0 + (i : Nat)) (48 + c.toNat)))) ∧ ∃ x11, σ = [some (.ref l), some (.int x0), some (.int x1), some (.int y0), some (.int y1), some (.int c), some (.int (lowI x0)), some (.int (highI x1 wd)), some (.int (lowI y0)), some (.int (highI y1 rs.length)), some (.ref nw), x11]) ⟨?_, _, rfl⟩ (fun _ _ _ _ _ => trivial) (fun i xv σ H4 H5 hi hP hY => ?_) fun σ H4 hP => ?_
    · rw [fill_begin]
      exact ⟨(f1.same.trans f2.same).trans f3.same, f3.at_, by
        cases e : H nw with
        | none => rfl
        | some o => have z := f2.get (f1.get e); rw [f3.new] at z; cases z⟩
    · obtain ⟨f4, x11, rfl⟩ := hP
      obtain ⟨rfl, rfl⟩ := hY
      obtain ⟨j, hj⟩ : ∃ j : Nat, (j : Int) = lowI y0 + i := ⟨(lowI y0 + i).toNat, by omega⟩
      have hjl : j < rs.length := by omega
      obtain ⟨r, hr'⟩ : ∃ r, rs[j]? = some r := ⟨_, List.getElem?_eq_getElem hjl⟩
      obtain ⟨hw, hd⟩ := g.at_ hr'
      have hv : (rowsV rs)[j]? = some (.str (S r)) := by rw [List.getElem?_map, hr']; rfl
      have hln : l ≠ nw := f4.ne hl
      simp only [tSeq, tIfS, tTest, tB, tAnd, tOr, tNot, tAndV, tOrV, tNotV, tIf, tOp, tUn, tChain, rEq, rNe, rI0, rI, rU, tCallR, tCons, tNil, tC, tVar, tRet, tRetN, tTup_k, tLst_k, tCB, tNext, tAsg, gName, gTup, gCons, gNil, tDrop, tPar, tFld, ClX.tCVal, tPropR, rBin, rBinT, rNeOwn, rSetL_k, gSub, tMakeK_k, tMethR, rInO, tDNewK_k, tYes, wipe, tMakeR_k, tSMeth, tSMethK, rMulS, decide_true, tNever, sFld, rIsiT, and_false, rListOf, rTupOf, rLenSeq, rIxL, rIxT, rIxS, rCat_k, rRep_k, rSlL_k, rSlS, rNewStrs_k, rAppend_k, tBM, tBM0, tM0, tM1, tSl, tNoPart, tPart, tLc_k, tFor_k, iList, iTup, iEnumT, iRng1, iRng2, iRng2L, iStr, L2.start, List.map, List.length_cons, List.length_nil, List.cons_append, List.nil_append, List.getElem?_cons_succ, List.getElem?_cons_zero, Option.some.injEq, V.int.injEq, V.bl.injEq, V.str.injEq, V.ref.injEq, exists_eq_left', exists_eq_left, and_assoc, exists_and_left, exists_eq, exists_eq', true_and, and_true, List.set_cons_zero, List.set_cons_succ, List.set, decide_eq_true_eq, Bool.not_eq_true', if_true, if_false, rIx, cx_K, nox_K, List.replicate_succ, List.replicate_zero, Nat.reduceSub, Bool.true_eq_false, Bool.false_eq_true, Nat.reduceAdd, List.cons.injEq, reduceCtorEq, false_and, false_or, or_false, tAug, rSetO, rJoin, rExtend]
      rw [← hj, ← elx, ← eex, e1]
      refine ⟨_, SqL.of (f4.get hl), _, atI_nat hv, e2, r, lx, ex, 48 + c.toNat, rfl, by omega, by omega, by omega, ?_⟩
      simp only [tSeq, tIfS, tTest, tB, tAnd, tOr, tNot, tAndV, tOrV, tNotV, tIf, tOp, tUn, tChain, rEq, rNe, rI0, rI, rU, tCallR, tCons, tNil, tC, tVar, tRet, tRetN, tTup_k, tLst_k, tCB, tNext, tAsg, gName, gTup, gCons, gNil, tDrop, tPar, tFld, ClX.tCVal, tPropR, rBin, rBinT, rNeOwn, rSetL_k, gSub, tMakeK_k, tMethR, rInO, tDNewK_k, tYes, wipe, tMakeR_k, tSMeth, tSMethK, rMulS, decide_true, tNever, sFld, rIsiT, and_false, rListOf, rTupOf, rLenSeq, rIxL, rIxT, rIxS, rCat_k, rRep_k, rSlL_k, rSlS, rNewStrs_k, rAppend_k, tBM, tBM0, tM0, tM1, tSl, tNoPart, tPart, tLc_k, tFor_k, iList, iTup, iEnumT, iRng1, iRng2, iRng2L, iStr, L2.start, List.map, List.length_cons, List.length_nil, List.cons_append, List.nil_append, List.getElem?_cons_succ, List.getElem?_cons_zero, Option.some.injEq, V.int.injEq, V.bl.injEq, V.str.injEq, V.ref.injEq, exists_eq_left', exists_eq_left, and_assoc, exists_and_left, exists_eq, exists_eq', true_and, and_true, List.set_cons_zero, List.set_cons_succ, List.set, decide_eq_true_eq, Bool.not_eq_true', if_true, if_false, rIx, cx_K, nox_K, List.replicate_succ, List.replicate_zero, Nat.reduceSub, Bool.true_eq_false, Bool.false_eq_true, Nat.reduceAdd, List.cons.injEq, reduceCtorEq, false_and, false_or, or_false, tAug, rSetO, rJoin, rExtend]
      refine ⟨_, f4.at_, j, ?_, kPutS.mk fun H6 p6 => ?_⟩
      · unfold ixN
        rw [if_pos (by omega), if_pos (by rw [rowsV_len, fillRs_len]; omega), Int.toNat_natCast]
      rw [paint_cut (x0 := x0) (x1 := x1) elx (by rw [hw]; exact eex) (by omega), rowsV_set, fill_step hj hr'] at p6
      exact ⟨fun b o e => p6.get (f4.ne e) (f4.get e), p6.at_, f4.new⟩
    · obtain ⟨f4, x11, rfl⟩ := hP
      simp only [tSeq, tIfS, tTest, tB, tAnd, tOr, tNot, tAndV, tOrV, tNotV, tIf, tOp, tUn, tChain, rEq, rNe, rI0, rI, rU, tCallR, tCons, tNil, tC, tVar, tRet, tRetN, tTup_k, tLst_k, tCB, tNext, tAsg, gName, gTup, gCons, gNil, tDrop, tPar, tFld, ClX.tCVal, tPropR, rBin, rBinT, rNeOwn, rSetL_k, gSub, tMakeK_k, tMethR, rInO, tDNewK_k, tYes, wipe, tMakeR_k, tSMeth, tSMethK, rMulS, decide_true, tNever, sFld, rIsiT, and_false, rListOf, rTupOf, rLenSeq, rIxL, rIxT, rIxS, rCat_k, rRep_k, rSlL_k, rSlS, rNewStrs_k, rAppend_k, tBM, tBM0, tM0, tM1, tSl, tNoPart, tPart, tLc_k, tFor_k, iList, iTup, iEnumT, iRng1, iRng2, iRng2L, iStr, L2.start, List.map, List.length_cons, List.length_nil, List.cons_append, List.nil_append, List.getElem?_cons_succ, List.getElem?_cons_zero, Option.some.injEq, V.int.injEq, V.bl.injEq, V.str.injEq, V.ref.injEq, exists_eq_left', exists_eq_left, and_assoc, exists_and_left, exists_eq, exists_eq', true_and, and_true, List.set_cons_zero, List.set_cons_succ, List.set, decide_eq_true_eq, Bool.not_eq_true', if_true, if_false, rIx, cx_K, nox_K, List.replicate_succ, List.replicate_zero, Nat.reduceSub, Bool.true_eq_false, Bool.false_eq_true, Nat.reduceAdd, List.cons.injEq, reduceCtorEq, false_and, false_or, or_false, tAug, rSetO, rJoin, rExtend]
      rw [fill_end, fill_clip] at f4
      exact k nw H4 f4
  · rw [if_neg hx]
    refine k nw H3 ?_
    rw [fill_none g hx]
    exact ⟨(f1.same.trans f2.same).trans f3.same, f3.at_, by
        cases e : H nw with
        | none => rfl
        | some o => have z := f2.get (f1.get e); rw [f3.new] at z; cases z⟩
end
/-! ### canvases whose rows' list is told -/
def CanT (H : Hp) (C x t : Addr) (rs : List (List Nat)) : Prop := ∃ dx, H x = some (.ins C dx [("_rows", .ref t)]) ∧ H t = some (.lst (rowsV rs))
theorem CanT.same {H H' : Hp} {C x t : Addr} {rs : List (List Nat)} (p : CanT H C x t rs) (s : Same H H') : CanT H' C x t rs := by
  obtain ⟨dx, h1, h2⟩ := p
  exact ⟨dx, s _ _ h1, s _ _ h2⟩
theorem CanT.ins {H : Hp} {C x t : Addr} {rs : List (List Nat)} (p : CanT H C x t rs) : InsAt H x C := by
  obtain ⟨dx, h1, h2⟩ := p
  exact ⟨dx, _, h1⟩
/-- rows with one pixel painted -/
def setRs (rs : List (List Nat)) (i j : Int) (k : Nat) : List (List Nat) := rs.set j.toNat ((rs.getD j.toNat []).set i.toNat k)
theorem Good.setRs {w : Nat} {rs : List (List Nat)} (g : Good w rs) {i j : Int} {k : Nat} (j0 : 0 ≤ j) (j1 : j < rs.length) (hk : 48 ≤ k ∧ k ≤ 57) : Good w (setRs rs i j k) := by
  have e : rs.getD j.toNat [] = rs[j.toNat]'(by omega) := by rw [List.getD_eq_getElem?_getD, List.getElem?_eq_getElem (by omega), Option.getD_some]
  obtain ⟨h1, h2⟩ := g.row _ (List.getElem_mem (show j.toNat < rs.length by omega))
  unfold Pf.setRs
  rw [e]
  refine g.set (by rw [List.length_set, h1]) fun c hc => ?_
  rcases List.mem_or_eq_of_mem_set hc with h | h
  · exact h2 c h
  · rw [h]; exact hk
theorem setRs_len (rs : List (List Nat)) (i j : Int) (k : Nat) : (setRs rs i j k).length = rs.length := List.length_set ..
def spCanInitE (K : PySem.W.Frag) (C B : Addr) : Sp := fun vs H Q E => ∃ (p dx : Addr) (v u : V), vs = [.ref p, v, u] ∧ H p = some (.ins C dx []) ∧
  ((∃ w h : Int, v = .int w ∧ u = .int h ∧ 1 ≤ w ∧ w ≤ 200 ∧ 1 ≤ h ∧ h ≤ 200 ∧ ∀ (t : Addr) (H1 : Hp), Fresh H H1 t (.lst (rowsV (plainRs w h 0))) → Q .non (upd H1 p (.ins C dx [("_rows", .ref t)]))) ∨
   (BadI K 1 201 H v ∧ Out1 B "part" H E (.str "width")) ∨ (∃ w : Int, v = .int w ∧ 1 ≤ w ∧ w ≤ 200 ∧ BadI K 1 201 H u ∧ Out1 B "part" H E (.str "height")))
def spCanPic (C D : Addr) : Sp := fun vs H Q _ => ∃ (x t : Addr) (w : Nat) (rs : List (List Nat)), vs = [.ref x] ∧ CanT H C x t rs ∧ Good w rs ∧ ∀ y H', Same H H' → H y = none → Pic H' D y rs → Q (.ref y) H'
def spCanWidth (C : Addr) : Sp := fun vs H Q _ => ∃ (x t : Addr) (w : Nat) (rs : List (List Nat)), vs = [.ref x] ∧ CanT H C x t rs ∧ Good w rs ∧ Q (.int w) H
def spCanHeight (C : Addr) : Sp := fun vs H Q _ => ∃ (x t : Addr) (rs : List (List Nat)), vs = [.ref x] ∧ CanT H C x t rs ∧ Q (.int rs.length) H
def spCanGet (K : PySem.W.Frag) (C B : Addr) : Sp := fun vs H Q E => ∃ (x t at_ : Addr) (w : Nat) (rs : List (List Nat)) (v u : V), vs = [.ref x, .ref at_] ∧ CanT H C x t rs ∧ Good w rs ∧ H at_ = some (.tup [v, u]) ∧
  ((∃ i j : Int, v = .int i ∧ u = .int j ∧ 0 ≤ i ∧ i < w ∧ 0 ≤ j ∧ j < rs.length ∧ Q (.int (pixAt rs i j)) H) ∨ (BadPx K w rs.length H v u ∧ Out2 B "x" "y" H E v u))
def spCanSet (K : PySem.W.Frag) (C B D : Addr) : Sp := fun vs H Q E => ∃ (x t at_ : Addr) (w : Nat) (rs : List (List Nat)) (v u k : V), vs = [.ref x, .ref at_, k] ∧ CanT H C x t rs ∧ Good w rs ∧ H at_ = some (.tup [v, u]) ∧
  ((∃ i j c : Int, v = .int i ∧ u = .int j ∧ k = .int c ∧ 0 ≤ i ∧ i < w ∧ 0 ≤ j ∧ j < rs.length ∧ 0 ≤ c ∧ c < 10 ∧ ∀ H', Put H H' t (.lst (rowsV (setRs rs i j (48 + c.toNat)))) → Q .non H') ∨
   (BadPx K w rs.length H v u ∧ Out2 B "x" "y" H E v u) ∨ (∃ i j : Int, v = .int i ∧ u = .int j ∧ 0 ≤ i ∧ i < w ∧ 0 ≤ j ∧ j < rs.length ∧ BadC K H k ∧ Out1 D "value" H E k))
def spCanEq (K : PySem.W.Frag) (C : Addr) : Sp := fun vs H Q _ => ∃ (x t : Addr) (w : Nat) (rs : List (List Nat)) (v : V), vs = [.ref x, v] ∧ CanT H C x t rs ∧ Good w rs ∧
  ((∃ (y u : Addr) (w' : Nat) (rs' : List (List Nat)), v = .ref y ∧ CanT H C y u rs' ∧ Good w' rs' ∧ Q (.bl (decide (rs = rs'))) H) ∨ (∃ ty : Value, TyX K H v ty ∧ PySem.W.kitOne K ty (.ref C) = some false ∧ Q (.bl false) H))
section
variable {P : Program} {w : World} {K : PySem.W.Frag} {mg : Str → Option Value} {base : Heap} {a : Adr}
set_option maxHeartbeats 4000000
theorem can_init_body (T : Txt K mg a) {fd : FuncData} (F : FunD K "__init__" "Canvas.__init__" (defArgs s_Canvas_init) (defBody s_Canvas_init) (defScope s_Canvas_init) [] [] a.Canvas_init fd) : FnOk P w K mg base (CX P w) 4 a.Canvas_init fd ["self", "width", "height"] (spCanInitE K a.Canvas a.BadSize) := by
  have G_check_side : FnR P w K mg base (CX P w) 3 a.check_side (spChSideE K a.BadSize) := ok_check_sideE T
  obtain ⟨uM, cvM⟩ := T.cv_CMOST
  refine F.ok sc_Canvas_init (fun vs H Q E h => by obtain ⟨p, dx, v, u, rfl, _⟩ := h; rfl) (fun cdv A outer s H vs Q E hr h => ?_)
  obtain ⟨p, dx, v, u, rfl, hp, h⟩ := h
  refine ⟨_, (pss_cons (ps_expr (pe_callR G_check_side (hr.mono (by decide)) T.m_check_side T.k_check_side (passUp (takes_of rfl rfl rfl rfl)) (pa_cons (pv 1) (pa_cons pe_str (pa_cons (ClX.pe_cval (pe_glob (v := .ref a.Canvas) rfl T.m_Canvas rfl)) pa_nil)))))
      (pss_cons (ps_expr (pe_callR G_check_side (hr.mono (by decide)) T.m_check_side T.k_check_side (passUp (takes_of rfl rfl rfl rfl)) (pa_cons (pv 2) (pa_cons pe_str (pa_cons (ClX.pe_cval (pe_glob (v := .ref a.Canvas) rfl T.m_Canvas rfl)) pa_nil)))))
      (pss_one (ps_fld (pv 0) (pe_op op_rep (pe_lst (pa_cons (pe_op op_mulS pe_str (pv 1)) pa_nil)) (pv 2)) rfl)))), ?_⟩
  simp only [tSeq, tIfS, tTest, tB, tAnd, tOr, tNot, tAndV, tOrV, tNotV, tIf, tOp, tUn, tChain, rEq, rNe, rI0, rI, rU, tCallR, tCons, tNil, tC, tVar, tRet, tRetN, tTup_k, tLst_k, tCB, tNext, tAsg, gName, gTup, gCons, gNil, tDrop, tPar, tFld, ClX.tCVal, tPropR, rBin, rBinT, rNeOwn, rSetL_k, gSub, tMakeK_k, tMethR, rInO, tDNewK_k, tYes, wipe, tMakeR_k, tSMeth, tSMethK, rMulS, decide_true, tNever, sFld, rIsiT, and_false, rListOf, rTupOf, rLenSeq, rIxL, rIxT, rIxS, rCat_k, rRep_k, rSlL_k, rSlS, rNewStrs_k, rAppend_k, tBM, tBM0, tM0, tM1, tSl, tNoPart, tPart, tLc_k, tFor_k, iList, iTup, iEnumT, iRng1, iRng2, iRng2L, iStr, L2.start, List.map, List.length_cons, List.length_nil, List.cons_append, List.nil_append, List.getElem?_cons_succ, List.getElem?_cons_zero, Option.some.injEq, V.int.injEq, V.bl.injEq, V.str.injEq, V.ref.injEq, exists_eq_left', exists_eq_left, and_assoc, exists_and_left, exists_eq, exists_eq', true_and, and_true, List.set_cons_zero, List.set_cons_succ, List.set, decide_eq_true_eq, Bool.not_eq_true', if_true, if_false, rIx, cx_K, nox_K, List.replicate_succ, List.replicate_zero, Nat.reduceSub, Bool.true_eq_false, Bool.false_eq_true, Nat.reduceAdd, List.cons.injEq, reduceCtorEq, false_and, false_or, or_false, tAug, rSetO, rJoin, rExtend]
  rcases h with ⟨wd, hg, rfl, rfl, w0, w1, h0, h1, k⟩ | ⟨hb, k⟩ | ⟨wd, rfl, w0, w1, hb, k⟩
  · refine ⟨_, T.cr_Canvas, _, _, cvM, _, _, _, rfl, .inl ⟨_, rfl, w0, w1, _, T.cr_Canvas, _, _, cvM, _, _, _, rfl, .inl ⟨_, rfl, h0, h1, ?_⟩⟩⟩
    simp only [tSeq, tIfS, tTest, tB, tAnd, tOr, tNot, tAndV, tOrV, tNotV, tIf, tOp, tUn, tChain, rEq, rNe, rI0, rI, rU, tCallR, tCons, tNil, tC, tVar, tRet, tRetN, tTup_k, tLst_k, tCB, tNext, tAsg, gName, gTup, gCons, gNil, tDrop, tPar, tFld, ClX.tCVal, tPropR, rBin, rBinT, rNeOwn, rSetL_k, gSub, tMakeK_k, tMethR, rInO, tDNewK_k, tYes, wipe, tMakeR_k, tSMeth, tSMethK, rMulS, decide_true, tNever, sFld, rIsiT, and_false, rListOf, rTupOf, rLenSeq, rIxL, rIxT, rIxS, rCat_k, rRep_k, rSlL_k, rSlS, rNewStrs_k, rAppend_k, tBM, tBM0, tM0, tM1, tSl, tNoPart, tPart, tLc_k, tFor_k, iList, iTup, iEnumT, iRng1, iRng2, iRng2L, iStr, L2.start, List.map, List.length_cons, List.length_nil, List.cons_append, List.nil_append, List.getElem?_cons_succ, List.getElem?_cons_zero, Option.some.injEq, V.int.injEq, V.bl.injEq, V.str.injEq, V.ref.injEq, exists_eq_left', exists_eq_left, and_assoc, exists_and_left, exists_eq, exists_eq', true_and, and_true, List.set_cons_zero, List.set_cons_succ, List.set, decide_eq_true_eq, Bool.not_eq_true', if_true, if_false, rIx, cx_K, nox_K, List.replicate_succ, List.replicate_zero, Nat.reduceSub, Bool.true_eq_false, Bool.false_eq_true, Nat.reduceAdd, List.cons.injEq, reduceCtorEq, false_and, false_or, or_false, tAug, rSetO, rJoin, rExtend]
    have e0 : Str.ofString "0" = S [48 + (0 : Int).toNat] := by decide +kernel
    rw [e0, mul_one _ w0]
    refine ⟨mulOk_one _ w0 (by omega), kNew.mk (by show 1 ≤ sizeLine; decide) fun lA HF fF => ⟨lA, rfl, _, fF.at_, by omega, by omega, size200 (by show 1 * hg.toNat ≤ 200; omega), kN.mk fun lB HG fG => ?_⟩⟩
    have q := fG.at_
    rw [flat_one, ← plain_rows] at q
    refine ⟨_, dx, [], fG.get (fF.get hp), T.c_Canvas.cl, T.a_Canvas__rows, by decide, k lB HG ⟨fF.same.trans fG.same, q, none_back fF.same fG.new⟩⟩
  · exact ⟨_, T.cr_Canvas, _, _, cvM, _, _, _, rfl, .inr ⟨hb, k⟩⟩
  · exact ⟨_, T.cr_Canvas, _, _, cvM, _, _, _, rfl, .inl ⟨_, rfl, w0, w1, _, T.cr_Canvas, _, _, cvM, _, _, _, rfl, .inr ⟨hb, k⟩⟩⟩
theorem ok_can_init (T : Txt K mg a) : FnR P w K mg base (CX P w) 4 a.Canvas_init (spCanInitE K a.Canvas a.BadSize) := by
  obtain ⟨fd, F⟩ := id T.d_Canvas_init
  exact ((can_init_body T F).raw (F.bindsN (fun _ _ _ _ _ _ us hl => match us, hl with | [_, _, _], _ => rfl)) .nil).imp fun vs H Q E h => by rw [List.append_nil]; exact h
theorem ok_can_initF (T : Txt K mg a) : ∃ fd, FnOk P w K mg base (CX P w) 4 a.Canvas_init fd ["self", "width", "height"] (spCanInitE K a.Canvas a.BadSize) ∧ KBn K fd ["self", "width", "height"] 1 ["height", "width"] (fun us ws => us ++ ws.reverse) (fun vs zs => vs ++ zs.reverse) := by
  obtain ⟨fd, F⟩ := id T.d_Canvas_init
  exact ⟨fd, can_init_body T F, kbn0 F (fun r1 r2 => r1.append (vals_rev r2)) (fun kV doc pm an cdv ct us ws hu hw => match us, ws, hu, hw with | [_], [_, _], _, _ => rfl)⟩
theorem newCan {C B : Addr} {w h : Int} {H : Hp} {Q : VK} {E : XK} (w0 : 1 ≤ w) (w1 : w ≤ 200) (h0 : 1 ≤ h) (h1 : h ≤ 200) (k : ∀ x t H', Same H H' → H x = none → H t = none → CanT H' C x t (plainRs w h 0) → Q (.ref x) H') : kMake C (spCanInitE K C B) E Q [.int w, .int h] H :=
  kMake.mk fun x dx H1 s1 nx hx so => ⟨x, dx, .int w, .int h, rfl, hx, .inl ⟨w, h, rfl, rfl, w0, w1, h0, h1, fun t H2 f2 => by
    refine ⟨rfl, k x t _ ?_ nx (none_back s1 f2.new) ⟨dx, upd_same, ?_⟩⟩
    · intro b u e
      rw [upd_ne (ne_of_none e nx)]
      exact f2.get (s1 _ _ e)
    · rw [upd_ne (ne_of f2.at_ (f2.get hx) (fun z => by cases z))]
      exact f2.at_⟩⟩
/-- a canvas of no size -/
theorem badCanW {C B : Addr} {v u : V} {H : Hp} {Q : VK} {E : XK} (h : BadI K 1 201 H v) (k : ∀ H', Same H H' → Out1 B "part" H' E (.str "width")) : kMake C (spCanInitE K C B) E Q [v, u] H :=
  kMake.mk fun x dx H1 s1 nx hx so => ⟨x, dx, v, u, rfl, hx, .inr (.inl ⟨h.same s1, k H1 s1⟩)⟩
theorem badCanH {C B : Addr} {w : Int} {u : V} {H : Hp} {Q : VK} {E : XK} (w0 : 1 ≤ w) (w1 : w ≤ 200) (h : BadI K 1 201 H u) (k : ∀ H', Same H H' → Out1 B "part" H' E (.str "height")) : kMake C (spCanInitE K C B) E Q [.int w, u] H :=
  kMake.mk fun x dx H1 s1 nx hx so => ⟨x, dx, .int w, u, rfl, hx, .inr (.inr ⟨w, rfl, w0, w1, h.same s1, k H1 s1⟩)⟩
theorem ok_can_pic (T : Txt K mg a) : ∃ fd, FnOk P w K mg base CX0 5 a.Canvas_picture fd ["self"] (spCanPic a.Canvas a.Picture) ∧ Binds K fd ["self"] [] := by
  have G_Picture_init : FnR P w K mg base CX0 3 a.Picture_init (spPicInit a.Picture) := ok_pic_init T
  refine T.d_Canvas_picture.okB sc_Canvas_picture (fun _ _ _ _ _ _ us hl => match us, hl with | [_], _ => rfl) (fun vs H Q E h => by obtain ⟨x, t, wd, rs, rfl, _⟩ := h; rfl) (fun cdv A outer s H vs Q E hr h => ?_)
  obtain ⟨x, t, wd, rs, rfl, ⟨dx, hx, ht⟩, g, k⟩ := h
  refine ⟨_, (pss_one (ps_ret (pe_makeRR T.M_Picture G_Picture_init (hr.mono (by decide)) T.m_Picture pass0 (pa_cons (pe_fld (pv 0) rfl) pa_nil)))), ?_⟩
  simp only [tSeq, tIfS, tTest, tB, tAnd, tOr, tNot, tAndV, tOrV, tNotV, tIf, tOp, tUn, tChain, rEq, rNe, rI0, rI, rU, tCallR, tCons, tNil, tC, tVar, tRet, tRetN, tTup_k, tLst_k, tCB, tNext, tAsg, gName, gTup, gCons, gNil, tDrop, tPar, tFld, ClX.tCVal, tPropR, rBin, rBinT, rNeOwn, rSetL_k, gSub, tMakeK_k, tMethR, rInO, tDNewK_k, tYes, wipe, tMakeR_k, tSMeth, tSMethK, rMulS, decide_true, tNever, sFld, rIsiT, and_false, rListOf, rTupOf, rLenSeq, rIxL, rIxT, rIxS, rCat_k, rRep_k, rSlL_k, rSlS, rNewStrs_k, rAppend_k, tBM, tBM0, tM0, tM1, tSl, tNoPart, tPart, tLc_k, tFor_k, iList, iTup, iEnumT, iRng1, iRng2, iRng2L, iStr, L2.start, List.map, List.length_cons, List.length_nil, List.cons_append, List.nil_append, List.getElem?_cons_succ, List.getElem?_cons_zero, Option.some.injEq, V.int.injEq, V.bl.injEq, V.str.injEq, V.ref.injEq, exists_eq_left', exists_eq_left, and_assoc, exists_and_left, exists_eq, exists_eq', true_and, and_true, List.set_cons_zero, List.set_cons_succ, List.set, decide_eq_true_eq, Bool.not_eq_true', if_true, if_false, rIx, cx_K, nox_K, List.replicate_succ, List.replicate_zero, Nat.reduceSub, Bool.true_eq_false, Bool.false_eq_true, Nat.reduceAdd, List.cons.injEq, reduceCtorEq, false_and, false_or, or_false, tAug, rSetO, rJoin, rExtend]
  refine ⟨_, dx, _, hx, T.c_Canvas.cl, T.a_Canvas__rows, _, rfl, ?_⟩
  exact newPic g (.inl ht) k
theorem ok_can_width (T : Txt K mg a) : FnR P w K mg base CX0 1 a.Canvas_width (spCanWidth a.Canvas) := by
  refine T.d_Canvas_width.ok sc_Canvas_width (fun _ _ _ _ _ _ us hl => match us, hl with | [_], _ => rfl) (fun vs H Q E h => by obtain ⟨x, t, w, rs, rfl, _⟩ := h; rfl) (fun cdv A outer s H vs Q E hr h => ?_)
  obtain ⟨x, t, wd, rs, rfl, ⟨dx, hx, ht⟩, g, k⟩ := h
  obtain ⟨r0, hr0, ha0⟩ := at0 g
  have hw0 := (g.at_ hr0).1
  have q1 := g.w1
  refine ⟨_, (pss_one (ps_ret (pe_callB call_len_str (by rfl) T.n_len (by decide +kernel) (pa_cons (pe_ix ix_list (pe_fld (pv 0) rfl) pe_int (fun _ _ => rfl)) pa_nil)))), ?_⟩
  simp only [tSeq, tIfS, tTest, tB, tAnd, tOr, tNot, tAndV, tOrV, tNotV, tIf, tOp, tUn, tChain, rEq, rNe, rI0, rI, rU, tCallR, tCons, tNil, tC, tVar, tRet, tRetN, tTup_k, tLst_k, tCB, tNext, tAsg, gName, gTup, gCons, gNil, tDrop, tPar, tFld, ClX.tCVal, tPropR, rBin, rBinT, rNeOwn, rSetL_k, gSub, tMakeK_k, tMethR, rInO, tDNewK_k, tYes, wipe, tMakeR_k, tSMeth, tSMethK, rMulS, decide_true, tNever, sFld, rIsiT, and_false, rListOf, rTupOf, rLenSeq, rIxL, rIxT, rIxS, rCat_k, rRep_k, rSlL_k, rSlS, rNewStrs_k, rAppend_k, tBM, tBM0, tM0, tM1, tSl, tNoPart, tPart, tLc_k, tFor_k, iList, iTup, iEnumT, iRng1, iRng2, iRng2L, iStr, L2.start, List.map, List.length_cons, List.length_nil, List.cons_append, List.nil_append, List.getElem?_cons_succ, List.getElem?_cons_zero, Option.some.injEq, V.int.injEq, V.bl.injEq, V.str.injEq, V.ref.injEq, exists_eq_left', exists_eq_left, and_assoc, exists_and_left, exists_eq, exists_eq', true_and, and_true, List.set_cons_zero, List.set_cons_succ, List.set, decide_eq_true_eq, Bool.not_eq_true', if_true, if_false, rIx, cx_K, nox_K, List.replicate_succ, List.replicate_zero, Nat.reduceSub, Bool.true_eq_false, Bool.false_eq_true, Nat.reduceAdd, List.cons.injEq, reduceCtorEq, false_and, false_or, or_false, tAug, rSetO, rJoin, rExtend]
  refine ⟨_, dx, _, hx, T.c_Canvas.cl, T.a_Canvas__rows, _, rfl, _, rfl, _, SqL.of ht, _, ha0, _, rfl, ?_⟩
  rw [SX.S_len, hw0]
  exact ⟨size200 q1, k⟩
theorem ok_can_height (T : Txt K mg a) : FnR P w K mg base CX0 1 a.Canvas_height (spCanHeight a.Canvas) := by
  refine T.d_Canvas_height.ok sc_Canvas_height (fun _ _ _ _ _ _ us hl => match us, hl with | [_], _ => rfl) (fun vs H Q E h => by obtain ⟨x, t, rs, rfl, _⟩ := h; rfl) (fun cdv A outer s H vs Q E hr h => ?_)
  obtain ⟨x, t, rs, rfl, ⟨dx, hx, ht⟩, k⟩ := h
  refine ⟨_, (pss_one (ps_ret (pe_callB call_len_seq (by rfl) T.n_len (by decide +kernel) (pa_cons (pe_fld (pv 0) rfl) pa_nil)))), ?_⟩
  simp only [tSeq, tIfS, tTest, tB, tAnd, tOr, tNot, tAndV, tOrV, tNotV, tIf, tOp, tUn, tChain, rEq, rNe, rI0, rI, rU, tCallR, tCons, tNil, tC, tVar, tRet, tRetN, tTup_k, tLst_k, tCB, tNext, tAsg, gName, gTup, gCons, gNil, tDrop, tPar, tFld, ClX.tCVal, tPropR, rBin, rBinT, rNeOwn, rSetL_k, gSub, tMakeK_k, tMethR, rInO, tDNewK_k, tYes, wipe, tMakeR_k, tSMeth, tSMethK, rMulS, decide_true, tNever, sFld, rIsiT, and_false, rListOf, rTupOf, rLenSeq, rIxL, rIxT, rIxS, rCat_k, rRep_k, rSlL_k, rSlS, rNewStrs_k, rAppend_k, tBM, tBM0, tM0, tM1, tSl, tNoPart, tPart, tLc_k, tFor_k, iList, iTup, iEnumT, iRng1, iRng2, iRng2L, iStr, L2.start, List.map, List.length_cons, List.length_nil, List.cons_append, List.nil_append, List.getElem?_cons_succ, List.getElem?_cons_zero, Option.some.injEq, V.int.injEq, V.bl.injEq, V.str.injEq, V.ref.injEq, exists_eq_left', exists_eq_left, and_assoc, exists_and_left, exists_eq, exists_eq', true_and, and_true, List.set_cons_zero, List.set_cons_succ, List.set, decide_eq_true_eq, Bool.not_eq_true', if_true, if_false, rIx, cx_K, nox_K, List.replicate_succ, List.replicate_zero, Nat.reduceSub, Bool.true_eq_false, Bool.false_eq_true, Nat.reduceAdd, List.cons.injEq, reduceCtorEq, false_and, false_or, or_false, tAug, rSetO, rJoin, rExtend]
  refine ⟨_, dx, _, hx, T.c_Canvas.cl, T.a_Canvas__rows, _, rfl, _, rfl, _, .inl (SqL.of ht), ?_⟩
  rw [rowsV_len]
  exact k
theorem ok_can_set (T : Txt K mg a) : FnR P w K mg base (CX P w) 5 a.Canvas_setitem (spCanSet K a.Canvas a.BadPixel a.BadColour) := by
  have G_check_pixel : FnR P w K mg base (CX P w) 4 a.check_pixel (spChPixE K a.BadPixel) := ok_check_pixelE T
  have G_check_colour : FnR P w K mg base (CX P w) 4 a.check_colour (spChColE K a.BadColour) := ok_check_colourE T
  have G_painted : FnR P w K mg base CX0 1 a.painted spPaint := ok_painted T
  refine T.d_Canvas_setitem.okX sc_Canvas_setitem (fun _ _ _ _ _ _ us hl => match us, hl with | [_, _, _], _ => rfl) (fun vs H Q E h => by obtain ⟨x, t, at_, w, rs, v, u, k, rfl, _⟩ := h; rfl) (fun cdv A outer s H vs Q E hr h => ?_)
  obtain ⟨p, t, at_, wd, rs, v, u, kv, rfl, ⟨dx, hp, htr⟩, g, ht, h⟩ := h
  refine ⟨_, (pss_cons (ps_asg (pv 1) (pg_tup rfl (pgs_cons (pg_name (i := 3) sc_Canvas_setitem.nd rfl (Or.inl rfl)) (pgs_cons (pg_name (i := 4) sc_Canvas_setitem.nd rfl (Or.inl rfl)) pgs_nil))))
      (pss_cons (ps_expr (pe_callR G_check_pixel (hr.mono (by decide)) T.m_check_pixel T.k_check_pixel (passUp (takes_of rfl rfl rfl rfl)) (pa_cons (pe_fld (pv 0) rfl) (pa_cons (pv 3) (pa_cons (pv 4) pa_nil)))))
      (pss_cons (ps_expr (pe_callR G_check_colour (hr.mono (by decide)) T.m_check_colour T.k_check_colour (passUp (takes_of rfl rfl rfl rfl)) (pa_cons (pv 2) pa_nil)))
      (pss_one (ps_asg (pe_callR G_painted (hr.mono (by decide)) T.m_painted T.k_painted pass0 (pa_cons (pe_ix ix_list (pe_fld (pv 0) rfl) (pv 4) (fun _ _ => rfl)) (pa_cons (pv 3) (pa_cons (pe_op op_add (pv 3) pe_int) (pa_cons (pe_callTy call_str_int (by rfl) T.n_str (by decide +kernel) (pa_cons (pv 2) pa_nil)) pa_nil))))) (pg_sub (pe_fld (pv 0) rfl) (pv 4) set_list)))))), ?_⟩
  simp only [tSeq, tIfS, tTest, tB, tAnd, tOr, tNot, tAndV, tOrV, tNotV, tIf, tOp, tUn, tChain, rEq, rNe, rI0, rI, rU, tCallR, tCons, tNil, tC, tVar, tRet, tRetN, tTup_k, tLst_k, tCB, tNext, tAsg, gName, gTup, gCons, gNil, tDrop, tPar, tFld, ClX.tCVal, tPropR, rBin, rBinT, rNeOwn, rSetL_k, gSub, tMakeK_k, tMethR, rInO, tDNewK_k, tYes, wipe, tMakeR_k, tSMeth, tSMethK, rMulS, decide_true, tNever, sFld, rIsiT, and_false, rListOf, rTupOf, rLenSeq, rIxL, rIxT, rIxS, rCat_k, rRep_k, rSlL_k, rSlS, rNewStrs_k, rAppend_k, tBM, tBM0, tM0, tM1, tSl, tNoPart, tPart, tLc_k, tFor_k, iList, iTup, iEnumT, iRng1, iRng2, iRng2L, iStr, L2.start, List.map, List.length_cons, List.length_nil, List.cons_append, List.nil_append, List.getElem?_cons_succ, List.getElem?_cons_zero, Option.some.injEq, V.int.injEq, V.bl.injEq, V.str.injEq, V.ref.injEq, exists_eq_left', exists_eq_left, and_assoc, exists_and_left, exists_eq, exists_eq', true_and, and_true, List.set_cons_zero, List.set_cons_succ, List.set, decide_eq_true_eq, Bool.not_eq_true', if_true, if_false, rIx, cx_K, nox_K, List.replicate_succ, List.replicate_zero, Nat.reduceSub, Bool.true_eq_false, Bool.false_eq_true, Nat.reduceAdd, List.cons.injEq, reduceCtorEq, false_and, false_or, or_false, tAug, rSetO, rJoin, rExtend]
  refine ⟨_, .inl (.inl ht), rfl, _, _, rfl, _, _, rfl, rfl, _, dx, _, hp, T.c_Canvas.cl, T.a_Canvas__rows, _, rfl, t, wd, rs, v, u, rfl, htr, g, ?_⟩
  rcases h with ⟨x, y, c, rfl, rfl, rfl, x0, x1, y0, y1, c0, c1, k⟩ | ⟨hb, k⟩ | ⟨x, y, rfl, rfl, x0, x1, y0, y1, hb, k⟩
  · refine .inl ⟨x, y, rfl, rfl, x0, x1, y0, y1, _, rfl, .inl ⟨c, rfl, c0, c1, ?_⟩⟩
    obtain ⟨yn, rfl⟩ : ∃ n : Nat, y = (n : Int) := ⟨y.toNat, by omega⟩
    obtain ⟨xn, rfl⟩ : ∃ n : Nat, x = (n : Int) := ⟨x.toNat, by omega⟩
    obtain ⟨r, hr'⟩ : ∃ r, rs[yn]? = some r := ⟨_, List.getElem?_eq_getElem (by omega)⟩
    obtain ⟨hw, hd⟩ := g.at_ hr'
    have hv : (rowsV rs)[yn]? = some (.str (S r)) := by rw [List.getElem?_map, hr']; rfl
    obtain ⟨e1, e2⟩ := dig_S c0 c1
    have q1 := g.w1
    simp only [tSeq, tIfS, tTest, tB, tAnd, tOr, tNot, tAndV, tOrV, tNotV, tIf, tOp, tUn, tChain, rEq, rNe, rI0, rI, rU, tCallR, tCons, tNil, tC, tVar, tRet, tRetN, tTup_k, tLst_k, tCB, tNext, tAsg, gName, gTup, gCons, gNil, tDrop, tPar, tFld, ClX.tCVal, tPropR, rBin, rBinT, rNeOwn, rSetL_k, gSub, tMakeK_k, tMethR, rInO, tDNewK_k, tYes, wipe, tMakeR_k, tSMeth, tSMethK, rMulS, decide_true, tNever, sFld, rIsiT, and_false, rListOf, rTupOf, rLenSeq, rIxL, rIxT, rIxS, rCat_k, rRep_k, rSlL_k, rSlS, rNewStrs_k, rAppend_k, tBM, tBM0, tM0, tM1, tSl, tNoPart, tPart, tLc_k, tFor_k, iList, iTup, iEnumT, iRng1, iRng2, iRng2L, iStr, L2.start, List.map, List.length_cons, List.length_nil, List.cons_append, List.nil_append, List.getElem?_cons_succ, List.getElem?_cons_zero, Option.some.injEq, V.int.injEq, V.bl.injEq, V.str.injEq, V.ref.injEq, exists_eq_left', exists_eq_left, and_assoc, exists_and_left, exists_eq, exists_eq', true_and, and_true, List.set_cons_zero, List.set_cons_succ, List.set, decide_eq_true_eq, Bool.not_eq_true', if_true, if_false, rIx, cx_K, nox_K, List.replicate_succ, List.replicate_zero, Nat.reduceSub, Bool.true_eq_false, Bool.false_eq_true, Nat.reduceAdd, List.cons.injEq, reduceCtorEq, false_and, false_or, or_false, tAug, rSetO, rJoin, rExtend]
    refine ⟨_, dx, _, hp, T.c_Canvas.cl, T.a_Canvas__rows, _, rfl, t, rfl, _, SqL.of htr, _, atI_nat hv, ?_⟩
    rw [e1]
    refine ⟨e2, r, xn, xn + 1, 48 + c.toNat, rfl, by omega, by omega, by omega, ?_⟩
    simp only [tSeq, tIfS, tTest, tB, tAnd, tOr, tNot, tAndV, tOrV, tNotV, tIf, tOp, tUn, tChain, rEq, rNe, rI0, rI, rU, tCallR, tCons, tNil, tC, tVar, tRet, tRetN, tTup_k, tLst_k, tCB, tNext, tAsg, gName, gTup, gCons, gNil, tDrop, tPar, tFld, ClX.tCVal, tPropR, rBin, rBinT, rNeOwn, rSetL_k, gSub, tMakeK_k, tMethR, rInO, tDNewK_k, tYes, wipe, tMakeR_k, tSMeth, tSMethK, rMulS, decide_true, tNever, sFld, rIsiT, and_false, rListOf, rTupOf, rLenSeq, rIxL, rIxT, rIxS, rCat_k, rRep_k, rSlL_k, rSlS, rNewStrs_k, rAppend_k, tBM, tBM0, tM0, tM1, tSl, tNoPart, tPart, tLc_k, tFor_k, iList, iTup, iEnumT, iRng1, iRng2, iRng2L, iStr, L2.start, List.map, List.length_cons, List.length_nil, List.cons_append, List.nil_append, List.getElem?_cons_succ, List.getElem?_cons_zero, Option.some.injEq, V.int.injEq, V.bl.injEq, V.str.injEq, V.ref.injEq, exists_eq_left', exists_eq_left, and_assoc, exists_and_left, exists_eq, exists_eq', true_and, and_true, List.set_cons_zero, List.set_cons_succ, List.set, decide_eq_true_eq, Bool.not_eq_true', if_true, if_false, rIx, cx_K, nox_K, List.replicate_succ, List.replicate_zero, Nat.reduceSub, Bool.true_eq_false, Bool.false_eq_true, Nat.reduceAdd, List.cons.injEq, reduceCtorEq, false_and, false_or, or_false, tAug, rSetO, rJoin, rExtend]
    refine ⟨_, dx, _, hp, T.c_Canvas.cl, T.a_Canvas__rows, _, rfl, t, rfl, _, htr, yn, ?_, kPutS.mk fun H6 p6 => ?_⟩
    · unfold ixN
      rw [if_pos (by omega), if_pos (by rw [rowsV_len]; omega), Int.toNat_natCast]
    · have es : List.take xn r ++ List.replicate (xn + 1 - xn) (48 + c.toNat) ++ List.drop (xn + 1) r = r.set xn (48 + c.toNat) := by
        rw [List.set_eq_take_append_cons_drop, if_pos (by omega), Nat.add_sub_cancel_left, List.append_assoc]
        rfl
      rw [es, rowsV_set] at p6
      refine k H6 ?_
      unfold setRs
      rw [Int.toNat_natCast, Int.toNat_natCast, List.getD_eq_getElem?_getD, hr', Option.getD_some]
      exact p6
  · exact .inr ⟨hb, k⟩
  · exact .inl ⟨x, y, rfl, rfl, x0, x1, y0, y1, _, rfl, .inr ⟨hb, k⟩⟩
end
end Pf
end
section
namespace Pf
open PySem PySem.Spec PyProof.Rows L2 Ow StX
theorem tSeq_step {t u : TS} {D : Ends} {σ : L2.St} {H : Hp} (h : ∀ R : TS, R = u → t { D with nx := R D } σ H) : tSeq t u D σ H := h u rfl
def SameBut (d : Addr) (H H' : Hp) : Prop := ∀ b o, b ≠ d → H b = some o → H' b = some o
theorem SameBut.of {d : Addr} {H H' : Hp} (s : Same H H') : SameBut d H H' := fun b o _ e => s b o e
theorem SameBut.trans {d : Addr} {H H1 H2 : Hp} (x : SameBut d H H1) (y : SameBut d H1 H2) : SameBut d H H2 := fun b o n e => y b o n (x b o n e)
theorem SameBut.upd {d : Addr} {H : Hp} {o : HO} : SameBut d H (upd H d o) := fun b u n e => by rw [upd_ne n]; exact e
theorem same_new {H : Hp} {p : Addr} {o : HO} (h : H p = none) : Same H (upd H p o) := fun b u e => by rw [upd_ne (ne_of_none e h)]; exact e
theorem dp_ints {K : PySem.W.Frag} {H : Hp} : ∀ ns : List Int, DpAll K H (ns.map V.int) (ns.map PyData.int)
  | [] => .nil
  | i :: r => .cons (.int i) (dp_ints r)
theorem lay_ints : ∀ ns : List Int, PyData.canLayAll0 (ns.map PyData.int) = true ∧ PyData.depthAll (ns.map PyData.int) ≤ 1
  | [] => ⟨rfl, by simp [PyData.depthAll]⟩
  | i :: r => by
    obtain ⟨h1, h2⟩ := lay_ints r
    refine ⟨by simp only [List.map_cons, PyData.canLayAll0, PyData.canLay0, h1]; rfl, ?_⟩
    simp only [List.map_cons, PyData.depthAll, PyData.depth]
    omega
theorem shaped_ints (ns : List Int) : SeqAt.shaped (.list (ns.map PyData.int)) = true := by
  obtain ⟨h1, h2⟩ := lay_ints ns
  refine Bool.and_eq_true_iff.mpr ⟨h1, decide_eq_true ?_⟩
  simp only [PyData.depth]
  omega
theorem eqv_ints (ns : List Int) : PyData.eqv (.list (ns.map PyData.int)) (.list []) = decide (ns = []) := by
  cases ns with
  | nil => simp [PyData.eqv, PyData.eqvAll]
  | cons i r => simp [PyData.eqv, PyData.eqvAll]
def Pen (H : Hp) (p c : Addr) (n : Int) : Prop := ∃ (ns : List Int) (b r : Int), H p = some (.lst [.ref c, .int b, .int r]) ∧ H c = some (.lst (ns.map V.int)) ∧ c ≠ p ∧ ns.length ≤ 63 ∧ 0 ≤ b ∧ b ≤ n ∧ 0 ≤ r
theorem Pen.same {H H' : Hp} {p c : Addr} {n : Int} (x : Pen H p c n) (s : Same H H') : Pen H' p c n := by
  obtain ⟨ns, b, r, h1, h2, h⟩ := x
  exact ⟨ns, b, r, s _ _ h1, s _ _ h2, h⟩
theorem atI_any {xs : List V} {z : Int} (h0 : 0 ≤ z) (h1 : z < xs.length) : ∃ v, v ∈ xs ∧ atI xs z = some v := by
  obtain ⟨k, rfl⟩ : ∃ k : Nat, z = (k : Int) := ⟨z.toNat, by omega⟩
  have hk : k < xs.length := by omega
  exact ⟨xs[k], List.getElem_mem hk, atI_nat (List.getElem?_eq_getElem hk)⟩
theorem great0 {c : Int} (h : (10 : Int) ^ Int.toNat 18 ≤ if c < 0 then -c else c) : 0 ≤ 2 * ((if c < 0 then -c else c) - 10 ^ Int.toNat 18) + (if decide (c < 0) = true then 1 else 0) := by
  split <;> split <;> omega
theorem cmul64 {i j : Int} (h1 : i.natAbs < 2 ^ 64) (h2 : j.natAbs < 2 ^ 64) : CMulW i j := wide_mul h1 h2 (by decide) (by decide) (by decide)
theorem pw1 {c b : Int} (h0 : 0 ≤ b) (h1 : b < 1048576) : (c % 2147483629 + 44295 * b + 363).natAbs < 2 ^ 64 := by
  have a := Int.emod_nonneg c (show (2147483629 : Int) ≠ 0 by decide)
  have d := Int.emod_lt_of_pos c (show (0 : Int) < 2147483629 by decide)
  have e : (2 : Nat) ^ 64 = 18446744073709551616 := by decide
  rw [e]
  omega
theorem pw2 {M b : Int} (m0 : 0 ≤ M) (m1 : M < 2147483629) (h0 : 0 ≤ b) (h1 : b < 1048576) : (M * (2 * b + 177) + 53453 * b * b + 37).natAbs < 2 ^ 64 := by
  have e : (2 : Nat) ^ 64 = 18446744073709551616 := by decide
  have a1 : M * (2 * b + 177) ≤ 2147483647 * 2097329 := Int.mul_le_mul (by omega) (by omega) (by omega) (by omega)
  have a0 : 0 ≤ M * (2 * b + 177) := Int.mul_nonneg m0 (by omega)
  have b1 : 53453 * b * b ≤ 56049532928 * 1048576 := Int.mul_le_mul (by omega) (by omega) h0 (by omega)
  have b0 : 0 ≤ 53453 * b * b := Int.mul_nonneg (by omega) h0
  rw [e]
  omega
theorem in64 {x : Int} (h : 0 ≤ x) (h1 : x < 18446744073709551616) : x.natAbs < 2 ^ 64 := by
  have e : (2 : Nat) ^ 64 = 18446744073709551616 := by decide
  rw [e]
  omega
theorem pA : (0 : Int) < 2147483629 := by decide
theorem pB : (0 : Int) < 2147483629 := by decide
theorem pC : (0 : Int) < 2147483587 := by decide
theorem great1 {c : Int} (h : (10 : Int) ^ Int.toNat 18 ≤ if c < 0 then -c else c) : 0 ≤ 2 * ((if c < 0 then -c else c) - 10 ^ Int.toNat 18) + (if c < 0 then 1 else 0) := by
  split <;> omega
def spPDraw : Sp := fun vs H Q _ => ∃ (p c : Addr) (m n : Int), vs = [.ref p, .int m] ∧ Pen H p c n ∧ n < 1048576 ∧ 0 < m ∧ m < 1073741824 ∧ ∀ (z : Int) (H' : Hp), 0 ≤ z → z < m → SameBut p H H' → Pen H' p c (n + 1) → Q (.int z) H'
section
variable {P : Program} {w : World} {K : PySem.W.Frag} {mg : Str → Option Value} {base : Heap} {a : Adr}
set_option maxHeartbeats 4000000
theorem ok_pdraw (T : Txt K mg a) : FnR P w K mg base CX0 1 a._law_draw spPDraw := by
  refine T.d__law_draw.ok sc__law_draw (fun _ _ _ _ _ _ us hl => match us, hl with | [_, _], _ => rfl) (fun vs H Q E h => by obtain ⟨p, c, m, n, rfl, _⟩ := h; rfl) (fun cdv A outer s H vs Q E hr h => ?_)
  obtain ⟨p, c, m, n, rfl, ⟨ns, b, r, hp, hc, hcp, hns, hb, hbn, hr0⟩, hn, hm, hm2, k⟩ := h
  have hu := hu_of hr
  refine ⟨_, (pss_cons (ps_if (pt_cmpR op_gt (pe_ix ix_list (pv 0) pe_int (fun _ _ => rfl)) pe_int (nomark _))
          (pss_cons (ps_set (i := 2) sc__law_draw.nd rfl (Or.inl rfl) (pe_op op_mod (pe_callTy call_int1 (by rfl) T.n_int (by decide +kernel) (pa_cons (pe_ix ix_list (pv 0) pe_int (fun _ _ => rfl)) pa_nil)) (pv 1)))
          (pss_cons (ps_asg (pe_op op_fdiv (pe_callTy call_int1 (by rfl) T.n_int (by decide +kernel) (pa_cons (pe_ix ix_list (pv 0) pe_int (fun _ _ => rfl)) pa_nil)) (pv 1)) (pg_sub (pv 0) pe_int set_list))
          (pss_one (ps_ret (pv 2)))))
          pss_nil)
      (pss_cons (ps_set (i := 3) sc__law_draw.nd rfl (Or.inl rfl) (pe_ix ix_list (pv 0) pe_int (fun _ _ => rfl)))
      (pss_cons (ps_asg (pe_op op_add (pv 3) pe_int) (pg_sub (pv 0) pe_int set_list))
      (pss_cons (ps_set (i := 4) sc__law_draw.nd rfl (Or.inl rfl) (pe_op op_add (pe_op op_mulW pe_int (pv 3)) pe_int))
      (pss_cons (ps_if (pt_cmpR (op_neD hr.units) (pe_ix ix_list (pv 0) pe_int (fun _ _ => rfl)) (pe_lst pa_nil) (nomark _))
          (pss_one (ps_set (i := 4) sc__law_draw.nd rfl (Or.inl rfl) (pe_ix ix_list (pe_ix ix_list (pv 0) pe_int (fun _ _ => rfl)) (pe_op op_mod (pe_callTy call_int1 (by rfl) T.n_int (by decide +kernel) (pa_cons (pv 3) pa_nil)) (pe_callB call_len_seq (by rfl) T.n_len (by decide +kernel) (pa_cons (pe_ix ix_list (pv 0) pe_int (fun _ _ => rfl)) pa_nil))) (fun _ _ => rfl))))
          pss_nil)
      (pss_cons (ps_if (PW.pt (pw_and (pt_cmpR op_lt (pv 3) (pe_callB call_len_seq (by rfl) T.n_len (by decide +kernel) (pa_cons (pe_ix ix_list (pv 0) pe_int (fun _ _ => rfl)) pa_nil)) (nomark _)) (pw_and1 (pt_cmpR op_ge (pe_callB call_abs (by rfl) T.n_abs (by decide +kernel) (pa_cons (pv 4) pa_nil)) (pe_op op_pow pe_int pe_int) (nomark _)))))
          (pss_cons (ps_set (i := 5) sc__law_draw.nd rfl (Or.inl rfl) (pe_op op_add (pe_op op_mul pe_int (pe_op op_sub (pe_callB call_abs (by rfl) T.n_abs (by decide +kernel) (pa_cons (pv 4) pa_nil)) (pe_op op_pow pe_int pe_int))) (pe_callTy call_int1 (by rfl) T.n_int (by decide +kernel) (pa_cons (pe_cmpR op_lt (pv 4) pe_int (nomark _)) pa_nil))))
          (pss_cons (ps_asg (pe_op op_fdiv (pe_callTy call_int1 (by rfl) T.n_int (by decide +kernel) (pa_cons (pv 5) pa_nil)) (pv 1)) (pg_sub (pv 0) pe_int set_list))
          (pss_one (ps_ret (pe_op op_mod (pe_callTy call_int1 (by rfl) T.n_int (by decide +kernel) (pa_cons (pv 5) pa_nil)) (pv 1))))))
          pss_nil)
      (pss_cons (ps_set (i := 6) sc__law_draw.nd rfl (Or.inl rfl) (pe_op op_mod (pe_callTy call_int1 (by rfl) T.n_int (by decide +kernel) (pa_cons (pe_op op_pow (pe_op op_add (pe_op op_add (pe_op op_mod (pe_callTy call_int1 (by rfl) T.n_int (by decide +kernel) (pa_cons (pv 4) pa_nil)) pe_int) (pe_op op_mulW pe_int (pv 3))) pe_int) pe_int) pa_nil)) pe_int))
      (pss_cons (ps_set (i := 6) sc__law_draw.nd rfl (Or.inl rfl) (pe_op op_add (pe_op op_add (pe_op op_mulW (pv 6) (pe_op op_add (pe_op op_mulW pe_int (pv 3)) pe_int)) (pe_op op_mulW (pe_op op_mulW pe_int (pv 3)) (pv 3))) pe_int))
      (pss_one (ps_ret (pe_op op_mod (pe_callTy call_int1 (by rfl) T.n_int (by decide +kernel) (pa_cons (pe_op op_fdiv (pe_op op_mod (pe_callTy call_int1 (by rfl) T.n_int (by decide +kernel) (pa_cons (pe_op op_pow (pv 6) pe_int) pa_nil)) pe_int) pe_int) pa_nil)) (pv 1)))))))))))), ?_⟩
  refine tSeq_step fun R e1 => ?_
  simp only [tSeq, tIfS, tTest, tB, tAnd, tOr, tNot, tAndV, tOrV, tNotV, tIf, tOp, tUn, tChain, rEq, rNe, rI0, rI, rU, tCallR, tCons, tNil, tC, tVar, tRet, tRetN, tTup_k, tLst_k, tCB, tNext, tAsg, gName, gTup, gCons, gNil, tDrop, tPar, tFld, ClX.tCVal, tPropR, rBin, rBinT, rNeOwn, rSetL_k, gSub, tMakeK_k, tMethR, rInO, tDNewK_k, tYes, wipe, tMakeR_k, tSMeth, tSMethK, rMulS, decide_true, tNever, sFld, rIsiT, and_false, rListOf, rTupOf, rLenSeq, rIxL, rIxT, rIxS, rCat_k, rRep_k, rSlL_k, rSlS, rNewStrs_k, rAppend_k, tBM, tBM0, tM0, tM1, tSl, tNoPart, tPart, tLc_k, tFor_k, iList, iTup, iEnumT, iRng1, iRng2, iRng2L, iStr, L2.start, List.map, List.length_cons, List.length_nil, List.cons_append, List.nil_append, List.getElem?_cons_succ, List.getElem?_cons_zero, Option.some.injEq, V.int.injEq, V.bl.injEq, V.str.injEq, V.ref.injEq, exists_eq_left', exists_eq_left, and_assoc, exists_and_left, exists_eq, exists_eq', true_and, and_true, List.set_cons_zero, List.set_cons_succ, List.set, decide_eq_true_eq, Bool.not_eq_true', if_true, if_false, rIx, cx_K, nox_K, List.replicate_succ, List.replicate_zero, Nat.reduceSub, Bool.true_eq_false, Bool.false_eq_true, Nat.reduceAdd, List.cons.injEq, reduceCtorEq, false_and, false_or, or_false, tAug, rSetO, rStrO, rUn, rBinI, rBinR, rJoin, tJs, tOrT, rIsi, tCallOI, rBinT, tFCall, tCall, tPar3, tFmtO, tMethSF, tFmt, rExtend]
  refine ⟨_, SqL.of hp, _, rfl, _, rfl, ?_⟩
  by_cases h0 : 0 < r
  · rw [if_pos h0]
    refine ⟨_, SqL.of hp, _, rfl, .inl ⟨_, rfl, hm, _, SqL.of hp, _, rfl, .inl ⟨_, rfl, ⟨hm, hm2⟩, _, hp, _, rfl, ?_⟩⟩⟩
    exact k _ _ (Int.emod_nonneg _ (by omega)) (Int.emod_lt_of_pos _ hm) SameBut.upd ⟨ns, b, r / m, upd_same, by rw [upd_ne hcp]; exact hc, hcp, hns, hb, by omega, Int.ediv_nonneg hr0 (by omega)⟩
  rw [if_neg h0]
  subst e1
  refine tSeq_step fun R e1 => ?_
  simp only [tSeq, tIfS, tTest, tB, tAnd, tOr, tNot, tAndV, tOrV, tNotV, tIf, tOp, tUn, tChain, rEq, rNe, rI0, rI, rU, tCallR, tCons, tNil, tC, tVar, tRet, tRetN, tTup_k, tLst_k, tCB, tNext, tAsg, gName, gTup, gCons, gNil, tDrop, tPar, tFld, ClX.tCVal, tPropR, rBin, rBinT, rNeOwn, rSetL_k, gSub, tMakeK_k, tMethR, rInO, tDNewK_k, tYes, wipe, tMakeR_k, tSMeth, tSMethK, rMulS, decide_true, tNever, sFld, rIsiT, and_false, rListOf, rTupOf, rLenSeq, rIxL, rIxT, rIxS, rCat_k, rRep_k, rSlL_k, rSlS, rNewStrs_k, rAppend_k, tBM, tBM0, tM0, tM1, tSl, tNoPart, tPart, tLc_k, tFor_k, iList, iTup, iEnumT, iRng1, iRng2, iRng2L, iStr, L2.start, List.map, List.length_cons, List.length_nil, List.cons_append, List.nil_append, List.getElem?_cons_succ, List.getElem?_cons_zero, Option.some.injEq, V.int.injEq, V.bl.injEq, V.str.injEq, V.ref.injEq, exists_eq_left', exists_eq_left, and_assoc, exists_and_left, exists_eq, exists_eq', true_and, and_true, List.set_cons_zero, List.set_cons_succ, List.set, decide_eq_true_eq, Bool.not_eq_true', if_true, if_false, rIx, cx_K, nox_K, List.replicate_succ, List.replicate_zero, Nat.reduceSub, Bool.true_eq_false, Bool.false_eq_true, Nat.reduceAdd, List.cons.injEq, reduceCtorEq, false_and, false_or, or_false, tAug, rSetO, rStrO, rUn, rBinI, rBinR, rJoin, tJs, tOrT, rIsi, tCallOI, rBinT, tFCall, tCall, tPar3, tFmtO, tMethSF, tFmt, rExtend]
  refine ⟨_, SqL.of hp, _, rfl, ?_⟩
  subst e1
  refine tSeq_step fun R e1 => ?_
  simp only [tSeq, tIfS, tTest, tB, tAnd, tOr, tNot, tAndV, tOrV, tNotV, tIf, tOp, tUn, tChain, rEq, rNe, rI0, rI, rU, tCallR, tCons, tNil, tC, tVar, tRet, tRetN, tTup_k, tLst_k, tCB, tNext, tAsg, gName, gTup, gCons, gNil, tDrop, tPar, tFld, ClX.tCVal, tPropR, rBin, rBinT, rNeOwn, rSetL_k, gSub, tMakeK_k, tMethR, rInO, tDNewK_k, tYes, wipe, tMakeR_k, tSMeth, tSMethK, rMulS, decide_true, tNever, sFld, rIsiT, and_false, rListOf, rTupOf, rLenSeq, rIxL, rIxT, rIxS, rCat_k, rRep_k, rSlL_k, rSlS, rNewStrs_k, rAppend_k, tBM, tBM0, tM0, tM1, tSl, tNoPart, tPart, tLc_k, tFor_k, iList, iTup, iEnumT, iRng1, iRng2, iRng2L, iStr, L2.start, List.map, List.length_cons, List.length_nil, List.cons_append, List.nil_append, List.getElem?_cons_succ, List.getElem?_cons_zero, Option.some.injEq, V.int.injEq, V.bl.injEq, V.str.injEq, V.ref.injEq, exists_eq_left', exists_eq_left, and_assoc, exists_and_left, exists_eq, exists_eq', true_and, and_true, List.set_cons_zero, List.set_cons_succ, List.set, decide_eq_true_eq, Bool.not_eq_true', if_true, if_false, rIx, cx_K, nox_K, List.replicate_succ, List.replicate_zero, Nat.reduceSub, Bool.true_eq_false, Bool.false_eq_true, Nat.reduceAdd, List.cons.injEq, reduceCtorEq, false_and, false_or, or_false, tAug, rSetO, rStrO, rUn, rBinI, rBinR, rJoin, tJs, tOrT, rIsi, tCallOI, rBinT, tFCall, tCall, tPar3, tFmtO, tMethSF, tFmt, rExtend]
  refine ⟨_, hp, _, rfl, ?_⟩
  subst e1
  have e1 : upd H p (.lst [.ref c, .int (b + 1), .int r]) p = some (.lst [.ref c, .int (b + 1), .int r]) := upd_same
  have c1 : upd H p (.lst [.ref c, .int (b + 1), .int r]) c = some (.lst (ns.map V.int)) := by rw [upd_ne hcp]; exact hc
  have s1 : SameBut p H (upd H p (.lst [.ref c, .int (b + 1), .int r])) := SameBut.upd
  show tSeq _ _ _ _ (upd H p (.lst [.ref c, .int (b + 1), .int r]))
  generalize upd H p (.lst [.ref c, .int (b + 1), .int r]) = H1 at *
  refine tSeq_step fun R e2 => ?_
  simp only [tSeq, tIfS, tTest, tB, tAnd, tOr, tNot, tAndV, tOrV, tNotV, tIf, tOp, tUn, tChain, rEq, rNe, rI0, rI, rU, tCallR, tCons, tNil, tC, tVar, tRet, tRetN, tTup_k, tLst_k, tCB, tNext, tAsg, gName, gTup, gCons, gNil, tDrop, tPar, tFld, ClX.tCVal, tPropR, rBin, rBinT, rNeOwn, rSetL_k, gSub, tMakeK_k, tMethR, rInO, tDNewK_k, tYes, wipe, tMakeR_k, tSMeth, tSMethK, rMulS, decide_true, tNever, sFld, rIsiT, and_false, rListOf, rTupOf, rLenSeq, rIxL, rIxT, rIxS, rCat_k, rRep_k, rSlL_k, rSlS, rNewStrs_k, rAppend_k, tBM, tBM0, tM0, tM1, tSl, tNoPart, tPart, tLc_k, tFor_k, iList, iTup, iEnumT, iRng1, iRng2, iRng2L, iStr, L2.start, List.map, List.length_cons, List.length_nil, List.cons_append, List.nil_append, List.getElem?_cons_succ, List.getElem?_cons_zero, Option.some.injEq, V.int.injEq, V.bl.injEq, V.str.injEq, V.ref.injEq, exists_eq_left', exists_eq_left, and_assoc, exists_and_left, exists_eq, exists_eq', true_and, and_true, List.set_cons_zero, List.set_cons_succ, List.set, decide_eq_true_eq, Bool.not_eq_true', if_true, if_false, rIx, cx_K, nox_K, List.replicate_succ, List.replicate_zero, Nat.reduceSub, Bool.true_eq_false, Bool.false_eq_true, Nat.reduceAdd, List.cons.injEq, reduceCtorEq, false_and, false_or, or_false, tAug, rSetO, rStrO, rUn, rBinI, rBinR, rJoin, tJs, tOrT, rIsi, tCallOI, rBinT, tFCall, tCall, tPar3, tFmtO, tMethSF, tFmt, rExtend]
  refine ⟨cmul64 (by decide) (in64 hb (by omega)), ?_⟩
  subst e2
  refine tSeq_step fun R e2 => ?_
  simp only [tSeq, tIfS, tTest, tB, tAnd, tOr, tNot, tAndV, tOrV, tNotV, tIf, tOp, tUn, tChain, rEq, rNe, rI0, rI, rU, tCallR, tCons, tNil, tC, tVar, tRet, tRetN, tTup_k, tLst_k, tCB, tNext, tAsg, gName, gTup, gCons, gNil, tDrop, tPar, tFld, ClX.tCVal, tPropR, rBin, rBinT, rNeOwn, rSetL_k, gSub, tMakeK_k, tMethR, rInO, tDNewK_k, tYes, wipe, tMakeR_k, tSMeth, tSMethK, rMulS, decide_true, tNever, sFld, rIsiT, and_false, rListOf, rTupOf, rLenSeq, rIxL, rIxT, rIxS, rCat_k, rRep_k, rSlL_k, rSlS, rNewStrs_k, rAppend_k, tBM, tBM0, tM0, tM1, tSl, tNoPart, tPart, tLc_k, tFor_k, iList, iTup, iEnumT, iRng1, iRng2, iRng2L, iStr, L2.start, List.map, List.length_cons, List.length_nil, List.cons_append, List.nil_append, List.getElem?_cons_succ, List.getElem?_cons_zero, Option.some.injEq, V.int.injEq, V.bl.injEq, V.str.injEq, V.ref.injEq, exists_eq_left', exists_eq_left, and_assoc, exists_and_left, exists_eq, exists_eq', true_and, and_true, List.set_cons_zero, List.set_cons_succ, List.set, decide_eq_true_eq, Bool.not_eq_true', if_true, if_false, rIx, cx_K, nox_K, List.replicate_succ, List.replicate_zero, Nat.reduceSub, Bool.true_eq_false, Bool.false_eq_true, Nat.reduceAdd, List.cons.injEq, reduceCtorEq, false_and, false_or, or_false, tAug, rSetO, rStrO, rUn, rBinI, rBinR, rJoin, tJs, tOrT, rIsi, tCallOI, rBinT, tFCall, tCall, tPar3, tFmtO, tMethSF, tFmt, rExtend]
  refine ⟨_, SqL.of e1, _, rfl, kNew.mk (by show 0 ≤ sizeLine; decide) fun q H2 f2 => ?_⟩
  have e3 := f2.get e1
  have c3 := f2.get c1
  have s3 := s1.trans (SameBut.of f2.same)
  refine ⟨.list (ns.map .int), .list [], .lst (SqL.of c3) (dp_ints ns), .lst (SqL.of f2.at_) .nil, shaped_ints ns, rfl, ?_⟩
  rw [eqv_ints]
  have fin : ∀ cell : Int, R { nx := fun x H' => Q V.non H', rt := Q } [some (V.ref p), some (V.int m), none, some (V.int b), some (V.int cell), none, none] H2 := fun cell => by
    subst e2
    refine tSeq_step fun R e2 => ?_
    simp only [tSeq, tIfS, tTest, tB, tAnd, tOr, tNot, tAndV, tOrV, tNotV, tIf, tOp, tUn, tChain, rEq, rNe, rI0, rI, rU, tCallR, tCons, tNil, tC, tVar, tRet, tRetN, tTup_k, tLst_k, tCB, tNext, tAsg, gName, gTup, gCons, gNil, tDrop, tPar, tFld, ClX.tCVal, tPropR, rBin, rBinT, rNeOwn, rSetL_k, gSub, tMakeK_k, tMethR, rInO, tDNewK_k, tYes, wipe, tMakeR_k, tSMeth, tSMethK, rMulS, decide_true, tNever, sFld, rIsiT, and_false, rListOf, rTupOf, rLenSeq, rIxL, rIxT, rIxS, rCat_k, rRep_k, rSlL_k, rSlS, rNewStrs_k, rAppend_k, tBM, tBM0, tM0, tM1, tSl, tNoPart, tPart, tLc_k, tFor_k, iList, iTup, iEnumT, iRng1, iRng2, iRng2L, iStr, L2.start, List.map, List.length_cons, List.length_nil, List.cons_append, List.nil_append, List.getElem?_cons_succ, List.getElem?_cons_zero, Option.some.injEq, V.int.injEq, V.bl.injEq, V.str.injEq, V.ref.injEq, exists_eq_left', exists_eq_left, and_assoc, exists_and_left, exists_eq, exists_eq', true_and, and_true, List.set_cons_zero, List.set_cons_succ, List.set, decide_eq_true_eq, Bool.not_eq_true', if_true, if_false, rIx, cx_K, nox_K, List.replicate_succ, List.replicate_zero, Nat.reduceSub, Bool.true_eq_false, Bool.false_eq_true, Nat.reduceAdd, List.cons.injEq, reduceCtorEq, false_and, false_or, or_false, tAug, rSetO, rStrO, rUn, rBinI, rBinR, rJoin, tJs, tOrT, rIsi, tCallOI, rBinT, tFCall, tCall, tPar3, tFmtO, tMethSF, tFmt, rExtend]
    have go : R { nx := fun x H' => Q V.non H', rt := Q } [some (V.ref p), some (V.int m), none, some (V.int b), some (V.int cell), none, none] H2 := by
      subst e2
      refine tSeq_step fun R e2 => ?_
      simp only [tSeq, tIfS, tTest, tB, tAnd, tOr, tNot, tAndV, tOrV, tNotV, tIf, tOp, tUn, tChain, rEq, rNe, rI0, rI, rU, tCallR, tCons, tNil, tC, tVar, tRet, tRetN, tTup_k, tLst_k, tCB, tNext, tAsg, gName, gTup, gCons, gNil, tDrop, tPar, tFld, ClX.tCVal, tPropR, rBin, rBinT, rNeOwn, rSetL_k, gSub, tMakeK_k, tMethR, rInO, tDNewK_k, tYes, wipe, tMakeR_k, tSMeth, tSMethK, rMulS, decide_true, tNever, sFld, rIsiT, and_false, rListOf, rTupOf, rLenSeq, rIxL, rIxT, rIxS, rCat_k, rRep_k, rSlL_k, rSlS, rNewStrs_k, rAppend_k, tBM, tBM0, tM0, tM1, tSl, tNoPart, tPart, tLc_k, tFor_k, iList, iTup, iEnumT, iRng1, iRng2, iRng2L, iStr, L2.start, List.map, List.length_cons, List.length_nil, List.cons_append, List.nil_append, List.getElem?_cons_succ, List.getElem?_cons_zero, Option.some.injEq, V.int.injEq, V.bl.injEq, V.str.injEq, V.ref.injEq, exists_eq_left', exists_eq_left, and_assoc, exists_and_left, exists_eq, exists_eq', true_and, and_true, List.set_cons_zero, List.set_cons_succ, List.set, decide_eq_true_eq, Bool.not_eq_true', if_true, if_false, rIx, cx_K, nox_K, List.replicate_succ, List.replicate_zero, Nat.reduceSub, Bool.true_eq_false, Bool.false_eq_true, Nat.reduceAdd, List.cons.injEq, reduceCtorEq, false_and, false_or, or_false, tAug, rSetO, rStrO, rUn, rBinI, rBinR, rJoin, tJs, tOrT, rIsi, tCallOI, rBinT, tFCall, tCall, tPar3, tFmtO, tMethSF, tFmt, rExtend]
      refine .inl ⟨pA, cmul64 (by decide) (in64 hb (by omega)), ⟨by decide, by decide, pw1 hb (by omega)⟩, .inl ⟨pB, ?_⟩⟩
      generalize hM : (cell % 2147483629 + 44295 * b + 363) ^ Int.toNat 5 % 2147483629 = M
      have m0 : 0 ≤ M := by rw [← hM]; exact Int.emod_nonneg _ (by decide)
      have m1 : M < 2147483629 := by rw [← hM]; exact Int.emod_lt_of_pos _ pB
      subst e2
      simp only [tSeq, tIfS, tTest, tB, tAnd, tOr, tNot, tAndV, tOrV, tNotV, tIf, tOp, tUn, tChain, rEq, rNe, rI0, rI, rU, tCallR, tCons, tNil, tC, tVar, tRet, tRetN, tTup_k, tLst_k, tCB, tNext, tAsg, gName, gTup, gCons, gNil, tDrop, tPar, tFld, ClX.tCVal, tPropR, rBin, rBinT, rNeOwn, rSetL_k, gSub, tMakeK_k, tMethR, rInO, tDNewK_k, tYes, wipe, tMakeR_k, tSMeth, tSMethK, rMulS, decide_true, tNever, sFld, rIsiT, and_false, rListOf, rTupOf, rLenSeq, rIxL, rIxT, rIxS, rCat_k, rRep_k, rSlL_k, rSlS, rNewStrs_k, rAppend_k, tBM, tBM0, tM0, tM1, tSl, tNoPart, tPart, tLc_k, tFor_k, iList, iTup, iEnumT, iRng1, iRng2, iRng2L, iStr, L2.start, List.map, List.length_cons, List.length_nil, List.cons_append, List.nil_append, List.getElem?_cons_succ, List.getElem?_cons_zero, Option.some.injEq, V.int.injEq, V.bl.injEq, V.str.injEq, V.ref.injEq, exists_eq_left', exists_eq_left, and_assoc, exists_and_left, exists_eq, exists_eq', true_and, and_true, List.set_cons_zero, List.set_cons_succ, List.set, decide_eq_true_eq, Bool.not_eq_true', if_true, if_false, rIx, cx_K, nox_K, List.replicate_succ, List.replicate_zero, Nat.reduceSub, Bool.true_eq_false, Bool.false_eq_true, Nat.reduceAdd, List.cons.injEq, reduceCtorEq, false_and, false_or, or_false, tAug, rSetO, rStrO, rUn, rBinI, rBinR, rJoin, tJs, tOrT, rIsi, tCallOI, rBinT, tFCall, tCall, tPar3, tFmtO, tMethSF, tFmt, rExtend]
      have b6 : b.natAbs < 2 ^ 64 := in64 hb (by omega)
      refine ⟨cmul64 (by decide) b6, cmul64 (in64 m0 (by omega)) (in64 (by omega) (by omega)), cmul64 (by decide) b6, cmul64 (in64 (by omega) (by omega)) b6, ⟨by decide, by decide, pw2 m0 m1 hb (by omega)⟩, .inl ⟨pC, ⟨by decide, by decide⟩, .inl ⟨hm, ?_⟩⟩⟩
      exact k _ _ (Int.emod_nonneg _ (by omega)) (Int.emod_lt_of_pos _ hm) s3 ⟨ns, b + 1, r, e3, c3, hcp, hns, by omega, by omega, hr0⟩
    refine ⟨_, SqL.of e3, _, rfl, c, rfl, _, .inl (SqL.of c3), ?_⟩
    by_cases hb1 : b < ((ns.map V.int).length : Int)
    · rw [if_pos hb1]
      refine ⟨⟨by decide, by decide, by decide⟩, ?_⟩
      by_cases g0 : 10 ^ Int.toNat 18 ≤ if cell < 0 then -cell else cell
      · rw [if_pos g0]
        refine ⟨⟨by decide, by decide, by decide⟩, .inl ⟨by decide, by decide⟩, .inr (.inl ⟨⟨hm, hm2⟩, _, e3, _, rfl, ?_⟩)⟩
        refine .inl ⟨hm, ?_⟩
        exact k _ _ (Int.emod_nonneg _ (by omega)) (Int.emod_lt_of_pos _ hm) (s3.trans SameBut.upd) ⟨ns, b + 1, _, upd_same, by rw [upd_ne hcp]; exact c3, hcp, hns, by omega, by omega, Int.ediv_nonneg (great1 g0) (by omega)⟩
      · rw [if_neg g0]
        exact go
    · rw [if_neg hb1]
      exact go
  by_cases hne : ns = []
  · refine ⟨_, rfl, ?_⟩
    rw [decide_eq_true hne, if_neg (by decide)]
    exact fin _
  · refine ⟨_, rfl, ?_⟩
    rw [decide_eq_false hne, if_pos (by rfl)]
    have hlen : 0 < ns.length := by
      cases ns with
      | nil => exact absurd rfl hne
      | cons x y => exact Nat.succ_pos _
    obtain ⟨w, hw, hat⟩ := atI_any (xs := ns.map V.int) (z := b % (ns.length : Int)) (Int.emod_nonneg _ (by omega)) (by rw [List.length_map]; exact Int.emod_lt_of_pos _ (by omega))
    obtain ⟨cell, _, rfl⟩ := List.mem_map.mp hw
    refine ⟨_, SqL.of e3, _, rfl, .inl ⟨_, SqL.of e3, _, rfl, c, rfl, _, .inl (SqL.of c3), by rw [List.length_map]; omega, c, rfl, _, SqL.of c3, .int cell, by rw [List.length_map]; exact hat, fin _⟩⟩
end
end Pf
end
section
namespace Pf
open PySem PySem.Spec PyProof.Rows L2 Ow StX
open SX (S)
def Can (H : Hp) (C x : Addr) (rs : List (List Nat)) : Prop := ∃ dx t, H x = some (.ins C dx [("_rows", .ref t)]) ∧ H t = some (.lst (rowsV rs))
theorem Can.same {H H' : Hp} {C x : Addr} {rs : List (List Nat)} (p : Can H C x rs) (s : Same H H') : Can H' C x rs := by
  obtain ⟨dx, t, h1, h2⟩ := p
  exact ⟨dx, t, s _ _ h1, s _ _ h2⟩
theorem Can.ins {H : Hp} {C x : Addr} {rs : List (List Nat)} (p : Can H C x rs) : InsAt H x C := by
  obtain ⟨dx, t, h1, h2⟩ := p
  exact ⟨dx, _, h1⟩
def spCanFill (K : PySem.W.Frag) (C B : Addr) : Sp := fun vs H Q E => ∃ (x : Addr) (w : Nat) (rs : List (List Nat)) (x0 x1 y0 y1 : Int) (v : V), vs = [.ref x, .int x0, .int x1, .int y0, .int y1, v] ∧ Can H C x rs ∧ Good w rs ∧
  ((∃ c : Int, v = .int c ∧ 0 ≤ c ∧ c < 10 ∧ ∀ H', SameBut x H H' → Can H' C x (fillRs rs x0 x1 y0 y1 (48 + c.toNat)) → Q .non H') ∨ (BadC K H v ∧ Out1 B "value" H E v))
section
variable {P : Program} {w : World} {K : PySem.W.Frag} {mg : Str → Option Value} {base : Heap} {a : Adr}
set_option maxHeartbeats 4000000
theorem can_fill_body (T : Txt K mg a) {fd : FuncData} (F : FunD K "fill" "Canvas.fill" (defArgs s_Canvas_fill) (defBody s_Canvas_fill) (defScope s_Canvas_fill) [] [] a.Canvas_fill fd) : FnOk P w K mg base (CX P w) 5 a.Canvas_fill fd ["self", "x0", "x1", "y0", "y1", "colour"] (spCanFill K a.Canvas a.BadColour) := by
  have G_check_colour : FnR P w K mg base (CX P w) 4 a.check_colour (spChColE K a.BadColour) := ok_check_colourE T
  have G_filled_rows : FnR P w K mg base CX0 2 a.filled_rows spFilled := ok_filled_rows T
  refine F.ok sc_Canvas_fill (fun vs H Q E h => by obtain ⟨x, wd, rs, x0, x1, y0, y1, v, rfl, _⟩ := h; rfl) (fun cdv A outer s H vs Q E hr h => ?_)
  obtain ⟨x, wd, rs, x0, x1, y0, y1, v, rfl, ⟨dx, t, hx, ht⟩, g, h⟩ := h
  refine ⟨_, (pss_cons (ps_expr (pe_callR G_check_colour (hr.mono (by decide)) T.m_check_colour T.k_check_colour (passUp (takes_of rfl rfl rfl rfl)) (pa_cons (pv 5) pa_nil)))
      (pss_one (ps_fld (pv 0) (pe_callR G_filled_rows (hr.mono (by decide)) T.m_filled_rows T.k_filled_rows pass0 (pa_cons (pe_fld (pv 0) rfl) (pa_cons (pv 1) (pa_cons (pv 2) (pa_cons (pv 3) (pa_cons (pv 4) (pa_cons (pv 5) pa_nil))))))) rfl))), ?_⟩
  simp only [tSeq, tIfS, tTest, tB, tAnd, tOr, tNot, tAndV, tOrV, tNotV, tIf, tOp, tUn, tChain, rEq, rNe, rI0, rI, rU, tCallR, tCons, tNil, tC, tVar, tRet, tRetN, tTup_k, tLst_k, tCB, tNext, tAsg, gName, gTup, gCons, gNil, tDrop, tPar, tFld, ClX.tCVal, tPropR, rBin, rBinT, rNeOwn, rSetL_k, gSub, tMakeK_k, tMethR, rInO, tDNewK_k, tYes, wipe, tMakeR_k, tSMeth, tSMethK, rMulS, decide_true, tNever, sFld, rIsiT, and_false, rListOf, rTupOf, rLenSeq, rIxL, rIxT, rIxS, rCat_k, rRep_k, rSlL_k, rSlS, rNewStrs_k, rAppend_k, tBM, tBM0, tM0, tM1, tSl, tNoPart, tPart, tLc_k, tFor_k, iList, iTup, iEnumT, iRng1, iRng2, iRng2L, iStr, L2.start, List.map, List.length_cons, List.length_nil, List.cons_append, List.nil_append, List.getElem?_cons_succ, List.getElem?_cons_zero, Option.some.injEq, V.int.injEq, V.bl.injEq, V.str.injEq, V.ref.injEq, exists_eq_left', exists_eq_left, and_assoc, exists_and_left, exists_eq, exists_eq', true_and, and_true, List.set_cons_zero, List.set_cons_succ, List.set, decide_eq_true_eq, Bool.not_eq_true', if_true, if_false, rIx, cx_K, nox_K, List.replicate_succ, List.replicate_zero, Nat.reduceSub, Bool.true_eq_false, Bool.false_eq_true, Nat.reduceAdd, List.cons.injEq, reduceCtorEq, false_and, false_or, or_false, tAug, rSetO, rJoin, rExtend]
  rcases h with ⟨c, rfl, c0, c1, k⟩ | ⟨hb, k⟩
  · refine ⟨_, rfl, .inl ⟨c, rfl, c0, c1, ?_⟩⟩
    simp only [tSeq, tIfS, tTest, tB, tAnd, tOr, tNot, tAndV, tOrV, tNotV, tIf, tOp, tUn, tChain, rEq, rNe, rI0, rI, rU, tCallR, tCons, tNil, tC, tVar, tRet, tRetN, tTup_k, tLst_k, tCB, tNext, tAsg, gName, gTup, gCons, gNil, tDrop, tPar, tFld, ClX.tCVal, tPropR, rBin, rBinT, rNeOwn, rSetL_k, gSub, tMakeK_k, tMethR, rInO, tDNewK_k, tYes, wipe, tMakeR_k, tSMeth, tSMethK, rMulS, decide_true, tNever, sFld, rIsiT, and_false, rListOf, rTupOf, rLenSeq, rIxL, rIxT, rIxS, rCat_k, rRep_k, rSlL_k, rSlS, rNewStrs_k, rAppend_k, tBM, tBM0, tM0, tM1, tSl, tNoPart, tPart, tLc_k, tFor_k, iList, iTup, iEnumT, iRng1, iRng2, iRng2L, iStr, L2.start, List.map, List.length_cons, List.length_nil, List.cons_append, List.nil_append, List.getElem?_cons_succ, List.getElem?_cons_zero, Option.some.injEq, V.int.injEq, V.bl.injEq, V.str.injEq, V.ref.injEq, exists_eq_left', exists_eq_left, and_assoc, exists_and_left, exists_eq, exists_eq', true_and, and_true, List.set_cons_zero, List.set_cons_succ, List.set, decide_eq_true_eq, Bool.not_eq_true', if_true, if_false, rIx, cx_K, nox_K, List.replicate_succ, List.replicate_zero, Nat.reduceSub, Bool.true_eq_false, Bool.false_eq_true, Nat.reduceAdd, List.cons.injEq, reduceCtorEq, false_and, false_or, or_false, tAug, rSetO, rJoin, rExtend]
    refine ⟨_, dx, _, hx, T.c_Canvas.cl, T.a_Canvas__rows, _, rfl, t, wd, rs, x0, x1, y0, y1, c, rfl, ht, g, c0, c1, fun t2 H2 f2 => ?_⟩
    simp only [tSeq, tIfS, tTest, tB, tAnd, tOr, tNot, tAndV, tOrV, tNotV, tIf, tOp, tUn, tChain, rEq, rNe, rI0, rI, rU, tCallR, tCons, tNil, tC, tVar, tRet, tRetN, tTup_k, tLst_k, tCB, tNext, tAsg, gName, gTup, gCons, gNil, tDrop, tPar, tFld, ClX.tCVal, tPropR, rBin, rBinT, rNeOwn, rSetL_k, gSub, tMakeK_k, tMethR, rInO, tDNewK_k, tYes, wipe, tMakeR_k, tSMeth, tSMethK, rMulS, decide_true, tNever, sFld, rIsiT, and_false, rListOf, rTupOf, rLenSeq, rIxL, rIxT, rIxS, rCat_k, rRep_k, rSlL_k, rSlS, rNewStrs_k, rAppend_k, tBM, tBM0, tM0, tM1, tSl, tNoPart, tPart, tLc_k, tFor_k, iList, iTup, iEnumT, iRng1, iRng2, iRng2L, iStr, L2.start, List.map, List.length_cons, List.length_nil, List.cons_append, List.nil_append, List.getElem?_cons_succ, List.getElem?_cons_zero, Option.some.injEq, V.int.injEq, V.bl.injEq, V.str.injEq, V.ref.injEq, exists_eq_left', exists_eq_left, and_assoc, exists_and_left, exists_eq, exists_eq', true_and, and_true, List.set_cons_zero, List.set_cons_succ, List.set, decide_eq_true_eq, Bool.not_eq_true', if_true, if_false, rIx, cx_K, nox_K, List.replicate_succ, List.replicate_zero, Nat.reduceSub, Bool.true_eq_false, Bool.false_eq_true, Nat.reduceAdd, List.cons.injEq, reduceCtorEq, false_and, false_or, or_false, tAug, rSetO, rJoin, rExtend]
    refine ⟨_, dx, _, f2.get hx, T.c_Canvas.cl, T.a_Canvas__rows, by show 1 < 1000; decide, k _ ?_ ⟨dx, t2, upd_same, ?_⟩⟩
    · intro b o n e
      rw [upd_ne n]
      exact f2.get e
    · rw [upd_ne (ne_of f2.at_ (f2.get hx) (fun z => by cases z))]
      exact f2.at_
  · exact ⟨_, rfl, .inr ⟨hb, k⟩⟩
theorem ok_can_fill (T : Txt K mg a) : FnR P w K mg base (CX P w) 5 a.Canvas_fill (spCanFill K a.Canvas a.BadColour) := by
  obtain ⟨fd, F⟩ := id T.d_Canvas_fill
  exact ((can_fill_body T F).raw (F.bindsN (fun _ _ _ _ _ _ us hl => match us, hl with | [_, _, _, _, _, _], _ => rfl)) .nil).imp fun vs H Q E h => by rw [List.append_nil]; exact h
end
end Pf
end
section
namespace Pf
open PySem PySem.Spec PyProof.Rows L2 Ow StX
theorem Pen.le {H : Hp} {p c : Addr} {n m : Int} (x : Pen H p c n) (h : n ≤ m) : Pen H p c m := by
  obtain ⟨ns, b, r, h1, h2, h3, h4, h5, h6, h7⟩ := x
  exact ⟨ns, b, r, h1, h2, h3, h4, h5, by omega, h7⟩
theorem Pen.at_p {H : Hp} {p c x : Addr} {n : Int} (P : Pen H p c n) (h : H x = none) : x ≠ p ∧ c ≠ x := by
  obtain ⟨ns, b, r, h1, h2, _⟩ := P
  exact ⟨fun e => (by rw [← e, h] at h1; cases h1), fun e => (by rw [e, h] at h2; cases h2)⟩
theorem Pen.put {H : Hp} {p c x : Addr} {n : Int} {o : HO} (P : Pen H p c n) (hp : x ≠ p) (hc : c ≠ x) : Pen (upd H x o) p c n := by
  obtain ⟨ns, b, r, h1, h2, h⟩ := P
  exact ⟨ns, b, r, by rw [upd_ne (Ne.symm hp)]; exact h1, by rw [upd_ne hc]; exact h2, h⟩
theorem Pen.ne {H : Hp} {p c t : Addr} {n : Int} {o : HO} (x : Pen H p c n) (h : H t = some o) (q : ∀ xs, o ≠ .lst xs) : t ≠ p := by
  obtain ⟨ns, b, r, h1, _⟩ := x
  exact ne_of h h1 (q _)
section
variable {P : Program} {w : World} {K : PySem.W.Frag} {mg : Str → Option Value} {base : Heap} {a : Adr}
set_option maxHeartbeats 4000000
theorem cut63 {ns : List Int} (h : ns.length ≤ 63) : cutV (ns.map V.int) none (some 63) = ns.map V.int := by
  have e1 : HT.sIx (ns.map V.int).length 0 none = 0 := rfl
  have e2 : (ns.map V.int).length ≤ HT.sIx (ns.map V.int).length (ns.map V.int).length (some 63) := by
    rw [List.length_map]
    unfold HT.sIx
    simp
    omega
  unfold cutV
  rw [e1, List.drop_zero, Nat.sub_zero]
  exact List.take_of_length_le e2
def spPen (K : PySem.W.Frag) : Sp := fun vs H Q _ => ∃ (sa : Addr) (ns : List Int), vs = [.ref sa] ∧ SqL K H sa (ns.map V.int) ∧ ns.length ≤ 63 ∧ ∀ (p c : Addr) (H' : Hp), Same H H' → H p = none → Pen H' p c 0 → Q (.ref p) H'
theorem ok_pen (T : Txt K mg a) : FnR P w K mg base CX0 1 a._law_pen (spPen K) := by
  refine T.d__law_pen.ok sc__law_pen (fun _ _ _ _ _ _ us hl => match us, hl with | [_], _ => rfl) (fun vs H Q E h => by obtain ⟨sa, ns, rfl, _⟩ := h; rfl) (fun cdv A outer s H vs Q E hr h => ?_)
  obtain ⟨sa, ns, rfl, hS, hns, k⟩ := h
  refine ⟨_, (pss_one (ps_ret (pe_lst (pa_cons (pe_callTy call_list_of (by rfl) T.n_list (by decide +kernel) (pa_cons (pe_slice sl_list (pv 0) po_none (po_some pe_int)) pa_nil)) (pa_cons pe_int (pa_cons pe_int pa_nil)))))), ?_⟩
  refine ⟨_, rfl, _, rfl, sa, _, rfl, hS, fun q hq => ?_⟩
  rw [cut63 hns]
  refine ⟨q, _, rfl, .inl (SqL.of upd_same), fun c hc => ⟨(by show 3 ≤ sizeLine; decide), fun p hp => ?_⟩⟩
  have m1 := same_new (o := .lst (ns.map V.int)) hq
  have m2 := same_new (o := .lst (ns.map V.int)) hc
  have m3 := same_new (o := .lst [.ref c, .int 0, .int 0]) hp
  have ec : upd (upd (upd H q (.lst (ns.map V.int))) c (.lst (ns.map V.int))) p (.lst [.ref c, .int 0, .int 0]) c = some (.lst (ns.map V.int)) := m3 _ _ upd_same
  refine k p c _ (m1.trans (m2.trans m3)) ?_ ⟨ns, 0, 0, upd_same, ec, ?_, hns, by decide, by decide, by decide⟩
  · cases e : H p with
    | none => rfl
    | some o =>
      have z := m2 _ _ (m1 _ _ e)
      rw [hp] at z
      cases z
  · intro e
    rw [e, upd_same] at hp
    cases hp
def spPick : Sp := fun vs H Q _ => ∃ (p c l : Addr) (n : Int) (xs : List V), vs = [.ref p, .ref l] ∧ Pen H p c n ∧ n < 1048576 ∧ H l = some (.lst xs) ∧ l ≠ p ∧ 0 < xs.length ∧ xs.length < 1073741824 ∧ ∀ (v : V) (H' : Hp), v ∈ xs → SameBut p H H' → Pen H' p c (n + 1) → Q v H'
theorem ok_pick (T : Txt K mg a) : FnR P w K mg base CX0 2 a._law_pick spPick := by
  have G__law_draw : FnR P w K mg base CX0 1 a._law_draw spPDraw := ok_pdraw T
  refine T.d__law_pick.ok sc__law_pick (fun _ _ _ _ _ _ us hl => match us, hl with | [_, _], _ => rfl) (fun vs H Q E h => by obtain ⟨p, c, l, n, xs, rfl, _⟩ := h; rfl) (fun cdv A outer s H vs Q E hr h => ?_)
  obtain ⟨p, c, l, n, xs, rfl, hP, hn, hl, hlp, h0, h1, k⟩ := h
  refine ⟨_, (pss_one (ps_ret (pe_ix ix_list (pv 1) (pe_callR G__law_draw (hr.mono (by decide)) T.m__law_draw T.k__law_draw pass0 (pa_cons (pv 0) (pa_cons (pe_callB call_len_seq (by rfl) T.n_len (by decide +kernel) (pa_cons (pv 1) pa_nil)) pa_nil))) (fun _ _ => rfl)))), ?_⟩
  refine ⟨_, rfl, _, rfl, _, rfl, l, _, rfl, .inl (SqL.of hl), p, c, xs.length, n, rfl, hP, hn, by omega, by omega, fun z H' z0 z1 sB hP' => ?_⟩
  obtain ⟨v, hv, hat⟩ := atI_any (xs := xs) z0 z1
  exact ⟨l, _, _, _, rfl, rfl, SqL.of (sB _ _ hlp hl), hat, k v H' hv sB hP'⟩
end
end Pf
end
section
namespace Pf
open PySem PySem.Spec PyProof.Rows L2 Ow StX
/-! ### drawn places -/
theorem Pen.keep {H H' : Hp} {p c t : Addr} {n : Int} {o : HO} (P : Pen H p c n) (s : SameBut p H H') (h : H t = some o) (q : ∀ xs, o ≠ .lst xs) : H' t = some o := s t _ (P.ne h q) h
def Sm1 (n : Int) : Prop := -100 ≤ n ∧ n ≤ 100
def SmP (q : Pl) : Prop := Sm1 q.s ∧ Sm1 q.o ∧ Sm1 q.d
theorem sm0 : Sm1 0 := ⟨by decide, by decide⟩
theorem sm1 : Sm1 1 := ⟨by decide, by decide⟩
theorem sm2 : Sm1 2 := ⟨by decide, by decide⟩
theorem Sm1.bd {n : Int} (h : Sm1 n) : Bd1 n := ⟨by have := h.1; omega, by have := h.2; omega⟩
theorem SmP.bd {q : Pl} (h : SmP q) : BdP q := ⟨h.1.bd, h.2.1.bd, h.2.2.bd⟩
def TupP (H : Hp) (t : Addr) (q : Pl) : Prop := H t = some (.tup [.int q.s, .int q.o, .int q.d])
theorem TupP.same {H H' : Hp} {t : Addr} {q : Pl} (h : TupP H t q) (s : Same H H') : TupP H' t q := s _ _ h
theorem TupP.pen {H H' : Hp} {p c t : Addr} {n : Int} {q : Pl} (h : TupP H t q) (P : Pen H p c n) (s : SameBut p H H') : TupP H' t q := P.keep s h (by intro _ z; cases z)
theorem PlaceAt.pen {H H' : Hp} {C p c t : Addr} {n : Int} {a b d : Int} (h : PlaceAt H C t a b d) (P : Pen H p c n) (s : SameBut p H H') : PlaceAt H' C t a b d := h.elim fun dx z => ⟨dx, P.keep s z (by intro _ z; cases z)⟩
theorem BoxAt.pen {H H' : Hp} {B C b p c : Addr} {n : Int} {q : Bx} (h : BoxAt H B C b q) (P : Pen H p c n) (s : SameBut p H H') : BoxAt H' B C b q := by
  obtain ⟨dx, p0, p1, p2, p3, e, h0, h1, h2, h3⟩ := h
  exact ⟨dx, p0, p1, p2, p3, P.keep s e (by intro _ z; cases z), h0.pen P s, h1.pen P s, h2.pen P s, h3.pen P s⟩
/-- a value that stands for a place: an int, or a Place -/
def InV (C : Addr) (H : Hp) (v : V) (q : Pl) : Prop := (v = .int q.o ∧ q.s = 0 ∧ q.d = 0) ∨ ∃ p, v = .ref p ∧ PlA H C p q
theorem InV.inp {K : PySem.W.Frag} {C : Addr} {H : Hp} {v : V} {q : Pl} (h : InV C H v q) (b : BdP q) : InP K C H v q := ⟨h, b⟩
theorem InV.same {C : Addr} {H H' : Hp} {v : V} {q : Pl} (h : InV C H v q) (s : Same H H') : InV C H' v q := h.imp id fun ⟨p, e, hp⟩ => ⟨p, e, hp.same s⟩
theorem InV.pen {C p c : Addr} {H H' : Hp} {n : Int} {v : V} {q : Pl} (h : InV C H v q) (P : Pen H p c n) (s : SameBut p H H') : InV C H' v q := h.imp id fun ⟨x, e, hp⟩ => ⟨x, e, hp.pen P s⟩
theorem InV.but {C l : Addr} {H H' : Hp} {v : V} {q : Pl} (h : InV C H v q) {xs : List V} (hl : H l = some (.lst xs)) (s : SameBut l H H') : InV C H' v q := h.imp id fun ⟨x, e, dx, hp⟩ => ⟨x, e, dx, s _ _ (fun z => by rw [z, hl] at hp; cases hp) hp⟩
def spPlaceL : Sp := fun vs H Q _ => ∃ (p c : Addr) (n : Int), vs = [.ref p] ∧ Pen H p c n ∧ n + 10 < 1048576 ∧ ∀ t q H', SmP q → SameBut p H H' → Pen H' p c (n + 4) → TupP H' t q → Q (.ref t) H'
def spAt : Sp := fun vs H Q _ => ∃ (t : Addr) (q : Pl) (n : Int), vs = [.ref t, .int n] ∧ TupP H t q ∧ MulsP q n ∧ Q (.int (plV q n)) H
def spBuiltP (C : Addr) : Sp := fun vs H Q _ => ∃ (p c t : Addr) (q : Pl) (n : Int), vs = [.ref p, .ref t] ∧ Pen H p c n ∧ n + 10 < 1048576 ∧ TupP H t q ∧ ∀ v H', SameBut p H H' → Pen H' p c (n + 1) → InV C H' v q → Q v H'
section
variable {P : Program} {w : World} {K : PySem.W.Frag} {mg : Str → Option Value} {base : Heap} {a : Adr}
set_option maxHeartbeats 4000000
theorem ok_place (T : Txt K mg a) : FnR P w K mg base CX0 3 a._law_place spPlaceL := by
  have G__law_pick : FnR P w K mg base CX0 2 a._law_pick spPick := ok_pick T
  refine T.d__law_place.ok sc__law_place (fun _ _ _ _ _ _ us hl => match us, hl with | [_], _ => rfl) (fun vs H Q E h => by obtain ⟨p, c, n, rfl, _⟩ := h; rfl) (fun cdv A outer s H vs Q E hr h => ?_)
  obtain ⟨p, c, n, rfl, P0, hn, k⟩ := h
  refine ⟨_, (pss_cons (ps_set (i := 1) sc__law_place.nd rfl (Or.inl rfl) (pe_callR G__law_pick (hr.mono (by decide)) T.m__law_pick T.k__law_pick pass0 (pa_cons (pv 0) (pa_cons (pe_lst (pa_cons pe_int (pa_cons pe_int (pa_cons pe_int (pa_cons pe_int (pa_cons pe_int (pa_cons pe_int (pa_cons pe_int (pa_cons (pe_un un_neg pe_int) pa_nil))))))))) pa_nil))))
      (pss_one (ps_ret (pe_callR G__law_pick (hr.mono (by decide)) T.m__law_pick T.k__law_pick pass0 (pa_cons (pv 0) (pa_cons (pe_lst (pa_cons (pe_tup (pa_cons pe_int (pa_cons (pv 1) (pa_cons pe_int pa_nil)))) (pa_cons (pe_tup (pa_cons pe_int (pa_cons (pv 1) (pa_cons pe_int pa_nil)))) (pa_cons (pe_tup (pa_cons pe_int (pa_cons (pe_op op_sub pe_int (pv 1)) (pa_cons pe_int pa_nil)))) (pa_cons (pe_tup (pa_cons pe_int (pa_cons (pe_op op_sub pe_int (pv 1)) (pa_cons pe_int pa_nil)))) (pa_cons (pe_tup (pa_cons pe_int (pa_cons (pv 1) (pa_cons pe_int pa_nil)))) (pa_cons (pe_tup (pa_cons pe_int (pa_cons (pe_op op_sub pe_int (pv 1)) (pa_cons pe_int pa_nil)))) pa_nil))))))) pa_nil)))))), ?_⟩
  simp only [tSeq, tIfS, tTest, tB, tAnd, tOr, tNot, tAndV, tOrV, tNotV, tIf, tOp, tUn, tChain, rEq, rNe, rI0, rI, rU, tCallR, tCons, tNil, tC, tVar, tRet, tRetN, tTup_k, tLst_k, tCB, tNext, tAsg, gName, gTup, gCons, gNil, tDrop, tPar, tFld, ClX.tCVal, tPropR, rBin, rBinT, rNeOwn, rSetL_k, gSub, tMakeK_k, tMethR, rInO, tDNewK_k, tYes, wipe, tMakeR_k, tSMeth, tSMethK, rMulS, decide_true, tNever, sFld, rIsiT, and_false, rListOf, rTupOf, rLenSeq, rIxL, rIxT, rIxS, rCat_k, rRep_k, rSlL_k, rSlS, rNewStrs_k, rAppend_k, tBM, tBM0, tM0, tM1, tSl, tNoPart, tPart, tLc_k, tFor_k, iList, iTup, iEnumT, iRng1, iRng2, iRng2L, iStr, L2.start, List.map, List.length_cons, List.length_nil, List.cons_append, List.nil_append, List.getElem?_cons_succ, List.getElem?_cons_zero, Option.some.injEq, V.int.injEq, V.bl.injEq, V.str.injEq, V.ref.injEq, exists_eq_left', exists_eq_left, and_assoc, exists_and_left, exists_eq, exists_eq', true_and, and_true, List.set_cons_zero, List.set_cons_succ, List.set, decide_eq_true_eq, Bool.not_eq_true', if_true, if_false, rIx, cx_K, nox_K, List.replicate_succ, List.replicate_zero, Nat.reduceSub, Bool.true_eq_false, Bool.false_eq_true, Nat.reduceAdd, List.cons.injEq, reduceCtorEq, false_and, false_or, or_false, tAug, rSetO, rStrO, rUn, rBinI, rBinR, rJoin, tJs, tOrT, rIsi, tCallOI, rBinT, tFCall, tCall, tPar3, tFmtO, tMethSF, tFmt, rExtend]
  refine kNew.mk (by show 8 ≤ sizeLine; decide) fun l H1 f1 => ?_
  have P1 := P0.same f1.same
  refine ⟨p, c, l, n, _, rfl, P1, by omega, f1.at_, (P0.at_p f1.new).1, by show 0 < 8; decide, by show 8 < 1073741824; decide, fun v H2 hv s2 P2 => ?_⟩
  obtain ⟨m, rfl, m0, m1⟩ : ∃ m : Int, v = .int m ∧ -1 ≤ m ∧ m ≤ 4 := by
    simp only [List.mem_cons, List.not_mem_nil, or_false] at hv
    rcases hv with rfl | rfl | rfl | rfl | rfl | rfl | rfl | rfl <;> exact ⟨_, rfl, by decide, by decide⟩
  clear hv
  refine kNew.mk (by show 3 ≤ sizeLine; decide) fun t1 H3 f3 => kNew.mk (by show 3 ≤ sizeLine; decide) fun t2 H4 f4 => ⟨_, rfl, kNew.mk (by show 3 ≤ sizeLine; decide) fun t3 H5 f5 => ⟨_, rfl, kNew.mk (by show 3 ≤ sizeLine; decide) fun t4 H6 f6 => kNew.mk (by show 3 ≤ sizeLine; decide) fun t5 H7 f7 => ⟨_, rfl, kNew.mk (by show 3 ≤ sizeLine; decide) fun t6 H8 f8 => kNew.mk (by show 6 ≤ sizeLine; decide) fun l2 H9 f9 => ?_⟩⟩⟩
  have s78 := f8.same.trans f9.same
  have s67 := f7.same.trans s78
  have s56 := f6.same.trans s67
  have s45 := f5.same.trans s56
  have s34 := f4.same.trans s45
  have s39 := f3.same.trans s34
  have P9 := P2.same s39
  refine ⟨p, c, l2, n + 1, _, rfl, P9, by omega, f9.at_, ?_, by show 0 < 6; decide, by show 6 < 1073741824; decide, fun v H10 hv s10 P10 => ?_⟩
  · obtain ⟨_, _, _, h1, _⟩ := P9
    exact fun z => by
      rw [z] at f9
      obtain ⟨_, _, _, h1, _⟩ := P2.same (f3.same.trans (f4.same.trans (f5.same.trans (f6.same.trans (f7.same.trans f8.same)))))
      exact f9.ne h1 rfl
  have sB : SameBut p H H10 := ((SameBut.of f1.same).trans s2).trans ((SameBut.of s39).trans s10)
  have PE : Pen H10 p c (n + 4) := P10.le (by omega)
  have fin : ∀ (t : Addr) (q : Pl), SmP q → TupP H9 t q → Q (.ref t) H10 := fun t q hq ht => k t q H10 hq sB PE (ht.pen P9 s10)
  simp only [List.mem_cons, List.not_mem_nil, or_false] at hv
  rcases hv with rfl | rfl | rfl | rfl | rfl | rfl
  · exact fin _ ⟨0, m, 0⟩ ⟨sm0, ⟨by simp only; omega, by simp only; omega⟩, sm0⟩ (s34 _ _ f3.at_)
  · exact fin _ ⟨0, m, 0⟩ ⟨sm0, ⟨by simp only; omega, by simp only; omega⟩, sm0⟩ (s45 _ _ f4.at_)
  · exact fin _ ⟨2, 0 - m, 1⟩ ⟨sm2, ⟨by simp only; omega, by simp only; omega⟩, sm1⟩ (s56 _ _ f5.at_)
  · exact fin _ ⟨2, 0 - m, 1⟩ ⟨sm2, ⟨by simp only; omega, by simp only; omega⟩, sm1⟩ (s67 _ _ f6.at_)
  · exact fin _ ⟨1, m, 0⟩ ⟨sm1, ⟨by simp only; omega, by simp only; omega⟩, sm0⟩ (s78 _ _ f7.at_)
  · exact fin _ ⟨1, 0 - m, 1⟩ ⟨sm1, ⟨by simp only; omega, by simp only; omega⟩, sm1⟩ (f9.same _ _ f8.at_)
theorem ok_at (T : Txt K mg a) : FnR P w K mg base CX0 1 a._law_at spAt := by
  refine T.d__law_at.ok sc__law_at (fun _ _ _ _ _ _ us hl => match us, hl with | [_, _], _ => rfl) (fun vs H Q E h => by obtain ⟨t, q, n, rfl, _⟩ := h; rfl) (fun cdv A outer s H vs Q E hr h => ?_)
  obtain ⟨t, q, n, rfl, ht, ⟨m1, m2⟩, k⟩ := h
  refine ⟨_, (pss_one (ps_ret (pe_op op_add (pe_op op_add (pe_op op_mulW (pe_ix ix_tup (pv 0) pe_int (fun _ _ => rfl)) (pe_op op_fdiv (pv 1) pe_int)) (pe_ix ix_tup (pv 0) pe_int (fun _ _ => rfl))) (pe_op op_mulW (pe_ix ix_tup (pv 0) pe_int (fun _ _ => rfl)) (pe_callTy call_int1 (by rfl) T.n_int (by decide +kernel) (pa_cons (pe_op op_mod (pv 1) pe_int) pa_nil)))))), ?_⟩
  simp only [tSeq, tIfS, tTest, tB, tAnd, tOr, tNot, tAndV, tOrV, tNotV, tIf, tOp, tUn, tChain, rEq, rNe, rI0, rI, rU, tCallR, tCons, tNil, tC, tVar, tRet, tRetN, tTup_k, tLst_k, tCB, tNext, tAsg, gName, gTup, gCons, gNil, tDrop, tPar, tFld, ClX.tCVal, tPropR, rBin, rBinT, rNeOwn, rSetL_k, gSub, tMakeK_k, tMethR, rInO, tDNewK_k, tYes, wipe, tMakeR_k, tSMeth, tSMethK, rMulS, decide_true, tNever, sFld, rIsiT, and_false, rListOf, rTupOf, rLenSeq, rIxL, rIxT, rIxS, rCat_k, rRep_k, rSlL_k, rSlS, rNewStrs_k, rAppend_k, tBM, tBM0, tM0, tM1, tSl, tNoPart, tPart, tLc_k, tFor_k, iList, iTup, iEnumT, iRng1, iRng2, iRng2L, iStr, L2.start, List.map, List.length_cons, List.length_nil, List.cons_append, List.nil_append, List.getElem?_cons_succ, List.getElem?_cons_zero, Option.some.injEq, V.int.injEq, V.bl.injEq, V.str.injEq, V.ref.injEq, exists_eq_left', exists_eq_left, and_assoc, exists_and_left, exists_eq, exists_eq', true_and, and_true, List.set_cons_zero, List.set_cons_succ, List.set, decide_eq_true_eq, Bool.not_eq_true', if_true, if_false, rIx, cx_K, nox_K, List.replicate_succ, List.replicate_zero, Nat.reduceSub, Bool.true_eq_false, Bool.false_eq_true, Nat.reduceAdd, List.cons.injEq, reduceCtorEq, false_and, false_or, or_false, tAug, rSetO, rStrO, rUn, rBinI, rBinR, rJoin, tJs, tOrT, rIsi, tCallOI, rBinT, tFCall, tCall, tPar3, tFmtO, tMethSF, tFmt, rExtend]
  exact ⟨_, SqT.of ht, _, rfl, ⟨by decide, by decide⟩, _, rfl, m1, _, SqT.of ht, _, rfl, _, rfl, _, SqT.of ht, _, rfl, by decide, .inl ⟨_, rfl, m2, k⟩⟩
theorem ok_builtP (T : Txt K mg a) : FnR P w K mg base CX0 6 a._law_built_place (spBuiltP a.Place) := by
  have G__law_draw : FnR P w K mg base CX0 1 a._law_draw spPDraw := ok_pdraw T
  have G_Place_init : FnR P w K mg base (CX P w) 3 a.Place_init (spPInitX K a.Place a.BadPlace) := ok_p_initX T
  refine T.d__law_built_place.ok sc__law_built_place (fun _ _ _ _ _ _ us hl => match us, hl with | [_, _], _ => rfl) (fun vs H Q E h => by obtain ⟨p, c, t, q, n, rfl, _⟩ := h; rfl) (fun cdv A outer s H vs Q E hr h => ?_)
  obtain ⟨p, c, t, q, n, rfl, P0, hn, ht, k⟩ := h
  refine ⟨_, (pss_cons (ps_if (PW.pt (pw_and (pt_cmpR op_eq (pe_ix ix_tup (pv 1) pe_int (fun _ _ => rfl)) pe_int (nomark _)) (pw_and (pt_cmpR op_eq (pe_ix ix_tup (pv 1) pe_int (fun _ _ => rfl)) pe_int (nomark _)) (pw_and1 (pt_cmpR op_eq (pe_callR G__law_draw (hr.mono (by decide)) T.m__law_draw T.k__law_draw pass0 (pa_cons (pv 0) (pa_cons pe_int pa_nil))) pe_int (nomark _))))))
          (pss_one (ps_ret (pe_ix ix_tup (pv 1) pe_int (fun _ _ => rfl))))
          pss_nil)
      (pss_one (ps_ret (pe_makeRR T.M_Place G_Place_init (hr.mono (by decide)) T.m_Place (passUp LamX.takes0) (pa_cons (pe_ix ix_tup (pv 1) pe_int (fun _ _ => rfl)) (pa_cons (pe_ix ix_tup (pv 1) pe_int (fun _ _ => rfl)) (pa_cons (pe_ix ix_tup (pv 1) pe_int (fun _ _ => rfl)) pa_nil))))))), ?_⟩
  simp only [tSeq, tIfS, tTest, tB, tAnd, tOr, tNot, tAndV, tOrV, tNotV, tIf, tOp, tUn, tChain, rEq, rNe, rI0, rI, rU, tCallR, tCons, tNil, tC, tVar, tRet, tRetN, tTup_k, tLst_k, tCB, tNext, tAsg, gName, gTup, gCons, gNil, tDrop, tPar, tFld, ClX.tCVal, tPropR, rBin, rBinT, rNeOwn, rSetL_k, gSub, tMakeK_k, tMethR, rInO, tDNewK_k, tYes, wipe, tMakeR_k, tSMeth, tSMethK, rMulS, decide_true, tNever, sFld, rIsiT, and_false, rListOf, rTupOf, rLenSeq, rIxL, rIxT, rIxS, rCat_k, rRep_k, rSlL_k, rSlS, rNewStrs_k, rAppend_k, tBM, tBM0, tM0, tM1, tSl, tNoPart, tPart, tLc_k, tFor_k, iList, iTup, iEnumT, iRng1, iRng2, iRng2L, iStr, L2.start, List.map, List.length_cons, List.length_nil, List.cons_append, List.nil_append, List.getElem?_cons_succ, List.getElem?_cons_zero, Option.some.injEq, V.int.injEq, V.bl.injEq, V.str.injEq, V.ref.injEq, exists_eq_left', exists_eq_left, and_assoc, exists_and_left, exists_eq, exists_eq', true_and, and_true, List.set_cons_zero, List.set_cons_succ, List.set, decide_eq_true_eq, Bool.not_eq_true', if_true, if_false, rIx, cx_K, nox_K, List.replicate_succ, List.replicate_zero, Nat.reduceSub, Bool.true_eq_false, Bool.false_eq_true, Nat.reduceAdd, List.cons.injEq, reduceCtorEq, false_and, false_or, or_false, tAug, rSetO, rStrO, rUn, rBinI, rBinR, rJoin, tJs, tOrT, rIsi, tCallOI, rBinT, tFCall, tCall, tPar3, tFmtO, tMethSF, tFmt, rExtend]
  have mk : ∀ H1 (n1 : Int), SameBut p H H1 → Pen H1 p c (n + 1) → kMake a.Place (spPInitX K a.Place a.BadPlace) (fun cls d H => False) Q [.int q.s, .int q.o, .int q.d] H1 := fun H1 n1 s1 P1 =>
    newP_makeX fun x H2 s2 nx px => k _ H2 (s1.trans (SameBut.of s2)) (P1.same s2) (.inr ⟨x, rfl, px⟩)
  have at0 : SqT K H t [.int q.s, .int q.o, .int q.d] := SqT.of ht
  refine ⟨_, at0, _, rfl, rfl, ?_⟩
  by_cases h0 : V.int q.s = V.int 0
  · rw [if_pos h0]
    refine ⟨_, at0, _, rfl, rfl, ?_⟩
    by_cases h2 : V.int q.d = V.int 0
    · rw [if_pos h2]
      refine ⟨p, c, 2, n, rfl, P0, by omega, by decide, by decide, fun z H1 z0 z1 s1 P1 => ⟨rfl, ?_⟩⟩
      have at1 : SqT K H1 t [.int q.s, .int q.o, .int q.d] := SqT.of (ht.pen P0 s1)
      by_cases hz : V.int z = V.int 0
      · rw [if_pos hz]
        exact ⟨_, at1, _, rfl, k _ _ s1 P1 (.inl ⟨rfl, V.int.inj h0, V.int.inj h2⟩)⟩
      · rw [if_neg hz]
        exact ⟨_, at1, _, rfl, _, at1, _, rfl, _, at1, _, rfl, mk H1 0 s1 P1⟩
    · rw [if_neg h2]
      exact ⟨_, at0, _, rfl, _, at0, _, rfl, _, at0, _, rfl, mk H 0 (fun _ _ _ e => e) (P0.le (by omega))⟩
  · rw [if_neg h0]
    exact ⟨_, at0, _, rfl, _, at0, _, rfl, _, at0, _, rfl, mk H 0 (fun _ _ _ e => e) (P0.le (by omega))⟩
end
end Pf
end
section
namespace Pf
open PySem PySem.Spec PyProof.Rows L2 Ow StX
/-! ### four places, boxes of them -/
def FourT (H : Hp) (t : Addr) (q : Bx) : Prop := ∃ t0 t1 t2 t3, H t = some (.tup [.ref t0, .ref t1, .ref t2, .ref t3]) ∧ TupP H t0 q.x0 ∧ TupP H t1 q.x1 ∧ TupP H t2 q.y0 ∧ TupP H t3 q.y1
theorem FourT.same {H H' : Hp} {t : Addr} {q : Bx} (h : FourT H t q) (s : Same H H') : FourT H' t q := by
  obtain ⟨t0, t1, t2, t3, e, h0, h1, h2, h3⟩ := h
  exact ⟨t0, t1, t2, t3, s _ _ e, h0.same s, h1.same s, h2.same s, h3.same s⟩
theorem FourT.pen {H H' : Hp} {p c t : Addr} {n : Int} {q : Bx} (h : FourT H t q) (P : Pen H p c n) (s : SameBut p H H') : FourT H' t q := by
  obtain ⟨t0, t1, t2, t3, e, h0, h1, h2, h3⟩ := h
  exact ⟨t0, t1, t2, t3, P.keep s e (by intro _ z; cases z), h0.pen P s, h1.pen P s, h2.pen P s, h3.pen P s⟩
def BdB (q : Bx) : Prop := BdP q.x0 ∧ BdP q.x1 ∧ BdP q.y0 ∧ BdP q.y1
def SmB (q : Bx) : Prop := SmP q.x0 ∧ SmP q.x1 ∧ SmP q.y0 ∧ SmP q.y1
theorem SmB.bd {q : Bx} (h : SmB q) : BdB q := ⟨h.1.bd, h.2.1.bd, h.2.2.1.bd, h.2.2.2.bd⟩
def plOf (q : Bx) : List Pl := [q.x0, q.x1, q.y0, q.y1]
theorem nil_at {i : Nat} {v : V} {p : Prop} (h : ([] : List V)[i]? = some v) : p := by cases i <;> cases h
def spBuiltB (B C : Addr) : Sp := fun vs H Q _ => ∃ (p c t : Addr) (q : Bx) (n : Int), vs = [.ref p, .ref t] ∧ Pen H p c n ∧ n + 40 < 1048576 ∧ FourT H t q ∧ BdB q ∧ ∀ b H', SameBut p H H' → Pen H' p c (n + 4) → BoxAt H' B C b q → Q (.ref b) H'
section
variable {P : Program} {w : World} {K : PySem.W.Frag} {mg : Str → Option Value} {base : Heap} {a : Adr}
set_option maxHeartbeats 4000000
theorem ok_builtB (T : Txt K mg a) : FnR P w K mg base CX0 14 a._law_built_box (spBuiltB a.Box a.Place) := by
  have G__law_built_place : FnR P w K mg base CX0 6 a._law_built_place (spBuiltP a.Place) := ok_builtP T
  have G_Box_init : FnR P w K mg base (CX P w) 11 a.Box_init (spBInit K a.Box a.Place) := ok_bxinit T
  refine T.d__law_built_box.ok sc__law_built_box (fun _ _ _ _ _ _ us hl => match us, hl with | [_, _], _ => rfl) (fun vs H Q E h => by obtain ⟨p, c, t, q, n, rfl, _⟩ := h; rfl) (fun cdv A outer s H vs Q E hr h => ?_)
  obtain ⟨p, c, t, q, n, rfl, P0, hn, ⟨t0, t1, t2, t3, ht, h0, h1, h2, h3⟩, ⟨b0, b1, b2, b3⟩, k⟩ := h
  refine ⟨_, (pss_cons (ps_setLc (i := 2) (own := [("_law_place_here", 3)]) (g := gName 3) (by rfl) sc__law_built_box.nd rfl rfl (sw_true rfl rfl rfl (by decide +kernel)) (pi_tup (pv 1)) (blkOk_by (own := [("_law_place_here", 3)]) (N := ["_law_pen_here", "_law_four", "_law_some", "_law_place_here"]) (sc := defScope s__law_built_box) (by decide +kernel)) (fun _ _ _ _ _ => (pg_name (i := 3) sc__law_built_box.nd rfl (Or.inl rfl))) (fun _ _ _ _ _ => pts_nil) (fun _ _ _ _ _ => (pe_callR G__law_built_place (hr.mono (by decide)) T.m__law_built_place T.k__law_built_place pass0 (pa_cons (pv 0) (pa_cons (pv 3) pa_nil)))))
      (pss_one (ps_ret (pe_makeRR T.M_Box G_Box_init (hr.mono (by decide)) T.m_Box (passUp LamX.takes0) (pa_cons (pe_ix ix_list (pv 2) pe_int (fun _ _ => rfl)) (pa_cons (pe_ix ix_list (pv 2) pe_int (fun _ _ => rfl)) (pa_cons (pe_ix ix_list (pv 2) pe_int (fun _ _ => rfl)) (pa_cons (pe_ix ix_list (pv 2) pe_int (fun _ _ => rfl)) pa_nil)))))))), ?_⟩
  simp only [tSeq, tIfS, tTest, tB, tAnd, tOr, tNot, tAndV, tOrV, tNotV, tIf, tOp, tUn, tChain, rEq, rNe, rI0, rI, rU, tCallR, tCons, tNil, tC, tVar, tRet, tRetN, tTup_k, tLst_k, tCB, tNext, tAsg, gName, gTup, gCons, gNil, tDrop, tPar, tFld, ClX.tCVal, tPropR, rBin, rBinT, rNeOwn, rSetL_k, gSub, tMakeK_k, tMethR, rInO, tDNewK_k, tYes, wipe, tMakeR_k, tSMeth, tSMethK, rMulS, decide_true, tNever, sFld, rIsiT, and_false, rListOf, rTupOf, rLenSeq, rIxL, rIxT, rIxS, rCat_k, rRep_k, rSlL_k, rSlS, rNewStrs_k, rAppend_k, tBM, tBM0, tM0, tM1, tSl, tNoPart, tPart, tLc_k, tFor_k, iList, iTup, iEnumT, iRng1, iRng2, iRng2L, iStr, L2.start, List.map, List.length_cons, List.length_nil, List.cons_append, List.nil_append, List.getElem?_cons_succ, List.getElem?_cons_zero, Option.some.injEq, V.int.injEq, V.bl.injEq, V.str.injEq, V.ref.injEq, exists_eq_left', exists_eq_left, and_assoc, exists_and_left, exists_eq, exists_eq', true_and, and_true, List.set_cons_zero, List.set_cons_succ, List.set, decide_eq_true_eq, Bool.not_eq_true', if_true, if_false, rIx, cx_K, nox_K, List.replicate_succ, List.replicate_zero, Nat.reduceSub, Bool.true_eq_false, Bool.false_eq_true, Nat.reduceAdd, List.cons.injEq, reduceCtorEq, false_and, false_or, or_false, tAug, rSetO, rStrO, rUn, rBinI, rBinR, rJoin, tJs, tOrT, rIsi, tCallOI, rBinT, tFCall, tCall, tPar3, tFmtO, tMethSF, tFmt, rExtend]
  refine ⟨⟨_, .inl (.inl ht)⟩, ?_⟩
  refine kLc.it (walk_tup (xs := [.ref t0, .ref t1, .ref t2, .ref t3])) (fun D j H' => ∃ vs : List V, vs.length = j ∧ SameBut p H H' ∧ Pen H' p c (n + (j : Nat)) ∧ D ≠ p ∧ c ≠ D ∧ H D = none ∧ H' D = some (.lst vs) ∧ ∀ i v, vs[i]? = some v → ∃ x, (plOf q)[i]? = some x ∧ InV a.Place H' v x)
    (fun D H' f => ⟨[], rfl, SameBut.of f.same, (P0.same f.same).le (by show n ≤ n + ((0 : Nat) : Int); omega), (P0.at_p f.new).1, (P0.at_p f.new).2, f.new, f.at_, fun i v h => nil_at h⟩) (fun D j H' hI => ?_) (fun D j xv H7 H8 hj hI hY => ?_) fun D H7 hI => ?_
  · obtain ⟨vs, hl, sB, P7, _⟩ := hI
    exact .inl (.inl (P0.keep sB ht (by intro _ z; cases z)))
  · obtain ⟨vs, hl, sB, P7, Dp, cD, nD, aD, hv⟩ := hI
    obtain ⟨rfl, e⟩ := hY
    have hj : j < 4 := hj
    obtain ⟨tt, x, rfl, hx, hq⟩ : ∃ (tt : Addr) (x : Pl), xv = .ref tt ∧ TupP H8 tt x ∧ (plOf q)[j]? = some x := by
      match j, hj with
      | 0, _ => cases e; exact ⟨t0, _, rfl, h0.pen P0 sB, rfl⟩
      | 1, _ => cases e; exact ⟨t1, _, rfl, h1.pen P0 sB, rfl⟩
      | 2, _ => cases e; exact ⟨t2, _, rfl, h2.pen P0 sB, rfl⟩
      | 3, _ => cases e; exact ⟨t3, _, rfl, h3.pen P0 sB, rfl⟩
    simp only [tSeq, tIfS, tTest, tB, tAnd, tOr, tNot, tAndV, tOrV, tNotV, tIf, tOp, tUn, tChain, rEq, rNe, rI0, rI, rU, tCallR, tCons, tNil, tC, tVar, tRet, tRetN, tTup_k, tLst_k, tCB, tNext, tAsg, gName, gTup, gCons, gNil, tDrop, tPar, tFld, ClX.tCVal, tPropR, rBin, rBinT, rNeOwn, rSetL_k, gSub, tMakeK_k, tMethR, rInO, tDNewK_k, tYes, wipe, tMakeR_k, tSMeth, tSMethK, rMulS, decide_true, tNever, sFld, rIsiT, and_false, rListOf, rTupOf, rLenSeq, rIxL, rIxT, rIxS, rCat_k, rRep_k, rSlL_k, rSlS, rNewStrs_k, rAppend_k, tBM, tBM0, tM0, tM1, tSl, tNoPart, tPart, tLc_k, tFor_k, iList, iTup, iEnumT, iRng1, iRng2, iRng2L, iStr, L2.start, List.map, List.length_cons, List.length_nil, List.cons_append, List.nil_append, List.getElem?_cons_succ, List.getElem?_cons_zero, Option.some.injEq, V.int.injEq, V.bl.injEq, V.str.injEq, V.ref.injEq, exists_eq_left', exists_eq_left, and_assoc, exists_and_left, exists_eq, exists_eq', true_and, and_true, List.set_cons_zero, List.set_cons_succ, List.set, decide_eq_true_eq, Bool.not_eq_true', if_true, if_false, rIx, cx_K, nox_K, List.replicate_succ, List.replicate_zero, Nat.reduceSub, Bool.true_eq_false, Bool.false_eq_true, Nat.reduceAdd, List.cons.injEq, reduceCtorEq, false_and, false_or, or_false, tAug, rSetO, rStrO, rUn, rBinI, rBinR, rJoin, tJs, tOrT, rIsi, tCallOI, rBinT, tFCall, tCall, tPar3, tFmtO, tMethSF, tFmt, rExtend]
    refine ⟨p, c, tt, x, n + (j : Nat), rfl, P7, by omega, hx, fun v H9 s9 P9 i9 => ?_⟩
    have a9 : H9 D = some (.lst vs) := s9 _ _ Dp aD
    refine ⟨vs, a9, Nat.lt_of_lt_of_le (show vs.length < 5 by omega) (by decide), vs ++ [v], by rw [List.length_append, hl]; rfl, fun b o nb e => ?_, ?_, Dp, cD, nD, upd_same, fun i u hu => ?_⟩
    · rw [upd_ne (ne_of_none e nD)]
      exact s9 _ _ nb (sB _ _ nb e)
    · exact (P9.le (by push_cast; omega)).put Dp cD
    · have sD : SameBut D H9 (upd H9 D (.lst (vs ++ [v]))) := SameBut.upd
      by_cases hi : i < vs.length
      · rw [List.getElem?_append_left hi] at hu
        obtain ⟨y, e1, e2⟩ := hv i u hu
        exact ⟨y, e1, (e2.pen P7 s9).but a9 sD⟩
      · rw [List.getElem?_append_right (by omega)] at hu
        have hi0 : i - vs.length = 0 := by
          match hz : i - vs.length with
          | 0 => rfl
          | m + 1 => rw [hz] at hu; cases hu
        rw [hi0] at hu
        cases hu
        have : i = j := by omega
        subst this
        exact ⟨x, hq, i9.but a9 sD⟩
  · obtain ⟨vs, hl, sB, P7, Dp, cD, nD, aD, hv⟩ := hI
    match vs, hl with
    | [v0, v1, v2, v3], _ =>
    obtain ⟨_, e0, i0⟩ := hv 0 v0 rfl
    obtain ⟨_, e1, i1⟩ := hv 1 v1 rfl
    obtain ⟨_, e2, i2⟩ := hv 2 v2 rfl
    obtain ⟨_, e3, i3⟩ := hv 3 v3 rfl
    cases e0
    cases e1
    cases e2
    cases e3
    simp only [tSeq, tIfS, tTest, tB, tAnd, tOr, tNot, tAndV, tOrV, tNotV, tIf, tOp, tUn, tChain, rEq, rNe, rI0, rI, rU, tCallR, tCons, tNil, tC, tVar, tRet, tRetN, tTup_k, tLst_k, tCB, tNext, tAsg, gName, gTup, gCons, gNil, tDrop, tPar, tFld, ClX.tCVal, tPropR, rBin, rBinT, rNeOwn, rSetL_k, gSub, tMakeK_k, tMethR, rInO, tDNewK_k, tYes, wipe, tMakeR_k, tSMeth, tSMethK, rMulS, decide_true, tNever, sFld, rIsiT, and_false, rListOf, rTupOf, rLenSeq, rIxL, rIxT, rIxS, rCat_k, rRep_k, rSlL_k, rSlS, rNewStrs_k, rAppend_k, tBM, tBM0, tM0, tM1, tSl, tNoPart, tPart, tLc_k, tFor_k, iList, iTup, iEnumT, iRng1, iRng2, iRng2L, iStr, L2.start, List.map, List.length_cons, List.length_nil, List.cons_append, List.nil_append, List.getElem?_cons_succ, List.getElem?_cons_zero, Option.some.injEq, V.int.injEq, V.bl.injEq, V.str.injEq, V.ref.injEq, exists_eq_left', exists_eq_left, and_assoc, exists_and_left, exists_eq, exists_eq', true_and, and_true, List.set_cons_zero, List.set_cons_succ, List.set, decide_eq_true_eq, Bool.not_eq_true', if_true, if_false, rIx, cx_K, nox_K, List.replicate_succ, List.replicate_zero, Nat.reduceSub, Bool.true_eq_false, Bool.false_eq_true, Nat.reduceAdd, List.cons.injEq, reduceCtorEq, false_and, false_or, or_false, tAug, rSetO, rStrO, rUn, rBinI, rBinR, rJoin, tJs, tOrT, rIsi, tCallOI, rBinT, tFCall, tCall, tPar3, tFmtO, tMethSF, tFmt, rExtend]
    have aD' := SqL.of (K := K) aD
    refine ⟨_, aD', v0, rfl, _, aD', v1, rfl, _, aD', v2, rfl, _, aD', v3, rfl, ?_⟩
    exact newB_make (i0.inp b0) (i1.inp b1) (i2.inp b2) (i3.inp b3) fun b H' s' nb hB => k b H' (sB.trans (SameBut.of s')) ((P7.same s').le (by simp)) hB
end
end Pf
end
section
namespace Pf
open PySem PySem.Spec PyProof.Rows L2 Ow StX
def LogP (q : Pl) : Prop := q.s.natAbs.log2 < 1000 ∧ q.o.natAbs.log2 < 1000 ∧ q.d.natAbs.log2 < 1000
def Nar (i : Int) : Prop := i.natAbs < 2 ^ 140
def Wid (n : Int) : Prop := 1 ≤ n ∧ n < 2 ^ 101
theorem nar_mul {s n : Int} (hs : Nar s) (hn : Wid n) : CMulW s (n / 2) := by
  obtain ⟨h1, h2⟩ := hn
  refine wide_mul (a := 140) (b := 101) hs ?_ (by decide) (by decide) (by decide)
  have e : (2 : Int) ^ 101 = 2535301200456458802993406410752 := by decide
  have e2 : (2 : Nat) ^ 101 = 2535301200456458802993406410752 := by decide
  rw [e] at h2
  rw [e2]
  omega
theorem nar_mod {s n : Int} (hs : Nar s) : CMulW s (n % 2) := by
  refine wide_mul (a := 140) (b := 2) hs ?_ (by decide) (by decide) (by decide)
  omega
theorem val_fit {s o d n : Int} (hs : Nar s) (ho : Nar o) (hd : Nar d) (hn : Wid n) : (valP s o d n).natAbs < 2 ^ 250 := by
  obtain ⟨h1, h2⟩ := hn
  have e : (2 : Int) ^ 101 = 2535301200456458802993406410752 := by decide
  rw [e] at h2
  unfold valP
  have a1 : (s * (n / 2)).natAbs ≤ 2 ^ 140 * 2 ^ 101 := by
    rw [Int.natAbs_mul]
    exact Nat.mul_le_mul (Nat.le_of_lt hs) (by have e2 : (2 : Nat) ^ 101 = 2535301200456458802993406410752 := by decide
                                               rw [e2]; omega)
  have a2 : (d * (n % 2)).natAbs ≤ 2 ^ 140 * 2 := by
    rw [Int.natAbs_mul]
    exact Nat.mul_le_mul (Nat.le_of_lt hd) (by omega)
  have a3 : (s * (n / 2) + o + d * (n % 2)).natAbs ≤ (s * (n / 2)).natAbs + o.natAbs + (d * (n % 2)).natAbs := by omega
  have a4 : 2 ^ 140 * 2 ^ 101 + 2 ^ 140 + 2 ^ 140 * 2 < 2 ^ 250 := by decide
  unfold Nar at ho
  omega
theorem bd_nar {n : Int} (h : Bd1 n) : Nar n := by
  obtain ⟨h1, h2⟩ := h
  have e : (1000000000000 : Nat) < 2 ^ 140 := by decide
  unfold Nar
  generalize (2 ^ 140 : Nat) = z at *
  omega
theorem nar_log {n : Int} (h : Nar n) : n.natAbs.log2 < 1000 := by
  by_cases e : n.natAbs = 0
  · rw [e]; decide
  · exact (Nat.log2_lt e).2 (Nat.lt_of_lt_of_le h (by decide))
theorem BdP.log {q : Pl} (h : BdP q) : LogP q := ⟨nar_log (bd_nar h.1), nar_log (bd_nar h.2.1), nar_log (bd_nar h.2.2)⟩
theorem BdP.muls {q : Pl} {n : Int} (h : BdP q) (hn : Wid n) : MulsP q n := ⟨nar_mul (bd_nar h.1) hn, nar_mod (bd_nar h.2.2)⟩
theorem BdP.val {q : Pl} {n : Int} (h : BdP q) (hn : Wid n) : (plV q n).natAbs < 2 ^ 250 := val_fit (bd_nar h.1) (bd_nar h.2.1) (bd_nar h.2.2) hn
def endsV (q : Bx) (w h : Int) : List V := [.int (plV q.x0 w), .int (plV q.x1 w), .int (plV q.y0 h), .int (plV q.y1 h)]
def spEnds : Sp := fun vs H Q _ => ∃ (t : Addr) (q : Bx) (w h : Int), vs = [.ref t, .int w, .int h] ∧ FourT H t q ∧ BdB q ∧ Wid w ∧ Wid h ∧ ∀ t' H', Fresh H H' t' (.tup (endsV q w h)) → Q (.ref t') H'
section
variable {P : Program} {w : World} {K : PySem.W.Frag} {mg : Str → Option Value} {base : Heap} {a : Adr}
set_option maxHeartbeats 4000000
theorem ok_ends (T : Txt K mg a) : FnR P w K mg base CX0 2 a._law_ends spEnds := by
  have G__law_at : FnR P w K mg base CX0 1 a._law_at spAt := ok_at T
  refine T.d__law_ends.ok sc__law_ends (fun _ _ _ _ _ _ us hl => match us, hl with | [_, _, _], _ => rfl) (fun vs H Q E h => by obtain ⟨t, q, w, h, rfl, _⟩ := h; rfl) (fun cdv A outer s H vs Q E hr h => ?_)
  obtain ⟨t, q, wd, hg, rfl, ⟨t0, t1, t2, t3, ht, h0, h1, h2, h3⟩, ⟨b0, b1, b2, b3⟩, hw, hh, k⟩ := h
  refine ⟨_, (pss_one (ps_ret (pe_tup (pa_cons (pe_callR G__law_at (hr.mono (by decide)) T.m__law_at T.k__law_at pass0 (pa_cons (pe_ix ix_tup (pv 0) pe_int (fun _ _ => rfl)) (pa_cons (pv 1) pa_nil))) (pa_cons (pe_callR G__law_at (hr.mono (by decide)) T.m__law_at T.k__law_at pass0 (pa_cons (pe_ix ix_tup (pv 0) pe_int (fun _ _ => rfl)) (pa_cons (pv 1) pa_nil))) (pa_cons (pe_callR G__law_at (hr.mono (by decide)) T.m__law_at T.k__law_at pass0 (pa_cons (pe_ix ix_tup (pv 0) pe_int (fun _ _ => rfl)) (pa_cons (pv 2) pa_nil))) (pa_cons (pe_callR G__law_at (hr.mono (by decide)) T.m__law_at T.k__law_at pass0 (pa_cons (pe_ix ix_tup (pv 0) pe_int (fun _ _ => rfl)) (pa_cons (pv 2) pa_nil))) pa_nil))))))), ?_⟩
  simp only [tSeq, tIfS, tTest, tB, tAnd, tOr, tNot, tAndV, tOrV, tNotV, tIf, tOp, tUn, tChain, rEq, rNe, rI0, rI, rU, tCallR, tCons, tNil, tC, tVar, tRet, tRetN, tTup_k, tLst_k, tCB, tNext, tAsg, gName, gTup, gCons, gNil, tDrop, tPar, tFld, ClX.tCVal, tPropR, rBin, rBinT, rNeOwn, rSetL_k, gSub, tMakeK_k, tMethR, rInO, tDNewK_k, tYes, wipe, tMakeR_k, tSMeth, tSMethK, rMulS, decide_true, tNever, sFld, rIsiT, and_false, rListOf, rTupOf, rLenSeq, rIxL, rIxT, rIxS, rCat_k, rRep_k, rSlL_k, rSlS, rNewStrs_k, rAppend_k, tBM, tBM0, tM0, tM1, tSl, tNoPart, tPart, tLc_k, tFor_k, iList, iTup, iEnumT, iRng1, iRng2, iRng2L, iStr, L2.start, List.map, List.length_cons, List.length_nil, List.cons_append, List.nil_append, List.getElem?_cons_succ, List.getElem?_cons_zero, Option.some.injEq, V.int.injEq, V.bl.injEq, V.str.injEq, V.ref.injEq, exists_eq_left', exists_eq_left, and_assoc, exists_and_left, exists_eq, exists_eq', true_and, and_true, List.set_cons_zero, List.set_cons_succ, List.set, decide_eq_true_eq, Bool.not_eq_true', if_true, if_false, rIx, cx_K, nox_K, List.replicate_succ, List.replicate_zero, Nat.reduceSub, Bool.true_eq_false, Bool.false_eq_true, Nat.reduceAdd, List.cons.injEq, reduceCtorEq, false_and, false_or, or_false, tAug, rSetO, rStrO, rUn, rBinI, rBinR, rJoin, tJs, tOrT, rIsi, tCallOI, rBinT, tFCall, tCall, tPar3, tFmtO, tMethSF, tFmt, rExtend]
  have z0 : Same H H := fun _ _ e => e
  have at_ := SqT.of (K := K) ht
  refine ⟨_, at_, _, rfl, t0, q.x0, wd, rfl, h0, b0.muls hw, _, at_, _, rfl, t1, q.x1, wd, rfl, h1, b1.muls hw, _, at_, _, rfl, t2, q.y0, hg, rfl, h2, b2.muls hh, _, at_, _, rfl, t3, q.y1, hg, rfl, h3, b3.muls hh, kNew.mk (by show 4 ≤ sizeLine; decide) fun t' H' f => k t' H' f⟩
end
end Pf
end
section
namespace Pf
open PySem PySem.Spec PyProof.Rows L2 Ow StX
open SX (S)
abbrev digV (r : List Nat) : List V := r.map fun (c : Nat) => V.int ((c : Int) - 48)
structure Grid (H : Hp) (l : Addr) (as : List Addr) (rs : List (List Nat)) : Prop where
  at_ : H l = some (.lst (as.map V.ref))
  len : as.length = rs.length
  row : ∀ (i : Nat) (b : Addr) (r : List Nat), as[i]? = some b → rs[i]? = some r → H b = some (.lst (digV r))
  nd : as.Nodup
theorem Grid.of {H H' : Hp} {l : Addr} {as : List Addr} {rs : List (List Nat)} (g : Grid H l as rs) (h1 : H' l = some (.lst (as.map V.ref))) (h2 : ∀ (i : Nat) (b : Addr) (r : List Nat), as[i]? = some b → rs[i]? = some r → H b = some (.lst (digV r)) → H' b = some (.lst (digV r))) : Grid H' l as rs :=
  ⟨h1, g.len, fun i b r e1 e2 => h2 i b r e1 e2 (g.row i b r e1 e2), g.nd⟩
theorem Grid.same {H H' : Hp} {l : Addr} {as : List Addr} {rs : List (List Nat)} (g : Grid H l as rs) (s : Same H H') : Grid H' l as rs := g.of (s _ _ g.at_) fun _ _ _ _ _ e => s _ _ e
theorem dig_back {c : Nat} (h : 48 ≤ c ∧ c ≤ 57) : Str.ofString (toString ((c : Int) - 48)) = S [c] ∧ ((c : Int) - 48).natAbs.log2 < 1920 := by
  obtain ⟨e1, e2⟩ := dig_S (c := (c : Int) - 48) (by omega) (by omega)
  rw [show 48 + ((c : Int) - 48).toNat = c by omega] at e1
  exact ⟨e1, e2⟩
theorem digV_get {r : List Nat} {i : Nat} {x : V} (h : (digV r)[i]? = some x) : ∃ c, r[i]? = some c ∧ x = .int ((c : Int) - 48) := by
  rw [List.getElem?_map] at h
  cases q : r[i]? with
  | none => rw [q] at h; cases h
  | some c => rw [q] at h; cases h; exact ⟨c, rfl, rfl⟩
theorem Grid.at {H : Hp} {l : Addr} {as : List Addr} {rs : List (List Nat)} (g : Grid H l as rs) {i : Nat} {x : V} (h : (as.map V.ref)[i]? = some x) : ∃ b r, as[i]? = some b ∧ rs[i]? = some r ∧ x = .ref b := by
  rw [List.getElem?_map] at h
  cases q : as[i]? with
  | none => rw [q] at h; cases h
  | some b =>
    rw [q] at h
    cases h
    have z := (List.getElem?_eq_some_iff.mp q).1
    exact ⟨b, _, rfl, List.getElem?_eq_getElem (by have := g.len; omega), rfl⟩
/-! ### grids made and painted -/
/-- rows as they are made, one behind another -/
structure MkG (rs : List (List Nat)) (H1 : Hp) (D : Addr) (as : List Addr) (H : Hp) : Prop where
  same : Same H1 H
  at_ : H D = some (.lst (as.map V.ref))
  new : H1 D = none
  nd : as.Nodup
  le : as.length ≤ rs.length
  row : ∀ (i : Nat) (b : Addr) (r : List Nat), as[i]? = some b → rs[i]? = some r → H b = some (.lst (digV r)) ∧ H1 b = none ∧ b ≠ D
theorem MkG.ex {rs : List (List Nat)} {H1 H : Hp} {D : Addr} {as : List Addr} (m : MkG rs H1 D as H) {b : Addr} (hb : b ∈ as) : ∃ r, H b = some (.lst (digV r)) ∧ H1 b = none ∧ b ≠ D := by
  obtain ⟨i, hi⟩ := List.getElem?_of_mem hb
  have l := (List.getElem?_eq_some_iff.mp hi).1
  exact ⟨_, m.row i b _ hi (List.getElem?_eq_getElem (by have := m.le; omega))⟩
theorem MkG.add {rs : List (List Nat)} {H1 H H4 : Hp} {D b : Addr} {as : List Addr} {j : Nat} {r : List Nat} (m : MkG rs H1 D as H) (hj : as.length = j) (s : Same H H4) (nb : H b = none) (hb : H4 b = some (.lst (digV r))) (hr : rs[j]? = some r) (hl : j < sizeLine) :
    kApp D (fun H' => ∃ as : List Addr, as.length = j + 1 ∧ MkG rs H1 D as H') (.ref b) H4 := by
  have a4 := s _ _ m.at_
  have nbD : b ≠ D := fun z => by rw [z, m.at_] at nb; cases nb
  have nbm : b ∉ as := fun z => by
    obtain ⟨r', e, _⟩ := m.ex z
    rw [e] at nb
    cases nb
  refine ⟨_, a4, by rw [List.length_map]; omega, as ++ [b], by rw [List.length_append, hj]; rfl, ⟨fun c o e => ?_, by rw [upd_same, List.map_append]; rfl, m.new, ?_, ?_, fun i c q e1 e2 => ?_⟩⟩
  · rw [upd_ne (ne_of_none e m.new)]
    exact s _ _ (m.same _ _ e)
  · rw [List.nodup_append]
    exact ⟨m.nd, by simp, fun x hx y hy => by rw [List.mem_singleton.mp hy]; exact fun z => nbm (z ▸ hx)⟩
  · have := (List.getElem?_eq_some_iff.mp hr).1
    rw [List.length_append]
    show as.length + 1 ≤ rs.length
    omega
  · by_cases hi : i < as.length
    · rw [List.getElem?_append_left hi] at e1
      obtain ⟨h1, h2, h3⟩ := m.row i c q e1 e2
      exact ⟨by rw [upd_ne h3]; exact s _ _ h1, h2, h3⟩
    · rw [List.getElem?_append_right (by omega)] at e1
      have hi0 : i - as.length = 0 := by
        match hz : i - as.length with
        | 0 => rfl
        | m + 1 => rw [hz] at e1; cases e1
      rw [hi0] at e1
      cases e1
      have : i = j := by omega
      subst this
      rw [hr] at e2
      cases e2
      refine ⟨by rw [upd_ne nbD]; exact hb, ?_, nbD⟩
      match e : H1 b with
      | none => rfl
      | some o => rw [m.same _ _ e] at nb; cases nb
/-- a grid all of whose lists are new since H1 -/
structure GridN (H1 H : Hp) (l : Addr) (as : List Addr) (rs : List (List Nat)) : Prop where
  grid : Grid H l as rs
  same : Same H1 H
  new : H1 l = none
  fresh : ∀ b ∈ as, H1 b = none ∧ b ≠ l
theorem MkG.done {rs : List (List Nat)} {H1 H : Hp} {D : Addr} {as : List Addr} (m : MkG rs H1 D as H) (hl : as.length = rs.length) : GridN H1 H D as rs :=
  ⟨⟨m.at_, hl, fun i b r e1 e2 => (m.row i b r e1 e2).1, m.nd⟩, m.same, m.new, fun b hb => by
    obtain ⟨r, _, h1, h2⟩ := m.ex hb
    exact ⟨h1, h2⟩⟩
theorem GridN.on {H1 H H' : Hp} {l : Addr} {as : List Addr} {rs : List (List Nat)} (g : GridN H1 H l as rs) (s : Same H H') : GridN H1 H' l as rs := ⟨g.grid.same s, g.same.trans s, g.new, g.fresh⟩
theorem digV_plain (w : Nat) : digV (List.replicate w 48) = List.replicate w (V.int 0) := by
  show List.map _ (List.replicate w 48) = _
  rw [List.map_replicate]
  rfl
theorem digV_set (r : List Nat) (i : Nat) {c : Int} (c0 : 0 ≤ c) : (digV r).set i (.int c) = digV (r.set i (48 + c.toNat)) := by
  have e : V.int c = (fun (c : Nat) => V.int ((c : Int) - 48)) (48 + c.toNat) := by
    show V.int c = V.int (((48 + c.toNat : Nat) : Int) - 48)
    congr 1
    omega
  rw [e]
  exact (List.map_set ..).symm
theorem Grid.put {H : Hp} {l b : Addr} {as : List Addr} {rs : List (List Nat)} {j : Nat} (g : Grid H l as rs) (hb : as[j]? = some b) (nb : b ≠ l) (r : List Nat) : Grid (upd H b (.lst (digV r))) l as (rs.set j r) := by
  have hj := (List.getElem?_eq_some_iff.mp hb).1
  refine ⟨by rw [upd_ne (Ne.symm nb)]; exact g.at_, by rw [List.length_set]; exact g.len, fun i c q e1 e2 => ?_, g.nd⟩
  by_cases h : i = j
  · subst h
    rw [hb] at e1
    cases e1
    rw [List.getElem?_set_self (by have := g.len; omega)] at e2
    cases e2
    exact upd_same
  · rw [List.getElem?_set_ne (Ne.symm h)] at e2
    have nc : c ≠ b := fun z => h ((List.getElem?_inj (List.getElem?_eq_some_iff.mp e1).1 g.nd).mp (by rw [e1, hb, z]))
    rw [upd_ne nc]
    exact g.row i c q e1 e2
theorem GridN.put {H1 H : Hp} {l b : Addr} {as : List Addr} {rs : List (List Nat)} {j : Nat} (g : GridN H1 H l as rs) (hb : as[j]? = some b) (r : List Nat) : GridN H1 (upd H b (.lst (digV r))) l as (rs.set j r) := by
  obtain ⟨nb, nl⟩ := g.fresh b (List.mem_of_getElem? hb)
  exact ⟨g.grid.put hb nl r, fun c o e => by rw [upd_ne (ne_of_none e nb)]; exact g.same _ _ e, g.new, g.fresh⟩
end Pf
end
section
namespace Pf
open PySem PySem.Spec PyProof.Rows L2 Ow StX
open SX (S)
def SpotsAt (H : Hp) (t : Addr) (ps : List (Nat × Nat)) : Prop := ∃ ts : List Addr, H t = some (.lst (ts.map V.ref)) ∧ ts.length = ps.length ∧ ∀ (m : Nat) (tt : Addr) (p : Nat × Nat), ts[m]? = some tt → ps[m]? = some p → H tt = some (.tup [.int (p.1 : Nat), .int (p.2 : Nat)])
theorem SpotsAt.same {H H' : Hp} {t : Addr} {ps : List (Nat × Nat)} (h : SpotsAt H t ps) (s : Same H H') : SpotsAt H' t ps := by
  obtain ⟨ts, e, hl, ha⟩ := h
  exact ⟨ts, s _ _ e, hl, fun m tt p e1 e2 => s _ _ (ha m tt p e1 e2)⟩
theorem wid200 {n : Nat} (h0 : 1 ≤ n) (h1 : n ≤ 200) : Wid n := by
  refine ⟨by omega, ?_⟩
  have e : (2 : Int) ^ 101 = 2535301200456458802993406410752 := by decide
  rw [e]
  omega
theorem flat_single : ∀ r : List Nat, (r.map fun d => [d]).flatten = r
  | [] => rfl
  | c :: t => by rw [List.map_cons, List.flatten_cons, flat_single t]; rfl
theorem joinL_nil : ∀ ys : List (List Nat), TL.joinL [] ys = ys.flatten
  | [] => rfl
  | [x] => by simp [TL.joinL]
  | x :: y :: r => by
    show x ++ ([] ++ TL.joinL [] (y :: r)) = _
    rw [joinL_nil (y :: r)]
    rfl
theorem join_rows (rs : List (List Nat)) : Txt.join (Str.ofString "") (rs.map S) = S rs.flatten := by
  have e : Str.ofString "" = S [] := by decide +kernel
  rw [e, SX.join_S, joinL_nil]
theorem sum_rows : ∀ rs : List (List Nat), (∀ r ∈ rs, r.length ≤ 200) → ((rs.map S).map (·.length)).sum ≤ 200 * rs.length ∧ rs.flatten.length ≤ 200 * rs.length
  | [], _ => ⟨by simp, by simp⟩
  | r :: t, h => by
    obtain ⟨h1, h2⟩ := sum_rows t fun s q => h s (List.mem_cons_of_mem _ q)
    have h3 := h r List.mem_cons_self
    refine ⟨?_, ?_⟩
    · rw [List.map_cons, List.map_cons, List.sum_cons, SX.S_len, List.length_cons]
      omega
    · rw [List.flatten_cons, List.length_append, List.length_cons]
      omega
/-! ### pixels in order, those in a box, those near its sides; the rows as texts -/
def SpotsL (H : Hp) (ts : List Addr) (ps : List (Nat × Nat)) : Prop := ts.length = ps.length ∧ ∀ (m : Nat) (tt : Addr) (p : Nat × Nat), ts[m]? = some tt → ps[m]? = some p → H tt = some (.tup [.int (p.1 : Nat), .int (p.2 : Nat)])
theorem SpotsL.same {H H' : Hp} {ts : List Addr} {ps : List (Nat × Nat)} (h : SpotsL H ts ps) (s : Same H H') : SpotsL H' ts ps := ⟨h.1, fun m tt p e1 e2 => s _ _ (h.2 m tt p e1 e2)⟩
theorem SpotsL.put {H : Hp} {D : Addr} {xs ys : List V} {ts : List Addr} {ps : List (Nat × Nat)} (h : SpotsL H ts ps) (hD : H D = some (.lst xs)) : SpotsL (upd H D (.lst ys)) ts ps := ⟨h.1, fun m tt p e1 e2 => by
  have e := h.2 m tt p e1 e2
  rw [upd_ne (fun z => by rw [z, hD] at e; cases e)]
  exact e⟩
theorem SpotsL.app {H : Hp} {ts us : List Addr} {ps qs : List (Nat × Nat)} (h : SpotsL H ts ps) (h' : SpotsL H us qs) : SpotsL H (ts ++ us) (ps ++ qs) := by
  refine ⟨by rw [List.length_append, List.length_append, h.1, h'.1], fun m tt p e1 e2 => ?_⟩
  by_cases hm : m < ts.length
  · rw [List.getElem?_append_left hm] at e1
    rw [List.getElem?_append_left (by rw [← h.1]; exact hm)] at e2
    exact h.2 m tt p e1 e2
  · rw [List.getElem?_append_right (by omega)] at e1
    rw [List.getElem?_append_right (by rw [← h.1]; omega), ← h.1] at e2
    exact h'.2 _ tt p e1 e2
theorem SpotsL.one {H : Hp} {t : Addr} {p : Nat × Nat} (h : H t = some (.tup [.int (p.1 : Nat), .int (p.2 : Nat)])) : SpotsL H [t] [p] := ⟨rfl, fun m tt q e1 e2 => by
  match m with
  | 0 => cases e1; cases e2; exact h
  | m + 1 => cases m <;> cases e1⟩
/-- a list of pixels that is new since H1 -/
structure SpotsN (H1 H : Hp) (D : Addr) (ps : List (Nat × Nat)) : Prop where
  ex : ∃ ts : List Addr, H D = some (.lst (ts.map V.ref)) ∧ SpotsL H ts ps
  same : Same H1 H
  new : H1 D = none
theorem SpotsN.at_ {H1 H : Hp} {D : Addr} {ps : List (Nat × Nat)} (h : SpotsN H1 H D ps) : SpotsAt H D ps := by
  obtain ⟨ts, e, h1, h2⟩ := h.ex
  exact ⟨ts, e, h1, h2⟩
theorem SpotsN.on {H1 H H' : Hp} {D : Addr} {ps : List (Nat × Nat)} (h : SpotsN H1 H D ps) (s : Same H H') : SpotsN H1 H' D ps := by
  obtain ⟨ts, e, hl⟩ := h.ex
  exact ⟨⟨ts, s _ _ e, hl.same s⟩, h.same.trans s, h.new⟩
theorem SpotsN.add {H1 H : Hp} {D : Addr} {ps qs : List (Nat × Nat)} {ts us : List Addr} (h : SpotsN H1 H D ps) (e : H D = some (.lst (ts.map V.ref))) (ht : SpotsL H ts ps) (hu : SpotsL H us qs) : SpotsN H1 (upd H D (.lst (ts.map V.ref ++ us.map V.ref))) D (ps ++ qs) :=
  ⟨⟨ts ++ us, by rw [upd_same, List.map_append], (ht.app hu).put e⟩, fun b o q => by rw [upd_ne (ne_of_none q h.new)]; exact h.same _ _ q, h.new⟩
def spotsOf (w h : Nat) : List (Nat × Nat) := (List.range h).flatMap fun y => (List.range w).map fun x => (x, y)
theorem spots_succ (w h : Nat) : spotsOf w (h + 1) = spotsOf w h ++ (List.range w).map fun x => (x, h) := by
  unfold spotsOf
  rw [List.range_succ, List.flatMap_append]
  simp
theorem spots_len (w : Nat) : ∀ h : Nat, (spotsOf w h).length = h * w
  | 0 => by simp [spotsOf]
  | h + 1 => by
    rw [spots_succ, List.length_append, spots_len w h, List.length_map, List.length_range, Nat.succ_mul]
theorem mem_spots {w h : Nat} {p : Nat × Nat} : p ∈ spotsOf w h ↔ p.1 < w ∧ p.2 < h := by
  obtain ⟨x, y⟩ := p
  unfold spotsOf
  simp only [List.mem_flatMap, List.mem_range, List.mem_map, Prod.mk.injEq]
  constructor
  · rintro ⟨y', hy, x', hx, rfl, rfl⟩
    exact ⟨hx, hy⟩
  · rintro ⟨hx, hy⟩
    exact ⟨y, hy, x, hx, rfl, rfl⟩
def inB (x0 x1 y0 y1 : Int) (p : Nat × Nat) : Bool := decide (x0 ≤ (p.1 : Int) ∧ (p.1 : Int) < x1 ∧ y0 ≤ (p.2 : Int) ∧ (p.2 : Int) < y1)
def nearB (x0 x1 y0 y1 th : Int) (p : Nat × Nat) : Bool := decide ((p.1 : Int) - x0 < th ∨ x1 - 1 - (p.1 : Int) < th ∨ (p.2 : Int) - y0 < th ∨ y1 - 1 - (p.2 : Int) < th)
def GrOk (H : Hp) (l : Addr) (as : List Addr) (w : Nat) (rs : List (List Nat)) : Prop := Grid H l as rs ∧ Good w rs ∧ w ≤ 9 ∧ rs.length ≤ 9
theorem GrOk.same {H H' : Hp} {l : Addr} {as : List Addr} {w : Nat} {rs : List (List Nat)} (g : GrOk H l as w rs) (s : Same H H') : GrOk H' l as w rs := ⟨g.1.same s, g.2⟩
theorem GrOk.first {H : Hp} {l : Addr} {as : List Addr} {w : Nat} {rs : List (List Nat)} (g : GrOk H l as w rs) : ∃ b r, as[0]? = some b ∧ H b = some (.lst (digV r)) ∧ r.length = w := by
  have l0 := g.2.1.l0
  have la := g.1.len
  have e1 := List.getElem?_eq_getElem (show 0 < as.length by omega)
  have e2 := List.getElem?_eq_getElem (show 0 < rs.length by omega)
  exact ⟨_, _, e1, g.1.row 0 _ _ e1 e2, (g.2.1.at_ e2).1⟩
def spSpots : Sp := fun vs H Q _ => ∃ (l : Addr) (as : List Addr) (w : Nat) (rs : List (List Nat)), vs = [.ref l] ∧ GrOk H l as w rs ∧ ∀ D H', SpotsN H H' D (spotsOf w rs.length) → Q (.ref D) H'
def spWithin : Sp := fun vs H Q _ => ∃ (l t : Addr) (as : List Addr) (w : Nat) (rs : List (List Nat)) (q : Bx), vs = [.ref l, .ref t] ∧ GrOk H l as w rs ∧ FourT H t q ∧ BdB q ∧ ∀ D H', SpotsN H H' D ((spotsOf w rs.length).filter (inB (plV q.x0 w) (plV q.x1 w) (plV q.y0 rs.length) (plV q.y1 rs.length))) → Q (.ref D) H'
def spLinesT : Sp := fun vs H Q _ => ∃ (l : Addr) (as : List Addr) (w : Nat) (rs : List (List Nat)), vs = [.ref l] ∧ Grid H l as rs ∧ Good w rs ∧ ∀ t H', Same H H' → H' t = some (.tup (rowsV rs)) → Q (.ref t) H'
/-- the pixels of a row -/
def RowV (y : Nat) (H : Hp) (k : Nat) (v : V) : Prop := ∃ t, v = .ref t ∧ H t = some (.tup [.int (k : Nat), .int (y : Nat)])
theorem rowV_stays (y : Nat) : Stays (RowV y) := ⟨fun ⟨t, e, h⟩ s => ⟨t, e, s _ _ h⟩, fun ⟨t, e, h⟩ hl => ⟨t, e, by
  rw [upd_ne (fun z => by rw [z, hl] at h; cases h)]
  exact h⟩⟩
theorem rowV_spots {y w : Nat} {H : Hp} {acc : List V} (hl : acc.length = w) (h : ∀ k v, acc[k]? = some v → RowV y H k v) : ∃ us : List Addr, acc = us.map V.ref ∧ SpotsL H us ((List.range w).map fun x => (x, y)) := by
  refine ⟨acc.map fun v => match v with | .ref t => t | _ => 0, ?_, ?_, ?_⟩
  · rw [List.map_map]
    refine (List.map_id acc).symm.trans (List.map_congr_left fun v hv => ?_)
    obtain ⟨k, hk⟩ := List.getElem?_of_mem hv
    obtain ⟨t, rfl, _⟩ := h k v hk
    rfl
  · simp [hl]
  · intro m tt p e1 e2
    rw [List.getElem?_map] at e1 e2
    cases q : acc[m]? with
    | none => rw [q] at e1; cases e1
    | some v =>
      obtain ⟨t, rfl, ht⟩ := h m v q
      rw [q] at e1
      cases e1
      have hm : m < w := by
        have := (List.getElem?_eq_some_iff.mp q).1
        omega
      rw [List.getElem?_range hm] at e2
      cases e2
      exact ht
section
variable {P : Program} {w : World} {K : PySem.W.Frag} {mg : Str → Option Value} {base : Heap} {a : Adr}
set_option maxHeartbeats 4000000
theorem ok_spots (T : Txt K mg a) : FnR P w K mg base CX0 1 a._law_spots spSpots := by
  refine T.d__law_spots.ok sc__law_spots (fun _ _ _ _ _ _ us hl => match us, hl with | [_], _ => rfl) (fun vs H Q E h => by obtain ⟨l, as, wd, rs, rfl, _⟩ := h; rfl) (fun cdv A outer s H vs Q E hr h => ?_)
  obtain ⟨l, as, wd, rs, rfl, gr, k⟩ := h
  refine ⟨_, (pss_cons (ps_set (i := 1) sc__law_spots.nd rfl (Or.inl rfl) (pe_lst pa_nil))
      (pss_cons (ps_for PassesOwn.never rfl (pi_range1 rfl T.n_range (pa_cons (pe_callB call_lenK (by rfl) T.n_len (by decide +kernel) (pa_cons (pv 0) pa_nil)) pa_nil)) (pg_name (i := 2) sc__law_spots.nd rfl (Or.inr rfl))
          (pss_one (ps_expr (pe_bm PySem.F.plainAttrs_list PySem.F.slot_list_extend PySem.F.type_list_extend mt_extend (pv 1) (pa_cons (pe_lc (own := [("_law_x", 3)]) (g := gName 3) (by rfl) sc__law_spots.nd (pi_range1 rfl T.n_range (pa_cons (pe_callB call_lenK (by rfl) T.n_len (by decide +kernel) (pa_cons (pe_ix ix_list (pv 0) pe_int (fun _ _ => rfl)) pa_nil)) pa_nil)) (blkOk_by (own := [("_law_x", 3)]) (N := ["_law_grid", "_law_found", "_law_y", "_law_x"]) (sc := defScope s__law_spots) (by decide +kernel)) (fun _ _ _ _ _ => (pg_name (i := 3) sc__law_spots.nd rfl (Or.inl rfl))) (fun _ _ _ _ _ => pts_nil) (fun _ _ _ _ _ => (pe_tup (pa_cons (pv 3) (pa_cons (pv 2) pa_nil))))) pa_nil)))))
      (pss_one (ps_ret (pv 1))))), ?_⟩
  refine tSeq_step fun R e1 => ?_
  simp only [tSeq, tIfS, tTest, tB, tAnd, tOr, tNot, tAndV, tOrV, tNotV, tIf, tOp, tUn, tChain, rEq, rNe, rI0, rI, rU, tCallR, tCons, tNil, tC, tVar, tRet, tRetN, tTup_k, tLst_k, tCB, tNext, tAsg, gName, gTup, gCons, gNil, tDrop, tPar, tFld, ClX.tCVal, tPropR, rBin, rBinT, rNeOwn, rSetL_k, gSub, tMakeK_k, tMethR, rInO, tDNewK_k, tYes, wipe, tMakeR_k, tSMeth, tSMethK, rMulS, decide_true, tNever, sFld, rIsiT, and_false, rListOf, rTupOf, rLenSeq, rIxL, rIxT, rIxS, rCat_k, rRep_k, rSlL_k, rSlS, rNewStrs_k, rAppend_k, tBM, tBM0, tM0, tM1, tSl, tNoPart, tPart, tLc_k, tFor_k, iList, iTup, iEnumT, iRng1, iRng2, iRng2L, iStr, L2.start, List.map, List.length_cons, List.length_nil, List.cons_append, List.nil_append, List.getElem?_cons_succ, List.getElem?_cons_zero, Option.some.injEq, V.int.injEq, V.bl.injEq, V.str.injEq, V.ref.injEq, exists_eq_left', exists_eq_left, and_assoc, exists_and_left, exists_eq, exists_eq', true_and, and_true, List.set_cons_zero, List.set_cons_succ, List.set, decide_eq_true_eq, Bool.not_eq_true', if_true, if_false, rIx, cx_K, nox_K, List.replicate_succ, List.replicate_zero, Nat.reduceSub, Bool.true_eq_false, Bool.false_eq_true, Nat.reduceAdd, List.cons.injEq, reduceCtorEq, false_and, false_or, or_false, tAug, rSetO, rJoin, rExtend]
  refine kNew.mk (by show 0 ≤ sizeLine; decide) fun D H1 f1 => ?_
  have S1 : SpotsN H H1 D (spotsOf wd 0) := ⟨⟨[], f1.at_, rfl, fun m tt p e => by cases m <;> cases e⟩, f1.same, f1.new⟩
  clear f1
  subst e1
  refine tSeq_step fun R e1 => ?_
  simp only [tSeq, tIfS, tTest, tB, tAnd, tOr, tNot, tAndV, tOrV, tNotV, tIf, tOp, tUn, tChain, rEq, rNe, rI0, rI, rU, tCallR, tCons, tNil, tC, tVar, tRet, tRetN, tTup_k, tLst_k, tCB, tNext, tAsg, gName, gTup, gCons, gNil, tDrop, tPar, tFld, ClX.tCVal, tPropR, rBin, rBinT, rNeOwn, rSetL_k, gSub, tMakeK_k, tMethR, rInO, tDNewK_k, tYes, wipe, tMakeR_k, tSMeth, tSMethK, rMulS, decide_true, tNever, sFld, rIsiT, and_false, rListOf, rTupOf, rLenSeq, rIxL, rIxT, rIxS, rCat_k, rRep_k, rSlL_k, rSlS, rNewStrs_k, rAppend_k, tBM, tBM0, tM0, tM1, tSl, tNoPart, tPart, tLc_k, tFor_k, iList, iTup, iEnumT, iRng1, iRng2, iRng2L, iStr, L2.start, List.map, List.length_cons, List.length_nil, List.cons_append, List.nil_append, List.getElem?_cons_succ, List.getElem?_cons_zero, Option.some.injEq, V.int.injEq, V.bl.injEq, V.str.injEq, V.ref.injEq, exists_eq_left', exists_eq_left, and_assoc, exists_and_left, exists_eq, exists_eq', true_and, and_true, List.set_cons_zero, List.set_cons_succ, List.set, decide_eq_true_eq, Bool.not_eq_true', if_true, if_false, rIx, cx_K, nox_K, List.replicate_succ, List.replicate_zero, Nat.reduceSub, Bool.true_eq_false, Bool.false_eq_true, Nat.reduceAdd, List.cons.injEq, reduceCtorEq, false_and, false_or, or_false, tAug, rSetO, rJoin, rExtend]
  have la : (as.map V.ref).length = rs.length := by rw [List.length_map]; exact gr.1.len
  obtain ⟨g9w, g9h⟩ := gr.2.2
  refine ⟨_, .inl (SqL.of (S1.same _ _ gr.1.at_)), by omega, by omega, ?_⟩
  rw [la, Int.toNat_natCast]
  refine kFor.it walk_range (fun i σ H' => SpotsN H H' D (spotsOf wd i) ∧ ∃ v2 v3, σ = [some (.ref l), some (.ref D), v2, v3]) ⟨S1, _, _, rfl⟩ (fun _ _ _ _ _ => trivial) (fun i xv σ Ha Hb hi hP hY => ?_) fun σ Ha hP => ?_
  · obtain ⟨Sa, v2, v3, rfl⟩ := hP
    obtain ⟨rfl, rfl⟩ := hY
    obtain ⟨b, r, e0, hb, hr0⟩ := (gr.same Sa.same).first
    obtain ⟨ts, te, tl⟩ := Sa.ex
    have ldv : (digV r).length = wd := by rw [List.length_map, hr0]
    simp only [tSeq, tIfS, tTest, tB, tAnd, tOr, tNot, tAndV, tOrV, tNotV, tIf, tOp, tUn, tChain, rEq, rNe, rI0, rI, rU, tCallR, tCons, tNil, tC, tVar, tRet, tRetN, tTup_k, tLst_k, tCB, tNext, tAsg, gName, gTup, gCons, gNil, tDrop, tPar, tFld, ClX.tCVal, tPropR, rBin, rBinT, rNeOwn, rSetL_k, gSub, tMakeK_k, tMethR, rInO, tDNewK_k, tYes, wipe, tMakeR_k, tSMeth, tSMethK, rMulS, decide_true, tNever, sFld, rIsiT, and_false, rListOf, rTupOf, rLenSeq, rIxL, rIxT, rIxS, rCat_k, rRep_k, rSlL_k, rSlS, rNewStrs_k, rAppend_k, tBM, tBM0, tM0, tM1, tSl, tNoPart, tPart, tLc_k, tFor_k, iList, iTup, iEnumT, iRng1, iRng2, iRng2L, iStr, L2.start, List.map, List.length_cons, List.length_nil, List.cons_append, List.nil_append, List.getElem?_cons_succ, List.getElem?_cons_zero, Option.some.injEq, V.int.injEq, V.bl.injEq, V.str.injEq, V.ref.injEq, exists_eq_left', exists_eq_left, and_assoc, exists_and_left, exists_eq, exists_eq', true_and, and_true, List.set_cons_zero, List.set_cons_succ, List.set, decide_eq_true_eq, Bool.not_eq_true', if_true, if_false, rIx, cx_K, nox_K, List.replicate_succ, List.replicate_zero, Nat.reduceSub, Bool.true_eq_false, Bool.false_eq_true, Nat.reduceAdd, List.cons.injEq, reduceCtorEq, false_and, false_or, or_false, tAug, rSetO, rJoin, rExtend]
    refine ⟨.inl ⟨rfl, _, SqL.of te⟩, _, SqL.of (Sa.same _ _ gr.1.at_), _, atI_nat (j := 0) (by rw [List.getElem?_map, e0]; rfl), b, rfl, _, .inl (SqL.of hb), by omega, by omega, ?_⟩
    have lr : ((digV r).length : Int).toNat = wd := by rw [ldv, Int.toNat_natCast]
    rw [lr]
    refine kLc.objs walk_range (RowV i) (fun _ _ => trivial) (fun D2 j yv HA HB hj cl hY => ?_) fun D2 H2 acc hacc f2 hv => ?_
    · obtain ⟨rfl, rfl⟩ := hY
      have hj : j < wd := hj
      simp only [tSeq, tIfS, tTest, tB, tAnd, tOr, tNot, tAndV, tOrV, tNotV, tIf, tOp, tUn, tChain, rEq, rNe, rI0, rI, rU, tCallR, tCons, tNil, tC, tVar, tRet, tRetN, tTup_k, tLst_k, tCB, tNext, tAsg, gName, gTup, gCons, gNil, tDrop, tPar, tFld, ClX.tCVal, tPropR, rBin, rBinT, rNeOwn, rSetL_k, gSub, tMakeK_k, tMethR, rInO, tDNewK_k, tYes, wipe, tMakeR_k, tSMeth, tSMethK, rMulS, decide_true, tNever, sFld, rIsiT, and_false, rListOf, rTupOf, rLenSeq, rIxL, rIxT, rIxS, rCat_k, rRep_k, rSlL_k, rSlS, rNewStrs_k, rAppend_k, tBM, tBM0, tM0, tM1, tSl, tNoPart, tPart, tLc_k, tFor_k, iList, iTup, iEnumT, iRng1, iRng2, iRng2L, iStr, L2.start, List.map, List.length_cons, List.length_nil, List.cons_append, List.nil_append, List.getElem?_cons_succ, List.getElem?_cons_zero, Option.some.injEq, V.int.injEq, V.bl.injEq, V.str.injEq, V.ref.injEq, exists_eq_left', exists_eq_left, and_assoc, exists_and_left, exists_eq, exists_eq', true_and, and_true, List.set_cons_zero, List.set_cons_succ, List.set, decide_eq_true_eq, Bool.not_eq_true', if_true, if_false, rIx, cx_K, nox_K, List.replicate_succ, List.replicate_zero, Nat.reduceSub, Bool.true_eq_false, Bool.false_eq_true, Nat.reduceAdd, List.cons.injEq, reduceCtorEq, false_and, false_or, or_false, tAug, rSetO, rJoin, rExtend]
      refine kNew.mk (by show 2 ≤ sizeLine; decide) fun t H9 f9 => LcOf.add (rowV_stays i) cl f9.same (size200 (by omega)) ⟨t, rfl, ?_⟩
      rw [Int.zero_add, Int.zero_add] at f9
      exact f9.at_
    · obtain ⟨us, rfl, hu⟩ := rowV_spots hacc hv
      have S2 := Sa.on f2.same
      have te2 := f2.get te
      refine ⟨D2, rfl, _, te2, _, f2.at_, ?_, ?_⟩
      · rw [List.length_map, List.length_map, tl.1, hu.1, spots_len, List.length_map, List.length_range]
        have hi : i < rs.length := hi
        have hm : i * wd ≤ 9 * 9 := Nat.mul_le_mul (by omega) g9w
        exact size200 (by omega)
      · have z := S2.add te2 (tl.same f2.same) hu
        rw [← spots_succ] at z
        exact z
  · obtain ⟨Sa, v2, v3, rfl⟩ := hP
    subst e1
    simp only [tSeq, tIfS, tTest, tB, tAnd, tOr, tNot, tAndV, tOrV, tNotV, tIf, tOp, tUn, tChain, rEq, rNe, rI0, rI, rU, tCallR, tCons, tNil, tC, tVar, tRet, tRetN, tTup_k, tLst_k, tCB, tNext, tAsg, gName, gTup, gCons, gNil, tDrop, tPar, tFld, ClX.tCVal, tPropR, rBin, rBinT, rNeOwn, rSetL_k, gSub, tMakeK_k, tMethR, rInO, tDNewK_k, tYes, wipe, tMakeR_k, tSMeth, tSMethK, rMulS, decide_true, tNever, sFld, rIsiT, and_false, rListOf, rTupOf, rLenSeq, rIxL, rIxT, rIxS, rCat_k, rRep_k, rSlL_k, rSlS, rNewStrs_k, rAppend_k, tBM, tBM0, tM0, tM1, tSl, tNoPart, tPart, tLc_k, tFor_k, iList, iTup, iEnumT, iRng1, iRng2, iRng2L, iStr, L2.start, List.map, List.length_cons, List.length_nil, List.cons_append, List.nil_append, List.getElem?_cons_succ, List.getElem?_cons_zero, Option.some.injEq, V.int.injEq, V.bl.injEq, V.str.injEq, V.ref.injEq, exists_eq_left', exists_eq_left, and_assoc, exists_and_left, exists_eq, exists_eq', true_and, and_true, List.set_cons_zero, List.set_cons_succ, List.set, decide_eq_true_eq, Bool.not_eq_true', if_true, if_false, rIx, cx_K, nox_K, List.replicate_succ, List.replicate_zero, Nat.reduceSub, Bool.true_eq_false, Bool.false_eq_true, Nat.reduceAdd, List.cons.injEq, reduceCtorEq, false_and, false_or, or_false, tAug, rSetO, rJoin, rExtend]
    exact k D Ha Sa
theorem ok_within (T : Txt K mg a) : FnR P w K mg base CX0 4 a._law_within spWithin := by
  have G__law_ends : FnR P w K mg base CX0 2 a._law_ends spEnds := ok_ends T
  have G__law_spots : FnR P w K mg base CX0 1 a._law_spots spSpots := ok_spots T
  refine T.d__law_within.ok sc__law_within (fun _ _ _ _ _ _ us hl => match us, hl with | [_, _], _ => rfl) (fun vs H Q E h => by obtain ⟨l, t, as, wd, rs, q, rfl, _⟩ := h; rfl) (fun cdv A outer s H vs Q E hr h => ?_)
  obtain ⟨l, t, as, wd, rs, q, rfl, gr, ht, bd, k⟩ := h
  have g := gr.2.1
  have wg := wid200 g.w0 g.w1
  have hg := wid200 g.l0 g.l1
  obtain ⟨b, r, e0, hb, hr0⟩ := gr.first
  have ldv : (digV r).length = wd := by rw [List.length_map, hr0]
  have la : (as.map V.ref).length = rs.length := by rw [List.length_map]; exact gr.1.len
  refine ⟨_, (pss_cons (ps_asg (pe_callR G__law_ends (hr.mono (by decide)) T.m__law_ends T.k__law_ends pass0 (pa_cons (pv 1) (pa_cons (pe_callB call_len_seq (by rfl) T.n_len (by decide +kernel) (pa_cons (pe_ix ix_list (pv 0) pe_int (fun _ _ => rfl)) pa_nil)) (pa_cons (pe_callB call_len_seq (by rfl) T.n_len (by decide +kernel) (pa_cons (pv 0) pa_nil)) pa_nil)))) (pg_tup rfl (pgs_cons (pg_name (i := 2) sc__law_within.nd rfl (Or.inr rfl)) (pgs_cons (pg_name (i := 3) sc__law_within.nd rfl (Or.inr rfl)) (pgs_cons (pg_name (i := 4) sc__law_within.nd rfl (Or.inr rfl)) (pgs_cons (pg_name (i := 5) sc__law_within.nd rfl (Or.inr rfl)) pgs_nil))))))
      (pss_one (ps_ret (pe_lc (own := [("_law_x", 6), ("_law_y", 7)]) (g := gTup K 2 (gCons (gName 6) (gCons (gName 7) gNil))) (by rfl) sc__law_within.nd (pi_list (pe_callR G__law_spots (hr.mono (by decide)) T.m__law_spots T.k__law_spots pass0 (pa_cons (pv 0) pa_nil))) (blkOk_by (own := [("_law_x", 6), ("_law_y", 7)]) (N := ["_law_grid", "_law_box_here", "_law_x0", "_law_x1", "_law_y0", "_law_y1", "_law_x", "_law_y"]) (sc := defScope s__law_within) (by decide +kernel)) (fun _ _ _ _ _ => (pg_tup rfl (pgs_cons (pg_name (i := 6) sc__law_within.nd rfl (Or.inl rfl)) (pgs_cons (pg_name (i := 7) sc__law_within.nd rfl (Or.inl rfl)) pgs_nil)))) (fun _ _ _ _ _ => (pts_one (PW.pt (pw_and (pt_chain op_le op_lt (pv 2) (pv 6) (pv 3)) (pw_and1 (pt_chain op_le op_lt (pv 4) (pv 7) (pv 5))))))) (fun _ _ _ _ _ => (pe_tup (pa_cons (pv 6) (pa_cons (pv 7) pa_nil)))))))), ?_⟩
  refine tSeq_step fun R e1 => ?_
  simp only [tSeq, tIfS, tTest, tB, tAnd, tOr, tNot, tAndV, tOrV, tNotV, tIf, tOp, tUn, tChain, rEq, rNe, rI0, rI, rU, tCallR, tCons, tNil, tC, tVar, tRet, tRetN, tTup_k, tLst_k, tCB, tNext, tAsg, gName, gTup, gCons, gNil, tDrop, tPar, tFld, ClX.tCVal, tPropR, rBin, rBinT, rNeOwn, rSetL_k, gSub, tMakeK_k, tMethR, rInO, tDNewK_k, tYes, wipe, tMakeR_k, tSMeth, tSMethK, rMulS, decide_true, tNever, sFld, rIsiT, and_false, rListOf, rTupOf, rLenSeq, rIxL, rIxT, rIxS, rCat_k, rRep_k, rSlL_k, rSlS, rNewStrs_k, rAppend_k, tBM, tBM0, tM0, tM1, tSl, tNoPart, tPart, tLc_k, tFor_k, iList, iTup, iEnumT, iRng1, iRng2, iRng2L, iStr, L2.start, List.map, List.length_cons, List.length_nil, List.cons_append, List.nil_append, List.getElem?_cons_succ, List.getElem?_cons_zero, Option.some.injEq, V.int.injEq, V.bl.injEq, V.str.injEq, V.ref.injEq, exists_eq_left', exists_eq_left, and_assoc, exists_and_left, exists_eq, exists_eq', true_and, and_true, List.set_cons_zero, List.set_cons_succ, List.set, decide_eq_true_eq, Bool.not_eq_true', if_true, if_false, rIx, cx_K, nox_K, List.replicate_succ, List.replicate_zero, Nat.reduceSub, Bool.true_eq_false, Bool.false_eq_true, Nat.reduceAdd, List.cons.injEq, reduceCtorEq, false_and, false_or, or_false, tAug, rSetO, rJoin, rExtend]
  refine ⟨_, SqL.of gr.1.at_, _, atI_nat (j := 0) (by rw [List.getElem?_map, e0]; rfl), b, rfl, _, .inl (SqL.of hb), _, .inl (SqL.of gr.1.at_), ?_⟩
  rw [ldv, la]
  refine ⟨t, q, _, _, rfl, ht, bd, wg, hg, fun t' H1 f1 => ⟨t', rfl, _, SqT.of f1.at_, rfl, _, _, rfl, _, _, rfl, _, _, rfl, _, _, rfl, rfl, ?_⟩⟩
  generalize plV q.x0 wd = x0 at *
  generalize plV q.x1 wd = x1 at *
  generalize plV q.y0 rs.length = y0 at *
  generalize plV q.y1 rs.length = y1 at *
  subst e1
  simp only [tSeq, tIfS, tTest, tB, tAnd, tOr, tNot, tAndV, tOrV, tNotV, tIf, tOp, tUn, tChain, rEq, rNe, rI0, rI, rU, tCallR, tCons, tNil, tC, tVar, tRet, tRetN, tTup_k, tLst_k, tCB, tNext, tAsg, gName, gTup, gCons, gNil, tDrop, tPar, tFld, ClX.tCVal, tPropR, rBin, rBinT, rNeOwn, rSetL_k, gSub, tMakeK_k, tMethR, rInO, tDNewK_k, tYes, wipe, tMakeR_k, tSMeth, tSMethK, rMulS, decide_true, tNever, sFld, rIsiT, and_false, rListOf, rTupOf, rLenSeq, rIxL, rIxT, rIxS, rCat_k, rRep_k, rSlL_k, rSlS, rNewStrs_k, rAppend_k, tBM, tBM0, tM0, tM1, tSl, tNoPart, tPart, tLc_k, tFor_k, iList, iTup, iEnumT, iRng1, iRng2, iRng2L, iStr, L2.start, List.map, List.length_cons, List.length_nil, List.cons_append, List.nil_append, List.getElem?_cons_succ, List.getElem?_cons_zero, Option.some.injEq, V.int.injEq, V.bl.injEq, V.str.injEq, V.ref.injEq, exists_eq_left', exists_eq_left, and_assoc, exists_and_left, exists_eq, exists_eq', true_and, and_true, List.set_cons_zero, List.set_cons_succ, List.set, decide_eq_true_eq, Bool.not_eq_true', if_true, if_false, rIx, cx_K, nox_K, List.replicate_succ, List.replicate_zero, Nat.reduceSub, Bool.true_eq_false, Bool.false_eq_true, Nat.reduceAdd, List.cons.injEq, reduceCtorEq, false_and, false_or, or_false, tAug, rSetO, rJoin, rExtend]
  refine ⟨l, as, wd, rs, rfl, gr.same f1.same, fun D0 H2 S2 => ⟨D0, rfl, ?_⟩⟩
  obtain ⟨ts, te, tl⟩ := S2.ex
  have tlen := tl.1
  have slen := spots_len wd rs.length
  have sle : rs.length * wd ≤ 9 * 9 := Nat.mul_le_mul gr.2.2.2 gr.2.2.1
  refine ⟨⟨_, SqL.of te⟩, ?_⟩
  refine kLc.it (walk_list (xs := ts.map V.ref)) (fun D j H' => SpotsN H2 H' D (((spotsOf wd rs.length).take j).filter (inB x0 x1 y0 y1))) (fun D H' f => ⟨⟨[], f.at_, rfl, fun m tt p e => by cases m <;> cases e⟩, f.same, f.new⟩) (fun D j H' hI => SqL.of (hI.same _ _ te)) (fun D j xv H7 H8 hj hI hY => ?_) fun D H7 hI => ?_
  · obtain ⟨rfl, e⟩ := hY
    rw [List.length_map] at hj
    obtain ⟨tt, et, rfl⟩ : ∃ tt, ts[j]? = some tt ∧ xv = .ref tt := by
      rw [List.getElem?_map, List.getElem?_eq_getElem hj] at e
      exact ⟨_, List.getElem?_eq_getElem hj, (Option.some.inj e).symm⟩
    obtain ⟨p, ep⟩ : ∃ p, (spotsOf wd rs.length)[j]? = some p := ⟨_, List.getElem?_eq_getElem (by omega)⟩
    have htt := hI.same _ _ (tl.2 j tt p et ep)
    have step : ((spotsOf wd rs.length).take (j + 1)).filter (inB x0 x1 y0 y1) = ((spotsOf wd rs.length).take j).filter (inB x0 x1 y0 y1) ++ if inB x0 x1 y0 y1 p then [p] else [] := by
      rw [List.take_add_one, ep, List.filter_append]
      show _ ++ List.filter _ [p] = _
      congr 1
      by_cases h : inB x0 x1 y0 y1 p = true
      · rw [List.filter_cons_of_pos h, if_pos h]; rfl
      · rw [List.filter_cons_of_neg h, if_neg h]; rfl
    obtain ⟨us, ue, ul⟩ := hI.ex
    have ulen : us.length ≤ 81 := by
      rw [ul.1]
      exact Nat.le_trans (List.length_filter_le _ _) (Nat.le_trans (List.length_take_le' _ _) (by omega))
    have add : inB x0 x1 y0 y1 p = true → kNew HO.tup (kApp D fun H' => SpotsN H2 H' D (((spotsOf wd rs.length).take (j + 1)).filter (inB x0 x1 y0 y1))) [.int (p.1 : Nat), .int (p.2 : Nat)] H8 := fun hp => by
      refine kNew.mk (by show 2 ≤ sizeLine; decide) fun t9 H9 f9 => ⟨_, f9.get ue, by rw [List.length_map]; exact Nat.lt_of_le_of_lt ulen (by decide), ?_⟩
      rw [step, if_pos hp]
      exact (hI.on f9.same).add (us := [t9]) (f9.get ue) (ul.same f9.same) (SpotsL.one f9.at_)
    have skip : ¬ inB x0 x1 y0 y1 p = true → SpotsN H2 H8 D (((spotsOf wd rs.length).take (j + 1)).filter (inB x0 x1 y0 y1)) := fun hp => by
      rw [step, if_neg hp, List.append_nil]
      exact hI
    simp only [tSeq, tIfS, tTest, tB, tAnd, tOr, tNot, tAndV, tOrV, tNotV, tIf, tOp, tUn, tChain, rEq, rNe, rI0, rI, rU, tCallR, tCons, tNil, tC, tVar, tRet, tRetN, tTup_k, tLst_k, tCB, tNext, tAsg, gName, gTup, gCons, gNil, tDrop, tPar, tFld, ClX.tCVal, tPropR, rBin, rBinT, rNeOwn, rSetL_k, gSub, tMakeK_k, tMethR, rInO, tDNewK_k, tYes, wipe, tMakeR_k, tSMeth, tSMethK, rMulS, decide_true, tNever, sFld, rIsiT, and_false, rListOf, rTupOf, rLenSeq, rIxL, rIxT, rIxS, rCat_k, rRep_k, rSlL_k, rSlS, rNewStrs_k, rAppend_k, tBM, tBM0, tM0, tM1, tSl, tNoPart, tPart, tLc_k, tFor_k, iList, iTup, iEnumT, iRng1, iRng2, iRng2L, iStr, L2.start, List.map, List.length_cons, List.length_nil, List.cons_append, List.nil_append, List.getElem?_cons_succ, List.getElem?_cons_zero, Option.some.injEq, V.int.injEq, V.bl.injEq, V.str.injEq, V.ref.injEq, exists_eq_left', exists_eq_left, and_assoc, exists_and_left, exists_eq, exists_eq', true_and, and_true, List.set_cons_zero, List.set_cons_succ, List.set, decide_eq_true_eq, Bool.not_eq_true', if_true, if_false, rIx, cx_K, nox_K, List.replicate_succ, List.replicate_zero, Nat.reduceSub, Bool.true_eq_false, Bool.false_eq_true, Nat.reduceAdd, List.cons.injEq, reduceCtorEq, false_and, false_or, or_false, tAug, rSetO, rJoin, rExtend]
    refine ⟨_, SqT.of htt, rfl, _, _, rfl, _, _, rfl, rfl, _, rfl, ?_⟩
    by_cases h1 : x0 ≤ ((p.1 : Nat) : Int)
    · rw [if_pos h1]
      refine ⟨_, rfl, ?_⟩
      by_cases h2 : ((p.1 : Nat) : Int) < x1
      · rw [if_pos h2]
        refine ⟨_, rfl, ?_⟩
        by_cases h3 : y0 ≤ ((p.2 : Nat) : Int)
        · rw [if_pos h3]
          refine ⟨_, rfl, ?_⟩
          by_cases h4 : ((p.2 : Nat) : Int) < y1
          · rw [if_pos h4]
            exact add (decide_eq_true ⟨h1, h2, h3, h4⟩)
          · rw [if_neg h4]
            exact skip fun z => h4 (of_decide_eq_true z).2.2.2
        · rw [if_neg h3]
          exact skip fun z => h3 (of_decide_eq_true z).2.2.1
      · rw [if_neg h2]
        exact skip fun z => h2 (of_decide_eq_true z).2.1
    · rw [if_neg h1]
      exact skip fun z => h1 (of_decide_eq_true z).1
  · rw [List.length_map, tlen, List.take_length] at hI
    have s := f1.same.trans S2.same
    exact k D H7 ⟨hI.ex, s.trans hI.same, s.free hI.new⟩
theorem ok_linesT (T : Txt K mg a) : FnR P w K mg base CX0 1 a._law_lines spLinesT := by
  refine T.d__law_lines.ok sc__law_lines (fun _ _ _ _ _ _ us hl => match us, hl with | [_], _ => rfl) (fun vs H Q E h => by obtain ⟨l, as, wd, rs, rfl, _⟩ := h; rfl) (fun cdv A outer s H vs Q E hr h => ?_)
  obtain ⟨l, as, wd, rs, rfl, gr, g, k⟩ := h
  refine ⟨_, (pss_one (ps_ret (pe_callTy call_tupleK (by rfl) T.n_tuple (by decide +kernel) (pa_cons (pe_lc (own := [("_law_row", 1)]) (g := gName 1) (by rfl) sc__law_lines.nd (pi_list (pv 0)) (blkOk_by (own := [("_law_row", 1)]) (N := ["_law_grid", "_law_row", "_law_one"]) (sc := defScope s__law_lines) (by decide +kernel)) (fun _ _ _ _ _ => (pg_name (i := 1) sc__law_lines.nd rfl (Or.inl rfl))) (fun _ _ _ _ _ => pts_nil) (fun _ _ _ _ _ => (pe_joinK (K := K) rfl pe_str (pe_lc (own := [("_law_one", 2)]) (g := gName 2) (by rfl) sc__law_lines.nd (pi_listK (K := K) rfl (pv 1)) (blkOk_by (own := [("_law_one", 2)]) (N := ["_law_grid", "_law_row", "_law_one"]) (sc := _) (by rfl)) (fun _ _ _ _ _ => (pg_name (i := 2) sc__law_lines.nd rfl (Or.inl rfl))) (fun _ _ _ _ _ => pts_nil) (fun _ _ _ _ _ => (pe_callTy call_str_int (by rfl) T.n_str (by decide +kernel) (pa_cons (pv 2) pa_nil))))))) pa_nil)))), ?_⟩
  simp only [tSeq, tIfS, tTest, tB, tAnd, tOr, tNot, tAndV, tOrV, tNotV, tIf, tOp, tUn, tChain, rEq, rNe, rI0, rI, rU, tCallR, tCons, tNil, tC, tVar, tRet, tRetN, tTup_k, tLst_k, tCB, tNext, tAsg, gName, gTup, gCons, gNil, tDrop, tPar, tFld, ClX.tCVal, tPropR, rBin, rBinT, rNeOwn, rSetL_k, gSub, tMakeK_k, tMethR, rInO, tDNewK_k, tYes, wipe, tMakeR_k, tSMeth, tSMethK, rMulS, decide_true, tNever, sFld, rIsiT, and_false, rListOf, rTupOf, rLenSeq, rIxL, rIxT, rIxS, rCat_k, rRep_k, rSlL_k, rSlS, rNewStrs_k, rAppend_k, tBM, tBM0, tM0, tM1, tSl, tNoPart, tPart, tLc_k, tFor_k, iList, iTup, iEnumT, iRng1, iRng2, iRng2L, iStr, L2.start, List.map, List.length_cons, List.length_nil, List.cons_append, List.nil_append, List.getElem?_cons_succ, List.getElem?_cons_zero, Option.some.injEq, V.int.injEq, V.bl.injEq, V.str.injEq, V.ref.injEq, exists_eq_left', exists_eq_left, and_assoc, exists_and_left, exists_eq, exists_eq', true_and, and_true, List.set_cons_zero, List.set_cons_succ, List.set, decide_eq_true_eq, Bool.not_eq_true', if_true, if_false, rIx, cx_K, nox_K, List.replicate_succ, List.replicate_zero, Nat.reduceSub, Bool.true_eq_false, Bool.false_eq_true, Nat.reduceAdd, List.cons.injEq, reduceCtorEq, false_and, false_or, or_false, tAug, rSetO, rJoin, rExtend]
  refine ⟨⟨_, SqL.of gr.at_⟩, kLc.map walk_list (rowsV rs) (by rw [rowsV_len, List.length_map, gr.len]) (fun H' s => Same.seq s (SqL.of gr.at_)) (fun D j y H1 H2 hj cl hY => ?_) fun D H1 f1 => ?_⟩
  · obtain ⟨rfl, hy⟩ := hY
    obtain ⟨b, r, hb, hr', rfl⟩ := gr.at hy
    obtain ⟨hw, hd⟩ := g.at_ hr'
    have q1 := g.w1
    have hB := cl.same _ _ (gr.row j b r hb hr')
    simp only [tSeq, tIfS, tTest, tB, tAnd, tOr, tNot, tAndV, tOrV, tNotV, tIf, tOp, tUn, tChain, rEq, rNe, rI0, rI, rU, tCallR, tCons, tNil, tC, tVar, tRet, tRetN, tTup_k, tLst_k, tCB, tNext, tAsg, gName, gTup, gCons, gNil, tDrop, tPar, tFld, ClX.tCVal, tPropR, rBin, rBinT, rNeOwn, rSetL_k, gSub, tMakeK_k, tMethR, rInO, tDNewK_k, tYes, wipe, tMakeR_k, tSMeth, tSMethK, rMulS, decide_true, tNever, sFld, rIsiT, and_false, rListOf, rTupOf, rLenSeq, rIxL, rIxT, rIxS, rCat_k, rRep_k, rSlL_k, rSlS, rNewStrs_k, rAppend_k, tBM, tBM0, tM0, tM1, tSl, tNoPart, tPart, tLc_k, tFor_k, iList, iTup, iEnumT, iRng1, iRng2, iRng2L, iStr, L2.start, List.map, List.length_cons, List.length_nil, List.cons_append, List.nil_append, List.getElem?_cons_succ, List.getElem?_cons_zero, Option.some.injEq, V.int.injEq, V.bl.injEq, V.str.injEq, V.ref.injEq, exists_eq_left', exists_eq_left, and_assoc, exists_and_left, exists_eq, exists_eq', true_and, and_true, List.set_cons_zero, List.set_cons_succ, List.set, decide_eq_true_eq, Bool.not_eq_true', if_true, if_false, rIx, cx_K, nox_K, List.replicate_succ, List.replicate_zero, Nat.reduceSub, Bool.true_eq_false, Bool.false_eq_true, Nat.reduceAdd, List.cons.injEq, reduceCtorEq, false_and, false_or, or_false, tAug, rSetO, rJoin, rExtend]
    refine ⟨⟨_, SqL.of hB⟩, kLc.map walk_list (r.map fun d => V.str (S [d])) (by simp) (fun H' s => Same.seq s (SqL.of hB)) (fun D2 i z H3 H4 hi cl2 hY2 => ?_) fun D2 H3 f3 => ?_⟩
    · obtain ⟨rfl, hz⟩ := hY2
      obtain ⟨c, hc, rfl⟩ := digV_get hz
      obtain ⟨e1, e2⟩ := dig_back (hd c (List.mem_of_getElem? hc))
      simp only [tSeq, tIfS, tTest, tB, tAnd, tOr, tNot, tAndV, tOrV, tNotV, tIf, tOp, tUn, tChain, rEq, rNe, rI0, rI, rU, tCallR, tCons, tNil, tC, tVar, tRet, tRetN, tTup_k, tLst_k, tCB, tNext, tAsg, gName, gTup, gCons, gNil, tDrop, tPar, tFld, ClX.tCVal, tPropR, rBin, rBinT, rNeOwn, rSetL_k, gSub, tMakeK_k, tMethR, rInO, tDNewK_k, tYes, wipe, tMakeR_k, tSMeth, tSMethK, rMulS, decide_true, tNever, sFld, rIsiT, and_false, rListOf, rTupOf, rLenSeq, rIxL, rIxT, rIxS, rCat_k, rRep_k, rSlL_k, rSlS, rNewStrs_k, rAppend_k, tBM, tBM0, tM0, tM1, tSl, tNoPart, tPart, tLc_k, tFor_k, iList, iTup, iEnumT, iRng1, iRng2, iRng2L, iStr, L2.start, List.map, List.length_cons, List.length_nil, List.cons_append, List.nil_append, List.getElem?_cons_succ, List.getElem?_cons_zero, Option.some.injEq, V.int.injEq, V.bl.injEq, V.str.injEq, V.ref.injEq, exists_eq_left', exists_eq_left, and_assoc, exists_and_left, exists_eq, exists_eq', true_and, and_true, List.set_cons_zero, List.set_cons_succ, List.set, decide_eq_true_eq, Bool.not_eq_true', if_true, if_false, rIx, cx_K, nox_K, List.replicate_succ, List.replicate_zero, Nat.reduceSub, Bool.true_eq_false, Bool.false_eq_true, Nat.reduceAdd, List.cons.injEq, reduceCtorEq, false_and, false_or, or_false, tAug, rSetO, rJoin, rExtend]
      rw [e1]
      exact ⟨e2, kApp.at cl2 (fun _ _ e => e) (by rw [List.length_map, hw]; exact size200 q1) (by rw [List.getElem?_map, hc]; rfl)⟩
    · have hb := sum_rows (r.map fun d => [d]) fun s hs => by
        obtain ⟨d, _, rfl⟩ := List.mem_map.mp hs
        show 1 ≤ 200
        decide
      have ej := join_rows (r.map fun d => [d])
      rw [flat_single] at ej
      have hb1 := hb.1
      rw [List.length_map, hw] at hb1
      refine ⟨D2, rfl, (r.map fun d => [d]).map S, .inl (SqL.of (by rw [f3.at_, List.map_map, List.map_map]; rfl)), ?_, ?_⟩
      · show _ + ((r.map fun d => [d]).map S).length * 0 ≤ _
        omega
      · rw [ej]
        exact kApp.at cl f3.same (by rw [rowsV_len]; exact size200 g.l1) (by rw [List.getElem?_map, hr']; rfl)
  · refine ⟨D, rfl, _, .inl ⟨SqL.of f1.at_, kN.mk fun tv H2 f2 => ?_⟩⟩
    exact k tv H2 (f1.same.trans f2.same) f2.at_
end
end Pf
end
section
namespace Pf
open PySem PySem.Spec PyProof.Rows L2 Ow StX
open SX (S)
/-! ### boxes copied -/
/-- rows of which those of a stretch are others -/
def partRs (rs : List (List Nat)) (a b : Int) (f : Nat → List Nat → List Nat) : List (List Nat) := rs.mapIdx fun j r => if a ≤ (j : Int) ∧ (j : Int) < b then f j r else r
theorem part_len (rs : List (List Nat)) (a b : Int) (f : Nat → List Nat → List Nat) : (partRs rs a b f).length = rs.length := List.length_mapIdx ..
theorem part_at (rs : List (List Nat)) (a b : Int) (f : Nat → List Nat → List Nat) (j : Nat) : (partRs rs a b f)[j]? = rs[j]?.map fun r => if a ≤ (j : Int) ∧ (j : Int) < b then f j r else r := List.getElem?_mapIdx ..
theorem part_congr {rs : List (List Nat)} {a b a' b' : Int} {f : Nat → List Nat → List Nat} (h : ∀ j : Nat, j < rs.length → (a ≤ (j : Int) ∧ (j : Int) < b ↔ a' ≤ (j : Int) ∧ (j : Int) < b')) : partRs rs a b f = partRs rs a' b' f := by
  apply List.ext_getElem?
  intro j
  rw [part_at, part_at]
  cases q : rs[j]? with
  | none => rfl
  | some r =>
    have hj := (List.getElem?_eq_some_iff.mp q).1
    simp only [Option.map_some, Option.some.injEq]
    by_cases z : a ≤ (j : Int) ∧ (j : Int) < b
    · rw [if_pos z, if_pos ((h j hj).mp z)]
    · rw [if_neg z, if_neg fun y => z ((h j hj).mpr y)]
theorem part_none {rs : List (List Nat)} {a b : Int} {f : Nat → List Nat → List Nat} (h : ∀ j : Nat, j < rs.length → ¬ (a ≤ (j : Int) ∧ (j : Int) < b)) : partRs rs a b f = rs := by
  apply List.ext_getElem?
  intro j
  rw [part_at]
  cases q : rs[j]? with
  | none => rfl
  | some r =>
    have hj := (List.getElem?_eq_some_iff.mp q).1
    simp only [Option.map_some, Option.some.injEq]
    rw [if_neg (h j hj)]
theorem part_step {rs : List (List Nat)} {a : Int} {i j : Nat} {r : List Nat} {f : Nat → List Nat → List Nat} (hj : (j : Int) = a + i) (hr : rs[j]? = some r) : (partRs rs a (a + (i : Nat)) f).set j (f j r) = partRs rs a (a + ((i + 1 : Nat) : Int)) f := by
  apply List.ext_getElem?
  intro m
  rw [List.getElem?_set, part_len, part_at, part_at]
  have hjl := (List.getElem?_eq_some_iff.mp hr).1
  by_cases e : j = m
  · subst e
    rw [if_pos rfl, if_pos hjl, hr]
    simp only [Option.map_some, Option.some.injEq]
    rw [if_pos (by omega)]
  · rw [if_neg e]
    cases q : rs[m]? with
    | none => rfl
    | some d =>
      simp only [Option.map_some, Option.some.injEq]
      by_cases h : a ≤ (m : Int) ∧ (m : Int) < a + (i : Nat)
      · rw [if_pos h, if_pos (by omega)]
      · rw [if_neg h, if_neg (by omega)]
/-- a row with a stretch of another one laid over it -/
def cpR (r src : List Nat) (x0 x1 dx : Int) : List Nat := r.mapIdx fun i d => if lowI x0 ≤ (i : Int) - dx ∧ (i : Int) - dx < highI x1 r.length then src.getD ((i : Int) - dx).toNat 48 else d
theorem cpR_at (r src : List Nat) (x0 x1 dx : Int) (i : Nat) : (cpR r src x0 x1 dx)[i]? = r[i]?.map fun d => if lowI x0 ≤ (i : Int) - dx ∧ (i : Int) - dx < highI x1 r.length then src.getD ((i : Int) - dx).toNat 48 else d := List.getElem?_mapIdx ..
theorem cpR_len (r src : List Nat) (x0 x1 dx : Int) : (cpR r src x0 x1 dx).length = r.length := List.length_mapIdx ..
theorem low0 (x : Int) : 0 ≤ lowI x := by unfold lowI; split <;> omega
theorem high_le (x s : Int) : highI x s ≤ s := by unfold highI; split <;> omega
theorem cpR_cut {r src : List Nat} {x0 x1 dx : Int} {l e b : Nat} (hs : src.length = r.length) (hl : (l : Int) = lowI (lowI x0 + dx)) (he : (e : Int) = highI (highI x1 r.length + dx) r.length) (hb : (b : Int) = l - dx) (hle : l < e) :
    r.take l ++ (src.drop b).take (e - l) ++ r.drop e = cpR r src x0 x1 dx := by
  have q0 := low0 x0
  have q1 := high_le x1 r.length
  have hl2 : e ≤ r.length := by have := high_le (highI x1 r.length + dx) r.length; omega
  have hbe : b + (e - l) ≤ src.length := by
    rw [hs]
    unfold highI at he
    split at he <;> split at he <;> omega
  apply List.ext_getElem?
  intro i
  rw [cpR_at]
  have key : i < r.length → (lowI x0 ≤ (i : Int) - dx ∧ (i : Int) - dx < highI x1 r.length ↔ l ≤ i ∧ i < e) := fun hi => by
    generalize lowI x0 = u at *
    generalize highI x1 r.length = v at *
    unfold lowI at hl
    unfold highI at he
    split at hl <;> split at he <;> omega
  by_cases h1 : i < l
  · rw [List.append_assoc, List.getElem?_append_left (by rw [List.length_take]; omega), List.getElem?_take, if_pos h1, List.getElem?_eq_getElem (by omega)]
    simp only [Option.map_some, Option.some.injEq]
    rw [if_neg fun z => by have := (key (by omega)).mp z; omega]
  · by_cases h2 : i < e
    · rw [List.getElem?_append_left (by rw [List.length_append, List.length_take, List.length_take, List.length_drop]; omega), List.getElem?_append_right (by rw [List.length_take]; omega), List.getElem?_take, if_pos (by rw [List.length_take]; omega), List.getElem?_drop, List.getElem?_eq_getElem (show i < r.length by omega)]
      have e1 : b + (i - (List.take l r).length) = ((i : Int) - dx).toNat := by rw [List.length_take]; omega
      rw [e1]
      simp only [Option.map_some]
      rw [if_pos ((key (by omega)).mpr ⟨by omega, h2⟩), List.getD_eq_getElem?_getD, List.getElem?_eq_getElem (show ((i : Int) - dx).toNat < src.length by omega), Option.getD_some]
    · rw [List.getElem?_append_right (by rw [List.length_append, List.length_take, List.length_take, List.length_drop]; omega), List.getElem?_drop, List.length_append, List.length_take, List.length_take, List.length_drop]
      have e1 : e + (i - (min l r.length + min (e - l) (src.length - b))) = i := by omega
      rw [e1]
      cases q : r[i]? with
      | none => rfl
      | some d =>
        have hi := (List.getElem?_eq_some_iff.mp q).1
        simp only [Option.map_some, Option.some.injEq]
        rw [if_neg fun z => by have := (key hi).mp z; omega]
theorem cpR_none {r src : List Nat} {x0 x1 dx : Int} (h : ¬ (lowI (lowI x0 + dx) < highI (highI x1 r.length + dx) r.length)) : cpR r src x0 x1 dx = r := by
  apply List.ext_getElem?
  intro i
  rw [cpR_at]
  cases q : r[i]? with
  | none => rfl
  | some d =>
    have hi := (List.getElem?_eq_some_iff.mp q).1
    simp only [Option.map_some, Option.some.injEq]
    refine if_neg fun z => h ?_
    generalize lowI x0 = u at *
    generalize highI x1 r.length = v at *
    unfold lowI highI
    split <;> split <;> omega
/-- the rows with a box of them laid elsewhere -/
def copyRs (rs : List (List Nat)) (x0 x1 y0 y1 dx dy : Int) : List (List Nat) := partRs rs (lowI y0 + dy) (highI y1 rs.length + dy) fun j r => cpR r (rs.getD ((j : Int) - dy).toNat []) x0 x1 dx
theorem copy_len (rs : List (List Nat)) (x0 x1 y0 y1 dx dy : Int) : (copyRs rs x0 x1 y0 y1 dx dy).length = rs.length := part_len ..
theorem copy_none {w : Nat} {rs : List (List Nat)} {x0 x1 y0 y1 dx dy : Int} (g : Good w rs) (h : ¬ (lowI (lowI x0 + dx) < highI (highI x1 w + dx) w)) : copyRs rs x0 x1 y0 y1 dx dy = rs := by
  apply List.ext_getElem?
  intro j
  unfold copyRs
  rw [part_at]
  cases q : rs[j]? with
  | none => rfl
  | some r =>
    have hw := (g.at_ q).1
    simp only [Option.map_some, Option.some.injEq]
    split
    · exact cpR_none (by rw [hw]; exact h)
    · rfl
theorem copy_clip (rs : List (List Nat)) (x0 x1 y0 y1 dx dy : Int) : partRs rs (lowI (lowI y0 + dy)) (highI (highI y1 rs.length + dy) rs.length) (fun j r => cpR r (rs.getD ((j : Int) - dy).toNat []) x0 x1 dx) = copyRs rs x0 x1 y0 y1 dx dy :=
  part_congr fun j hj => by
    generalize lowI y0 = u
    generalize highI y1 rs.length = v
    unfold lowI highI
    split <;> split <;> omega
theorem cutS_mid {a : List Nat} {i j : Nat} (h : i ≤ j) (hj : j ≤ a.length) : cutS (S a) (some (i : Int)) (some (j : Int)) = S ((a.drop i).take (j - i)) := by
  unfold cutS
  rw [HT.sIx_nat, HT.sIx_nat, SX.S_len, Nat.min_eq_left hj, Nat.min_eq_left (by omega)]
def spCopied : Sp := fun vs H Q _ => ∃ (l t : Addr) (w : Nat) (rs : List (List Nat)) (x0 x1 y0 y1 dx dy : Int), vs = [.ref l, .ref t, .int dx, .int dy] ∧ H l = some (.lst (rowsV rs)) ∧ H t = some (.tup [.int x0, .int x1, .int y0, .int y1]) ∧ Good w rs ∧
  ∀ t H', Fresh H H' t (.lst (rowsV (copyRs rs x0 x1 y0 y1 dx dy))) → Q (.ref t) H'
def spCanCopy (C : Addr) : Sp := fun vs H Q _ => ∃ (x t : Addr) (w : Nat) (rs : List (List Nat)) (x0 x1 y0 y1 dx dy : Int), vs = [.ref x, .ref t, .int dx, .int dy] ∧ Can H C x rs ∧ Good w rs ∧ H t = some (.tup [.int x0, .int x1, .int y0, .int y1]) ∧
  ∀ H', SameBut x H H' → Can H' C x (copyRs rs x0 x1 y0 y1 dx dy) → Q .non H'
section
variable {P : Program} {w : World} {K : PySem.W.Frag} {mg : Str → Option Value} {base : Heap} {a : Adr}
set_option maxHeartbeats 4000000
theorem ok_copied (T : Txt K mg a) : FnR P w K mg base CX0 2 a.copied_rows spCopied := by
  have G_clipped : FnR P w K mg base CX0 1 a.clipped spClip := ok_clipped T
  refine T.d_copied_rows.ok sc_copied_rows (fun _ _ _ _ _ _ us hl => match us, hl with | [_, _, _, _], _ => rfl) (fun vs H Q E h => by obtain ⟨l, t, w, rs, x0, x1, y0, y1, dx, dy, rfl, _⟩ := h; rfl) (fun cdv A outer s H vs Q E hr h => ?_)
  obtain ⟨l, t, wd, rs, x0, x1, y0, y1, dx, dy, rfl, hl, ht, g, k⟩ := h
  refine ⟨_, (pss_cons (ps_asg (pv 1) (pg_tup rfl (pgs_cons (pg_name (i := 4) sc_copied_rows.nd rfl (Or.inl rfl)) (pgs_cons (pg_name (i := 5) sc_copied_rows.nd rfl (Or.inl rfl)) (pgs_cons (pg_name (i := 6) sc_copied_rows.nd rfl (Or.inl rfl)) (pgs_cons (pg_name (i := 7) sc_copied_rows.nd rfl (Or.inl rfl)) pgs_nil))))))
      (pss_cons (ps_par (i := 8) (j := 9) (by rfl) sc_copied_rows.nd rfl rfl (by decide) rfl rfl (pa_cons (pe_callB call_len_str (by rfl) T.n_len (by decide +kernel) (pa_cons (pe_ix ix_list (pv 0) pe_int (fun _ _ => rfl)) pa_nil)) (pa_cons (pe_callB call_len_seq (by rfl) T.n_len (by decide +kernel) (pa_cons (pv 0) pa_nil)) pa_nil)) (by rfl))
      (pss_cons (ps_asg (pe_callR G_clipped (hr.mono (by decide)) T.m_clipped T.k_clipped pass0 (pa_cons (pv 4) (pa_cons (pv 5) (pa_cons (pv 8) pa_nil)))) (pg_tup rfl (pgs_cons (pg_name (i := 4) sc_copied_rows.nd rfl (Or.inl rfl)) (pgs_cons (pg_name (i := 5) sc_copied_rows.nd rfl (Or.inl rfl)) pgs_nil))))
      (pss_cons (ps_asg (pe_callR G_clipped (hr.mono (by decide)) T.m_clipped T.k_clipped pass0 (pa_cons (pv 6) (pa_cons (pv 7) (pa_cons (pv 9) pa_nil)))) (pg_tup rfl (pgs_cons (pg_name (i := 6) sc_copied_rows.nd rfl (Or.inl rfl)) (pgs_cons (pg_name (i := 7) sc_copied_rows.nd rfl (Or.inl rfl)) pgs_nil))))
      (pss_cons (ps_asg (pe_callR G_clipped (hr.mono (by decide)) T.m_clipped T.k_clipped pass0 (pa_cons (pe_op op_add (pv 4) (pv 2)) (pa_cons (pe_op op_add (pv 5) (pv 2)) (pa_cons (pv 8) pa_nil)))) (pg_tup rfl (pgs_cons (pg_name (i := 4) sc_copied_rows.nd rfl (Or.inl rfl)) (pgs_cons (pg_name (i := 5) sc_copied_rows.nd rfl (Or.inl rfl)) pgs_nil))))
      (pss_cons (ps_asg (pe_callR G_clipped (hr.mono (by decide)) T.m_clipped T.k_clipped pass0 (pa_cons (pe_op op_add (pv 6) (pv 3)) (pa_cons (pe_op op_add (pv 7) (pv 3)) (pa_cons (pv 9) pa_nil)))) (pg_tup rfl (pgs_cons (pg_name (i := 6) sc_copied_rows.nd rfl (Or.inl rfl)) (pgs_cons (pg_name (i := 7) sc_copied_rows.nd rfl (Or.inl rfl)) pgs_nil))))
      (pss_cons (ps_set (i := 10) sc_copied_rows.nd rfl (Or.inl rfl) (pe_callTy call_listK (by rfl) T.n_list (by decide +kernel) (pa_cons (pv 0) pa_nil)))
      (pss_cons (ps_if (pt_cmpR op_lt (pv 4) (pv 5) (nomark _))
          (pss_one (ps_for PassesOwn.never rfl (pi_range2L rfl T.n_range (pa_cons (pv 6) (pa_cons (pv 7) pa_nil))) (pg_name (i := 11) sc_copied_rows.nd rfl (Or.inl rfl))
              (pss_one (ps_asg (pe_op op_add_str (pe_op op_add_str (pe_slice sl_str (pe_ix ix_list (pv 0) (pv 11) (fun _ _ => rfl)) po_none (po_some (pv 4))) (pe_slice sl_str (pe_ix ix_list (pv 0) (pe_op op_sub (pv 11) (pv 3)) (fun _ _ => rfl)) (po_some (pe_op op_sub (pv 4) (pv 2))) (po_some (pe_op op_sub (pv 5) (pv 2))))) (pe_slice sl_str (pe_ix ix_list (pv 0) (pv 11) (fun _ _ => rfl)) (po_some (pv 5)) po_none)) (pg_sub (pv 10) (pv 11) set_list)))))
          pss_nil)
      (pss_one (ps_ret (pv 10))))))))))), ?_⟩
  simp only [tSeq, tIfS, tTest, tB, tAnd, tOr, tNot, tAndV, tOrV, tNotV, tIf, tOp, tUn, tChain, rEq, rNe, rI0, rI, rU, tCallR, tCons, tNil, tC, tVar, tRet, tRetN, tTup_k, tLst_k, tCB, tNext, tAsg, gName, gTup, gCons, gNil, tDrop, tPar, tFld, ClX.tCVal, tPropR, rBin, rBinT, rNeOwn, rSetL_k, gSub, tMakeK_k, tMethR, rInO, tDNewK_k, tYes, wipe, tMakeR_k, tSMeth, tSMethK, rMulS, decide_true, tNever, sFld, rIsiT, and_false, rListOf, rTupOf, rLenSeq, rIxL, rIxT, rIxS, rCat_k, rRep_k, rSlL_k, rSlS, rNewStrs_k, rAppend_k, tBM, tBM0, tM0, tM1, tSl, tNoPart, tPart, tLc_k, tFor_k, iList, iTup, iEnumT, iRng1, iRng2, iRng2L, iStr, L2.start, List.map, List.length_cons, List.length_nil, List.cons_append, List.nil_append, List.getElem?_cons_succ, List.getElem?_cons_zero, Option.some.injEq, V.int.injEq, V.bl.injEq, V.str.injEq, V.ref.injEq, exists_eq_left', exists_eq_left, and_assoc, exists_and_left, exists_eq, exists_eq', true_and, and_true, List.set_cons_zero, List.set_cons_succ, List.set, decide_eq_true_eq, Bool.not_eq_true', if_true, if_false, rIx, cx_K, nox_K, List.replicate_succ, List.replicate_zero, Nat.reduceSub, Bool.true_eq_false, Bool.false_eq_true, Nat.reduceAdd, List.cons.injEq, reduceCtorEq, false_and, false_or, or_false, tAug, rSetO, rJoin, rExtend]
  obtain ⟨r0, hr0, ha0⟩ := at0 g
  have hw0 := (g.at_ hr0).1
  have q1 := g.w1
  have q2 := g.l1
  refine ⟨_, SqT.of ht, rfl, _, _, rfl, _, _, rfl, _, _, rfl, _, _, rfl, rfl, ?_⟩
  refine ⟨_, SqL.of hl, _, ha0, _, rfl, by rw [SX.S_len, hw0]; exact size200 q1, _, .inl (SqL.of hl), ?_⟩
  rw [SX.S_len, hw0, rowsV_len]
  refine ⟨_, _, _, rfl, fun t1 H1 f1 => ?_⟩
  refine ⟨_, rfl, _, SqT.of f1.at_, rfl, _, _, rfl, _, _, rfl, rfl, _, _, _, rfl, fun t2 H2 f2 => ?_⟩
  refine ⟨_, rfl, _, SqT.of f2.at_, rfl, _, _, rfl, _, _, rfl, rfl, _, rfl, _, rfl, _, _, _, rfl, fun t3 H3 f3 => ?_⟩
  refine ⟨_, rfl, _, SqT.of f3.at_, rfl, _, _, rfl, _, _, rfl, rfl, _, rfl, _, rfl, _, _, _, rfl, fun t4 H4 f4 => ?_⟩
  refine ⟨_, rfl, _, SqT.of f4.at_, rfl, _, _, rfl, _, _, rfl, rfl, ?_⟩
  have s04 := ((f1.same.trans f2.same).trans f3.same).trans f4.same
  have hl4 := s04 _ _ hl
  clear f1 f2 f3 f4
  refine ⟨_, .inl (SqL.of hl4), kN.mk fun nw H5 f5 => ⟨_, rfl, _, rfl, ?_⟩⟩
  have hl5 := f5.get hl4
  have nnw : Fresh H H5 nw (.lst (rowsV rs)) := ⟨s04.trans f5.same, f5.at_, s04.free f5.new⟩
  clear f5 hl4 s04
  by_cases hx : lowI (lowI x0 + dx) < highI (highI x1 wd + dx) wd
  · rw [if_pos hx]
    refine ⟨_, rfl, _, rfl, ?_⟩
    obtain ⟨lx, elx⟩ : ∃ m : Nat, (m : Int) = lowI (lowI x0 + dx) := ⟨(lowI (lowI x0 + dx)).toNat, by have := low0 (lowI x0 + dx); omega⟩
    obtain ⟨ex, eex⟩ : ∃ m : Nat, (m : Int) = highI (highI x1 wd + dx) wd := ⟨(highI (highI x1 wd + dx) wd).toNat, by have := low0 (lowI x0 + dx); omega⟩
    obtain ⟨bx, ebx⟩ : ∃ m : Nat, (m : Int) = lx - dx := ⟨((lx : Int) - dx).toNat, by have := low0 x0; rw [elx]; unfold lowI at this ⊢; split at this <;> split <;> split <;> omega⟩
    have hex : ex ≤ wd := by have := high_le (highI x1 wd + dx) wd; omega
    obtain ⟨cx, ecx⟩ : ∃ m : Nat, (m : Int) = ex - dx := ⟨((ex : Int) - dx).toNat, by omega⟩
    have hcx : cx ≤ wd := by
      have := high_le x1 wd
      unfold highI at eex this
      split at eex <;> split at eex <;> omega
    have hty := low0 (lowI y0 + dy)
    have htf := high_le (highI y1 rs.length + dy) rs.length
    rw [← elx, ← eex]
    have hlt : lx < ex := by omega
    refine kFor.it walk_range (fun i σ H' => Fresh H H' nw (.lst (rowsV (partRs rs (lowI (lowI y0 + dy)) (lowI (lowI y0 + dy) + (i : Nat)) fun j r => cpR r (rs.getD ((j : Int) - dy).toNat []) x0 x1 dx))) ∧ ∃ v11, σ = [some (.ref l), some (.ref t), some (.int dx), some (.int dy), some (.int lx), some (.int ex), some (.int (lowI (lowI y0 + dy))), some (.int (highI (highI y1 rs.length + dy) rs.length)), some (.int wd), some (.int rs.length), some (.ref nw), v11]) ⟨?_, _, rfl⟩ (fun _ _ _ _ _ => trivial) (fun i xv σ H6 H7 hi hP hY => ?_) fun σ H6 hP => ?_
    · rw [part_none fun j _ => by omega]
      exact nnw
    · obtain ⟨f6, v11, rfl⟩ := hP
      obtain ⟨rfl, rfl⟩ := hY
      obtain ⟨j, hj⟩ : ∃ j : Nat, (j : Int) = lowI (lowI y0 + dy) + i := ⟨(lowI (lowI y0 + dy) + i).toNat, by omega⟩
      have hjl : j < rs.length := by omega
      obtain ⟨sj, hsj⟩ : ∃ m : Nat, (m : Int) = j - dy := ⟨((j : Int) - dy).toNat, by have := low0 y0; unfold lowI at hj this; split at this <;> split at hj <;> split at hj <;> omega⟩
      have hsl : sj < rs.length := by
        have := high_le y1 rs.length
        have h2 : (j : Int) < highI (highI y1 rs.length + dy) rs.length := by omega
        unfold highI at h2 this
        split at h2 <;> split at h2 <;> omega
      obtain ⟨r, hr'⟩ : ∃ r, rs[j]? = some r := ⟨_, List.getElem?_eq_getElem hjl⟩
      obtain ⟨q, hq'⟩ : ∃ r, rs[sj]? = some r := ⟨_, List.getElem?_eq_getElem hsl⟩
      obtain ⟨hw, hd⟩ := g.at_ hr'
      obtain ⟨hwq, hdq⟩ := g.at_ hq'
      have hv : (rowsV rs)[j]? = some (.str (S r)) := by rw [List.getElem?_map, hr']; rfl
      have hvq : (rowsV rs)[sj]? = some (.str (S q)) := by rw [List.getElem?_map, hq']; rfl
      have hl6 := f6.get hl
      simp only [tSeq, tIfS, tTest, tB, tAnd, tOr, tNot, tAndV, tOrV, tNotV, tIf, tOp, tUn, tChain, rEq, rNe, rI0, rI, rU, tCallR, tCons, tNil, tC, tVar, tRet, tRetN, tTup_k, tLst_k, tCB, tNext, tAsg, gName, gTup, gCons, gNil, tDrop, tPar, tFld, ClX.tCVal, tPropR, rBin, rBinT, rNeOwn, rSetL_k, gSub, tMakeK_k, tMethR, rInO, tDNewK_k, tYes, wipe, tMakeR_k, tSMeth, tSMethK, rMulS, decide_true, tNever, sFld, rIsiT, and_false, rListOf, rTupOf, rLenSeq, rIxL, rIxT, rIxS, rCat_k, rRep_k, rSlL_k, rSlS, rNewStrs_k, rAppend_k, tBM, tBM0, tM0, tM1, tSl, tNoPart, tPart, tLc_k, tFor_k, iList, iTup, iEnumT, iRng1, iRng2, iRng2L, iStr, L2.start, List.map, List.length_cons, List.length_nil, List.cons_append, List.nil_append, List.getElem?_cons_succ, List.getElem?_cons_zero, Option.some.injEq, V.int.injEq, V.bl.injEq, V.str.injEq, V.ref.injEq, exists_eq_left', exists_eq_left, and_assoc, exists_and_left, exists_eq, exists_eq', true_and, and_true, List.set_cons_zero, List.set_cons_succ, List.set, decide_eq_true_eq, Bool.not_eq_true', if_true, if_false, rIx, cx_K, nox_K, List.replicate_succ, List.replicate_zero, Nat.reduceSub, Bool.true_eq_false, Bool.false_eq_true, Nat.reduceAdd, List.cons.injEq, reduceCtorEq, false_and, false_or, or_false, tAug, rSetO, rJoin, rExtend]
      rw [← hj, ← hsj, ← ebx, ← ecx]
      have z200 : ∀ {r : List Nat}, r.length = wd → (S r).length ≤ sizeLine := fun e => by rw [SX.S_len, e]; exact size200 q1
      refine ⟨_, SqL.of hl6, _, atI_nat hv, _, rfl, z200 hw, _, SqL.of hl6, _, atI_nat hvq, _, rfl, z200 hwq, ?_, _, SqL.of hl6, _, atI_nat hv, _, rfl, z200 hw, ?_, _, f6.at_, j, ?_, kPutS.mk fun H8 p8 => ?_⟩
      · rw [cut_to (by omega), cutS_mid (by omega) (by omega), SX.S_len, SX.S_len, List.length_take, List.length_take, List.length_drop]
        exact size200 (by omega)
      · rw [cut_to (by omega), cutS_mid (by omega) (by omega), cut_from (by omega), SX.S_cat, SX.S_len, SX.S_len, List.length_append, List.length_take, List.length_take, List.length_drop, List.length_drop]
        exact size200 (by omega)
      · unfold ixN
        rw [if_pos (by omega), if_pos (by rw [rowsV_len, part_len]; omega), Int.toNat_natCast]
      · have ec : cx - bx = ex - lx := by omega
        have es : ((j : Int) - dy).toNat = sj := by omega
        have eq : rs.getD ((j : Int) - dy).toNat [] = q := by rw [es, List.getD_eq_getElem?_getD, hq', Option.getD_some]
        have e0 := cpR_cut (r := r) (src := q) (x0 := x0) (x1 := x1) (dx := dx) (b := bx) (by rw [hw, hwq]) elx (by rw [hw]; exact eex) ebx hlt
        have e1 := part_step (f := fun j r => cpR r (rs.getD ((j : Int) - dy).toNat []) x0 x1 dx) hj hr'
        rw [eq] at e1
        rw [cut_to (by omega), cutS_mid (by omega) (by omega), cut_from (by omega), SX.S_cat, SX.S_cat, ec, e0, rowsV_set, e1] at p8
        exact ⟨fun b o e => p8.get (f6.ne e) (f6.get e), p8.at_, f6.new⟩
    · obtain ⟨f6, v11, rfl⟩ := hP
      simp only [tSeq, tIfS, tTest, tB, tAnd, tOr, tNot, tAndV, tOrV, tNotV, tIf, tOp, tUn, tChain, rEq, rNe, rI0, rI, rU, tCallR, tCons, tNil, tC, tVar, tRet, tRetN, tTup_k, tLst_k, tCB, tNext, tAsg, gName, gTup, gCons, gNil, tDrop, tPar, tFld, ClX.tCVal, tPropR, rBin, rBinT, rNeOwn, rSetL_k, gSub, tMakeK_k, tMethR, rInO, tDNewK_k, tYes, wipe, tMakeR_k, tSMeth, tSMethK, rMulS, decide_true, tNever, sFld, rIsiT, and_false, rListOf, rTupOf, rLenSeq, rIxL, rIxT, rIxS, rCat_k, rRep_k, rSlL_k, rSlS, rNewStrs_k, rAppend_k, tBM, tBM0, tM0, tM1, tSl, tNoPart, tPart, tLc_k, tFor_k, iList, iTup, iEnumT, iRng1, iRng2, iRng2L, iStr, L2.start, List.map, List.length_cons, List.length_nil, List.cons_append, List.nil_append, List.getElem?_cons_succ, List.getElem?_cons_zero, Option.some.injEq, V.int.injEq, V.bl.injEq, V.str.injEq, V.ref.injEq, exists_eq_left', exists_eq_left, and_assoc, exists_and_left, exists_eq, exists_eq', true_and, and_true, List.set_cons_zero, List.set_cons_succ, List.set, decide_eq_true_eq, Bool.not_eq_true', if_true, if_false, rIx, cx_K, nox_K, List.replicate_succ, List.replicate_zero, Nat.reduceSub, Bool.true_eq_false, Bool.false_eq_true, Nat.reduceAdd, List.cons.injEq, reduceCtorEq, false_and, false_or, or_false, tAug, rSetO, rJoin, rExtend]
      refine k nw H6 ?_
      rw [← copy_clip]
      rw [part_congr (a' := lowI (lowI y0 + dy)) (b' := highI (highI y1 rs.length + dy) rs.length) fun j _ => by omega] at f6
      exact f6
  · rw [if_neg hx]
    refine k nw H5 ?_
    rw [copy_none g hx]
    exact nnw
theorem ok_can_copy (T : Txt K mg a) : FnR P w K mg base CX0 3 a.Canvas_copy_box (spCanCopy a.Canvas) := by
  have G_copied_rows : FnR P w K mg base CX0 2 a.copied_rows spCopied := ok_copied T
  refine T.d_Canvas_copy_box.ok sc_Canvas_copy_box (fun _ _ _ _ _ _ us hl => match us, hl with | [_, _, _, _], _ => rfl) (fun vs H Q E h => by obtain ⟨x, t, w, rs, x0, x1, y0, y1, dx, dy, rfl, _⟩ := h; rfl) (fun cdv A outer s H vs Q E hr h => ?_)
  obtain ⟨x, t, wd, rs, x0, x1, y0, y1, dx, dy, rfl, ⟨cx, tr, hx, hrow⟩, g, ht, k⟩ := h
  refine ⟨_, (pss_one (ps_fld (pv 0) (pe_callR G_copied_rows (hr.mono (by decide)) T.m_copied_rows T.k_copied_rows pass0 (pa_cons (pe_fld (pv 0) rfl) (pa_cons (pv 1) (pa_cons (pv 2) (pa_cons (pv 3) pa_nil))))) rfl)), ?_⟩
  simp only [tSeq, tIfS, tTest, tB, tAnd, tOr, tNot, tAndV, tOrV, tNotV, tIf, tOp, tUn, tChain, rEq, rNe, rI0, rI, rU, tCallR, tCons, tNil, tC, tVar, tRet, tRetN, tTup_k, tLst_k, tCB, tNext, tAsg, gName, gTup, gCons, gNil, tDrop, tPar, tFld, ClX.tCVal, tPropR, rBin, rBinT, rNeOwn, rSetL_k, gSub, tMakeK_k, tMethR, rInO, tDNewK_k, tYes, wipe, tMakeR_k, tSMeth, tSMethK, rMulS, decide_true, tNever, sFld, rIsiT, and_false, rListOf, rTupOf, rLenSeq, rIxL, rIxT, rIxS, rCat_k, rRep_k, rSlL_k, rSlS, rNewStrs_k, rAppend_k, tBM, tBM0, tM0, tM1, tSl, tNoPart, tPart, tLc_k, tFor_k, iList, iTup, iEnumT, iRng1, iRng2, iRng2L, iStr, L2.start, List.map, List.length_cons, List.length_nil, List.cons_append, List.nil_append, List.getElem?_cons_succ, List.getElem?_cons_zero, Option.some.injEq, V.int.injEq, V.bl.injEq, V.str.injEq, V.ref.injEq, exists_eq_left', exists_eq_left, and_assoc, exists_and_left, exists_eq, exists_eq', true_and, and_true, List.set_cons_zero, List.set_cons_succ, List.set, decide_eq_true_eq, Bool.not_eq_true', if_true, if_false, rIx, cx_K, nox_K, List.replicate_succ, List.replicate_zero, Nat.reduceSub, Bool.true_eq_false, Bool.false_eq_true, Nat.reduceAdd, List.cons.injEq, reduceCtorEq, false_and, false_or, or_false, tAug, rSetO, rJoin, rExtend]
  refine ⟨_, cx, _, hx, T.c_Canvas.cl, T.a_Canvas__rows, _, rfl, tr, t, wd, rs, x0, x1, y0, y1, dx, dy, rfl, hrow, ht, g, fun t2 H2 f2 => ?_⟩
  refine ⟨_, cx, _, f2.get hx, T.c_Canvas.cl, T.a_Canvas__rows, by show 1 < 1000; decide, k _ ?_ ⟨cx, t2, upd_same, ?_⟩⟩
  · intro b o n e
    rw [upd_ne n]
    exact f2.get e
  · rw [upd_ne (ne_of f2.at_ (f2.get hx) (fun z => by cases z))]
    exact f2.at_
end
end Pf
end
section
namespace Pf
open PySem PySem.Spec PyProof.Rows L2 Ow StX
theorem CanT.can {H : Hp} {C x t : Addr} {rs : List (List Nat)} (h : CanT H C x t rs) : Can H C x rs := by
  obtain ⟨dx, h1, h2⟩ := h
  exact ⟨dx, t, h1, h2⟩
theorem Can.ct {H : Hp} {C x : Addr} {rs : List (List Nat)} (h : Can H C x rs) : ∃ t, CanT H C x t rs := by
  obtain ⟨dx, t, h1, h2⟩ := h
  exact ⟨t, dx, h1, h2⟩
/-! ### copies -/
def copyF (b px py : Addr) : List (Str × V) := putF "y" (.ref py) (putF "x" (.ref px) (putF "box" (.ref b) []))
theorem kBX : ¬ (("box" : Str) = "x") := by decide +kernel
theorem kBY : ¬ (("box" : Str) = "y") := by decide +kernel
theorem kXY : ¬ (("x" : Str) = "y") := by decide +kernel
theorem kSB : ¬ (("_slope" : Str) = "box") := by decide +kernel
theorem kSX : ¬ (("_slope" : Str) = "x") := by decide +kernel
theorem kSY : ¬ (("_slope" : Str) = "y") := by decide +kernel
theorem k0B : ¬ (("x0" : Str) = "box") := by decide +kernel
theorem k0X : ¬ (("x0" : Str) = "x") := by decide +kernel
theorem copyF_box (b px py : Addr) : (copyF b px py).lookup ("box" : Str) = some (.ref b) := by
  unfold copyF
  rw [lookup_putF, if_neg kBY, lookup_putF, if_neg kBX, lookup_putF, if_pos rfl]
theorem copyF_x (b px py : Addr) : (copyF b px py).lookup ("x" : Str) = some (.ref px) := by
  unfold copyF
  rw [lookup_putF, if_neg kXY, lookup_putF, if_pos rfl]
theorem copyF_y (b px py : Addr) : (copyF b px py).lookup ("y" : Str) = some (.ref py) := by
  unfold copyF
  rw [lookup_putF, if_pos rfl]
def CopyAt (H : Hp) (D C d b : Addr) (px py : Pl) : Prop := ∃ dx x y, H d = some (.ins D dx (copyF b x y)) ∧ PlA H C x px ∧ PlA H C y py
theorem CopyAt.same {H H' : Hp} {D C d b : Addr} {px py : Pl} (h : CopyAt H D C d b px py) (s : Same H H') : CopyAt H' D C d b px py := by
  obtain ⟨dx, x, y, e, h1, h2⟩ := h
  exact ⟨dx, x, y, s _ _ e, h1.same s, h2.same s⟩
def spChkBox (B : Addr) : Sp := fun vs H Q _ => ∃ b : Addr, vs = [.ref b] ∧ InsAt H b B ∧ Q .non H
def spCopyInit (K : PySem.W.Frag) (D B C : Addr) : Sp := fun vs H Q _ => ∃ (d dx b : Addr) (v u : V) (q : Bx) (px py : Pl), vs = [.ref d, .ref b, v, u] ∧ H d = some (.ins D dx []) ∧ BoxAt H B C b q ∧ InP K C H v px ∧ InP K C H u py ∧
  ∀ H', SameBut d H H' → CopyAt H' D C d b px py → BoxAt H' B C b q → Q .non H'
def spCopyOn (D B C Cv : Addr) : Sp := fun vs H Q _ => ∃ (d b x : Addr) (q : Bx) (px py : Pl) (w : Nat) (rs : List (List Nat)), vs = [.ref d, .ref x] ∧ CopyAt H D C d b px py ∧ BoxAt H B C b q ∧ BdB q ∧ BdP px ∧ BdP py ∧ Can H Cv x rs ∧ Good w rs ∧
  ∀ H', SameBut x H H' → Can H' Cv x (copyRs rs (plV q.x0 w) (plV q.x1 w) (plV q.y0 rs.length) (plV q.y1 rs.length) (plV px w - plV q.x0 w) (plV py rs.length - plV q.y0 rs.length)) → Q .non H'
/-- a box other than an instance that is no box and no place -/
theorem BoxAt.moveF {H H' : Hp} {B C D b d dx : Addr} {q : Bx} {fs : List (Str × V)} (h : BoxAt H B C b q) (hd : H d = some (.ins D dx fs)) (hf : fs.lookup ("x0" : Str) = none) (hs : fs.lookup ("_slope" : Str) = none) (m : ∀ b' u, b' ≠ d → H b' = some u → H' b' = some u) : BoxAt H' B C b q := by
  obtain ⟨db, p0, p1, p2, p3, e, h0, h1, h2, h3⟩ := h
  refine ⟨db, p0, p1, p2, p3, m _ _ (fun z => ?_) e, h0.move (ne_box hd hs h0) m, h1.move (ne_box hd hs h1) m, h2.move (ne_box hd hs h2) m, h3.move (ne_box hd hs h3) m⟩
  rw [z, hd] at e
  have e := Option.some.inj e
  injection e with _ _ e
  have q := bxF_x0 p0 p1 p2 p3
  rw [← e, hf] at q
  cases q
section
variable {P : Program} {w : World} {K : PySem.W.Frag} {mg : Str → Option Value} {base : Heap} {a : Adr}
set_option maxHeartbeats 4000000
theorem ok_chkbox (T : Txt K mg a) : FnR P w K mg base CX0 1 a.check_box (spChkBox a.Box) := by
  refine T.d_check_box.ok sc_check_box (fun _ _ _ _ _ _ us hl => match us, hl with | [_], _ => rfl) (fun vs H Q E h => by obtain ⟨b, rfl, _⟩ := h; rfl) (fun cdv A outer s H vs Q E hr h => ?_)
  obtain ⟨b, rfl, ⟨dx, fs, hb⟩, k⟩ := h
  refine ⟨_, (pss_one (ps_if (pt_not (pt_val (pe_callB call_isi (by rfl) T.n_isinstance (by decide +kernel) (pa_cons (pv 0) (pa_cons (pe_glob (v := .ref a.Box) rfl T.m_Box rfl) pa_nil)))))
          (pss_one ps_never)
          pss_nil)), ?_⟩
  simp only [tSeq, tIfS, tTest, tB, tAnd, tOr, tNot, tAndV, tOrV, tNotV, tIf, tOp, tUn, tChain, rEq, rNe, rI0, rI, rU, tCallR, tCons, tNil, tC, tVar, tRet, tRetN, tTup_k, tLst_k, tCB, tNext, tAsg, gName, gTup, gCons, gNil, tDrop, tPar, tFld, ClX.tCVal, tPropR, rBin, rBinT, rNeOwn, rSetL_k, gSub, tMakeK_k, tMethR, rInO, tDNewK_k, tYes, wipe, tMakeR_k, tSMeth, tSMethK, rMulS, decide_true, tNever, sFld, rIsiT, and_false, rListOf, rTupOf, rLenSeq, rIxL, rIxT, rIxS, rCat_k, rRep_k, rSlL_k, rSlS, rNewStrs_k, rAppend_k, tBM, tBM0, tM0, tM1, tSl, tNoPart, tPart, tLc_k, tFor_k, iList, iTup, iEnumT, iRng1, iRng2, iRng2L, iStr, L2.start, List.map, List.length_cons, List.length_nil, List.cons_append, List.nil_append, List.getElem?_cons_succ, List.getElem?_cons_zero, Option.some.injEq, V.int.injEq, V.bl.injEq, V.str.injEq, V.ref.injEq, exists_eq_left', exists_eq_left, and_assoc, exists_and_left, exists_eq, exists_eq', true_and, and_true, List.set_cons_zero, List.set_cons_succ, List.set, decide_eq_true_eq, Bool.not_eq_true', if_true, if_false, rIx, cx_K, nox_K, List.replicate_succ, List.replicate_zero, Nat.reduceSub, Bool.true_eq_false, Bool.false_eq_true, Nat.reduceAdd, List.cons.injEq, reduceCtorEq, false_and, false_or, or_false, tAug, rSetO, rStrO, rUn, rBinI, rBinR, rJoin, tJs, tOrT, rIsi, tCallOI, rBinT, tFCall, tCall, tPar3, tFmtO, tMethSF, tFmt, rExtend]
  refine ⟨_, _, .own _, T.c_Box.tyOf hb, true, kit_self, ?_⟩
  rw [if_neg (by decide)]
  exact k
theorem ok_copyinit (T : Txt K mg a) : FnR P w K mg base (CX P w) 10 a.Copy_init (spCopyInit K a.Copy a.Box a.Place) := by
  have G_check_box : FnR P w K mg base CX0 1 a.check_box (spChkBox a.Box) := ok_chkbox T
  have G_checked_place : FnR P w K mg base (CX P w) 9 a.checked_place (spCP K a.Place a.BadPlace) := ok_checked T
  refine T.d_Copy_init.okX sc_Copy_init (fun _ _ _ _ _ _ us hl => match us, hl with | [_, _, _, _], _ => rfl) (fun vs H Q E h => by obtain ⟨d, dx, b, v, u, q, px, py, rfl, _⟩ := h; rfl) (fun cdv A outer s H vs Q E hr h => ?_)
  obtain ⟨d, dx, b, v, u, q, px, py, rfl, hd, hb, hv, hu, k⟩ := h
  refine ⟨_, (pss_cons (ps_expr (pe_callR G_check_box (hr.mono (by decide)) T.m_check_box T.k_check_box pass0 (pa_cons (pv 1) pa_nil)))
      (pss_cons (ps_fld (pv 0) (pv 1) rfl)
      (pss_cons (ps_fld (pv 0) (pe_callR G_checked_place (hr.mono (by decide)) T.m_checked_place T.k_checked_place (passUp (takes_of rfl rfl rfl rfl)) (pa_cons (pv 2) (pa_cons pe_str pa_nil))) rfl)
      (pss_one (ps_fld (pv 0) (pe_callR G_checked_place (hr.mono (by decide)) T.m_checked_place T.k_checked_place (passUp (takes_of rfl rfl rfl rfl)) (pa_cons (pv 3) (pa_cons pe_str pa_nil))) rfl))))), ?_⟩
  simp only [tSeq, tIfS, tTest, tB, tAnd, tOr, tNot, tAndV, tOrV, tNotV, tIf, tOp, tUn, tChain, rEq, rNe, rI0, rI, rU, tCallR, tCons, tNil, tC, tVar, tRet, tRetN, tTup_k, tLst_k, tCB, tNext, tAsg, gName, gTup, gCons, gNil, tDrop, tPar, tFld, ClX.tCVal, tPropR, rBin, rBinT, rNeOwn, rSetL_k, gSub, tMakeK_k, tMethR, rInO, tDNewK_k, tYes, wipe, tMakeR_k, tSMeth, tSMethK, rMulS, decide_true, tNever, sFld, rIsiT, and_false, rListOf, rTupOf, rLenSeq, rIxL, rIxT, rIxS, rCat_k, rRep_k, rSlL_k, rSlS, rNewStrs_k, rAppend_k, tBM, tBM0, tM0, tM1, tSl, tNoPart, tPart, tLc_k, tFor_k, iList, iTup, iEnumT, iRng1, iRng2, iRng2L, iStr, L2.start, List.map, List.length_cons, List.length_nil, List.cons_append, List.nil_append, List.getElem?_cons_succ, List.getElem?_cons_zero, Option.some.injEq, V.int.injEq, V.bl.injEq, V.str.injEq, V.ref.injEq, exists_eq_left', exists_eq_left, and_assoc, exists_and_left, exists_eq, exists_eq', true_and, and_true, List.set_cons_zero, List.set_cons_succ, List.set, decide_eq_true_eq, Bool.not_eq_true', if_true, if_false, rIx, cx_K, nox_K, List.replicate_succ, List.replicate_zero, Nat.reduceSub, Bool.true_eq_false, Bool.false_eq_true, Nat.reduceAdd, List.cons.injEq, reduceCtorEq, false_and, false_or, or_false, tAug, rSetO, rStrO, rUn, rBinI, rBinR, rJoin, tJs, tOrT, rIsi, tCallOI, rBinT, tFCall, tCall, tPar3, tFmtO, tMethSF, tFmt, rExtend]
  refine ⟨b, rfl, hb.ins, _, dx, _, hd, T.c_Copy.cl, T.a_Copy_box, by show 0 < 1000; decide, ?_⟩
  have m0 : ∀ b' u, b' ≠ d → H b' = some u → (upd H d (.ins a.Copy dx (putF "box" (.ref b) []))) b' = some u := fun b' u n e => by rw [upd_ne n]; exact e
  have cb0 := hb.moveF hd rfl rfl m0
  have v0 := hv.move hd rfl m0
  have u0 := hu.move hd rfl m0
  have l1 : ∀ b : Addr, (putF ("box" : Str) (.ref b) []).lookup ("_slope" : Str) = none := fun b => by rw [lookup_putF, if_neg kSB]; rfl
  have l2 : ∀ b x : Addr, (putF ("x" : Str) (.ref x) (putF ("box" : Str) (.ref b) [])).lookup ("_slope" : Str) = none := fun b x => by rw [lookup_putF, if_neg kSX]; exact l1 b
  have n1 : ∀ b : Addr, (putF ("box" : Str) (.ref b) []).lookup ("x0" : Str) = none := fun b => by rw [lookup_putF, if_neg k0B]; rfl
  have n2 : ∀ b x : Addr, (putF ("x" : Str) (.ref x) (putF ("box" : Str) (.ref b) [])).lookup ("x0" : Str) = none := fun b x => by rw [lookup_putF, if_neg k0X]; exact n1 b
  refine ⟨v, _, rfl, .inl ⟨_, _, _, v0, fun x1 H1 s1 p1 => ?_⟩⟩
  have hd1 := s1 _ _ (upd_same (H := H) (a := d) (o := .ins a.Copy dx (putF "box" (.ref b) [])))
  refine ⟨_, dx, _, hd1, T.c_Copy.cl, T.a_Copy_x, Nat.lt_of_le_of_lt (putF_le _ _ _) (by decide), ?_⟩
  have m1 : ∀ b' u, b' ≠ d → H1 b' = some u → (upd H1 d (.ins a.Copy dx (putF "x" (.ref x1) (putF "box" (.ref b) [])))) b' = some u := fun b' u n e => by rw [upd_ne n]; exact e
  have cb1 := (cb0.same s1).moveF hd1 (n1 b) (l1 b) m1
  have u1 := (u0.same s1).move hd1 (l1 b) m1
  have p1' := p1.move (ne_box hd1 (l1 b) p1) m1
  refine ⟨u, _, rfl, .inl ⟨_, _, _, u1, fun x2 H2 s2 p2 => ?_⟩⟩
  have hd2 := s2 _ _ (upd_same (H := H1) (a := d) (o := .ins a.Copy dx (putF "x" (.ref x1) (putF "box" (.ref b) []))))
  refine ⟨_, dx, _, hd2, T.c_Copy.cl, T.a_Copy_y, Nat.lt_of_le_of_lt (Nat.le_trans (putF_le _ _ _) (Nat.succ_le_succ (putF_le _ _ _))) (by decide), ?_⟩
  have m2 : ∀ b' u, b' ≠ d → H2 b' = some u → (upd H2 d (.ins a.Copy dx (copyF b x1 x2))) b' = some u := fun b' u n e => by rw [upd_ne n]; exact e
  exact k _ (fun b' u n e => m2 b' u n (s2 _ _ (m1 b' u n (s1 _ _ (m0 b' u n e))))) ⟨dx, x1, x2, upd_same, (p1'.same s2).move (ne_box hd2 (l2 b x1) (p1'.same s2)) m2, p2.move (ne_box hd2 (l2 b x1) p2) m2⟩ ((cb1.same s2).moveF hd2 (n2 b x1) (l2 b x1) m2)
theorem ok_copyon (T : Txt K mg a) : FnR P w K mg base CX0 9 a.Copy_on (spCopyOn a.Copy a.Box a.Place a.Canvas) := by
  have G_Canvas_width : FnR P w K mg base CX0 1 a.Canvas_width (spCanWidth a.Canvas) := ok_can_width T
  have G_Canvas_height : FnR P w K mg base CX0 1 a.Canvas_height (spCanHeight a.Canvas) := ok_can_height T
  have G_Box_call : FnR P w K mg base (CX P w) 6 a.Box_call (spBCall a.Box a.Place) := ok_bcall T
  have G_Place_call : FnR P w K mg base (CX P w) 4 a.Place_call (spPCallX K a.Place a.BadSize) := ok_p_callX T
  have G_copy_box : FnR P w K mg base CX0 3 a.Canvas_copy_box (spCanCopy a.Canvas) := ok_can_copy T
  refine T.d_Copy_on.ok sc_Copy_on (fun _ _ _ _ _ _ us hl => match us, hl with | [_, _], _ => rfl) (fun vs H Q E h => by obtain ⟨d, b, x, q, px, py, wd, rs, rfl, _⟩ := h; rfl) (fun cdv A outer s H vs Q E hr h => ?_)
  obtain ⟨d, b, x, q, px, py, wd, rs, rfl, ⟨df, ax, ay, hd, hx, hy⟩, hb, bd, bx, by_, hc, g, k⟩ := h
  obtain ⟨t, ct⟩ := hc.ct
  refine ⟨_, (pss_cons (ps_set (i := 2) sc_Copy_on.nd rfl (Or.inl rfl) (pe_fcall (pv 0) ⟨T.o_Box_call, T.f_Box_call, T.fi_Box_call⟩ G_Box_call (hr.mono (by decide)) (passUp LamX.takes0) (pa_cons (pe_propR (pv 1) T.c_Canvas.cl T.p_Canvas_width G_Canvas_width (hr.mono (by decide))  pass0) (pa_cons (pe_propR (pv 1) T.c_Canvas.cl T.p_Canvas_height G_Canvas_height (hr.mono (by decide))  pass0) pa_nil))))
      (pss_one (ps_expr (pe_methR (pv 1) T.c_Canvas.cl T.mt_copy_box G_copy_box (hr.mono (by decide)) pass0 (pa_cons (pv 2) (pa_cons (pe_op op_sub (pe_fcall (pv 0) ⟨T.o_Place_call, T.f_Place_call, T.fi_Place_call⟩ G_Place_call (hr.mono (by decide)) (passUp LamX.takes0)  (pa_cons (pe_propR (pv 1) T.c_Canvas.cl T.p_Canvas_width G_Canvas_width (hr.mono (by decide))  pass0) pa_nil)) (pe_ix ix_tup (pv 2) pe_int (fun _ _ => rfl))) (pa_cons (pe_op op_sub (pe_fcall (pv 0) ⟨T.o_Place_call, T.f_Place_call, T.fi_Place_call⟩ G_Place_call (hr.mono (by decide)) (passUp LamX.takes0)  (pa_cons (pe_propR (pv 1) T.c_Canvas.cl T.p_Canvas_height G_Canvas_height (hr.mono (by decide))  pass0) pa_nil)) (pe_ix ix_tup (pv 2) pe_int (fun _ _ => rfl))) pa_nil))))))), ?_⟩
  simp only [tSeq, tIfS, tTest, tB, tAnd, tOr, tNot, tAndV, tOrV, tNotV, tIf, tOp, tUn, tChain, rEq, rNe, rI0, rI, rU, tCallR, tCons, tNil, tC, tVar, tRet, tRetN, tTup_k, tLst_k, tCB, tNext, tAsg, gName, gTup, gCons, gNil, tDrop, tPar, tFld, ClX.tCVal, tPropR, rBin, rBinT, rNeOwn, rSetL_k, gSub, tMakeK_k, tMethR, rInO, tDNewK_k, tYes, wipe, tMakeR_k, tSMeth, tSMethK, rMulS, decide_true, tNever, sFld, rIsiT, and_false, rListOf, rTupOf, rLenSeq, rIxL, rIxT, rIxS, rCat_k, rRep_k, rSlL_k, rSlS, rNewStrs_k, rAppend_k, tBM, tBM0, tM0, tM1, tSl, tNoPart, tPart, tLc_k, tFor_k, iList, iTup, iEnumT, iRng1, iRng2, iRng2L, iStr, L2.start, List.map, List.length_cons, List.length_nil, List.cons_append, List.nil_append, List.getElem?_cons_succ, List.getElem?_cons_zero, Option.some.injEq, V.int.injEq, V.bl.injEq, V.str.injEq, V.ref.injEq, exists_eq_left', exists_eq_left, and_assoc, exists_and_left, exists_eq, exists_eq', true_and, and_true, List.set_cons_zero, List.set_cons_succ, List.set, decide_eq_true_eq, Bool.not_eq_true', if_true, if_false, rIx, cx_K, nox_K, List.replicate_succ, List.replicate_zero, Nat.reduceSub, Bool.true_eq_false, Bool.false_eq_true, Nat.reduceAdd, List.cons.injEq, reduceCtorEq, false_and, false_or, or_false, tAug, rSetO, rStrO, rUn, rBinI, rBinR, rJoin, tJs, tOrT, rIsi, tCallOI, rBinT, tFCall, tCall, tPar3, tFmtO, tMethSF, tFmt, rExtend]
  obtain ⟨dc, ec, er⟩ := id ct
  have wg := wid200 g.w0 g.w1
  have hg := wid200 g.l0 g.l1
  refine ⟨_, df, _, hd, T.c_Copy.cl, T.a_Copy_box, b, copyF_box b ax ay, dc, _, ec, x, t, wd, rs, rfl, ct, g, dc, _, ec, x, t, rs, rfl, ct, hb.ins, ?_⟩
  refine ⟨b, q, wd, rs.length, rfl, hb, wg.1, hg.1, bd.1.muls wg, bd.2.1.muls wg, bd.2.2.1.muls hg, bd.2.2.2.muls hg, fun ts H1 f1 => ?_⟩
  have e1 := f1.get ec
  have d1 := f1.get hd
  have c1 := ct.same f1.same
  have x1 := hx.same f1.same
  have y1 := hy.same f1.same
  have mx := bx.muls wg
  have my := by_.muls hg
  refine ⟨dc, _, e1, by rw [List.lookup_cons]; rfl, _, df, _, d1, T.c_Copy.cl, T.a_Copy_x, ax, copyF_x .., dc, _, e1, x, t, wd, rs, rfl, c1, g, x1.ins, ax, _, rfl, .inl ⟨_, _, _, wd, x1, rfl, wg.1, mx.1, mx.2, ?_⟩⟩
  refine ⟨ts, rfl, _, SqT.of f1.at_, _, rfl, _, rfl, _, rfl, _, df, _, d1, T.c_Copy.cl, T.a_Copy_y, ay, copyF_y .., dc, _, e1, x, t, rs, rfl, c1, y1.ins, ay, _, rfl, .inl ⟨_, _, _, rs.length, y1, rfl, hg.1, my.1, my.2, ?_⟩⟩
  refine ⟨ts, rfl, _, SqT.of f1.at_, _, rfl, _, rfl, _, rfl, ?_⟩
  exact ⟨x, ts, wd, rs, _, _, _, _, _, _, rfl, c1.can, g, f1.at_, fun H' s' c' => k H' ((SameBut.of f1.same).trans s') c'⟩
end
end Pf
end
section
namespace Pf
open PySem PySem.Spec PyProof.Rows L2 Ow StX
theorem Pen.obj {H : Hp} {p c : Addr} {n : Int} (P : Pen H p c n) : ∃ b r : Int, H p = some (.lst [.ref c, .int b, .int r]) := by
  obtain ⟨ns, b, r, h1, _⟩ := P
  exact ⟨b, r, h1⟩
theorem rows_ne {H : Hp} {p c t : Addr} {n : Int} {w : Nat} {rs : List (List Nat)} (P : Pen H p c n) (g : Good w rs) (h : H t = some (.lst (rowsV rs))) : t ≠ p := fun e => by
  obtain ⟨b, r, hp⟩ := P.obj
  rw [e, hp] at h
  cases rs with
  | nil => exact absurd g.l0 (by decide)
  | cons q s =>
    have h := (HO.lst.inj (Option.some.inj h))
    cases h
theorem rows_but {H H' : Hp} {p c t : Addr} {n : Int} {w : Nat} {rs : List (List Nat)} (h : H t = some (.lst (rowsV rs))) (g : Good w rs) (P : Pen H p c n) (s : SameBut p H H') : H' t = some (.lst (rowsV rs)) := s _ _ (rows_ne P g h) h
theorem Can.pen {H H' : Hp} {C x p c : Addr} {n : Int} {w : Nat} {rs : List (List Nat)} (h : Can H C x rs) (g : Good w rs) (P : Pen H p c n) (s : SameBut p H H') : Can H' C x rs := by
  obtain ⟨dx, t, h1, h2⟩ := h
  exact ⟨dx, t, s _ _ (P.ne h1 fun _ z => by cases z) h1, rows_but h2 g P s⟩
theorem Pen.can {H H' : Hp} {C x p c : Addr} {n : Int} {rs : List (List Nat)} (P : Pen H p c n) (h : Can H C x rs) (s : SameBut x H H') : Pen H' p c n := by
  obtain ⟨dx, t, h1, h2⟩ := h
  obtain ⟨ns, b, r, e1, e2, e⟩ := P
  exact ⟨ns, b, r, s _ _ (ne_of e1 h1 fun z => by cases z) e1, s _ _ (ne_of e2 h1 fun z => by cases z) e2, e⟩
/-! ### what is drawn for a copy -/
theorem Grid.ne_p {H : Hp} {p c l : Addr} {n : Int} {as : List Addr} {rs : List (List Nat)} (P : Pen H p c n) (g : Grid H l as rs) : l ≠ p := fun e => by
  obtain ⟨b, r, hp⟩ := P.obj
  have h := g.at_
  rw [e, hp] at h
  have h := HO.lst.inj (Option.some.inj h)
  match as with
  | [] => cases h
  | [_] => cases h
  | _ :: _ :: _ => cases h
theorem dig_ne_p {H : Hp} {p c b : Addr} {n : Int} {r : List Nat} (P : Pen H p c n) (h : H b = some (.lst (digV r))) : b ≠ p := fun e => by
  obtain ⟨b', r', hp⟩ := P.obj
  rw [e, hp] at h
  have h := HO.lst.inj (Option.some.inj h)
  cases r with
  | nil => cases h
  | cons x y => cases h
theorem Grid.pen {H H' : Hp} {p c l : Addr} {n : Int} {as : List Addr} {rs : List (List Nat)} (g : Grid H l as rs) (P : Pen H p c n) (s : SameBut p H H') : Grid H' l as rs :=
  g.of (s _ _ (g.ne_p P) g.at_) fun i b r _ _ e => s _ _ (dig_ne_p P e) e
theorem GrOk.pen {H H' : Hp} {p c l : Addr} {n : Int} {as : List Addr} {w : Nat} {rs : List (List Nat)} (g : GrOk H l as w rs) (P : Pen H p c n) (s : SameBut p H H') : GrOk H' l as w rs := ⟨g.1.pen P s, g.2⟩
structure Kp (Cv p c x l : Addr) (as : List Addr) (w : Nat) (rs : List (List Nat)) (n : Int) (H : Hp) : Prop where
  pen : Pen H p c n
  can : Can H Cv x rs
  gr : GrOk H l as w rs
theorem Kp.on {Cv p c x l : Addr} {as : List Addr} {w : Nat} {rs : List (List Nat)} {n : Int} {H H' : Hp} (k : Kp Cv p c x l as w rs n H) (s : Same H H') : Kp Cv p c x l as w rs n H' := ⟨k.pen.same s, k.can.same s, k.gr.same s⟩
theorem Kp.go {Cv p c x l : Addr} {as : List Addr} {w : Nat} {rs : List (List Nat)} {n m : Int} {H H' : Hp} (k : Kp Cv p c x l as w rs n H) (s : SameBut p H H') (P : Pen H' p c m) : Kp Cv p c x l as w rs m H' := ⟨P, k.can.pen k.gr.2.1 k.pen s, k.gr.pen k.pen s⟩
theorem Kp.le {Cv p c x l : Addr} {as : List Addr} {w : Nat} {rs : List (List Nat)} {n m : Int} {H : Hp} (k : Kp Cv p c x l as w rs n H) (h : n ≤ m) : Kp Cv p c x l as w rs m H := ⟨k.pen.le h, k.can, k.gr⟩
def spBoxL : Sp := fun vs H Q _ => ∃ (p c : Addr) (n : Int), vs = [.ref p] ∧ Pen H p c n ∧ n + 60 < 1048576 ∧ ∀ t q H', SmB q → SameBut p H H' → Pen H' p c (n + 20) → FourT H' t q → Q (.ref t) H'
theorem sm_in {m : Int} (h0 : 0 ≤ m) (h1 : m < 3) : SmB ⟨⟨0, m, 0⟩, ⟨2, 0 - m, 1⟩, ⟨0, m, 0⟩, ⟨2, 0 - m, 1⟩⟩ := by
  have e : Sm1 (0 - m) := ⟨by omega, by omega⟩
  have e' : Sm1 m := ⟨by omega, by omega⟩
  exact ⟨⟨sm0, e', sm0⟩, ⟨sm2, e, sm1⟩, ⟨sm0, e', sm0⟩, sm2, e, sm1⟩
def spNear : Sp := fun vs H Q _ => ∃ (p c tq : Addr) (q : Bx) (n : Int), vs = [.ref p, .ref tq] ∧ Pen H p c n ∧ n + 60 < 1048576 ∧ FourT H tq q ∧ SmB q ∧
  ∀ t tx ty px py H', BdP px → BdP py → SameBut p H H' → Pen H' p c (n + 9) → H' t = some (.tup [.ref tx, .ref ty]) → TupP H' tx px → TupP H' ty py → Q (.ref t) H'
def spBuiltC (D B C : Addr) : Sp := fun vs H Q _ => ∃ (p c tt tq tx ty : Addr) (q : Bx) (px py : Pl) (n : Int), vs = [.ref p, .ref tt] ∧ Pen H p c n ∧ n + 60 < 1048576 ∧ H tt = some (.tup [.str "copy", .ref tq, .ref tx, .ref ty]) ∧ FourT H tq q ∧ BdB q ∧ TupP H tx px ∧ BdP px ∧ TupP H ty py ∧ BdP py ∧
  ∀ d b H', SameBut p H H' → Pen H' p c (n + 6) → CopyAt H' D C d b px py → BoxAt H' B C b q → Q (.ref d) H'
def spIsPix : Sp := fun vs H Q _ => ∃ (l : Addr) (as : List Addr) (w : Nat) (rs : List (List Nat)) (x y : Int), vs = [.ref l, .int x, .int y] ∧ GrOk H l as w rs ∧ Q (.bl (decide (0 ≤ y ∧ y < rs.length ∧ 0 ≤ x ∧ x < w))) H
section
variable {P : Program} {w : World} {K : PySem.W.Frag} {mg : Str → Option Value} {base : Heap} {a : Adr}
set_option maxHeartbeats 4000000
theorem ok_boxL (T : Txt K mg a) : FnR P w K mg base CX0 4 a._law_box spBoxL := by
  have G__law_draw : FnR P w K mg base CX0 1 a._law_draw spPDraw := ok_pdraw T
  have G__law_place : FnR P w K mg base CX0 3 a._law_place spPlaceL := ok_place T
  refine T.d__law_box.ok sc__law_box (fun _ _ _ _ _ _ us hl => match us, hl with | [_], _ => rfl) (fun vs H Q E h => by obtain ⟨p, c, n, rfl, _⟩ := h; rfl) (fun cdv A outer s H vs Q E hr h => ?_)
  obtain ⟨p, c, n, rfl, P0, hn, k⟩ := h
  refine ⟨_, (pss_cons (ps_par (i := 1) (j := 2) (by rfl) sc__law_box.nd rfl rfl (by decide) rfl rfl (pa_cons (pe_callR G__law_draw (hr.mono (by decide)) T.m__law_draw T.k__law_draw pass0 (pa_cons (pv 0) (pa_cons pe_int pa_nil))) (pa_cons (pe_callR G__law_draw (hr.mono (by decide)) T.m__law_draw T.k__law_draw pass0 (pa_cons (pv 0) (pa_cons pe_int pa_nil))) pa_nil)) (by rfl))
      (pss_cons (ps_if (pt_cmpR op_lt (pv 1) pe_int (nomark _))
          (pss_one (ps_ret (pe_tup (pa_cons (pe_tup (pa_cons pe_int (pa_cons (pv 2) (pa_cons pe_int pa_nil)))) (pa_cons (pe_tup (pa_cons pe_int (pa_cons (pe_op op_sub pe_int (pv 2)) (pa_cons pe_int pa_nil)))) (pa_cons (pe_tup (pa_cons pe_int (pa_cons (pv 2) (pa_cons pe_int pa_nil)))) (pa_cons (pe_tup (pa_cons pe_int (pa_cons (pe_op op_sub pe_int (pv 2)) (pa_cons pe_int pa_nil)))) pa_nil)))))))
          pss_nil)
      (pss_one (ps_ret (pe_tup (pa_cons (pe_callR G__law_place (hr.mono (by decide)) T.m__law_place T.k__law_place pass0 (pa_cons (pv 0) pa_nil)) (pa_cons (pe_callR G__law_place (hr.mono (by decide)) T.m__law_place T.k__law_place pass0 (pa_cons (pv 0) pa_nil)) (pa_cons (pe_callR G__law_place (hr.mono (by decide)) T.m__law_place T.k__law_place pass0 (pa_cons (pv 0) pa_nil)) (pa_cons (pe_callR G__law_place (hr.mono (by decide)) T.m__law_place T.k__law_place pass0 (pa_cons (pv 0) pa_nil)) pa_nil))))))))), ?_⟩
  simp only [tSeq, tIfS, tTest, tB, tAnd, tOr, tNot, tAndV, tOrV, tNotV, tIf, tOp, tUn, tChain, rEq, rNe, rI0, rI, rU, tCallR, tCons, tNil, tC, tVar, tRet, tRetN, tTup_k, tLst_k, tCB, tNext, tAsg, gName, gTup, gCons, gNil, tDrop, tPar, tFld, ClX.tCVal, tPropR, rBin, rBinT, rNeOwn, rSetL_k, gSub, tMakeK_k, tMethR, rInO, tDNewK_k, tYes, wipe, tMakeR_k, tSMeth, tSMethK, rMulS, decide_true, tNever, sFld, rIsiT, and_false, rListOf, rTupOf, rLenSeq, rIxL, rIxT, rIxS, rCat_k, rRep_k, rSlL_k, rSlS, rNewStrs_k, rAppend_k, tBM, tBM0, tM0, tM1, tSl, tNoPart, tPart, tLc_k, tFor_k, iList, iTup, iEnumT, iRng1, iRng2, iRng2L, iStr, L2.start, List.map, List.length_cons, List.length_nil, List.cons_append, List.nil_append, List.getElem?_cons_succ, List.getElem?_cons_zero, Option.some.injEq, V.int.injEq, V.bl.injEq, V.str.injEq, V.ref.injEq, exists_eq_left', exists_eq_left, and_assoc, exists_and_left, exists_eq, exists_eq', true_and, and_true, List.set_cons_zero, List.set_cons_succ, List.set, decide_eq_true_eq, Bool.not_eq_true', if_true, if_false, rIx, cx_K, nox_K, List.replicate_succ, List.replicate_zero, Nat.reduceSub, Bool.true_eq_false, Bool.false_eq_true, Nat.reduceAdd, List.cons.injEq, reduceCtorEq, false_and, false_or, or_false, tAug, rSetO, rStrO, rUn, rBinI, rBinR, rJoin, tJs, tOrT, rIsi, tCallOI, rBinT, tFCall, tCall, tPar3, tFmtO, tMethSF, tFmt, rExtend]
  refine ⟨p, c, 5, n, rfl, P0, by omega, by decide, by decide, fun z1 H1 z10 z11 s1 P1 => ⟨p, c, 3, _, rfl, P1, by omega, by decide, by decide, fun m H2 m0 m1 s2 P2 => ⟨z1, rfl, ?_⟩⟩⟩
  have s02 := s1.trans s2
  by_cases hz : z1 < 2
  · rw [if_pos hz]
    refine kNew.mk (by show 3 ≤ sizeLine; decide) fun a0 H3 f3 => ⟨_, rfl, kNew.mk (by show 3 ≤ sizeLine; decide) fun a1 H4 f4 => kNew.mk (by show 3 ≤ sizeLine; decide) fun a2 H5 f5 => ⟨_, rfl, kNew.mk (by show 3 ≤ sizeLine; decide) fun a3 H6 f6 => kNew.mk (by show 4 ≤ sizeLine; decide) fun t H7 f7 => ?_⟩⟩
    have s67 := f6.same.trans f7.same
    have s57 := f5.same.trans s67
    have s47 := f4.same.trans s57
    have s37 := f3.same.trans s47
    exact k t ⟨⟨0, m, 0⟩, ⟨2, 0 - m, 1⟩, ⟨0, m, 0⟩, ⟨2, 0 - m, 1⟩⟩ H7 (sm_in m0 m1) (s02.trans (SameBut.of s37)) ((P2.same s37).le (by omega)) ⟨a0, a1, a2, a3, f7.at_, s47 _ _ f3.at_, s57 _ _ f4.at_, s67 _ _ f5.at_, f7.same _ _ f6.at_⟩
  · rw [if_neg hz]
    refine ⟨p, c, _, rfl, P2, by omega, fun t0 q0 H3 b0 s3 P3 h0 => ?_⟩
    refine ⟨p, c, _, rfl, P3, by omega, fun t1 q1 H4 b1 s4 P4 h1 => ?_⟩
    refine ⟨p, c, _, rfl, P4, by omega, fun t2 q2 H5 b2 s5 P5 h2 => ?_⟩
    refine ⟨p, c, _, rfl, P5, by omega, fun t3 q3 H6 b3 s6 P6 h3 => ?_⟩
    refine kNew.mk (by show 4 ≤ sizeLine; decide) fun t H7 f7 => ?_
    have h0' := (((h0.pen P3 s4).pen P4 s5).pen P5 s6).same f7.same
    have h1' := ((h1.pen P4 s5).pen P5 s6).same f7.same
    have h2' := (h2.pen P5 s6).same f7.same
    exact k t ⟨q0, q1, q2, q3⟩ H7 ⟨b0, b1, b2, b3⟩ ((((s02.trans s3).trans s4).trans s5).trans (s6.trans (SameBut.of f7.same))) ((P6.same f7.same).le (by omega)) ⟨t0, t1, t2, t3, f7.at_, h0', h1', h2', h3.same f7.same⟩
theorem ok_ispix (T : Txt K mg a) : FnR P w K mg base CX0 1 a._law_is_pixel spIsPix := by
  refine T.d__law_is_pixel.ok sc__law_is_pixel (fun _ _ _ _ _ _ us hl => match us, hl with | [_, _, _], _ => rfl) (fun vs H Q E h => by obtain ⟨l, as, wd, rs, x, y, rfl, _⟩ := h; rfl) (fun cdv A outer s H vs Q E hr h => ?_)
  obtain ⟨l, as, wd, rs, x, y, rfl, gr, k⟩ := h
  refine ⟨_, (pss_one (ps_ret (pe_and (pe_chain op_le op_lt pe_int (pv 2) (pe_callB call_lenK (by rfl) T.n_len (by decide +kernel) (pa_cons (pv 0) pa_nil))) (pe_one (pe_chain op_le op_lt pe_int (pv 1) (pe_callB call_lenK (by rfl) T.n_len (by decide +kernel) (pa_cons (pe_ix ix_list (pv 0) pe_int (fun _ _ => rfl)) pa_nil))))))), ?_⟩
  simp only [tSeq, tIfS, tTest, tB, tAnd, tOr, tNot, tAndV, tOrV, tNotV, tIf, tOp, tUn, tChain, rEq, rNe, rI0, rI, rU, tCallR, tCons, tNil, tC, tVar, tRet, tRetN, tTup_k, tLst_k, tCB, tNext, tAsg, gName, gTup, gCons, gNil, tDrop, tPar, tFld, ClX.tCVal, tPropR, rBin, rBinT, rNeOwn, rSetL_k, gSub, tMakeK_k, tMethR, rInO, tDNewK_k, tYes, wipe, tMakeR_k, tSMeth, tSMethK, rMulS, decide_true, tNever, sFld, rIsiT, and_false, rListOf, rTupOf, rLenSeq, rIxL, rIxT, rIxS, rCat_k, rRep_k, rSlL_k, rSlS, rNewStrs_k, rAppend_k, tBM, tBM0, tM0, tM1, tSl, tNoPart, tPart, tLc_k, tFor_k, iList, iTup, iEnumT, iRng1, iRng2, iRng2L, iStr, L2.start, List.map, List.length_cons, List.length_nil, List.cons_append, List.nil_append, List.getElem?_cons_succ, List.getElem?_cons_zero, Option.some.injEq, V.int.injEq, V.bl.injEq, V.str.injEq, V.ref.injEq, exists_eq_left', exists_eq_left, and_assoc, exists_and_left, exists_eq, exists_eq', true_and, and_true, List.set_cons_zero, List.set_cons_succ, List.set, decide_eq_true_eq, Bool.not_eq_true', if_true, if_false, rIx, cx_K, nox_K, List.replicate_succ, List.replicate_zero, Nat.reduceSub, Bool.true_eq_false, Bool.false_eq_true, Nat.reduceAdd, List.cons.injEq, reduceCtorEq, false_and, false_or, or_false, tAug, rSetO, rStrO, rUn, rBinI, rBinR, rJoin, tJs, tOrT, rIsi, tCallOI, rBinT, tFCall, tCall, tPar3, tFmtO, tMethSF, tFmt, rExtend]
  obtain ⟨b, r, e0, hb, hw⟩ := gr.first
  have hl := gr.1.len
  have fin : ∀ z : Bool, z = decide (0 ≤ y ∧ y < rs.length ∧ 0 ≤ x ∧ x < wd) → Q (.bl z) H := fun z e => by rw [e]; exact k
  by_cases h1 : 0 ≤ y
  · rw [if_pos h1]
    refine ⟨_, .inl (SqL.of gr.1.at_), ?_⟩
    rw [List.length_map, hl]
    by_cases h2 : y < rs.length
    · rw [if_pos h2]
      by_cases h3 : 0 ≤ x
      · rw [if_pos h3]
        refine ⟨_, SqL.of gr.1.at_, _, atI_nat (j := 0) (by rw [List.getElem?_map, e0]; rfl), b, rfl, _, .inl (SqL.of hb), fin _ ?_⟩
        rw [show (digV r).length = wd from by unfold digV; rw [List.length_map, hw]]
        rw [Bool.eq_iff_iff]
        simp only [decide_eq_true_eq]
        omega
      · rw [if_neg h3]
        exact fin _ (decide_eq_false (by omega)).symm
    · rw [if_neg h2]
      exact fin _ (decide_eq_false (by omega)).symm
  · rw [if_neg h1]
    exact fin _ (decide_eq_false (by omega)).symm
theorem ok_near (T : Txt K mg a) : FnR P w K mg base CX0 4 a._law_near spNear := by
  have G__law_draw : FnR P w K mg base CX0 1 a._law_draw spPDraw := ok_pdraw T
  have G__law_place : FnR P w K mg base CX0 3 a._law_place spPlaceL := ok_place T
  refine T.d__law_near.ok sc__law_near (fun _ _ _ _ _ _ us hl => match us, hl with | [_, _], _ => rfl) (fun vs H Q E h => by obtain ⟨p, c, tq, q, n, rfl, _⟩ := h; rfl) (fun cdv A outer s H vs Q E hr h => ?_)
  obtain ⟨p, c, tq, q, n, rfl, P0, hn, hq, sq, k⟩ := h
  refine ⟨_, (pss_cons (ps_if (pt_cmpR op_eq (pe_callR G__law_draw (hr.mono (by decide)) T.m__law_draw T.k__law_draw pass0 (pa_cons (pv 0) (pa_cons pe_int pa_nil))) pe_int (nomark _))
          (pss_one (ps_ret (pe_tup (pa_cons (pe_callR G__law_place (hr.mono (by decide)) T.m__law_place T.k__law_place pass0 (pa_cons (pv 0) pa_nil)) (pa_cons (pe_callR G__law_place (hr.mono (by decide)) T.m__law_place T.k__law_place pass0 (pa_cons (pv 0) pa_nil)) pa_nil)))))
          pss_nil)
      (pss_cons (ps_set (i := 2) sc__law_near.nd rfl (Or.inl rfl) (pe_lst pa_nil))
      (pss_cons (ps_for PassesOwn.never rfl ((show PI _ _ _ (iTup K _) from pi_tup (pe_tup (pa_cons (pe_ix ix_tup (pv 1) pe_int (fun _ _ => rfl)) (pa_cons (pe_ix ix_tup (pv 1) pe_int (fun _ _ => rfl)) pa_nil))))) (pg_name (i := 3) sc__law_near.nd rfl (Or.inl rfl))
          (pss_one (ps_expr (pe_bm PySem.F.plainAttrs_list PySem.F.slot_list_append PySem.F.type_list_append mt_append (pv 2) (pa_cons (pe_tup (pa_cons (pe_ix ix_tup (pv 3) pe_int (fun _ _ => rfl)) (pa_cons (pe_op op_sub (pe_op op_add (pe_ix ix_tup (pv 3) pe_int (fun _ _ => rfl)) (pe_callR G__law_draw (hr.mono (by decide)) T.m__law_draw T.k__law_draw pass0 (pa_cons (pv 0) (pa_cons pe_int pa_nil)))) pe_int) (pa_cons (pe_ix ix_tup (pv 3) pe_int (fun _ _ => rfl)) pa_nil)))) pa_nil)))))
      (pss_one (ps_ret (pe_tup (pa_cons (pe_ix ix_list (pv 2) pe_int (fun _ _ => rfl)) (pa_cons (pe_ix ix_list (pv 2) pe_int (fun _ _ => rfl)) pa_nil)))))))), ?_⟩
  refine tSeq_step fun R e1 => ?_
  simp only [tSeq, tIfS, tTest, tB, tAnd, tOr, tNot, tAndV, tOrV, tNotV, tIf, tOp, tUn, tChain, rEq, rNe, rI0, rI, rU, tCallR, tCons, tNil, tC, tVar, tRet, tRetN, tTup_k, tLst_k, tCB, tNext, tAsg, gName, gTup, gCons, gNil, tDrop, tPar, tFld, ClX.tCVal, tPropR, rBin, rBinT, rNeOwn, rSetL_k, gSub, tMakeK_k, tMethR, rInO, tDNewK_k, tYes, wipe, tMakeR_k, tSMeth, tSMethK, rMulS, decide_true, tNever, sFld, rIsiT, and_false, rListOf, rTupOf, rLenSeq, rIxL, rIxT, rIxS, rCat_k, rRep_k, rSlL_k, rSlS, rNewStrs_k, rAppend_k, tBM, tBM0, tM0, tM1, tSl, tNoPart, tPart, tLc_k, tFor_k, iList, iTup, iEnumT, iRng1, iRng2, iRng2L, iStr, L2.start, List.map, List.length_cons, List.length_nil, List.cons_append, List.nil_append, List.getElem?_cons_succ, List.getElem?_cons_zero, Option.some.injEq, V.int.injEq, V.bl.injEq, V.str.injEq, V.ref.injEq, exists_eq_left', exists_eq_left, and_assoc, exists_and_left, exists_eq, exists_eq', true_and, and_true, List.set_cons_zero, List.set_cons_succ, List.set, decide_eq_true_eq, Bool.not_eq_true', if_true, if_false, rIx, cx_K, nox_K, List.replicate_succ, List.replicate_zero, Nat.reduceSub, Bool.true_eq_false, Bool.false_eq_true, Nat.reduceAdd, List.cons.injEq, reduceCtorEq, false_and, false_or, or_false, tAug, rSetO, rStrO, rUn, rBinI, rBinR, rJoin, tJs, tOrT, rIsi, tCallOI, rBinT, tFCall, tCall, tPar3, tFmtO, tMethSF, tFmt, rExtend]
  refine ⟨p, c, 2, n, rfl, P0, by omega, by decide, by decide, fun z H1 z0 z1 s1 P1 => ⟨rfl, ?_⟩⟩
  have hq1 := hq.pen P0 s1
  by_cases hz : V.int z = V.int 0
  · rw [if_pos hz]
    refine ⟨p, c, _, rfl, P1, by omega, fun tx px H2 b2 s2 P2 h2 => ⟨p, c, _, rfl, P2, by omega, fun ty py H3 b3 s3 P3 h3 => kNew.mk (by show 2 ≤ sizeLine; decide) fun t H4 f4 => ?_⟩⟩
    exact k t tx ty px py H4 b2.bd b3.bd (((s1.trans s2).trans s3).trans (SameBut.of f4.same)) ((P3.same f4.same).le (by omega)) f4.at_ ((h2.pen P2 s3).same f4.same) (h3.same f4.same)
  rw [if_neg hz]
  subst e1
  refine tSeq_step fun R e1 => ?_
  simp only [tSeq, tIfS, tTest, tB, tAnd, tOr, tNot, tAndV, tOrV, tNotV, tIf, tOp, tUn, tChain, rEq, rNe, rI0, rI, rU, tCallR, tCons, tNil, tC, tVar, tRet, tRetN, tTup_k, tLst_k, tCB, tNext, tAsg, gName, gTup, gCons, gNil, tDrop, tPar, tFld, ClX.tCVal, tPropR, rBin, rBinT, rNeOwn, rSetL_k, gSub, tMakeK_k, tMethR, rInO, tDNewK_k, tYes, wipe, tMakeR_k, tSMeth, tSMethK, rMulS, decide_true, tNever, sFld, rIsiT, and_false, rListOf, rTupOf, rLenSeq, rIxL, rIxT, rIxS, rCat_k, rRep_k, rSlL_k, rSlS, rNewStrs_k, rAppend_k, tBM, tBM0, tM0, tM1, tSl, tNoPart, tPart, tLc_k, tFor_k, iList, iTup, iEnumT, iRng1, iRng2, iRng2L, iStr, L2.start, List.map, List.length_cons, List.length_nil, List.cons_append, List.nil_append, List.getElem?_cons_succ, List.getElem?_cons_zero, Option.some.injEq, V.int.injEq, V.bl.injEq, V.str.injEq, V.ref.injEq, exists_eq_left', exists_eq_left, and_assoc, exists_and_left, exists_eq, exists_eq', true_and, and_true, List.set_cons_zero, List.set_cons_succ, List.set, decide_eq_true_eq, Bool.not_eq_true', if_true, if_false, rIx, cx_K, nox_K, List.replicate_succ, List.replicate_zero, Nat.reduceSub, Bool.true_eq_false, Bool.false_eq_true, Nat.reduceAdd, List.cons.injEq, reduceCtorEq, false_and, false_or, or_false, tAug, rSetO, rStrO, rUn, rBinI, rBinR, rJoin, tJs, tOrT, rIsi, tCallOI, rBinT, tFCall, tCall, tPar3, tFmtO, tMethSF, tFmt, rExtend]
  refine kNew.mk (by show 0 ≤ sizeLine; decide) fun D H2 f2 => ?_
  subst e1
  refine tSeq_step fun R e1 => ?_
  simp only [tSeq, tIfS, tTest, tB, tAnd, tOr, tNot, tAndV, tOrV, tNotV, tIf, tOp, tUn, tChain, rEq, rNe, rI0, rI, rU, tCallR, tCons, tNil, tC, tVar, tRet, tRetN, tTup_k, tLst_k, tCB, tNext, tAsg, gName, gTup, gCons, gNil, tDrop, tPar, tFld, ClX.tCVal, tPropR, rBin, rBinT, rNeOwn, rSetL_k, gSub, tMakeK_k, tMethR, rInO, tDNewK_k, tYes, wipe, tMakeR_k, tSMeth, tSMethK, rMulS, decide_true, tNever, sFld, rIsiT, and_false, rListOf, rTupOf, rLenSeq, rIxL, rIxT, rIxS, rCat_k, rRep_k, rSlL_k, rSlS, rNewStrs_k, rAppend_k, tBM, tBM0, tM0, tM1, tSl, tNoPart, tPart, tLc_k, tFor_k, iList, iTup, iEnumT, iRng1, iRng2, iRng2L, iStr, L2.start, List.map, List.length_cons, List.length_nil, List.cons_append, List.nil_append, List.getElem?_cons_succ, List.getElem?_cons_zero, Option.some.injEq, V.int.injEq, V.bl.injEq, V.str.injEq, V.ref.injEq, exists_eq_left', exists_eq_left, and_assoc, exists_and_left, exists_eq, exists_eq', true_and, and_true, List.set_cons_zero, List.set_cons_succ, List.set, decide_eq_true_eq, Bool.not_eq_true', if_true, if_false, rIx, cx_K, nox_K, List.replicate_succ, List.replicate_zero, Nat.reduceSub, Bool.true_eq_false, Bool.false_eq_true, Nat.reduceAdd, List.cons.injEq, reduceCtorEq, false_and, false_or, or_false, tAug, rSetO, rStrO, rUn, rBinI, rBinR, rJoin, tJs, tOrT, rIsi, tCallOI, rBinT, tFCall, tCall, tPar3, tFmtO, tMethSF, tFmt, rExtend]
  obtain ⟨t0, t1, t2, t3, ht, h0, h1, h2, h3⟩ := hq1
  have dp := P1.at_p f2.new
  have nD := f2.new
  refine ⟨_, .inl (.inl (f2.get ht)), _, rfl, _, .inl (.inl (f2.get ht)), _, rfl, kNew.mk (by show 2 ≤ sizeLine; decide) fun tw H3 f3 => ⟨tw, rfl, ⟨_, .inl (.inl f3.at_)⟩, ?_⟩⟩
  refine kFor.it (walk_tup (xs := [.ref t0, .ref t2])) (fun j σ H' => ∃ (ts : List Addr) (v3 : Option V), σ = [some (.ref p), some (.ref tq), some (.ref D), v3] ∧ ts.length = j ∧ SameBut p H1 H' ∧ H' tw = some (.tup [.ref t0, .ref t2]) ∧ H' D = some (.lst (ts.map V.ref)) ∧ Pen H' p c (n + 1 + (j : Nat)) ∧ ∀ (i : Nat) (tt : Addr), ts[i]? = some tt → ∃ pl, BdP pl ∧ TupP H' tt pl)
    ⟨[], none, rfl, rfl, SameBut.of (f2.same.trans f3.same), f3.at_, f3.get f2.at_, ((P1.same f2.same).same f3.same).le (by simp), fun i tt (h : ([] : List Addr)[i]? = some tt) => absurd h (by simp)⟩ (fun i σ H' _ hP => ?_) (fun j xv σ H4 H5 hj hP hY => ?_) fun σ H4 hP => ?_
  · obtain ⟨ts, v3, _, _, _, e, _⟩ := hP
    exact .inl (.inl e)
  · obtain ⟨ts, v3, rfl, hl, sB, ew, eD, P4, hv⟩ := hP
    obtain ⟨rfl, e⟩ := hY
    have hj : j < 2 := hj
    obtain ⟨tt, x, rfl, hx, sx⟩ : ∃ (tt : Addr) (x : Pl), xv = .ref tt ∧ TupP H5 tt x ∧ SmP x := by
      match j, hj with
      | 0, _ => cases e; exact ⟨t0, _, rfl, h0.pen P1 sB, sq.1⟩
      | 1, _ => cases e; exact ⟨t2, _, rfl, h2.pen P1 sB, sq.2.2.1⟩
    simp only [tSeq, tIfS, tTest, tB, tAnd, tOr, tNot, tAndV, tOrV, tNotV, tIf, tOp, tUn, tChain, rEq, rNe, rI0, rI, rU, tCallR, tCons, tNil, tC, tVar, tRet, tRetN, tTup_k, tLst_k, tCB, tNext, tAsg, gName, gTup, gCons, gNil, tDrop, tPar, tFld, ClX.tCVal, tPropR, rBin, rBinT, rNeOwn, rSetL_k, gSub, tMakeK_k, tMethR, rInO, tDNewK_k, tYes, wipe, tMakeR_k, tSMeth, tSMethK, rMulS, decide_true, tNever, sFld, rIsiT, and_false, rListOf, rTupOf, rLenSeq, rIxL, rIxT, rIxS, rCat_k, rRep_k, rSlL_k, rSlS, rNewStrs_k, rAppend_k, tBM, tBM0, tM0, tM1, tSl, tNoPart, tPart, tLc_k, tFor_k, iList, iTup, iEnumT, iRng1, iRng2, iRng2L, iStr, L2.start, List.map, List.length_cons, List.length_nil, List.cons_append, List.nil_append, List.getElem?_cons_succ, List.getElem?_cons_zero, Option.some.injEq, V.int.injEq, V.bl.injEq, V.str.injEq, V.ref.injEq, exists_eq_left', exists_eq_left, and_assoc, exists_and_left, exists_eq, exists_eq', true_and, and_true, List.set_cons_zero, List.set_cons_succ, List.set, decide_eq_true_eq, Bool.not_eq_true', if_true, if_false, rIx, cx_K, nox_K, List.replicate_succ, List.replicate_zero, Nat.reduceSub, Bool.true_eq_false, Bool.false_eq_true, Nat.reduceAdd, List.cons.injEq, reduceCtorEq, false_and, false_or, or_false, tAug, rSetO, rStrO, rUn, rBinI, rBinR, rJoin, tJs, tOrT, rIsi, tCallOI, rBinT, tFCall, tCall, tPar3, tFmtO, tMethSF, tFmt, rExtend]
    have hx' := hx
    unfold TupP at hx'
    refine ⟨.inl ⟨rfl, _, SqL.of eD⟩, _, .inl (.inl hx'), _, rfl, _, .inl (.inl hx'), _, rfl, p, c, 5, _, rfl, P4, by omega, by decide, by decide, fun z5 H6 z50 z51 s6 P6 => ?_⟩
    have hx6 := P4.keep s6 hx' (by intro _ z; cases z)
    refine ⟨_, rfl, _, rfl, _, .inl (.inl hx6), _, rfl, kNew.mk (by show 3 ≤ sizeLine; decide) fun tn H7 f7 => ?_⟩
    have eD7 := f7.get (s6 _ _ dp.1 eD)
    have ew7 := f7.get (P4.keep s6 ew (by intro _ z; cases z))
    refine ⟨_, eD7, by rw [List.length_map]; exact Nat.lt_of_lt_of_le (show ts.length < 5 by omega) (by decide), kPut.mk fun H8 f8 => ?_⟩
    have up : ∀ {y : Addr} {u : List V}, H7 y = some (.tup u) → H8 y = some (.tup u) := fun e => f8.get (ne_of e eD7 fun z => by cases z) e
    obtain ⟨so0, so1⟩ := sx.2.1
    refine ⟨ts ++ [tn], by rw [List.length_append, hl]; rfl, fun b o nb e => f8.get (ne_of_none e nD) (f7.get (s6 _ _ nb (sB _ _ nb e))), up ew7, by rw [List.map_append]; exact f8.at_, ?_, fun i u hu => ?_⟩
    · obtain ⟨ns, b, r, q1, q2, q3⟩ := P6.same f7.same
      exact Pen.le ⟨ns, b, r, f8.get dp.1.symm q1, f8.get dp.2 q2, q3⟩ (by push_cast; omega)
    · by_cases hi : i < ts.length
      · rw [List.getElem?_append_left hi] at hu
        obtain ⟨pl, e1, e2⟩ := hv i u hu
        exact ⟨pl, e1, up (f7.get (P4.keep s6 e2 (by intro _ z; cases z)))⟩
      · rw [List.getElem?_append_right (by omega)] at hu
        have hi0 : i - ts.length = 0 := by
          match hz : i - ts.length with
          | 0 => rfl
          | m + 1 => rw [hz] at hu; cases hu
        rw [hi0] at hu
        cases hu
        exact ⟨⟨x.s, x.o + z5 - 2, x.d⟩, ⟨sx.1.bd, ⟨by show _ ≤ x.o + z5 - 2; omega, by show x.o + z5 - 2 ≤ _; omega⟩, sx.2.2.bd⟩, up f7.at_⟩
  · obtain ⟨ts, v3, rfl, hl, sB, ew, eD, P4, hv⟩ := hP
    match ts, hl with
    | [ta, tb], _ =>
    obtain ⟨pa, ba, ha⟩ := hv 0 ta rfl
    obtain ⟨pb, bb, hb⟩ := hv 1 tb rfl
    subst e1
    simp only [tSeq, tIfS, tTest, tB, tAnd, tOr, tNot, tAndV, tOrV, tNotV, tIf, tOp, tUn, tChain, rEq, rNe, rI0, rI, rU, tCallR, tCons, tNil, tC, tVar, tRet, tRetN, tTup_k, tLst_k, tCB, tNext, tAsg, gName, gTup, gCons, gNil, tDrop, tPar, tFld, ClX.tCVal, tPropR, rBin, rBinT, rNeOwn, rSetL_k, gSub, tMakeK_k, tMethR, rInO, tDNewK_k, tYes, wipe, tMakeR_k, tSMeth, tSMethK, rMulS, decide_true, tNever, sFld, rIsiT, and_false, rListOf, rTupOf, rLenSeq, rIxL, rIxT, rIxS, rCat_k, rRep_k, rSlL_k, rSlS, rNewStrs_k, rAppend_k, tBM, tBM0, tM0, tM1, tSl, tNoPart, tPart, tLc_k, tFor_k, iList, iTup, iEnumT, iRng1, iRng2, iRng2L, iStr, L2.start, List.map, List.length_cons, List.length_nil, List.cons_append, List.nil_append, List.getElem?_cons_succ, List.getElem?_cons_zero, Option.some.injEq, V.int.injEq, V.bl.injEq, V.str.injEq, V.ref.injEq, exists_eq_left', exists_eq_left, and_assoc, exists_and_left, exists_eq, exists_eq', true_and, and_true, List.set_cons_zero, List.set_cons_succ, List.set, decide_eq_true_eq, Bool.not_eq_true', if_true, if_false, rIx, cx_K, nox_K, List.replicate_succ, List.replicate_zero, Nat.reduceSub, Bool.true_eq_false, Bool.false_eq_true, Nat.reduceAdd, List.cons.injEq, reduceCtorEq, false_and, false_or, or_false, tAug, rSetO, rStrO, rUn, rBinI, rBinR, rJoin, tJs, tOrT, rIsi, tCallOI, rBinT, tFCall, tCall, tPar3, tFmtO, tMethSF, tFmt, rExtend]
    refine ⟨_, SqL.of eD, _, rfl, _, SqL.of eD, _, rfl, kNew.mk (by show 2 ≤ sizeLine; decide) fun t H5 f5 => ?_⟩
    exact k t ta tb pa pb H5 ba bb ((s1.trans sB).trans (SameBut.of f5.same)) ((P4.same f5.same).le (by simp; omega)) f5.at_ (ha.same f5.same) (hb.same f5.same)
theorem ok_builtC (T : Txt K mg a) : FnR P w K mg base CX0 16 a._law_built (spBuiltC a.Copy a.Box a.Place) := by
  have G__law_built_box : FnR P w K mg base CX0 14 a._law_built_box (spBuiltB a.Box a.Place) := ok_builtB T
  have G__law_built_place : FnR P w K mg base CX0 6 a._law_built_place (spBuiltP a.Place) := ok_builtP T
  have G_Copy_init : FnR P w K mg base (CX P w) 10 a.Copy_init (spCopyInit K a.Copy a.Box a.Place) := ok_copyinit T
  refine T.d__law_built.ok sc__law_built (fun _ _ _ _ _ _ us hl => match us, hl with | [_, _], _ => rfl) (fun vs H Q E h => by obtain ⟨p, c, tt, tq, tx, ty, q, px, py, n, rfl, _⟩ := h; rfl) (fun cdv A outer s H vs Q E hr h => ?_)
  obtain ⟨p, c, tt, tq, tx, ty, q, px, py, n, rfl, P0, hn, ht, hq, bq, hx, bx, hy, by_, k⟩ := h
  refine ⟨_, (pss_cons (ps_set (i := 2) sc__law_built.nd rfl (Or.inl rfl) (pe_ix ix_tup (pv 1) pe_int (fun _ _ => rfl)))
      (pss_cons (ps_if (pt_cmpR op_eq (pv 2) pe_str (nomark _))
          (pss_one (ps_never))
          pss_nil)
      (pss_cons (ps_if (pt_cmpR op_eq (pv 2) pe_str (nomark _))
          (pss_one (ps_never))
          pss_nil)
      (pss_cons (ps_if (pt_cmpR op_eq (pv 2) pe_str (nomark _))
          (pss_one (ps_ret (pe_makeRR T.M_Copy G_Copy_init (hr.mono (by decide)) T.m_Copy (passUp LamX.takes0) (pa_cons (pe_callR G__law_built_box (hr.mono (by decide)) T.m__law_built_box T.k__law_built_box pass0 (pa_cons (pv 0) (pa_cons (pe_ix ix_tup (pv 1) pe_int (fun _ _ => rfl)) pa_nil))) (pa_cons (pe_callR G__law_built_place (hr.mono (by decide)) T.m__law_built_place T.k__law_built_place pass0 (pa_cons (pv 0) (pa_cons (pe_ix ix_tup (pv 1) pe_int (fun _ _ => rfl)) pa_nil))) (pa_cons (pe_callR G__law_built_place (hr.mono (by decide)) T.m__law_built_place T.k__law_built_place pass0 (pa_cons (pv 0) (pa_cons (pe_ix ix_tup (pv 1) pe_int (fun _ _ => rfl)) pa_nil))) pa_nil))))))
          pss_nil)
      (pss_cons (ps_never)
      (pss_cons (ps_never)
      (pss_cons (ps_never)
      (pss_cons (ps_never)
      (pss_cons (ps_never)
      (pss_cons (ps_never)
      (pss_one (ps_never)))))))))))), ?_⟩
  simp only [tSeq, tIfS, tTest, tB, tAnd, tOr, tNot, tAndV, tOrV, tNotV, tIf, tOp, tUn, tChain, rEq, rNe, rI0, rI, rU, tCallR, tCons, tNil, tC, tVar, tRet, tRetN, tTup_k, tLst_k, tCB, tNext, tAsg, gName, gTup, gCons, gNil, tDrop, tPar, tFld, ClX.tCVal, tPropR, rBin, rBinT, rNeOwn, rSetL_k, gSub, tMakeK_k, tMethR, rInO, tDNewK_k, tYes, wipe, tMakeR_k, tSMeth, tSMethK, rMulS, decide_true, tNever, sFld, rIsiT, and_false, rListOf, rTupOf, rLenSeq, rIxL, rIxT, rIxS, rCat_k, rRep_k, rSlL_k, rSlS, rNewStrs_k, rAppend_k, tBM, tBM0, tM0, tM1, tSl, tNoPart, tPart, tLc_k, tFor_k, iList, iTup, iEnumT, iRng1, iRng2, iRng2L, iStr, L2.start, List.map, List.length_cons, List.length_nil, List.cons_append, List.nil_append, List.getElem?_cons_succ, List.getElem?_cons_zero, Option.some.injEq, V.int.injEq, V.bl.injEq, V.str.injEq, V.ref.injEq, exists_eq_left', exists_eq_left, and_assoc, exists_and_left, exists_eq, exists_eq', true_and, and_true, List.set_cons_zero, List.set_cons_succ, List.set, decide_eq_true_eq, Bool.not_eq_true', if_true, if_false, rIx, cx_K, nox_K, List.replicate_succ, List.replicate_zero, Nat.reduceSub, Bool.true_eq_false, Bool.false_eq_true, Nat.reduceAdd, List.cons.injEq, reduceCtorEq, false_and, false_or, or_false, tAug, rSetO, rStrO, rUn, rBinI, rBinR, rJoin, tJs, tOrT, rIsi, tCallOI, rBinT, tFCall, tCall, tPar3, tFmtO, tMethSF, tFmt, rExtend]
  refine ⟨_, .inl (.inl ht), _, rfl, rfl, ?_⟩
  rw [if_neg (by decide +kernel)]
  refine ⟨rfl, ?_⟩
  rw [if_neg (by decide +kernel)]
  refine ⟨rfl, ?_⟩
  rw [if_pos rfl]
  refine ⟨_, .inl (.inl ht), _, rfl, p, c, tq, q, n, rfl, P0, by omega, hq, bq, fun b H1 s1 P1 hb => ?_⟩
  have ht1 := P0.keep s1 ht (by intro _ z; cases z)
  have hx1 := hx.pen P0 s1
  have hy1 := hy.pen P0 s1
  refine ⟨_, .inl (.inl ht1), _, rfl, p, c, tx, px, _, rfl, P1, by omega, hx1, fun v H2 s2 P2 hv => ?_⟩
  have ht2 := P1.keep s2 ht1 (by intro _ z; cases z)
  have hy2 := hy1.pen P1 s2
  have hb2 := hb.pen P1 s2
  refine ⟨_, .inl (.inl ht2), _, rfl, p, c, ty, py, _, rfl, P2, by omega, hy2, fun u H3 s3 P3 hu => ?_⟩
  have hv3 := hv.pen P2 s3
  have hb3 := hb2.pen P2 s3
  refine kMake.mk fun x dx H4 s4 nx hx4 so => ⟨x, dx, b, v, u, q, px, py, rfl, hx4, hb3.same s4, (hv3.same s4).inp bx, (hu.same s4).inp by_, fun H5 s5 C5 B5 => ⟨rfl, ?_⟩⟩
  have s35 : Same H3 H5 := fun y o e => s5 _ _ (ne_of_none e nx) (s4 _ _ e)
  exact k x b H5 (((s1.trans s2).trans s3).trans (SameBut.of s35)) ((P3.same s35).le (by omega)) C5 B5
end
end Pf
end
section
namespace Pf
open PySem PySem.Spec PyProof.Rows L2 Ow StX
/-! ### pixels moved one by one are a box copied -/
def maskV (rs : List (List Nat)) (f : Nat → Nat → Bool) (v : Nat → Nat → Nat) : List (List Nat) := rs.mapIdx fun j r => r.mapIdx fun i d => if f i j = true then v i j else d
theorem maskV_at (rs : List (List Nat)) (f : Nat → Nat → Bool) (v : Nat → Nat → Nat) (j : Nat) : (maskV rs f v)[j]? = rs[j]?.map fun r => r.mapIdx fun i d => if f i j = true then v i j else d := by
  unfold maskV
  exact List.getElem?_mapIdx
theorem maskV_one (rs : List (List Nat)) (x y : Nat) (v : Nat → Nat → Nat) : rs.set y ((rs.getD y []).set x (v x y)) = maskV rs (fun i j => decide (i = x ∧ j = y)) v := by
  refine List.ext_getElem? fun j => ?_
  rw [maskV_at, List.getElem?_set]
  by_cases h : y = j
  · subst h
    rw [if_pos rfl]
    by_cases hl : y < rs.length
    · rw [if_pos hl, List.getElem?_eq_getElem hl, Option.map_some, List.getD_eq_getElem?_getD, List.getElem?_eq_getElem hl, Option.getD_some]
      refine congrArg some (List.ext_getElem? fun i => ?_)
      rw [List.getElem?_mapIdx, List.getElem?_set]
      by_cases hx : x = i
      · subst hx
        rw [if_pos rfl]
        by_cases hi : x < rs[y].length
        · rw [if_pos hi, List.getElem?_eq_getElem hi]
          simp
        · rw [if_neg hi, List.getElem?_eq_none (by omega)]
          rfl
      · rw [if_neg hx]
        have e : decide (i = x ∧ y = y) = false := decide_eq_false fun z => hx z.1.symm
        rw [e]
        simp
    · rw [if_neg hl, List.getElem?_eq_none (by omega)]
      rfl
  · rw [if_neg h]
    cases q : rs[j]? with
    | none => rfl
    | some r =>
      rw [Option.map_some]
      refine congrArg some (List.ext_getElem? fun i => ?_)
      rw [List.getElem?_mapIdx]
      have e : decide (i = x ∧ j = y) = false := decide_eq_false fun z => h z.2.symm
      rw [e]
      simp
theorem maskV_mask (rs : List (List Nat)) (f g : Nat → Nat → Bool) (v : Nat → Nat → Nat) : maskV (maskV rs f v) g v = maskV rs (fun i j => f i j || g i j) v := by
  refine List.ext_getElem? fun j => ?_
  rw [maskV_at, maskV_at, maskV_at]
  cases rs[j]? with
  | none => rfl
  | some r =>
    simp only [Option.map_some]
    refine congrArg some (List.ext_getElem? fun i => ?_)
    rw [List.getElem?_mapIdx, List.getElem?_mapIdx, List.getElem?_mapIdx]
    cases r[i]? with
    | none => rfl
    | some d =>
      simp only [Option.map_some]
      by_cases h1 : f i j = true <;> by_cases h2 : g i j = true <;> simp [h1, h2]
theorem maskV_congr {w : Nat} {rs : List (List Nat)} (g : Good w rs) {f f' : Nat → Nat → Bool} (v : Nat → Nat → Nat) (h : ∀ i j, i < w → j < rs.length → f i j = f' i j) : maskV rs f v = maskV rs f' v := by
  refine List.ext_getElem? fun j => ?_
  rw [maskV_at, maskV_at]
  cases q : rs[j]? with
  | none => rfl
  | some r =>
    simp only [Option.map_some]
    have hj := (List.getElem?_eq_some_iff.mp q).1
    have hw := (g.at_ q).1
    refine congrArg some (List.ext_getElem? fun i => ?_)
    rw [List.getElem?_mapIdx, List.getElem?_mapIdx]
    cases u : r[i]? with
    | none => rfl
    | some d =>
      have hi := (List.getElem?_eq_some_iff.mp u).1
      simp only [Option.map_some]
      rw [h i j (by omega) hj]
theorem maskV_none (rs : List (List Nat)) (v : Nat → Nat → Nat) : maskV rs (fun _ _ => false) v = rs := by
  refine List.ext_getElem? fun j => ?_
  rw [maskV_at]
  cases rs[j]? with
  | none => rfl
  | some r =>
    rw [Option.map_some]
    refine congrArg some (List.ext_getElem? fun i => ?_)
    rw [List.getElem?_mapIdx]
    cases r[i]? with
    | none => rfl
    | some d => rfl
def pix0 (rs : List (List Nat)) (i j : Nat) : Nat := (rs.getD j []).getD i 48
def moveOne (rs : List (List Nat)) (w : Nat) (dx dy : Int) (acc : List (List Nat)) (p : Nat × Nat) : List (List Nat) :=
  if 0 ≤ (p.2 : Int) + dy ∧ (p.2 : Int) + dy < rs.length ∧ 0 ≤ (p.1 : Int) + dx ∧ (p.1 : Int) + dx < w then acc.set ((p.2 : Int) + dy).toNat ((acc.getD ((p.2 : Int) + dy).toNat []).set ((p.1 : Int) + dx).toNat (pix0 rs p.1 p.2)) else acc
def moveAll (rs : List (List Nat)) (w : Nat) (dx dy : Int) (acc : List (List Nat)) (ps : List (Nat × Nat)) : List (List Nat) := ps.foldl (moveOne rs w dx dy) acc
theorem move_snoc (rs : List (List Nat)) (w : Nat) (dx dy : Int) (acc : List (List Nat)) (ps : List (Nat × Nat)) (p : Nat × Nat) : moveAll rs w dx dy acc (ps ++ [p]) = moveOne rs w dx dy (moveAll rs w dx dy acc ps) p := by
  unfold moveAll
  rw [List.foldl_append]
  rfl
theorem pix0_dig {w : Nat} {rs : List (List Nat)} (g : Good w rs) {p : Nat × Nat} (h1 : p.1 < w) (h2 : p.2 < rs.length) : 48 ≤ pix0 rs p.1 p.2 ∧ pix0 rs p.1 p.2 ≤ 57 := by
  obtain ⟨r, hr⟩ : ∃ r, rs[p.2]? = some r := ⟨_, List.getElem?_eq_getElem h2⟩
  obtain ⟨hw, hd⟩ := g.at_ hr
  obtain ⟨d, hd'⟩ : ∃ d, r[p.1]? = some d := ⟨_, List.getElem?_eq_getElem (by omega)⟩
  unfold pix0
  rw [List.getD_eq_getElem?_getD, List.getD_eq_getElem?_getD, hr, Option.getD_some, hd', Option.getD_some]
  exact hd d (List.mem_of_getElem? hd')
theorem moveOne_shape {w : Nat} {rs acc : List (List Nat)} {dx dy : Int} (g : Good w rs) (ga : Good w acc) (hl : acc.length = rs.length) {p : Nat × Nat} (h1 : p.1 < w) (h2 : p.2 < rs.length) : Good w (moveOne rs w dx dy acc p) ∧ (moveOne rs w dx dy acc p).length = rs.length := by
  unfold moveOne
  split
  · rename_i h
    have := Good.setRs ga (i := (p.1 : Int) + dx) (j := (p.2 : Int) + dy) (k := pix0 rs p.1 p.2) h.1 (by rw [hl]; exact h.2.1) (pix0_dig g h1 h2)
    unfold setRs at this
    exact ⟨this, by rw [List.length_set]; exact hl⟩
  · exact ⟨ga, hl⟩
theorem move_shape {w : Nat} {rs : List (List Nat)} {dx dy : Int} (g : Good w rs) : ∀ (ps : List (Nat × Nat)) (acc : List (List Nat)), Good w acc → acc.length = rs.length → (∀ p ∈ ps, p.1 < w ∧ p.2 < rs.length) → Good w (moveAll rs w dx dy acc ps) ∧ (moveAll rs w dx dy acc ps).length = rs.length
  | [], acc, ga, hl, _ => ⟨ga, hl⟩
  | p :: t, acc, ga, hl, h => by
    obtain ⟨h1, h2⟩ := h p List.mem_cons_self
    obtain ⟨q1, q2⟩ := moveOne_shape (dx := dx) (dy := dy) g ga hl h1 h2
    exact move_shape g t _ q1 q2 fun q hq => h q (List.mem_cons_of_mem _ hq)
open Classical in
def hitB (dx dy : Int) (ps : List (Nat × Nat)) (i j : Nat) : Bool := decide (∃ p ∈ ps, (p.1 : Int) + dx = i ∧ (p.2 : Int) + dy = j)
def srcV (rs : List (List Nat)) (dx dy : Int) (i j : Nat) : Nat := pix0 rs ((i : Int) - dx).toNat ((j : Int) - dy).toNat
open Classical in
theorem moveOne_mask {w : Nat} {rs acc : List (List Nat)} {dx dy : Int} (ga : Good w acc) (hl : acc.length = rs.length) (p : Nat × Nat) : moveOne rs w dx dy acc p = maskV acc (hitB dx dy [p]) (srcV rs dx dy) := by
  unfold moveOne
  split
  · rename_i h
    have e : pix0 rs p.1 p.2 = srcV rs dx dy ((p.1 : Int) + dx).toNat ((p.2 : Int) + dy).toNat := by
      unfold srcV
      rw [show (((((p.1 : Int) + dx).toNat : Nat) : Int) - dx).toNat = p.1 by omega, show (((((p.2 : Int) + dy).toNat : Nat) : Int) - dy).toNat = p.2 by omega]
    rw [e, maskV_one]
    refine maskV_congr ga _ fun i j hi hj => ?_
    rw [Bool.eq_iff_iff]
    unfold hitB
    simp only [decide_eq_true_eq, List.mem_singleton, exists_eq_left]
    omega
  · rename_i h
    have e := maskV_none acc (srcV rs dx dy)
    refine e.symm.trans (maskV_congr ga _ fun i j hi hj => ?_)
    rw [Bool.eq_iff_iff]
    unfold hitB
    simp only [decide_eq_true_eq, List.mem_singleton, exists_eq_left, Bool.false_eq_true, false_iff]
    omega
open Classical in
theorem move_mask {w : Nat} {rs : List (List Nat)} {dx dy : Int} (g : Good w rs) : ∀ (ps : List (Nat × Nat)) (acc : List (List Nat)), Good w acc → acc.length = rs.length → (∀ p ∈ ps, p.1 < w ∧ p.2 < rs.length) → moveAll rs w dx dy acc ps = maskV acc (hitB dx dy ps) (srcV rs dx dy)
  | [], acc, ga, hl, _ => by
    have e : hitB dx dy [] = fun _ _ => false := by
      funext i j
      unfold hitB
      simp
    rw [e, maskV_none]
    rfl
  | p :: t, acc, ga, hl, h => by
    obtain ⟨h1, h2⟩ := h p List.mem_cons_self
    obtain ⟨q1, q2⟩ := moveOne_shape (dx := dx) (dy := dy) g ga hl h1 h2
    show moveAll rs w dx dy (moveOne rs w dx dy acc p) t = _
    rw [move_mask g t _ q1 q2 fun q hq => h q (List.mem_cons_of_mem _ hq), moveOne_mask ga hl, maskV_mask]
    congr 1
    funext i j
    rw [Bool.eq_iff_iff]
    unfold hitB
    simp only [Bool.or_eq_true, decide_eq_true_eq, List.mem_singleton, exists_eq_left, List.mem_cons, exists_eq_or_imp, List.not_mem_nil, false_and, exists_false, or_false]
theorem copy_mask {w : Nat} {rs : List (List Nat)} (g : Good w rs) (x0 x1 y0 y1 dx dy : Int) : copyRs rs x0 x1 y0 y1 dx dy = maskV rs (fun i j => decide (lowI y0 + dy ≤ (j : Int) ∧ (j : Int) < highI y1 rs.length + dy) && decide (lowI x0 ≤ (i : Int) - dx ∧ (i : Int) - dx < highI x1 w)) (srcV rs dx dy) := by
  refine List.ext_getElem? fun j => ?_
  unfold copyRs
  rw [maskV_at, part_at]
  cases q : rs[j]? with
  | none => rfl
  | some r =>
    have hw := (g.at_ q).1
    simp only [Option.map_some]
    refine congrArg some (List.ext_getElem? fun i => ?_)
    rw [List.getElem?_mapIdx]
    by_cases h : lowI y0 + dy ≤ (j : Int) ∧ (j : Int) < highI y1 rs.length + dy
    · rw [if_pos h, cpR_at, hw, decide_eq_true h, Bool.true_and]
      cases r[i]? with
      | none => rfl
      | some d =>
        simp only [Option.map_some, decide_eq_true_eq]
        rfl
    · rw [if_neg h, decide_eq_false h, Bool.false_and]
      cases r[i]? with
      | none => rfl
      | some d => rfl
open Classical in
theorem move_copy {w : Nat} {rs : List (List Nat)} (g : Good w rs) (x0 x1 y0 y1 dx dy : Int) : moveAll rs w dx dy rs ((spotsOf w rs.length).filter (inB x0 x1 y0 y1)) = copyRs rs x0 x1 y0 y1 dx dy := by
  rw [copy_mask g, move_mask g _ _ g rfl fun p hp => mem_spots.mp (List.mem_filter.mp hp).1]
  refine maskV_congr g _ fun i j hi hj => ?_
  rw [Bool.eq_iff_iff]
  unfold hitB
  simp only [Bool.and_eq_true, decide_eq_true_eq, List.mem_filter, mem_spots, inB]
  constructor
  · rintro ⟨p, ⟨⟨p1, p2⟩, p3, p4, p5, p6⟩, e1, e2⟩
    unfold lowI highI
    refine ⟨⟨?_, ?_⟩, ?_, ?_⟩ <;> split <;> omega
  · rintro ⟨⟨h1, h2⟩, h3, h4⟩
    have l1 := low0 y0
    have l2 := low0 x0
    have l3 := high_le y1 rs.length
    have l4 := high_le x1 w
    refine ⟨(((i : Int) - dx).toNat, ((j : Int) - dy).toNat), ⟨⟨by show ((i : Int) - dx).toNat < w; omega, by show ((j : Int) - dy).toNat < rs.length; omega⟩, ?_⟩, by show ((((i : Int) - dx).toNat : Nat) : Int) + dx = i; omega, by show ((((j : Int) - dy).toNat : Nat) : Int) + dy = j; omega⟩
    show x0 ≤ ((((i : Int) - dx).toNat : Nat) : Int) ∧ ((((i : Int) - dx).toNat : Nat) : Int) < x1 ∧ y0 ≤ ((((j : Int) - dy).toNat : Nat) : Int) ∧ ((((j : Int) - dy).toNat : Nat) : Int) < y1
    unfold lowI at h1 h3 l1 l2
    unfold highI at h2 h4 l3 l4
    refine ⟨?_, ?_, ?_, ?_⟩
    · split at h3 <;> omega
    · split at h4 <;> omega
    · split at h1 <;> omega
    · split at h2 <;> omega
end Pf
end
section
namespace Pf
open PySem PySem.Spec PyProof.Rows L2 Ow StX
/-! ### a copy done pixel by pixel -/
def spCopiedL : Sp := fun vs H Q _ => ∃ (l tt tq tx ty : Addr) (as : List Addr) (w : Nat) (rs : List (List Nat)) (q : Bx) (px py : Pl), vs = [.ref l, .ref tt] ∧ GrOk H l as w rs ∧ H tt = some (.tup [.str "copy", .ref tq, .ref tx, .ref ty]) ∧ FourT H tq q ∧ BdB q ∧ TupP H tx px ∧ BdP px ∧ TupP H ty py ∧ BdP py ∧
  ∀ l' as' H', GridN H H' l' as' (copyRs rs (plV q.x0 w) (plV q.x1 w) (plV q.y0 rs.length) (plV q.y1 rs.length) (plV px w - plV q.x0 w) (plV py rs.length - plV q.y0 rs.length)) → Q (.ref l') H'
section
variable {P : Program} {w : World} {K : PySem.W.Frag} {mg : Str → Option Value} {base : Heap} {a : Adr}
set_option maxHeartbeats 4000000
theorem ok_copiedL (T : Txt K mg a) : FnR P w K mg base CX0 5 a._law_copied spCopiedL := by
  have G__law_ends : FnR P w K mg base CX0 2 a._law_ends spEnds := ok_ends T
  have G__law_at : FnR P w K mg base CX0 1 a._law_at spAt := ok_at T
  have G__law_within : FnR P w K mg base CX0 4 a._law_within spWithin := ok_within T
  have G__law_is_pixel : FnR P w K mg base CX0 1 a._law_is_pixel spIsPix := ok_ispix T
  refine T.d__law_copied.ok sc__law_copied (fun _ _ _ _ _ _ us hl => match us, hl with | [_, _], _ => rfl) (fun vs H Q E h => by obtain ⟨l, tt, tq, tx, ty, as, wd, rs, q, px, py, rfl, _⟩ := h; rfl) (fun cdv A outer s H vs Q E hr h => ?_)
  obtain ⟨l, tt, tq, tx, ty, as, wd, rs, q, px, py, rfl, gr, ht, hq, bq, hx, bx, hy, by_, k⟩ := h
  have g := gr.2.1
  have wg := wid200 g.w0 g.w1
  have hg := wid200 g.l0 g.l1
  obtain ⟨b, r, e0, hb, hr0⟩ := gr.first
  have ldv : (digV r).length = wd := by rw [List.length_map, hr0]
  have la : (as.map V.ref).length = rs.length := by rw [List.length_map]; exact gr.1.len
  refine ⟨_, (pss_cons (ps_par (i := 2) (j := 3) (by rfl) sc__law_copied.nd rfl rfl (by decide) rfl rfl (pa_cons (pe_callB call_lenK (by rfl) T.n_len (by decide +kernel) (pa_cons (pe_ix ix_list (pv 0) pe_int (fun _ _ => rfl)) pa_nil)) (pa_cons (pe_callB call_lenK (by rfl) T.n_len (by decide +kernel) (pa_cons (pv 0) pa_nil)) pa_nil)) (by rfl))
      (pss_cons (ps_set (i := 4) sc__law_copied.nd rfl (Or.inl rfl) (pe_callR G__law_ends (hr.mono (by decide)) T.m__law_ends T.k__law_ends pass0 (pa_cons (pe_ix ix_tup (pv 1) pe_int (fun _ _ => rfl)) (pa_cons (pv 2) (pa_cons (pv 3) pa_nil)))))
      (pss_cons (ps_set (i := 5) sc__law_copied.nd rfl (Or.inl rfl) (pe_tup (pa_cons (pe_op op_sub (pe_callR G__law_at (hr.mono (by decide)) T.m__law_at T.k__law_at pass0 (pa_cons (pe_ix ix_tup (pv 1) pe_int (fun _ _ => rfl)) (pa_cons (pv 2) pa_nil))) (pe_ix ix_tup (pv 4) pe_int (fun _ _ => rfl))) (pa_cons (pe_op op_sub (pe_callR G__law_at (hr.mono (by decide)) T.m__law_at T.k__law_at pass0 (pa_cons (pe_ix ix_tup (pv 1) pe_int (fun _ _ => rfl)) (pa_cons (pv 3) pa_nil))) (pe_ix ix_tup (pv 4) pe_int (fun _ _ => rfl))) pa_nil))))
      (pss_cons (ps_setLc (i := 6) (own := [("_law_row", 10)]) (g := gName 10) (by rfl) sc__law_copied.nd rfl rfl (sw_true rfl rfl rfl (by decide +kernel)) (pi_list (pv 0)) (blkOk_by (own := [("_law_row", 10)]) (N := ["_law_grid", "_law_told", "_law_width", "_law_height", "_law_begin", "_law_by", "_law_found", "_law_x", "_law_y", "_law_line", "_law_row"]) (sc := defScope s__law_copied) (by decide +kernel)) (fun _ _ _ _ _ => (pg_name (i := 10) sc__law_copied.nd rfl (Or.inl rfl))) (fun _ _ _ _ _ => pts_nil) (fun _ _ _ _ _ => (pe_callTy (call_listKK (K := K) rfl) (by rfl) T.n_list (by decide +kernel) (pa_cons (pv 10) pa_nil))))
      (pss_cons (ps_for PassesOwn.never rfl (pi_list (pe_callR G__law_within (hr.mono (by decide)) T.m__law_within T.k__law_within pass0 (pa_cons (pv 0) (pa_cons (pe_ix ix_tup (pv 1) pe_int (fun _ _ => rfl)) pa_nil)))) (pg_tup rfl (pgs_cons (pg_name (i := 7) sc__law_copied.nd rfl (Or.inl rfl)) (pgs_cons (pg_name (i := 8) sc__law_copied.nd rfl (Or.inl rfl)) pgs_nil)))
          (pss_one (ps_if (pt_val (pe_callR G__law_is_pixel (hr.mono (by decide)) T.m__law_is_pixel T.k__law_is_pixel pass0 (pa_cons (pv 0) (pa_cons (pe_op op_add (pv 7) (pe_ix ix_tup (pv 5) pe_int (fun _ _ => rfl))) (pa_cons (pe_op op_add (pv 8) (pe_ix ix_tup (pv 5) pe_int (fun _ _ => rfl))) pa_nil)))))
              (pss_cons (ps_set (i := 9) sc__law_copied.nd rfl (Or.inl rfl) (pe_ix ix_list (pv 6) (pe_op op_add (pv 8) (pe_ix ix_tup (pv 5) pe_int (fun _ _ => rfl))) (fun _ _ => rfl)))
              (pss_one (ps_asg (pe_ix ix_list (pe_ix ix_list (pv 0) (pv 8) (fun _ _ => rfl)) (pv 7) (fun _ _ => rfl)) (pg_sub (pv 9) (pe_op op_add (pv 7) (pe_ix ix_tup (pv 5) pe_int (fun _ _ => rfl))) set_list))))
              pss_nil)))
      (pss_one (ps_ret (pv 6)))))))), ?_⟩
  refine tSeq_step fun R e1 => ?_
  simp only [tSeq, tIfS, tTest, tB, tAnd, tOr, tNot, tAndV, tOrV, tNotV, tIf, tOp, tUn, tChain, rEq, rNe, rI0, rI, rU, tCallR, tCons, tNil, tC, tVar, tRet, tRetN, tTup_k, tLst_k, tCB, tNext, tAsg, gName, gTup, gCons, gNil, tDrop, tPar, tFld, ClX.tCVal, tPropR, rBin, rBinT, rNeOwn, rSetL_k, gSub, tMakeK_k, tMethR, rInO, tDNewK_k, tYes, wipe, tMakeR_k, tSMeth, tSMethK, rMulS, decide_true, tNever, sFld, rIsiT, and_false, rListOf, rTupOf, rLenSeq, rIxL, rIxT, rIxS, rCat_k, rRep_k, rSlL_k, rSlS, rNewStrs_k, rAppend_k, tBM, tBM0, tM0, tM1, tSl, tNoPart, tPart, tLc_k, tFor_k, iList, iTup, iEnumT, iRng1, iRng2, iRng2L, iStr, L2.start, List.map, List.length_cons, List.length_nil, List.cons_append, List.nil_append, List.getElem?_cons_succ, List.getElem?_cons_zero, Option.some.injEq, V.int.injEq, V.bl.injEq, V.str.injEq, V.ref.injEq, exists_eq_left', exists_eq_left, and_assoc, exists_and_left, exists_eq, exists_eq', true_and, and_true, List.set_cons_zero, List.set_cons_succ, List.set, decide_eq_true_eq, Bool.not_eq_true', if_true, if_false, rIx, cx_K, nox_K, List.replicate_succ, List.replicate_zero, Nat.reduceSub, Bool.true_eq_false, Bool.false_eq_true, Nat.reduceAdd, List.cons.injEq, reduceCtorEq, false_and, false_or, or_false, tAug, rSetO, rStrO, rUn, rBinI, rBinR, rJoin, tJs, tOrT, rIsi, tCallOI, rBinT, tFCall, tCall, tPar3, tFmtO, tMethSF, tFmt, rExtend]
  refine ⟨_, SqL.of gr.1.at_, _, atI_nat (j := 0) (by rw [List.getElem?_map, e0]; rfl), b, rfl, _, .inl (SqL.of hb), _, .inl (SqL.of gr.1.at_), ?_⟩
  rw [ldv, la]
  subst e1
  refine tSeq_step fun R e1 => ?_
  simp only [tSeq, tIfS, tTest, tB, tAnd, tOr, tNot, tAndV, tOrV, tNotV, tIf, tOp, tUn, tChain, rEq, rNe, rI0, rI, rU, tCallR, tCons, tNil, tC, tVar, tRet, tRetN, tTup_k, tLst_k, tCB, tNext, tAsg, gName, gTup, gCons, gNil, tDrop, tPar, tFld, ClX.tCVal, tPropR, rBin, rBinT, rNeOwn, rSetL_k, gSub, tMakeK_k, tMethR, rInO, tDNewK_k, tYes, wipe, tMakeR_k, tSMeth, tSMethK, rMulS, decide_true, tNever, sFld, rIsiT, and_false, rListOf, rTupOf, rLenSeq, rIxL, rIxT, rIxS, rCat_k, rRep_k, rSlL_k, rSlS, rNewStrs_k, rAppend_k, tBM, tBM0, tM0, tM1, tSl, tNoPart, tPart, tLc_k, tFor_k, iList, iTup, iEnumT, iRng1, iRng2, iRng2L, iStr, L2.start, List.map, List.length_cons, List.length_nil, List.cons_append, List.nil_append, List.getElem?_cons_succ, List.getElem?_cons_zero, Option.some.injEq, V.int.injEq, V.bl.injEq, V.str.injEq, V.ref.injEq, exists_eq_left', exists_eq_left, and_assoc, exists_and_left, exists_eq, exists_eq', true_and, and_true, List.set_cons_zero, List.set_cons_succ, List.set, decide_eq_true_eq, Bool.not_eq_true', if_true, if_false, rIx, cx_K, nox_K, List.replicate_succ, List.replicate_zero, Nat.reduceSub, Bool.true_eq_false, Bool.false_eq_true, Nat.reduceAdd, List.cons.injEq, reduceCtorEq, false_and, false_or, or_false, tAug, rSetO, rStrO, rUn, rBinI, rBinR, rJoin, tJs, tOrT, rIsi, tCallOI, rBinT, tFCall, tCall, tPar3, tFmtO, tMethSF, tFmt, rExtend]
  refine ⟨_, .inl (.inl ht), _, rfl, tq, q, _, _, rfl, hq, bq, wg, hg, fun tb H1 f1 => ?_⟩
  have gr1 := gr.same f1.same
  have ht1 := f1.get ht
  have hx1 := hx.same f1.same
  have hy1 := hy.same f1.same
  have hq1 := hq.same f1.same
  have hb1 := f1.at_
  unfold endsV at hb1
  have mx := bx.muls wg
  have my := by_.muls hg
  subst e1
  refine tSeq_step fun R e1 => ?_
  simp only [tSeq, tIfS, tTest, tB, tAnd, tOr, tNot, tAndV, tOrV, tNotV, tIf, tOp, tUn, tChain, rEq, rNe, rI0, rI, rU, tCallR, tCons, tNil, tC, tVar, tRet, tRetN, tTup_k, tLst_k, tCB, tNext, tAsg, gName, gTup, gCons, gNil, tDrop, tPar, tFld, ClX.tCVal, tPropR, rBin, rBinT, rNeOwn, rSetL_k, gSub, tMakeK_k, tMethR, rInO, tDNewK_k, tYes, wipe, tMakeR_k, tSMeth, tSMethK, rMulS, decide_true, tNever, sFld, rIsiT, and_false, rListOf, rTupOf, rLenSeq, rIxL, rIxT, rIxS, rCat_k, rRep_k, rSlL_k, rSlS, rNewStrs_k, rAppend_k, tBM, tBM0, tM0, tM1, tSl, tNoPart, tPart, tLc_k, tFor_k, iList, iTup, iEnumT, iRng1, iRng2, iRng2L, iStr, L2.start, List.map, List.length_cons, List.length_nil, List.cons_append, List.nil_append, List.getElem?_cons_succ, List.getElem?_cons_zero, Option.some.injEq, V.int.injEq, V.bl.injEq, V.str.injEq, V.ref.injEq, exists_eq_left', exists_eq_left, and_assoc, exists_and_left, exists_eq, exists_eq', true_and, and_true, List.set_cons_zero, List.set_cons_succ, List.set, decide_eq_true_eq, Bool.not_eq_true', if_true, if_false, rIx, cx_K, nox_K, List.replicate_succ, List.replicate_zero, Nat.reduceSub, Bool.true_eq_false, Bool.false_eq_true, Nat.reduceAdd, List.cons.injEq, reduceCtorEq, false_and, false_or, or_false, tAug, rSetO, rStrO, rUn, rBinI, rBinR, rJoin, tJs, tOrT, rIsi, tCallOI, rBinT, tFCall, tCall, tPar3, tFmtO, tMethSF, tFmt, rExtend]
  refine ⟨_, .inl (.inl ht1), _, rfl, tx, px, _, rfl, hx1, mx, _, .inl (.inl hb1), _, rfl, _, rfl, _, rfl, _, .inl (.inl ht1), _, rfl, ty, py, _, rfl, hy1, my, _, .inl (.inl hb1), _, rfl, _, rfl, _, rfl, kNew.mk (by show 2 ≤ sizeLine; decide) fun td H2 f2 => ?_⟩
  have gr2 := gr1.same f2.same
  have ht2 := f2.get ht1
  have hq2 := hq1.same f2.same
  have hd2 := f2.at_
  have s02 := f1.same.trans f2.same
  clear f1 f2 gr1 ht1 hx1 hy1 hq1 hb1
  generalize plV px wd - plV q.x0 wd = dx at *
  generalize plV py rs.length - plV q.y0 rs.length = dy at *
  subst e1
  refine tSeq_step fun R e1 => ?_
  simp only [tSeq, tIfS, tTest, tB, tAnd, tOr, tNot, tAndV, tOrV, tNotV, tIf, tOp, tUn, tChain, rEq, rNe, rI0, rI, rU, tCallR, tCons, tNil, tC, tVar, tRet, tRetN, tTup_k, tLst_k, tCB, tNext, tAsg, gName, gTup, gCons, gNil, tDrop, tPar, tFld, ClX.tCVal, tPropR, rBin, rBinT, rNeOwn, rSetL_k, gSub, tMakeK_k, tMethR, rInO, tDNewK_k, tYes, wipe, tMakeR_k, tSMeth, tSMethK, rMulS, decide_true, tNever, sFld, rIsiT, and_false, rListOf, rTupOf, rLenSeq, rIxL, rIxT, rIxS, rCat_k, rRep_k, rSlL_k, rSlS, rNewStrs_k, rAppend_k, tBM, tBM0, tM0, tM1, tSl, tNoPart, tPart, tLc_k, tFor_k, iList, iTup, iEnumT, iRng1, iRng2, iRng2L, iStr, L2.start, List.map, List.length_cons, List.length_nil, List.cons_append, List.nil_append, List.getElem?_cons_succ, List.getElem?_cons_zero, Option.some.injEq, V.int.injEq, V.bl.injEq, V.str.injEq, V.ref.injEq, exists_eq_left', exists_eq_left, and_assoc, exists_and_left, exists_eq, exists_eq', true_and, and_true, List.set_cons_zero, List.set_cons_succ, List.set, decide_eq_true_eq, Bool.not_eq_true', if_true, if_false, rIx, cx_K, nox_K, List.replicate_succ, List.replicate_zero, Nat.reduceSub, Bool.true_eq_false, Bool.false_eq_true, Nat.reduceAdd, List.cons.injEq, reduceCtorEq, false_and, false_or, or_false, tAug, rSetO, rStrO, rUn, rBinI, rBinR, rJoin, tJs, tOrT, rIsi, tCallOI, rBinT, tFCall, tCall, tPar3, tFmtO, tMethSF, tFmt, rExtend]
  refine ⟨⟨_, SqL.of gr2.1.at_⟩, ?_⟩
  refine kLc.it (walk_list (xs := as.map V.ref)) (fun D j H' => ∃ as' : List Addr, as'.length = j ∧ MkG rs H2 D as' H') (fun D H' f => ⟨[], rfl, f.same, f.at_, f.new, List.nodup_nil, Nat.zero_le _, fun i b r e => by cases i <;> cases e⟩) (fun D j H' hI => ?_) (fun D j xv H7 H8 hj hI hY => ?_) fun D H7 hI => ?_
  · obtain ⟨as', hl, m⟩ := hI
    exact SqL.of (m.same _ _ gr2.1.at_)
  · obtain ⟨as', hl, m⟩ := hI
    obtain ⟨rfl, e⟩ := hY
    obtain ⟨b, r, hb, hr', rfl⟩ := gr2.1.at e
    simp only [tSeq, tIfS, tTest, tB, tAnd, tOr, tNot, tAndV, tOrV, tNotV, tIf, tOp, tUn, tChain, rEq, rNe, rI0, rI, rU, tCallR, tCons, tNil, tC, tVar, tRet, tRetN, tTup_k, tLst_k, tCB, tNext, tAsg, gName, gTup, gCons, gNil, tDrop, tPar, tFld, ClX.tCVal, tPropR, rBin, rBinT, rNeOwn, rSetL_k, gSub, tMakeK_k, tMethR, rInO, tDNewK_k, tYes, wipe, tMakeR_k, tSMeth, tSMethK, rMulS, decide_true, tNever, sFld, rIsiT, and_false, rListOf, rTupOf, rLenSeq, rIxL, rIxT, rIxS, rCat_k, rRep_k, rSlL_k, rSlS, rNewStrs_k, rAppend_k, tBM, tBM0, tM0, tM1, tSl, tNoPart, tPart, tLc_k, tFor_k, iList, iTup, iEnumT, iRng1, iRng2, iRng2L, iStr, L2.start, List.map, List.length_cons, List.length_nil, List.cons_append, List.nil_append, List.getElem?_cons_succ, List.getElem?_cons_zero, Option.some.injEq, V.int.injEq, V.bl.injEq, V.str.injEq, V.ref.injEq, exists_eq_left', exists_eq_left, and_assoc, exists_and_left, exists_eq, exists_eq', true_and, and_true, List.set_cons_zero, List.set_cons_succ, List.set, decide_eq_true_eq, Bool.not_eq_true', if_true, if_false, rIx, cx_K, nox_K, List.replicate_succ, List.replicate_zero, Nat.reduceSub, Bool.true_eq_false, Bool.false_eq_true, Nat.reduceAdd, List.cons.injEq, reduceCtorEq, false_and, false_or, or_false, tAug, rSetO, rStrO, rUn, rBinI, rBinR, rJoin, tJs, tOrT, rIsi, tCallOI, rBinT, tFCall, tCall, tPar3, tFmtO, tMethSF, tFmt, rExtend]
    have lj := (List.getElem?_eq_some_iff.mp hr').1
    exact ⟨_, .inl (SqL.of (m.same _ _ (gr2.1.row j b r hb hr'))), kN.mk fun b2 H9 f9 => m.add hl f9.same f9.new f9.at_ hr' (size200 (by have := g.l1; omega))⟩
  obtain ⟨as', hl, m⟩ := hI
  rw [List.length_map, gr2.1.len] at hl
  have G7 := m.done hl
  clear m
  subst e1
  refine tSeq_step fun R e1 => ?_
  simp only [tSeq, tIfS, tTest, tB, tAnd, tOr, tNot, tAndV, tOrV, tNotV, tIf, tOp, tUn, tChain, rEq, rNe, rI0, rI, rU, tCallR, tCons, tNil, tC, tVar, tRet, tRetN, tTup_k, tLst_k, tCB, tNext, tAsg, gName, gTup, gCons, gNil, tDrop, tPar, tFld, ClX.tCVal, tPropR, rBin, rBinT, rNeOwn, rSetL_k, gSub, tMakeK_k, tMethR, rInO, tDNewK_k, tYes, wipe, tMakeR_k, tSMeth, tSMethK, rMulS, decide_true, tNever, sFld, rIsiT, and_false, rListOf, rTupOf, rLenSeq, rIxL, rIxT, rIxS, rCat_k, rRep_k, rSlL_k, rSlS, rNewStrs_k, rAppend_k, tBM, tBM0, tM0, tM1, tSl, tNoPart, tPart, tLc_k, tFor_k, iList, iTup, iEnumT, iRng1, iRng2, iRng2L, iStr, L2.start, List.map, List.length_cons, List.length_nil, List.cons_append, List.nil_append, List.getElem?_cons_succ, List.getElem?_cons_zero, Option.some.injEq, V.int.injEq, V.bl.injEq, V.str.injEq, V.ref.injEq, exists_eq_left', exists_eq_left, and_assoc, exists_and_left, exists_eq, exists_eq', true_and, and_true, List.set_cons_zero, List.set_cons_succ, List.set, decide_eq_true_eq, Bool.not_eq_true', if_true, if_false, rIx, cx_K, nox_K, List.replicate_succ, List.replicate_zero, Nat.reduceSub, Bool.true_eq_false, Bool.false_eq_true, Nat.reduceAdd, List.cons.injEq, reduceCtorEq, false_and, false_or, or_false, tAug, rSetO, rStrO, rUn, rBinI, rBinR, rJoin, tJs, tOrT, rIsi, tCallOI, rBinT, tFCall, tCall, tPar3, tFmtO, tMethSF, tFmt, rExtend]
  have gr7 := gr2.same G7.same
  refine ⟨_, .inl (.inl (G7.same _ _ ht2)), _, rfl, l, tq, as, wd, rs, q, rfl, gr7, hq2.same G7.same, bq, fun D0 H8 S8 => ⟨D0, rfl, ?_⟩⟩
  obtain ⟨ts, te, tl, ta⟩ := S8.ex
  have hin : ∀ p ∈ (spotsOf wd rs.length).filter (inB (plV q.x0 wd) (plV q.x1 wd) (plV q.y0 rs.length) (plV q.y1 rs.length)), p.1 < wd ∧ p.2 < rs.length := fun p hp => mem_spots.mp (List.mem_filter.mp hp).1
  have mc := move_copy g (plV q.x0 wd) (plV q.x1 wd) (plV q.y0 rs.length) (plV q.y1 rs.length) dx dy
  generalize (spotsOf wd rs.length).filter (inB (plV q.x0 wd) (plV q.x1 wd) (plV q.y0 rs.length) (plV q.y1 rs.length)) = ps at *
  have gr8 := gr7.same S8.same
  have hd8 := S8.same _ _ (G7.same _ _ hd2)
  have G8 := G7.on S8.same
  refine ⟨⟨_, SqL.of te⟩, ?_⟩
  refine kFor.it (walk_list (xs := ts.map V.ref)) (fun i σ H' => GridN H2 H' D as' (moveAll rs wd dx dy rs (ps.take i)) ∧ H' D0 = some (.lst (ts.map V.ref)) ∧ GrOk H' l as wd rs ∧ H' td = some (.tup [.int dx, .int dy]) ∧ (∀ (m : Nat) (tt : Addr) (p : Nat × Nat), ts[m]? = some tt → ps[m]? = some p → H' tt = some (.tup [.int (p.1 : Nat), .int (p.2 : Nat)])) ∧ ∃ v7 v8 v9 v10, σ = [some (.ref l), some (.ref tt), some (.int wd), some (.int rs.length), some (.ref tb), some (.ref td), some (.ref D), v7, v8, v9, v10]) ⟨G8, te, gr8, hd8, ta, _, _, _, _, rfl⟩ (fun i σ H' _ hP => SqL.of hP.2.1) (fun i xv σ Ha Hb hi hP hY => ?_) fun σ Ha hP => ?_
  · obtain ⟨Ga, ea, gra, da, taa, v7, v8, v9, v10, rfl⟩ := hP
    obtain ⟨rfl, e⟩ := hY
    rw [List.length_map] at hi
    obtain ⟨tp, et, rfl⟩ : ∃ tt, ts[i]? = some tt ∧ xv = .ref tt := by
      rw [List.getElem?_map, List.getElem?_eq_getElem hi] at e
      exact ⟨_, List.getElem?_eq_getElem hi, (Option.some.inj e).symm⟩
    obtain ⟨p, ep⟩ : ∃ p, ps[i]? = some p := ⟨_, List.getElem?_eq_getElem (by omega)⟩
    have htt := taa i tp p et ep
    obtain ⟨p1, p2⟩ := hin p (List.mem_of_getElem? ep)
    have step : moveAll rs wd dx dy rs (ps.take (i + 1)) = moveOne rs wd dx dy (moveAll rs wd dx dy rs (ps.take i)) p := by
      rw [List.take_add_one, ep]
      exact move_snoc ..
    obtain ⟨gi, gl⟩ := move_shape (dx := dx) (dy := dy) g (ps.take i) rs g rfl fun q hq => hin q (List.mem_of_mem_take hq)
    generalize moveAll rs wd dx dy rs (ps.take i) = acc at *
    simp only [tSeq, tIfS, tTest, tB, tAnd, tOr, tNot, tAndV, tOrV, tNotV, tIf, tOp, tUn, tChain, rEq, rNe, rI0, rI, rU, tCallR, tCons, tNil, tC, tVar, tRet, tRetN, tTup_k, tLst_k, tCB, tNext, tAsg, gName, gTup, gCons, gNil, tDrop, tPar, tFld, ClX.tCVal, tPropR, rBin, rBinT, rNeOwn, rSetL_k, gSub, tMakeK_k, tMethR, rInO, tDNewK_k, tYes, wipe, tMakeR_k, tSMeth, tSMethK, rMulS, decide_true, tNever, sFld, rIsiT, and_false, rListOf, rTupOf, rLenSeq, rIxL, rIxT, rIxS, rCat_k, rRep_k, rSlL_k, rSlS, rNewStrs_k, rAppend_k, tBM, tBM0, tM0, tM1, tSl, tNoPart, tPart, tLc_k, tFor_k, iList, iTup, iEnumT, iRng1, iRng2, iRng2L, iStr, L2.start, List.map, List.length_cons, List.length_nil, List.cons_append, List.nil_append, List.getElem?_cons_succ, List.getElem?_cons_zero, Option.some.injEq, V.int.injEq, V.bl.injEq, V.str.injEq, V.ref.injEq, exists_eq_left', exists_eq_left, and_assoc, exists_and_left, exists_eq, exists_eq', true_and, and_true, List.set_cons_zero, List.set_cons_succ, List.set, decide_eq_true_eq, Bool.not_eq_true', if_true, if_false, rIx, cx_K, nox_K, List.replicate_succ, List.replicate_zero, Nat.reduceSub, Bool.true_eq_false, Bool.false_eq_true, Nat.reduceAdd, List.cons.injEq, reduceCtorEq, false_and, false_or, or_false, tAug, rSetO, rStrO, rUn, rBinI, rBinR, rJoin, tJs, tOrT, rIsi, tCallOI, rBinT, tFCall, tCall, tPar3, tFmtO, tMethSF, tFmt, rExtend]
    refine ⟨_, SqT.of htt, rfl, _, _, rfl, _, _, rfl, rfl, _, .inl (.inl da), _, rfl, _, rfl, _, rfl, _, .inl (.inl da), _, rfl, _, rfl, _, rfl, l, as, wd, rs, _, _, rfl, gra, _, rfl, ?_⟩
    rw [step]
    by_cases h : 0 ≤ (p.2 : Int) + dy ∧ (p.2 : Int) + dy < rs.length ∧ 0 ≤ (p.1 : Int) + dx ∧ (p.1 : Int) + dx < wd
    · rw [decide_eq_true h, if_pos rfl]
      unfold moveOne
      rw [if_pos h]
      obtain ⟨Y, hY⟩ : ∃ m : Nat, (m : Int) = (p.2 : Int) + dy := ⟨((p.2 : Int) + dy).toNat, by omega⟩
      obtain ⟨X, hX⟩ : ∃ m : Nat, (m : Int) = (p.1 : Int) + dx := ⟨((p.1 : Int) + dx).toNat, by omega⟩
      rw [← hY, ← hX, Int.toNat_natCast, Int.toNat_natCast]
      have hYl : Y < rs.length := by omega
      have hXw : X < wd := by omega
      have la' := Ga.grid.len
      obtain ⟨b', eb⟩ : ∃ b, as'[Y]? = some b := ⟨_, List.getElem?_eq_getElem (by omega)⟩
      obtain ⟨r', er⟩ : ∃ r, acc[Y]? = some r := ⟨_, List.getElem?_eq_getElem (by omega)⟩
      have hb' := Ga.grid.row Y b' r' eb er
      have lr := (gi.at_ er).1
      have lb := gra.1.len
      obtain ⟨b2, eb2⟩ : ∃ b, as[p.2]? = some b := ⟨_, List.getElem?_eq_getElem (by omega)⟩
      obtain ⟨r2, er2⟩ : ∃ r, rs[p.2]? = some r := ⟨_, List.getElem?_eq_getElem p2⟩
      have hb2 := gra.1.row p.2 b2 r2 eb2 er2
      have lr2 := (g.at_ er2).1
      obtain ⟨d, ed⟩ : ∃ d, r2[p.1]? = some d := ⟨_, List.getElem?_eq_getElem (by omega)⟩
      have ev : (digV r2)[p.1]? = some (.int ((d : Int) - 48)) := by rw [List.getElem?_map, ed]; rfl
      have pd : pix0 rs p.1 p.2 = d := by
        unfold pix0
        rw [List.getD_eq_getElem?_getD, List.getD_eq_getElem?_getD, er2, Option.getD_some, ed, Option.getD_some]
      have nb : ∀ {y : Addr} {o : HO}, Hb y = some o → (∀ z xs, o ≠ .lst (.int z :: xs)) → y ≠ b' := fun e n z => by
        rw [z, hb'] at e
        cases r' with
        | nil => have w0 := g.w0; exact absurd lr (by show ¬ (0 = wd); omega)
        | cons u v => exact n _ _ (Option.some.inj e).symm
      have rno : ∀ {xs : List Addr} z ys, HO.lst (xs.map V.ref) ≠ .lst (.int z :: ys) := fun {xs} z ys e => by
        have e := HO.lst.inj e
        cases xs <;> cases e
      refine ⟨_, .inl (.inl da), _, rfl, _, rfl, _, rfl, _, SqL.of Ga.grid.at_, _, by rw [← hY]; exact atI_nat (by rw [List.getElem?_map, eb]; rfl), ?_⟩
      refine ⟨_, _, rfl, SqL.of gra.1.at_, _, atI_nat (by rw [List.getElem?_map, eb2]; rfl), b2, rfl, _, _, rfl, SqL.of hb2, _, atI_nat ev, ?_⟩
      refine ⟨_, .inl (.inl da), _, rfl, _, rfl, _, rfl, ?_⟩
      refine ⟨b', rfl, _, hb', X, ?_, ?_⟩
      · rw [← hX]
        unfold ixN
        have ldr : (digV r').length = wd := by show (List.map _ r').length = wd; rw [List.length_map, lr]
        rw [if_pos (by omega), if_pos (by rw [ldr]; omega), Int.toNat_natCast]
      · have es : (digV r').set X (.int ((d : Int) - 48)) = digV (r'.set X d) := by
          show (List.map _ r').set X _ = List.map _ (r'.set X d)
          rw [List.map_set]
        have z := Ga.put eb (r'.set X d)
        rw [es, List.getD_eq_getElem?_getD, er, Option.getD_some, pd]
        have up : ∀ {y : Addr} {o : HO}, Hb y = some o → (∀ z xs, o ≠ .lst (.int z :: xs)) → upd Hb b' (.lst (digV (r'.set X d))) y = some o := fun e n => by rw [upd_ne (nb e n)]; exact e
        exact ⟨z, up ea rno, gr2.same z.same, up da (fun _ _ z => by cases z), fun m tt p e1 e2 => up (taa m tt p e1 e2) fun _ _ z => by cases z⟩
    · rw [decide_eq_false h, if_neg (by decide)]
      unfold moveOne
      rw [if_neg h]
      exact ⟨Ga, ea, gra, da, taa⟩
  · obtain ⟨Ga, ea, gra, da, taa, v7, v8, v9, v10, rfl⟩ := hP
    rw [List.length_map, tl, List.take_length, mc] at Ga
    subst e1
    simp only [tSeq, tIfS, tTest, tB, tAnd, tOr, tNot, tAndV, tOrV, tNotV, tIf, tOp, tUn, tChain, rEq, rNe, rI0, rI, rU, tCallR, tCons, tNil, tC, tVar, tRet, tRetN, tTup_k, tLst_k, tCB, tNext, tAsg, gName, gTup, gCons, gNil, tDrop, tPar, tFld, ClX.tCVal, tPropR, rBin, rBinT, rNeOwn, rSetL_k, gSub, tMakeK_k, tMethR, rInO, tDNewK_k, tYes, wipe, tMakeR_k, tSMeth, tSMethK, rMulS, decide_true, tNever, sFld, rIsiT, and_false, rListOf, rTupOf, rLenSeq, rIxL, rIxT, rIxS, rCat_k, rRep_k, rSlL_k, rSlS, rNewStrs_k, rAppend_k, tBM, tBM0, tM0, tM1, tSl, tNoPart, tPart, tLc_k, tFor_k, iList, iTup, iEnumT, iRng1, iRng2, iRng2L, iStr, L2.start, List.map, List.length_cons, List.length_nil, List.cons_append, List.nil_append, List.getElem?_cons_succ, List.getElem?_cons_zero, Option.some.injEq, V.int.injEq, V.bl.injEq, V.str.injEq, V.ref.injEq, exists_eq_left', exists_eq_left, and_assoc, exists_and_left, exists_eq, exists_eq', true_and, and_true, List.set_cons_zero, List.set_cons_succ, List.set, decide_eq_true_eq, Bool.not_eq_true', if_true, if_false, rIx, cx_K, nox_K, List.replicate_succ, List.replicate_zero, Nat.reduceSub, Bool.true_eq_false, Bool.false_eq_true, Nat.reduceAdd, List.cons.injEq, reduceCtorEq, false_and, false_or, or_false, tAug, rSetO, rStrO, rUn, rBinI, rBinR, rJoin, tJs, tOrT, rIsi, tCallOI, rBinT, tFCall, tCall, tPar3, tFmtO, tMethSF, tFmt, rExtend]
    exact k D as' Ha ⟨Ga.grid, s02.trans Ga.same, s02.free Ga.new, fun b hb => ⟨s02.free (Ga.fresh b hb).1, (Ga.fresh b hb).2⟩⟩
end
end Pf
end
section
namespace Pf
open PySem PySem.Spec PyProof.Rows L2 Ow StX
/-! ### noise -/
theorem rows_other {H : Hp} {t y : Addr} {w : Nat} {rs : List (List Nat)} {o : HO} (g : Good w rs) (h : H t = some (.lst (rowsV rs))) (e : H y = some o) (n : ∀ s xs, o ≠ .lst (.str s :: xs)) : y ≠ t := fun z => by
  rw [z, h] at e
  cases rs with
  | nil => exact absurd g.l0 (by decide)
  | cons q s => exact n _ _ (Option.some.inj e).symm
theorem refs_no {as : List Addr} : ∀ s xs, HO.lst (as.map V.ref) ≠ .lst (.str s :: xs) := fun s xs z => by
  have z := HO.lst.inj z
  cases as <;> cases z
theorem digs_no {r : List Nat} : ∀ s xs, HO.lst (digV r) ≠ .lst (.str s :: xs) := fun s xs z => by
  have z := HO.lst.inj z
  cases r <;> cases z
theorem ints_no {ns : List Int} : ∀ s xs, HO.lst (ns.map V.int) ≠ .lst (.str s :: xs) := fun s xs z => by
  have z := HO.lst.inj z
  cases ns <;> cases z
theorem Pen.putR {H H' : Hp} {p c t : Addr} {n : Int} {w : Nat} {rs rs' : List (List Nat)} (P : Pen H p c n) (g : Good w rs) (h : H t = some (.lst (rowsV rs))) (f : Put H H' t (.lst (rowsV rs'))) : Pen H' p c n := by
  obtain ⟨ns, b, r, h1, h2, e⟩ := P
  exact ⟨ns, b, r, f.get (rows_other g h h1 fun _ _ z => by cases z) h1, f.get (rows_other g h h2 ints_no) h2, e⟩
theorem GrOk.putR {H H' : Hp} {l t : Addr} {as : List Addr} {w w' : Nat} {rs rs2 rs' : List (List Nat)} (G : GrOk H l as w' rs2) (g : Good w rs) (h : H t = some (.lst (rowsV rs))) (f : Put H H' t (.lst (rowsV rs'))) : GrOk H' l as w' rs2 :=
  ⟨G.1.of (f.get (rows_other g h G.1.at_ refs_no) G.1.at_) fun i b r _ _ e => f.get (rows_other g h e digs_no) e, G.2⟩
theorem CanT.pen {H H' : Hp} {C x t p c : Addr} {n : Int} {w : Nat} {rs : List (List Nat)} (h : CanT H C x t rs) (g : Good w rs) (P : Pen H p c n) (s : SameBut p H H') : CanT H' C x t rs := by
  obtain ⟨dx, h1, h2⟩ := h
  exact ⟨dx, s _ _ (P.ne h1 fun _ z => by cases z) h1, rows_but h2 g P s⟩
theorem mask_full {w : Nat} {rs0 rs : List (List Nat)} (g0 : Good w rs0) (g : Good w rs) (hl : rs0.length = rs.length) : maskV rs0 (fun i j => decide ((i, j) ∈ spotsOf w rs.length)) (pix0 rs) = rs := by
  refine List.ext_getElem? fun j => ?_
  rw [maskV_at]
  by_cases hj : j < rs.length
  · obtain ⟨r0, e0⟩ : ∃ r, rs0[j]? = some r := ⟨_, List.getElem?_eq_getElem (by omega)⟩
    obtain ⟨r, e⟩ : ∃ r, rs[j]? = some r := ⟨_, List.getElem?_eq_getElem hj⟩
    have w0 := (g0.at_ e0).1
    have w1 := (g.at_ e).1
    rw [e0, e, Option.map_some]
    refine congrArg some (List.ext_getElem? fun i => ?_)
    rw [List.getElem?_mapIdx]
    by_cases hi : i < w
    · obtain ⟨d0, f0⟩ : ∃ r, r0[i]? = some r := ⟨_, List.getElem?_eq_getElem (by omega)⟩
      obtain ⟨d, f⟩ : ∃ z, r[i]? = some z := ⟨_, List.getElem?_eq_getElem (by omega)⟩
      rw [f0, f, Option.map_some, if_pos (decide_eq_true (mem_spots.mpr ⟨hi, hj⟩))]
      unfold pix0
      rw [List.getD_eq_getElem?_getD, List.getD_eq_getElem?_getD, e, Option.getD_some, f, Option.getD_some]
    · rw [List.getElem?_eq_none (by omega), List.getElem?_eq_none (by omega)]
      rfl
  · rw [List.getElem?_eq_none (by omega), List.getElem?_eq_none (by omega)]
    rfl
theorem mask_step (rs0 : List (List Nat)) (v : Nat → Nat → Nat) (ps : List (Nat × Nat)) (p : Nat × Nat) : (maskV rs0 (fun i j => decide ((i, j) ∈ ps)) v).set p.2 (((maskV rs0 (fun i j => decide ((i, j) ∈ ps)) v).getD p.2 []).set p.1 (v p.1 p.2)) = maskV rs0 (fun i j => decide ((i, j) ∈ ps ++ [p])) v := by
  rw [maskV_one, maskV_mask]
  congr 1
  funext i j
  rw [Bool.eq_iff_iff]
  obtain ⟨x, y⟩ := p
  simp only [Bool.or_eq_true, decide_eq_true_eq, List.mem_append, List.mem_cons, Prod.mk.injEq, List.not_mem_nil, or_false]
def spNoise (Cv : Addr) : Sp := fun vs H Q _ => ∃ (p c x t : Addr) (w : Nat) (rs0 : List (List Nat)) (n : Int), vs = [.ref p, .ref x] ∧ Pen H p c n ∧ n + 200 < 1048576 ∧ CanT H Cv x t rs0 ∧ Good w rs0 ∧ w ≤ 9 ∧ rs0.length ≤ 9 ∧
  ∀ l as rs H', rs.length = rs0.length → Kp Cv p c x l as w rs (n + 100) H' → Q (.ref l) H'
/-- rows drawn so far -/
structure Noi (p : Addr) (w : Nat) (H1 H : Hp) (D : Addr) (as : List Addr) (rs : List (List Nat)) : Prop where
  same : SameBut p H1 H
  new : H1 D = none
  at_ : H D = some (.lst (as.map V.ref))
  len : as.length = rs.length
  row : ∀ (i : Nat) (b : Addr) (r : List Nat), as[i]? = some b → rs[i]? = some r → H b = some (.lst (digV r)) ∧ b ≠ D
  ok : ∀ r ∈ rs, r.length = w ∧ DigL r
  nd : as.Nodup
theorem digV_snoc (ds : List Nat) {z : Int} (z0 : 0 ≤ z) : digV (ds ++ [48 + z.toNat]) = digV ds ++ [.int z] := by
  show List.map _ (ds ++ [48 + z.toNat]) = _
  rw [List.map_append]
  congr 1
  show [V.int (((48 + z.toNat : Nat) : Int) - 48)] = _
  rw [show ((48 + z.toNat : Nat) : Int) - 48 = z by omega]
theorem Noi.add {p c D b : Addr} {w : Nat} {H1 H HA HC : Hp} {as : List Addr} {rs : List (List Nat)} {r : List Nat} {n : Int} (m : Noi p w H1 H D as rs) (dp : D ≠ p) (P : Pen H p c n) (s : SameBut p H HA) (nb : H b = none) (hb : HA b = some (.lst (digV r))) (f : Put HA HC D (.lst (as.map V.ref ++ [.ref b]))) (hr : r.length = w ∧ DigL r) :
    Noi p w H1 HC D (as ++ [b]) (rs ++ [r]) := by
  have bD : b ≠ D := fun z => by rw [z, m.at_] at nb; cases nb
  have nbm : b ∉ as := fun z => by
    obtain ⟨i, hi⟩ := List.getElem?_of_mem z
    have hl := (List.getElem?_eq_some_iff.mp hi).1
    have := (m.row i b _ hi (List.getElem?_eq_getElem (by rw [← m.len]; exact hl))).1
    rw [this] at nb
    cases nb
  refine ⟨fun y o n e => f.get (ne_of_none e m.new) (s _ _ n (m.same _ _ n e)), m.new, by rw [List.map_append]; exact f.at_, by rw [List.length_append, List.length_append, m.len]; rfl, fun i y q e1 e2 => ?_, fun q hq => ?_, ?_⟩
  · by_cases hi : i < as.length
    · rw [List.getElem?_append_left hi] at e1
      rw [List.getElem?_append_left (by rw [← m.len]; exact hi)] at e2
      obtain ⟨h1, h2⟩ := m.row i y q e1 e2
      exact ⟨f.get h2 (s _ _ (dig_ne_p P h1) h1), h2⟩
    · rw [List.getElem?_append_right (by omega)] at e1
      rw [List.getElem?_append_right (by rw [← m.len]; omega)] at e2
      have hi0 : i - as.length = 0 := by
        match hz : i - as.length with
        | 0 => rfl
        | m + 1 => rw [hz] at e1; cases e1
      rw [hi0] at e1
      rw [← m.len, hi0] at e2
      cases e1
      cases e2
      exact ⟨f.get bD hb, bD⟩
  · rcases List.mem_append.mp hq with h | h
    · exact m.ok q h
    · rw [List.mem_singleton.mp h]
      exact hr
  · rw [List.nodup_append]
    exact ⟨m.nd, by simp, fun x hx y hy => by rw [List.mem_singleton.mp hy]; exact fun z => nbm (z ▸ hx)⟩
section
variable {P : Program} {w : World} {K : PySem.W.Frag} {mg : Str → Option Value} {base : Heap} {a : Adr}
set_option maxHeartbeats 4000000
theorem ok_noise (T : Txt K mg a) : FnR P w K mg base CX0 6 a._law_noise (spNoise a.Canvas) := by
  have G__law_draw : FnR P w K mg base CX0 1 a._law_draw spPDraw := ok_pdraw T
  have G__law_spots : FnR P w K mg base CX0 1 a._law_spots spSpots := ok_spots T
  have G_setitem : FnR P w K mg base (CX P w) 5 a.Canvas_setitem (spCanSet K a.Canvas a.BadPixel a.BadColour) := ok_can_set T
  have G_Canvas_width : FnR P w K mg base CX0 1 a.Canvas_width (spCanWidth a.Canvas) := ok_can_width T
  have G_Canvas_height : FnR P w K mg base CX0 1 a.Canvas_height (spCanHeight a.Canvas) := ok_can_height T
  refine T.d__law_noise.ok sc__law_noise (fun _ _ _ _ _ _ us hl => match us, hl with | [_, _], _ => rfl) (fun vs H Q E h => by obtain ⟨p, c, x, t, wd, rs0, n, rfl, _⟩ := h; rfl) (fun cdv A outer s H vs Q E hr h => ?_)
  obtain ⟨p, c, x, t, wd, rs0, n, rfl, P0, hn, cv0, g0, w9, l9, k⟩ := h
  have w1 := g0.w0
  have l1 := g0.l0
  have wh : rs0.length * wd ≤ 9 * 9 := Nat.mul_le_mul l9 w9
  refine ⟨_, (pss_cons (ps_set (i := 2) sc__law_noise.nd rfl (Or.inl rfl) (pe_lst pa_nil))
      (pss_cons (ps_for PassesOwn.never rfl (pi_range1 rfl T.n_range (pa_cons (pe_propR (pv 1) T.c_Canvas.cl T.p_Canvas_height G_Canvas_height (hr.mono (by decide))  pass0) pa_nil)) (pg_name (i := 3) sc__law_noise.nd rfl (Or.inl rfl))
          (pss_one (ps_expr (pe_bm PySem.F.plainAttrs_list PySem.F.slot_list_append PySem.F.type_list_append mt_append (pv 2) (pa_cons (pe_lc (own := [("_law_x", 4)]) (g := gName 4) (by rfl) sc__law_noise.nd (pi_range1 rfl T.n_range (pa_cons (pe_propR (pv 1) T.c_Canvas.cl T.p_Canvas_width G_Canvas_width (hr.mono (by decide))  pass0) pa_nil)) (blkOk_by (own := [("_law_x", 4)]) (N := ["_law_pen_here", "_law_canvas", "_law_rows", "_law_y", "_law_x"]) (sc := defScope s__law_noise) (by decide +kernel)) (fun _ _ _ _ _ => (pg_name (i := 4) sc__law_noise.nd rfl (Or.inl rfl))) (fun _ _ _ _ _ => pts_nil) (fun _ _ _ _ _ => (pe_callR G__law_draw (hr.mono (by decide)) T.m__law_draw T.k__law_draw pass0 (pa_cons (pv 0) (pa_cons pe_int pa_nil))))) pa_nil)))))
      (pss_cons (ps_for PassesOwn.never rfl (pi_list (pe_callR G__law_spots (hr.mono (by decide)) T.m__law_spots T.k__law_spots pass0 (pa_cons (pv 2) pa_nil))) (pg_tup rfl (pgs_cons (pg_name (i := 4) sc__law_noise.nd rfl (Or.inl rfl)) (pgs_cons (pg_name (i := 3) sc__law_noise.nd rfl (Or.inl rfl)) pgs_nil)))
          (pss_one (ps_asg (pe_ix ix_list (pe_ix ix_list (pv 2) (pv 3) (fun _ _ => rfl)) (pv 4) (fun _ _ => rfl)) (pg_sub (pv 1) (pe_tup (pa_cons (pv 4) (pa_cons (pv 3) pa_nil))) (set_own T.ns_Canvas T.o_Canvas_setitem T.f_Canvas_setitem G_setitem (hr.mono (by decide)) (passUp LamX.takes0) )))))
      (pss_one (ps_ret (pv 2)))))), ?_⟩
  refine tSeq_step fun R e1 => ?_
  simp only [tSeq, tIfS, tTest, tB, tAnd, tOr, tNot, tAndV, tOrV, tNotV, tIf, tOp, tUn, tChain, rEq, rNe, rI0, rI, rU, tCallR, tCons, tNil, tC, tVar, tRet, tRetN, tTup_k, tLst_k, tCB, tNext, tAsg, gName, gTup, gCons, gNil, tDrop, tPar, tFld, ClX.tCVal, tPropR, rBin, rBinT, rNeOwn, rSetL_k, gSub, tMakeK_k, tMethR, rInO, tDNewK_k, tYes, wipe, tMakeR_k, tSMeth, tSMethK, rMulS, decide_true, tNever, sFld, rIsiT, and_false, rListOf, rTupOf, rLenSeq, rIxL, rIxT, rIxS, rCat_k, rRep_k, rSlL_k, rSlS, rNewStrs_k, rAppend_k, tBM, tBM0, tM0, tM1, tSl, tNoPart, tPart, tLc_k, tFor_k, iList, iTup, iEnumT, iRng1, iRng2, iRng2L, iStr, L2.start, List.map, List.length_cons, List.length_nil, List.cons_append, List.nil_append, List.getElem?_cons_succ, List.getElem?_cons_zero, Option.some.injEq, V.int.injEq, V.bl.injEq, V.str.injEq, V.ref.injEq, exists_eq_left', exists_eq_left, and_assoc, exists_and_left, exists_eq, exists_eq', true_and, and_true, List.set_cons_zero, List.set_cons_succ, List.set, decide_eq_true_eq, Bool.not_eq_true', if_true, if_false, rIx, cx_K, nox_K, List.replicate_succ, List.replicate_zero, Nat.reduceSub, Bool.true_eq_false, Bool.false_eq_true, Nat.reduceAdd, List.cons.injEq, reduceCtorEq, false_and, false_or, or_false, tAug, rSetO, rStrO, rUn, rBinI, rBinR, rJoin, tJs, tOrT, rIsi, tCallOI, rBinT, tFCall, tCall, tPar3, tFmtO, tMethSF, tFmt, rExtend]
  refine kNew.mk (by show 0 ≤ sizeLine; decide) fun D H1 f1 => ?_
  have dp := P0.at_p f1.new
  have P1 := P0.same f1.same
  have cv1 := cv0.same f1.same
  subst e1
  refine tSeq_step fun R e1 => ?_
  simp only [tSeq, tIfS, tTest, tB, tAnd, tOr, tNot, tAndV, tOrV, tNotV, tIf, tOp, tUn, tChain, rEq, rNe, rI0, rI, rU, tCallR, tCons, tNil, tC, tVar, tRet, tRetN, tTup_k, tLst_k, tCB, tNext, tAsg, gName, gTup, gCons, gNil, tDrop, tPar, tFld, ClX.tCVal, tPropR, rBin, rBinT, rNeOwn, rSetL_k, gSub, tMakeK_k, tMethR, rInO, tDNewK_k, tYes, wipe, tMakeR_k, tSMeth, tSMethK, rMulS, decide_true, tNever, sFld, rIsiT, and_false, rListOf, rTupOf, rLenSeq, rIxL, rIxT, rIxS, rCat_k, rRep_k, rSlL_k, rSlS, rNewStrs_k, rAppend_k, tBM, tBM0, tM0, tM1, tSl, tNoPart, tPart, tLc_k, tFor_k, iList, iTup, iEnumT, iRng1, iRng2, iRng2L, iStr, L2.start, List.map, List.length_cons, List.length_nil, List.cons_append, List.nil_append, List.getElem?_cons_succ, List.getElem?_cons_zero, Option.some.injEq, V.int.injEq, V.bl.injEq, V.str.injEq, V.ref.injEq, exists_eq_left', exists_eq_left, and_assoc, exists_and_left, exists_eq, exists_eq', true_and, and_true, List.set_cons_zero, List.set_cons_succ, List.set, decide_eq_true_eq, Bool.not_eq_true', if_true, if_false, rIx, cx_K, nox_K, List.replicate_succ, List.replicate_zero, Nat.reduceSub, Bool.true_eq_false, Bool.false_eq_true, Nat.reduceAdd, List.cons.injEq, reduceCtorEq, false_and, false_or, or_false, tAug, rSetO, rStrO, rUn, rBinI, rBinR, rJoin, tJs, tOrT, rIsi, tCallOI, rBinT, tFCall, tCall, tPar3, tFmtO, tMethSF, tFmt, rExtend]
  obtain ⟨dx1, ex1, er1⟩ := id cv1
  refine ⟨dx1, _, ex1, x, t, rs0, rfl, cv1, ?_⟩
  refine ⟨_, rfl, by omega, by omega, ?_⟩
  rw [Int.toNat_natCast]
  refine kFor.it walk_range (fun j σ H' => ∃ (as : List Addr) (rs : List (List Nat)) (v3 v4 : Option V), σ = [some (.ref p), some (.ref x), some (.ref D), v3, v4] ∧ rs.length = j ∧ Noi p wd H H' D as rs ∧ Pen H' p c (n + (j : Nat) * 9)) ⟨[], [], _, _, rfl, rfl, ⟨SameBut.of f1.same, f1.new, f1.at_, rfl, fun i b r e => (by cases i <;> cases e), fun r h => (by cases h), List.nodup_nil⟩, P1.le (by simp)⟩ (fun _ _ _ _ _ => trivial) (fun j xv σ HA HB hj hP hY => ?_) fun σ HA hP => ?_
  · obtain ⟨as, rs, v3, v4, rfl, hl, m, PB⟩ := hP
    obtain ⟨rfl, rfl⟩ := hY
    have cvB := cv0.pen g0 P0 m.same
    obtain ⟨dxB, exB, erB⟩ := id cvB
    simp only [tSeq, tIfS, tTest, tB, tAnd, tOr, tNot, tAndV, tOrV, tNotV, tIf, tOp, tUn, tChain, rEq, rNe, rI0, rI, rU, tCallR, tCons, tNil, tC, tVar, tRet, tRetN, tTup_k, tLst_k, tCB, tNext, tAsg, gName, gTup, gCons, gNil, tDrop, tPar, tFld, ClX.tCVal, tPropR, rBin, rBinT, rNeOwn, rSetL_k, gSub, tMakeK_k, tMethR, rInO, tDNewK_k, tYes, wipe, tMakeR_k, tSMeth, tSMethK, rMulS, decide_true, tNever, sFld, rIsiT, and_false, rListOf, rTupOf, rLenSeq, rIxL, rIxT, rIxS, rCat_k, rRep_k, rSlL_k, rSlS, rNewStrs_k, rAppend_k, tBM, tBM0, tM0, tM1, tSl, tNoPart, tPart, tLc_k, tFor_k, iList, iTup, iEnumT, iRng1, iRng2, iRng2L, iStr, L2.start, List.map, List.length_cons, List.length_nil, List.cons_append, List.nil_append, List.getElem?_cons_succ, List.getElem?_cons_zero, Option.some.injEq, V.int.injEq, V.bl.injEq, V.str.injEq, V.ref.injEq, exists_eq_left', exists_eq_left, and_assoc, exists_and_left, exists_eq, exists_eq', true_and, and_true, List.set_cons_zero, List.set_cons_succ, List.set, decide_eq_true_eq, Bool.not_eq_true', if_true, if_false, rIx, cx_K, nox_K, List.replicate_succ, List.replicate_zero, Nat.reduceSub, Bool.true_eq_false, Bool.false_eq_true, Nat.reduceAdd, List.cons.injEq, reduceCtorEq, false_and, false_or, or_false, tAug, rSetO, rStrO, rUn, rBinI, rBinR, rJoin, tJs, tOrT, rIsi, tCallOI, rBinT, tFCall, tCall, tPar3, tFmtO, tMethSF, tFmt, rExtend]
    refine ⟨.inl ⟨rfl, _, SqL.of m.at_⟩, dxB, _, exB, x, t, wd, rs0, rfl, cvB, g0, _, rfl, by omega, by omega, ?_⟩
    rw [Int.toNat_natCast]
    refine kLc.it walk_range (fun D2 i H' => ∃ ds : List Nat, ds.length = i ∧ DigL ds ∧ SameBut p HB H' ∧ HB D2 = none ∧ H' D2 = some (.lst (digV ds)) ∧ Pen H' p c (n + (j : Nat) * 9 + (i : Nat)) ∧ D2 ≠ p ∧ c ≠ D2)
      (fun D2 H' f => ⟨[], rfl, fun d h => by (cases h), SameBut.of f.same, f.new, f.at_, (PB.same f.same).le (by simp), PB.at_p f.new⟩) (fun _ _ _ _ => trivial) (fun D2 i yv H4 H5 hi hI hY => ?_) fun D2 H4 hI => ?_
    · obtain ⟨ds, hd, dd, sB, nD2, aD2, P4, d2⟩ := hI
      obtain ⟨rfl, rfl⟩ := hY
      have hi : i < wd := hi
      have hj : j < rs0.length := hj
      simp only [tSeq, tIfS, tTest, tB, tAnd, tOr, tNot, tAndV, tOrV, tNotV, tIf, tOp, tUn, tChain, rEq, rNe, rI0, rI, rU, tCallR, tCons, tNil, tC, tVar, tRet, tRetN, tTup_k, tLst_k, tCB, tNext, tAsg, gName, gTup, gCons, gNil, tDrop, tPar, tFld, ClX.tCVal, tPropR, rBin, rBinT, rNeOwn, rSetL_k, gSub, tMakeK_k, tMethR, rInO, tDNewK_k, tYes, wipe, tMakeR_k, tSMeth, tSMethK, rMulS, decide_true, tNever, sFld, rIsiT, and_false, rListOf, rTupOf, rLenSeq, rIxL, rIxT, rIxS, rCat_k, rRep_k, rSlL_k, rSlS, rNewStrs_k, rAppend_k, tBM, tBM0, tM0, tM1, tSl, tNoPart, tPart, tLc_k, tFor_k, iList, iTup, iEnumT, iRng1, iRng2, iRng2L, iStr, L2.start, List.map, List.length_cons, List.length_nil, List.cons_append, List.nil_append, List.getElem?_cons_succ, List.getElem?_cons_zero, Option.some.injEq, V.int.injEq, V.bl.injEq, V.str.injEq, V.ref.injEq, exists_eq_left', exists_eq_left, and_assoc, exists_and_left, exists_eq, exists_eq', true_and, and_true, List.set_cons_zero, List.set_cons_succ, List.set, decide_eq_true_eq, Bool.not_eq_true', if_true, if_false, rIx, cx_K, nox_K, List.replicate_succ, List.replicate_zero, Nat.reduceSub, Bool.true_eq_false, Bool.false_eq_true, Nat.reduceAdd, List.cons.injEq, reduceCtorEq, false_and, false_or, or_false, tAug, rSetO, rStrO, rUn, rBinI, rBinR, rJoin, tJs, tOrT, rIsi, tCallOI, rBinT, tFCall, tCall, tPar3, tFmtO, tMethSF, tFmt, rExtend]
      refine ⟨p, c, 10, _, rfl, P4, by omega, by decide, by decide, fun z H6 z0 z1 s6 P6 => ?_⟩
      have a6 := s6 _ _ d2.1 aD2
      refine ⟨_, a6, by rw [List.length_map, hd]; exact Nat.lt_of_le_of_lt (show i ≤ 9 by omega) (by decide), ds ++ [48 + z.toNat], by rw [List.length_append, hd]; rfl, fun d h => ?_, fun b o nb e => ?_, nD2, ?_, ?_, d2⟩
      · rcases List.mem_append.mp h with h | h
        · exact dd d h
        · rw [List.mem_singleton.mp h]
          omega
      · rw [upd_ne (ne_of_none e nD2)]
        exact s6 _ _ nb (sB _ _ nb e)
      · rw [upd_same, digV_snoc ds z0]
      · exact (P6.le (by push_cast; omega)).put d2.1 d2.2
    · obtain ⟨ds, hd, dd, sB, nD2, aD2, P4, d2⟩ := hI
      have hj : j < rs0.length := hj
      refine ⟨_, sB _ _ dp.1 m.at_, by rw [List.length_map, m.len, hl]; exact Nat.lt_of_le_of_lt (show j ≤ 9 by omega) (by decide), kPut.mk fun HC fC => ?_⟩
      refine ⟨as ++ [D2], rs ++ [ds], by rw [List.length_append, hl]; rfl, m.add dp.1 PB sB nD2 aD2 fC ⟨hd, dd⟩, ?_⟩
      obtain ⟨ns, b, r, q1, q2, q3⟩ := P4
      exact Pen.le ⟨ns, b, r, fC.get dp.1.symm q1, fC.get dp.2 q2, q3⟩ (by push_cast; omega)
  · obtain ⟨as, rs, v3, v4, rfl, hl, m, PB⟩ := hP
    have cvB := cv0.pen g0 P0 m.same
    have g : Good wd rs := ⟨by omega, by have := g0.l1; omega, g0.w0, g0.w1, m.ok⟩
    have grB : GrOk HA D as wd rs := ⟨⟨m.at_, m.len, fun i b r e1 e2 => (m.row i b r e1 e2).1, m.nd⟩, g, w9, by omega⟩
    have PB := PB.le (show n + ((rs0.length : Nat) : Int) * 9 ≤ n + 100 by omega)
    clear m cv0 cv1 P0 P1 f1 ex1 er1
    subst e1
    dsimp only
    refine tSeq_step fun R e1 => ?_
    simp only [tSeq, tIfS, tTest, tB, tAnd, tOr, tNot, tAndV, tOrV, tNotV, tIf, tOp, tUn, tChain, rEq, rNe, rI0, rI, rU, tCallR, tCons, tNil, tC, tVar, tRet, tRetN, tTup_k, tLst_k, tCB, tNext, tAsg, gName, gTup, gCons, gNil, tDrop, tPar, tFld, ClX.tCVal, tPropR, rBin, rBinT, rNeOwn, rSetL_k, gSub, tMakeK_k, tMethR, rInO, tDNewK_k, tYes, wipe, tMakeR_k, tSMeth, tSMethK, rMulS, decide_true, tNever, sFld, rIsiT, and_false, rListOf, rTupOf, rLenSeq, rIxL, rIxT, rIxS, rCat_k, rRep_k, rSlL_k, rSlS, rNewStrs_k, rAppend_k, tBM, tBM0, tM0, tM1, tSl, tNoPart, tPart, tLc_k, tFor_k, iList, iTup, iEnumT, iRng1, iRng2, iRng2L, iStr, L2.start, List.map, List.length_cons, List.length_nil, List.cons_append, List.nil_append, List.getElem?_cons_succ, List.getElem?_cons_zero, Option.some.injEq, V.int.injEq, V.bl.injEq, V.str.injEq, V.ref.injEq, exists_eq_left', exists_eq_left, and_assoc, exists_and_left, exists_eq, exists_eq', true_and, and_true, List.set_cons_zero, List.set_cons_succ, List.set, decide_eq_true_eq, Bool.not_eq_true', if_true, if_false, rIx, cx_K, nox_K, List.replicate_succ, List.replicate_zero, Nat.reduceSub, Bool.true_eq_false, Bool.false_eq_true, Nat.reduceAdd, List.cons.injEq, reduceCtorEq, false_and, false_or, or_false, tAug, rSetO, rStrO, rUn, rBinI, rBinR, rJoin, tJs, tOrT, rIsi, tCallOI, rBinT, tFCall, tCall, tPar3, tFmtO, tMethSF, tFmt, rExtend]
    refine ⟨D, as, wd, rs, rfl, grB, fun D0 HB S0 => ⟨D0, rfl, ?_⟩⟩
    have P2 := PB.same S0.same
    have cv2 := cvB.same S0.same
    have gr2 := grB.same S0.same
    obtain ⟨ts, te, tl, ta⟩ := S0.ex
    refine ⟨⟨_, SqL.of te⟩, ?_⟩
    have sl := spots_len wd rs.length
    refine kFor.it (walk_list (xs := ts.map V.ref)) (fun i σ H' => Pen H' p c (n + 100) ∧ (∃ acc, CanT H' a.Canvas x t acc ∧ Good wd acc ∧ acc.length = rs0.length ∧ acc = maskV rs0 (fun i' j' => decide ((i', j') ∈ (spotsOf wd rs.length).take i)) (pix0 rs)) ∧ GrOk H' D as wd rs ∧ H' D0 = some (.lst (ts.map V.ref)) ∧ (∀ (m : Nat) (tt : Addr) (p : Nat × Nat), ts[m]? = some tt → (spotsOf wd rs.length)[m]? = some p → H' tt = some (.tup [.int (p.1 : Nat), .int (p.2 : Nat)])) ∧ ∃ v3 v4, σ = [some (.ref p), some (.ref x), some (.ref D), v3, v4])
      ⟨P2, ⟨rs0, cv2, g0, rfl, ?_⟩, gr2, te, ta, _, _, rfl⟩ (fun i σ H' _ hP => SqL.of hP.2.2.2.1) (fun i xv σ Ha Hb hi hP hY => ?_) fun σ Ha hP => ?_
    · have e : (fun i' j' : Nat => decide ((i', j') ∈ (spotsOf wd rs.length).take 0)) = fun _ _ => false := by
        funext i j
        rw [List.take_zero]
        exact decide_eq_false (by simp)
      rw [e, maskV_none]
    · obtain ⟨Pa, ⟨acc, ca, ga, la, ea⟩, gra, da, taa, v3, v4, rfl⟩ := hP
      obtain ⟨rfl, e⟩ := hY
      rw [List.length_map] at hi
      obtain ⟨tp, et, rfl⟩ : ∃ tt, ts[i]? = some tt ∧ xv = .ref tt := by
        rw [List.getElem?_map, List.getElem?_eq_getElem hi] at e
        exact ⟨_, List.getElem?_eq_getElem hi, (Option.some.inj e).symm⟩
      obtain ⟨q, ep⟩ : ∃ q, (spotsOf wd rs.length)[i]? = some q := ⟨_, List.getElem?_eq_getElem (by omega)⟩
      have htt := taa i tp q et ep
      obtain ⟨p1, p2⟩ := mem_spots.mp (List.mem_of_getElem? ep)
      have lb := gra.1.len
      obtain ⟨b2, eb2⟩ : ∃ b, as[q.2]? = some b := ⟨_, List.getElem?_eq_getElem (by omega)⟩
      obtain ⟨r2, er2⟩ : ∃ r, rs[q.2]? = some r := ⟨_, List.getElem?_eq_getElem p2⟩
      have hb2 := gra.1.row q.2 b2 r2 eb2 er2
      obtain ⟨lr2, dr2⟩ := g.at_ er2
      obtain ⟨d, ed⟩ : ∃ d, r2[q.1]? = some d := ⟨_, List.getElem?_eq_getElem (by omega)⟩
      obtain ⟨d0, d1⟩ := dr2 d (List.mem_of_getElem? ed)
      have ev : (digV r2)[q.1]? = some (.int ((d : Int) - 48)) := by rw [List.getElem?_map, ed]; rfl
      have pd : pix0 rs q.1 q.2 = d := by
        unfold pix0
        rw [List.getD_eq_getElem?_getD, List.getD_eq_getElem?_getD, er2, Option.getD_some, ed, Option.getD_some]
      have ek : 48 + ((d : Int) - 48).toNat = d := by omega
      simp only [tSeq, tIfS, tTest, tB, tAnd, tOr, tNot, tAndV, tOrV, tNotV, tIf, tOp, tUn, tChain, rEq, rNe, rI0, rI, rU, tCallR, tCons, tNil, tC, tVar, tRet, tRetN, tTup_k, tLst_k, tCB, tNext, tAsg, gName, gTup, gCons, gNil, tDrop, tPar, tFld, ClX.tCVal, tPropR, rBin, rBinT, rNeOwn, rSetL_k, gSub, tMakeK_k, tMethR, rInO, tDNewK_k, tYes, wipe, tMakeR_k, tSMeth, tSMethK, rMulS, decide_true, tNever, sFld, rIsiT, and_false, rListOf, rTupOf, rLenSeq, rIxL, rIxT, rIxS, rCat_k, rRep_k, rSlL_k, rSlS, rNewStrs_k, rAppend_k, tBM, tBM0, tM0, tM1, tSl, tNoPart, tPart, tLc_k, tFor_k, iList, iTup, iEnumT, iRng1, iRng2, iRng2L, iStr, L2.start, List.map, List.length_cons, List.length_nil, List.cons_append, List.nil_append, List.getElem?_cons_succ, List.getElem?_cons_zero, Option.some.injEq, V.int.injEq, V.bl.injEq, V.str.injEq, V.ref.injEq, exists_eq_left', exists_eq_left, and_assoc, exists_and_left, exists_eq, exists_eq', true_and, and_true, List.set_cons_zero, List.set_cons_succ, List.set, decide_eq_true_eq, Bool.not_eq_true', if_true, if_false, rIx, cx_K, nox_K, List.replicate_succ, List.replicate_zero, Nat.reduceSub, Bool.true_eq_false, Bool.false_eq_true, Nat.reduceAdd, List.cons.injEq, reduceCtorEq, false_and, false_or, or_false, tAug, rSetO, rStrO, rUn, rBinI, rBinR, rJoin, tJs, tOrT, rIsi, tCallOI, rBinT, tFCall, tCall, tPar3, tFmtO, tMethSF, tFmt, rExtend]
      refine ⟨_, SqT.of htt, rfl, _, _, rfl, _, _, rfl, rfl, ?_⟩
      refine ⟨_, _, rfl, SqL.of gra.1.at_, _, atI_nat (by rw [List.getElem?_map, eb2]; rfl), b2, rfl, _, _, rfl, SqL.of hb2, _, atI_nat ev, ?_⟩
      refine kNew.mk (by show 2 ≤ sizeLine; decide) fun tn H7 f7 => ?_
      have ca7 := ca.same f7.same
      refine ⟨ca7.ins, x, t, tn, wd, acc, _, _, _, rfl, ca7, ga, f7.at_, .inl ⟨_, _, _, rfl, rfl, rfl, by omega, by omega, by omega, by omega, by omega, by omega, fun H8 f8 => ?_⟩⟩
      obtain ⟨dx7, e7, r7⟩ := id ca7
      have gs := Good.setRs ga (i := (q.1 : Nat)) (j := (q.2 : Nat)) (k := 48 + ((d : Int) - 48).toNat) (by omega) (by omega) (by omega)
      refine ⟨(Pa.same f7.same).putR ga r7 f8, ⟨_, ⟨dx7, f8.get (rows_other ga r7 e7 fun _ _ z => by cases z) e7, f8.at_⟩, gs, (setRs_len ..).trans la, ?_⟩, (gra.same f7.same).putR ga r7 f8, f8.get (rows_other ga r7 (f7.get da) refs_no) (f7.get da), fun m tt p e1 e2 => f8.get (rows_other ga r7 (f7.get (taa m tt p e1 e2)) fun _ _ z => by cases z) (f7.get (taa m tt p e1 e2))⟩
      rw [ek, List.take_add_one, ep]
      show acc.set q.2 ((acc.getD q.2 []).set q.1 d) = maskV rs0 (fun i' j' => decide ((i', j') ∈ (spotsOf wd rs.length).take i ++ [q])) (pix0 rs)
      rw [← mask_step, ← ea, pd]
    · obtain ⟨Pa, ⟨acc, ca, ga, la, ea⟩, gra, da, taa, v3, v4, rfl⟩ := hP
      rw [List.length_map, tl, List.take_length, mask_full g0 g hl.symm] at ea
      subst ea
      subst e1
      simp only [tSeq, tIfS, tTest, tB, tAnd, tOr, tNot, tAndV, tOrV, tNotV, tIf, tOp, tUn, tChain, rEq, rNe, rI0, rI, rU, tCallR, tCons, tNil, tC, tVar, tRet, tRetN, tTup_k, tLst_k, tCB, tNext, tAsg, gName, gTup, gCons, gNil, tDrop, tPar, tFld, ClX.tCVal, tPropR, rBin, rBinT, rNeOwn, rSetL_k, gSub, tMakeK_k, tMethR, rInO, tDNewK_k, tYes, wipe, tMakeR_k, tSMeth, tSMethK, rMulS, decide_true, tNever, sFld, rIsiT, and_false, rListOf, rTupOf, rLenSeq, rIxL, rIxT, rIxS, rCat_k, rRep_k, rSlL_k, rSlS, rNewStrs_k, rAppend_k, tBM, tBM0, tM0, tM1, tSl, tNoPart, tPart, tLc_k, tFor_k, iList, iTup, iEnumT, iRng1, iRng2, iRng2L, iStr, L2.start, List.map, List.length_cons, List.length_nil, List.cons_append, List.nil_append, List.getElem?_cons_succ, List.getElem?_cons_zero, Option.some.injEq, V.int.injEq, V.bl.injEq, V.str.injEq, V.ref.injEq, exists_eq_left', exists_eq_left, and_assoc, exists_and_left, exists_eq, exists_eq', true_and, and_true, List.set_cons_zero, List.set_cons_succ, List.set, decide_eq_true_eq, Bool.not_eq_true', if_true, if_false, rIx, cx_K, nox_K, List.replicate_succ, List.replicate_zero, Nat.reduceSub, Bool.true_eq_false, Bool.false_eq_true, Nat.reduceAdd, List.cons.injEq, reduceCtorEq, false_and, false_or, or_false, tAug, rSetO, rStrO, rUn, rBinI, rBinR, rJoin, tJs, tOrT, rIsi, tCallOI, rBinT, tFCall, tCall, tPar3, tFmtO, tMethSF, tFmt, rExtend]
      exact k D as acc Ha la ⟨Pa, ca.can, gra⟩
end
end Pf
end
section
namespace Pf
open PySem PySem.Spec PyProof.Rows L2 Ow StX
/-! ### the law -/
theorem rows_eq {K : PySem.W.Frag} {H : Hp} {t u : Addr} {w : Nat} {rs : List (List Nat)} {Q : VK} (g : Good w rs) (h1 : H t = some (.tup (rowsV rs))) (h2 : H u = some (.tup (rowsV rs))) (k : Q (.bl false) H) : rNeD K (.ref t) (.ref u) H Q := by
  refine ⟨.tuple (rowsD rs), .tuple (rowsD rs), .tup (.inl (.inl h1)) (dp_rows rs), .tup (.inl (.inl h2)) (dp_rows rs), rows_shaped g, rows_shaped g, ?_⟩
  rw [eqv_rows, decide_eq_true rfl]
  exact k
theorem Grid.can {H H' : Hp} {x l Cv : Addr} {as : List Addr} {rs ds : List (List Nat)} (g : Grid H l as ds) (hc : Can H Cv x rs) (s : SameBut x H H') : Grid H' l as ds := by
  obtain ⟨dc, t, e, _⟩ := hc
  have ne : ∀ {y : Addr} {xs : List V}, H y = some (.lst xs) → y ≠ x := fun h z => by rw [z, e] at h; cases h
  exact g.of (s _ _ (ne g.at_) g.at_) fun i b r _ _ h => s _ _ (ne h) h
theorem kOB : ¬ (("on" : Str) = "box") := by decide +kernel
theorem kOX : ¬ (("on" : Str) = "x") := by decide +kernel
theorem kOY : ¬ (("on" : Str) = "y") := by decide +kernel
theorem copyF_on (b px py : Addr) : (copyF b px py).lookup ("on" : Str) = none := by
  unfold copyF
  rw [lookup_putF, if_neg kOY, lookup_putF, if_neg kOX, lookup_putF, if_neg kOB]; rfl
theorem CopyAt.pen {H H' : Hp} {D C d b p c : Addr} {n : Int} {px py : Pl} (h : CopyAt H D C d b px py) (P : Pen H p c n) (s : SameBut p H H') : CopyAt H' D C d b px py := by
  obtain ⟨dx, x, y, e, h1, h2⟩ := h
  exact ⟨dx, x, y, P.keep s e (by intro _ z; cases z), h1.pen P s, h2.pen P s⟩
def spLaw (K : PySem.W.Frag) : Sp := fun vs H Q _ => ∃ (sa : Addr) (ns : List Int), vs = [.ref sa] ∧ SqL K H sa (ns.map V.int) ∧ ns.length ≤ 63 ∧ ∀ H', Q (.bl true) H'
section
variable {P : Program} {w : World} {K : PySem.W.Frag} {mg : Str → Option Value} {base : Heap} {a : Adr}
set_option maxHeartbeats 4000000
theorem ok_law (T : Txt K mg a) : FnG P w K mg base CX0 17 a.law (spLaw K) := by
  have G__law_draw : FnR P w K mg base CX0 1 a._law_draw spPDraw := ok_pdraw T
  have G__law_pen : FnR P w K mg base CX0 1 a._law_pen (spPen K) := ok_pen T
  have G__law_noise : FnR P w K mg base CX0 6 a._law_noise (spNoise a.Canvas) := ok_noise T
  have G__law_box : FnR P w K mg base CX0 4 a._law_box spBoxL := ok_boxL T
  have G__law_near : FnR P w K mg base CX0 4 a._law_near spNear := ok_near T
  have G__law_built : FnR P w K mg base CX0 16 a._law_built (spBuiltC a.Copy a.Box a.Place) := ok_builtC T
  have G__law_copied : FnR P w K mg base CX0 5 a._law_copied spCopiedL := ok_copiedL T
  have G_Copy_on : FnR P w K mg base CX0 9 a.Copy_on (spCopyOn a.Copy a.Box a.Place a.Canvas) := ok_copyon T
  have G__law_lines : FnR P w K mg base CX0 1 a._law_lines spLinesT := ok_linesT T
  have G_cinit : FnR P w K mg base (CX P w) 4 a.Canvas_init (spCanInitE K a.Canvas a.BadSize) := ok_can_init T
  have G_Picture_rows : FnR P w K mg base CX0 1 a.Picture_rows (spPRows a.Picture) := ok_prows T
  obtain ⟨_, O_picture, B_picture⟩ := ok_can_pic (P := P) (w := w) (mg := mg) (base := base) T
  refine T.d_law.okG sc_law (fun _ _ _ _ _ _ us hl => match us, hl with | [_], _ => rfl) (fun vs H Q E h => by obtain ⟨sa, ns, rfl, _⟩ := h; rfl) (fun cdv A outer s H vs Q E hr hg h => ?_)
  obtain ⟨sa, ns, rfl, hS, hns, k⟩ := h
  refine ⟨_, (pss_cons (ps_set (i := 1) sc_law.nd rfl (Or.inl rfl) (pe_callR G__law_pen (hr.mono (by decide)) T.m__law_pen T.k__law_pen pass0 (pa_cons (pv 0) pa_nil)))
      (pss_cons (ps_for PassesOwn.never rfl (pi_range1 rfl T.n_range (pa_cons pe_int pa_nil)) (pg_name (i := 2) sc_law.nd rfl (Or.inl rfl))
          (pss_cons (ps_set (i := 3) sc_law.nd rfl (Or.inl rfl) (pe_makeRR T.M_Canvas G_cinit (hr.mono (by decide)) T.m_Canvas (passUp LamX.takes0) (pa_cons (pe_op op_add pe_int (pe_callR G__law_draw (hr.mono (by decide)) T.m__law_draw T.k__law_draw pass0 (pa_cons (pv 1) (pa_cons pe_int pa_nil)))) (pa_cons (pe_op op_add pe_int (pe_callR G__law_draw (hr.mono (by decide)) T.m__law_draw T.k__law_draw pass0 (pa_cons (pv 1) (pa_cons pe_int pa_nil)))) pa_nil))))
          (pss_cons (ps_set (i := 4) sc_law.nd rfl (Or.inl rfl) (pe_callR G__law_noise (hr.mono (by decide)) T.m__law_noise T.k__law_noise pass0 (pa_cons (pv 1) (pa_cons (pv 3) pa_nil))))
          (pss_one (ps_for PassesOwn.never rfl (pi_range1 rfl T.n_range (pa_cons pe_int pa_nil)) (pg_name (i := 5) sc_law.nd rfl (Or.inl rfl))
              (pss_cons (ps_set (i := 6) sc_law.nd rfl (Or.inl rfl) (pe_callR G__law_box (hr.mono (by decide)) T.m__law_box T.k__law_box pass0 (pa_cons (pv 1) pa_nil)))
              (pss_cons (ps_asg (pe_callR G__law_near (hr.mono (by decide)) T.m__law_near T.k__law_near pass0 (pa_cons (pv 1) (pa_cons (pv 6) pa_nil))) (pg_tup rfl (pgs_cons (pg_name (i := 7) sc_law.nd rfl (Or.inl rfl)) (pgs_cons (pg_name (i := 8) sc_law.nd rfl (Or.inl rfl)) pgs_nil))))
              (pss_cons (ps_set (i := 9) sc_law.nd rfl (Or.inl rfl) (pe_tup (pa_cons pe_str (pa_cons (pv 6) (pa_cons (pv 7) (pa_cons (pv 8) pa_nil))))))
              (pss_cons (ps_par (i := 10) (j := 4) (by rfl) sc_law.nd rfl rfl (by decide) rfl rfl (pa_cons (pe_callR G__law_built (hr.mono (by decide)) T.m__law_built T.k__law_built pass0 (pa_cons (pv 1) (pa_cons (pv 9) pa_nil))) (pa_cons (pe_callR G__law_copied (hr.mono (by decide)) T.m__law_copied T.k__law_copied pass0 (pa_cons (pv 4) (pa_cons (pv 9) pa_nil))) pa_nil)) (by rfl))
              (pss_one (ps_if (PW.pt (pw_or (pt_cmpR op_notN (pe_methR (pv 10) T.c_Copy.cl T.mt_Copy_on G_Copy_on (hr.mono (by decide)) pass0 (pa_cons (pv 3) pa_nil)) pe_non (nomark _)) (pw_or1 (pt_cmpR (op_neD hr.units) (pe_propR (pe_meth0 (pv 3) T.c_Canvas.cl T.mt_picture O_picture (hr.mono (by decide)) B_picture .nil pass0) T.c_Picture.cl T.p_Picture_rows G_Picture_rows (hr.mono (by decide))  pass0) (pe_callR G__law_lines (hr.mono (by decide)) T.m__law_lines T.k__law_lines pass0 (pa_cons (pv 4) pa_nil)) (nomark _)))))
                  (pss_one (ps_ret pe_bl))
                  pss_nil)))))))))))
      (pss_one (ps_ret pe_bl)))), ?_⟩
  simp only [tSeq, tIfS, tTest, tB, tAnd, tOr, tNot, tAndV, tOrV, tNotV, tIf, tOp, tUn, tChain, rEq, rNe, rI0, rI, rU, tCallR, tCons, tNil, tC, tVar, tRet, tRetN, tTup_k, tLst_k, tCB, tNext, tAsg, gName, gTup, gCons, gNil, tDrop, tPar, tFld, ClX.tCVal, tPropR, rBin, rBinT, rNeOwn, rSetL_k, gSub, tMakeK_k, tMethR, rInO, tDNewK_k, tYes, wipe, tMakeR_k, tSMeth, tSMethK, rMulS, decide_true, tNever, sFld, rIsiT, and_false, rListOf, rTupOf, rLenSeq, rIxL, rIxT, rIxS, rCat_k, rRep_k, rSlL_k, rSlS, rNewStrs_k, rAppend_k, tBM, tBM0, tM0, tM1, tSl, tNoPart, tPart, tLc_k, tFor_k, iList, iTup, iEnumT, iRng1, iRng2, iRng2L, iStr, L2.start, List.map, List.length_cons, List.length_nil, List.cons_append, List.nil_append, List.getElem?_cons_succ, List.getElem?_cons_zero, Option.some.injEq, V.int.injEq, V.bl.injEq, V.str.injEq, V.ref.injEq, exists_eq_left', exists_eq_left, and_assoc, exists_and_left, exists_eq, exists_eq', true_and, and_true, List.set_cons_zero, List.set_cons_succ, List.set, decide_eq_true_eq, Bool.not_eq_true', if_true, if_false, rIx, cx_K, nox_K, List.replicate_succ, List.replicate_zero, Nat.reduceSub, Bool.true_eq_false, Bool.false_eq_true, Nat.reduceAdd, List.cons.injEq, reduceCtorEq, false_and, false_or, or_false, tAug, rSetO, rStrO, rUn, rBinI, rBinR, rJoin, tJs, tOrT, rIsi, tCallOI, rBinT, tFCall, tCall, tPar3, tFmtO, tMethSF, tFmt, rExtend]
  refine ⟨sa, ns, rfl, hS, hns, fun p c H1 s1 np P1 => ?_⟩
  simp only [tSeq, tIfS, tTest, tB, tAnd, tOr, tNot, tAndV, tOrV, tNotV, tIf, tOp, tUn, tChain, rEq, rNe, rI0, rI, rU, tCallR, tCons, tNil, tC, tVar, tRet, tRetN, tTup_k, tLst_k, tCB, tNext, tAsg, gName, gTup, gCons, gNil, tDrop, tPar, tFld, ClX.tCVal, tPropR, rBin, rBinT, rNeOwn, rSetL_k, gSub, tMakeK_k, tMethR, rInO, tDNewK_k, tYes, wipe, tMakeR_k, tSMeth, tSMethK, rMulS, decide_true, tNever, sFld, rIsiT, and_false, rListOf, rTupOf, rLenSeq, rIxL, rIxT, rIxS, rCat_k, rRep_k, rSlL_k, rSlS, rNewStrs_k, rAppend_k, tBM, tBM0, tM0, tM1, tSl, tNoPart, tPart, tLc_k, tFor_k, iList, iTup, iEnumT, iRng1, iRng2, iRng2L, iStr, L2.start, List.map, List.length_cons, List.length_nil, List.cons_append, List.nil_append, List.getElem?_cons_succ, List.getElem?_cons_zero, Option.some.injEq, V.int.injEq, V.bl.injEq, V.str.injEq, V.ref.injEq, exists_eq_left', exists_eq_left, and_assoc, exists_and_left, exists_eq, exists_eq', true_and, and_true, List.set_cons_zero, List.set_cons_succ, List.set, decide_eq_true_eq, Bool.not_eq_true', if_true, if_false, rIx, cx_K, nox_K, List.replicate_succ, List.replicate_zero, Nat.reduceSub, Bool.true_eq_false, Bool.false_eq_true, Nat.reduceAdd, List.cons.injEq, reduceCtorEq, false_and, false_or, or_false, tAug, rSetO, rStrO, rUn, rBinI, rBinR, rJoin, tJs, tOrT, rIsi, tCallOI, rBinT, tFCall, tCall, tPar3, tFmtO, tMethSF, tFmt, rExtend]
  refine ⟨by decide, by decide, ?_⟩
  refine kFor.it walk_range (fun i σ H' => Pen H' p c ((i : Int) * 1000) ∧ ∃ v2 v3 v4 v5 v6 v7 v8 v9 v10, σ = [some (.ref sa), some (.ref p), v2, v3, v4, v5, v6, v7, v8, v9, v10]) ⟨P1.le (by simp), _, _, _, _, _, _, _, _, _, rfl⟩ (fun _ _ _ _ _ => trivial) (fun i xv σ H2 H3 hi hP hY => ?_) fun σ H2 hP => ?_
  · obtain ⟨P2, v2, v3, v4, v5, v6, v7, v8, v9, v10, rfl⟩ := hP
    obtain ⟨rfl, rfl⟩ := hY
    have hi : i < 4 := hi
    simp only [tSeq, tIfS, tTest, tB, tAnd, tOr, tNot, tAndV, tOrV, tNotV, tIf, tOp, tUn, tChain, rEq, rNe, rI0, rI, rU, tCallR, tCons, tNil, tC, tVar, tRet, tRetN, tTup_k, tLst_k, tCB, tNext, tAsg, gName, gTup, gCons, gNil, tDrop, tPar, tFld, ClX.tCVal, tPropR, rBin, rBinT, rNeOwn, rSetL_k, gSub, tMakeK_k, tMethR, rInO, tDNewK_k, tYes, wipe, tMakeR_k, tSMeth, tSMethK, rMulS, decide_true, tNever, sFld, rIsiT, and_false, rListOf, rTupOf, rLenSeq, rIxL, rIxT, rIxS, rCat_k, rRep_k, rSlL_k, rSlS, rNewStrs_k, rAppend_k, tBM, tBM0, tM0, tM1, tSl, tNoPart, tPart, tLc_k, tFor_k, iList, iTup, iEnumT, iRng1, iRng2, iRng2L, iStr, L2.start, List.map, List.length_cons, List.length_nil, List.cons_append, List.nil_append, List.getElem?_cons_succ, List.getElem?_cons_zero, Option.some.injEq, V.int.injEq, V.bl.injEq, V.str.injEq, V.ref.injEq, exists_eq_left', exists_eq_left, and_assoc, exists_and_left, exists_eq, exists_eq', true_and, and_true, List.set_cons_zero, List.set_cons_succ, List.set, decide_eq_true_eq, Bool.not_eq_true', if_true, if_false, rIx, cx_K, nox_K, List.replicate_succ, List.replicate_zero, Nat.reduceSub, Bool.true_eq_false, Bool.false_eq_true, Nat.reduceAdd, List.cons.injEq, reduceCtorEq, false_and, false_or, or_false, tAug, rSetO, rStrO, rUn, rBinI, rBinR, rJoin, tJs, tOrT, rIsi, tCallOI, rBinT, tFCall, tCall, tPar3, tFmtO, tMethSF, tFmt, rExtend]
    refine ⟨p, c, 8, _, rfl, P2, by omega, by decide, by decide, fun z1 H4 z10 z11 s4 P4 => ⟨z1, rfl, p, c, 5, _, rfl, P4, by omega, by decide, by decide, fun z2 H5 z20 z21 s5 P5 => ⟨z2, rfl, ?_⟩⟩⟩
    refine newCan (by omega) (by omega) (by omega) (by omega) fun x t H6 s6 nx nt x6 => ?_
    have gp := good_plain (c := 0) (show 1 ≤ 1 + z1 by omega) (by omega) (show 1 ≤ 1 + z2 by omega) (by omega) (by decide) (by decide)
    have P6 := P5.same s6
    have lp : (plainRs (1 + z1) (1 + z2) 0).length ≤ 9 := by
      rw [List.length_replicate]
      omega
    have w9 : (1 + z1).toNat ≤ 9 := by omega
    generalize plainRs (1 + z1) (1 + z2) 0 = rs0 at *
    generalize (1 + z1).toNat = wd at *
    clear P2 P4 P5 s4 s5 s6
    refine ⟨p, c, x, t, wd, rs0, _, rfl, P6, by omega, x6, gp, w9, lp, fun l as rs H7 hl K7 => ?_⟩
    refine ⟨by decide, by decide, ?_⟩
    refine kFor.it walk_range (fun j σ H' => ∃ l' as' rs', Kp a.Canvas p c x l' as' wd rs' ((i : Int) * 1000 + 1 + 1 + 100 + (j : Int) * 100) H' ∧ ∃ v5 v6 v7 v8 v9 v10, σ = [some (.ref sa), some (.ref p), some (.int (0 + (i : Int))), some (.ref x), some (.ref l'), v5, v6, v7, v8, v9, v10]) ⟨l, as, rs, K7.le (by omega), _, _, _, _, _, _, rfl⟩ (fun _ _ _ _ _ => trivial) (fun j xv σ HA HB hj hP hY => ?_) fun σ HA hP => ?_
    · obtain ⟨l3, as3, rs3, K3, v5', v6', v7', v8', v9', v10', rfl⟩ := hP
      obtain ⟨rfl, rfl⟩ := hY
      have hj : j < 4 := hj
      have g3 := K3.gr.2.1
      simp only [tSeq, tIfS, tTest, tB, tAnd, tOr, tNot, tAndV, tOrV, tNotV, tIf, tOp, tUn, tChain, rEq, rNe, rI0, rI, rU, tCallR, tCons, tNil, tC, tVar, tRet, tRetN, tTup_k, tLst_k, tCB, tNext, tAsg, gName, gTup, gCons, gNil, tDrop, tPar, tFld, ClX.tCVal, tPropR, rBin, rBinT, rNeOwn, rSetL_k, gSub, tMakeK_k, tMethR, rInO, tDNewK_k, tYes, wipe, tMakeR_k, tSMeth, tSMethK, rMulS, decide_true, tNever, sFld, rIsiT, and_false, rListOf, rTupOf, rLenSeq, rIxL, rIxT, rIxS, rCat_k, rRep_k, rSlL_k, rSlS, rNewStrs_k, rAppend_k, tBM, tBM0, tM0, tM1, tSl, tNoPart, tPart, tLc_k, tFor_k, iList, iTup, iEnumT, iRng1, iRng2, iRng2L, iStr, L2.start, List.map, List.length_cons, List.length_nil, List.cons_append, List.nil_append, List.getElem?_cons_succ, List.getElem?_cons_zero, Option.some.injEq, V.int.injEq, V.bl.injEq, V.str.injEq, V.ref.injEq, exists_eq_left', exists_eq_left, and_assoc, exists_and_left, exists_eq, exists_eq', true_and, and_true, List.set_cons_zero, List.set_cons_succ, List.set, decide_eq_true_eq, Bool.not_eq_true', if_true, if_false, rIx, cx_K, nox_K, List.replicate_succ, List.replicate_zero, Nat.reduceSub, Bool.true_eq_false, Bool.false_eq_true, Nat.reduceAdd, List.cons.injEq, reduceCtorEq, false_and, false_or, or_false, tAug, rSetO, rStrO, rUn, rBinI, rBinR, rJoin, tJs, tOrT, rIsi, tCallOI, rBinT, tFCall, tCall, tPar3, tFmtO, tMethSF, tFmt, rExtend]
      refine ⟨p, c, _, rfl, K3.pen, by omega, fun tq q H9 sq s9 P9 hq => ?_⟩
      have K9 := K3.go s9 P9
      refine ⟨p, c, tq, q, _, rfl, K9.pen, by omega, hq, sq, fun tn tx ty px py H10 bx by_ s10 P10 hn hx hy => ?_⟩
      have K10 := K9.go s10 P10
      have hq10 := hq.pen K9.pen s10
      refine ⟨tn, rfl, _, SqT.of hn, rfl, _, _, rfl, _, _, rfl, rfl, kNew.mk (by show 4 ≤ sizeLine; decide) fun tt H11 f11 => ?_⟩
      have K11 := K10.on f11.same
      have hq11 := hq10.same f11.same
      have hx11 := hx.same f11.same
      have hy11 := hy.same f11.same
      refine ⟨p, c, tt, tq, tx, ty, q, px, py, _, rfl, K11.pen, by omega, f11.at_, hq11, sq.bd, hx11, bx, hy11, by_, fun d b H12 s12 P12 hd hb => ?_⟩
      have K12 := K11.go s12 P12
      have ht12 := K11.pen.keep s12 f11.at_ (by intro _ z; cases z)
      refine ⟨l3, tt, tq, tx, ty, as3, wd, rs3, q, px, py, rfl, K12.gr, ht12, hq11.pen K11.pen s12, sq.bd, hx11.pen K11.pen s12, bx, hy11.pen K11.pen s12, by_, fun l4 as4 H13 G13 => ?_⟩
      have K13 := K12.on G13.same
      have hd13 := hd.same G13.same
      have hb13 := hb.same G13.same
      obtain ⟨dd, ax, ay, ed, ex, ey⟩ := id hd13
      have sh := move_shape (dx := plV px wd - plV q.x0 wd) (dy := plV py rs3.length - plV q.y0 rs3.length) g3 ((spotsOf wd rs3.length).filter (inB (plV q.x0 wd) (plV q.x1 wd) (plV q.y0 rs3.length) (plV q.y1 rs3.length))) rs3 g3 rfl fun p hp => mem_spots.mp (List.mem_filter.mp hp).1
      rw [move_copy g3] at sh
      refine ⟨d, rfl, dd, _, ed, copyF_on .., ?_⟩
      refine ⟨d, b, x, q, px, py, wd, rs3, rfl, hd13, hb13, sq.bd, bx, by_, K13.can, g3, fun H14 s14 c14 => ?_⟩
      show if decide (V.non = V.non) = false then _ else _
      rw [decide_eq_true rfl, if_neg (by decide)]
      have P14 := K13.pen.can K13.can s14
      have G14 := G13.grid.can K13.can s14
      have w3 := K3.gr.2.2.1
      have l3' := K3.gr.2.2.2
      generalize copyRs rs3 (plV q.x0 wd) (plV q.x1 wd) (plV q.y0 rs3.length) (plV q.y1 rs3.length) (plV px wd - plV q.x0 wd) (plV py rs3.length - plV q.y0 rs3.length) = ds at *
      obtain ⟨g9, lds⟩ := sh
      simp only [tMeth, tSeq, tIfS, tTest, tB, tAnd, tOr, tNot, tAndV, tOrV, tNotV, tIf, tOp, tUn, tChain, rEq, rNe, rI0, rI, rU, tCallR, tCons, tNil, tC, tVar, tRet, tRetN, tTup_k, tLst_k, tCB, tNext, tAsg, gName, gTup, gCons, gNil, tDrop, tPar, tFld, ClX.tCVal, tPropR, rBin, rBinT, rNeOwn, rSetL_k, gSub, tMakeK_k, tMethR, rInO, tDNewK_k, tYes, wipe, tMakeR_k, tSMeth, tSMethK, rMulS, decide_true, tNever, sFld, rIsiT, and_false, rListOf, rTupOf, rLenSeq, rIxL, rIxT, rIxS, rCat_k, rRep_k, rSlL_k, rSlS, rNewStrs_k, rAppend_k, tBM, tBM0, tM0, tM1, tSl, tNoPart, tPart, tLc_k, tFor_k, iList, iTup, iEnumT, iRng1, iRng2, iRng2L, iStr, L2.start, List.map, List.length_cons, List.length_nil, List.cons_append, List.nil_append, List.getElem?_cons_succ, List.getElem?_cons_zero, Option.some.injEq, V.int.injEq, V.bl.injEq, V.str.injEq, V.ref.injEq, exists_eq_left', exists_eq_left, and_assoc, exists_and_left, exists_eq, exists_eq', true_and, and_true, List.set_cons_zero, List.set_cons_succ, List.set, decide_eq_true_eq, Bool.not_eq_true', if_true, if_false, rIx, cx_K, nox_K, List.replicate_succ, List.replicate_zero, Nat.reduceSub, Bool.true_eq_false, Bool.false_eq_true, Nat.reduceAdd, List.cons.injEq, reduceCtorEq, false_and, false_or, or_false, tAug, rSetO, rStrO, rUn, rBinI, rBinR, rJoin, tJs, tOrT, rIsi, tCallOI, rBinT, tFCall, tCall, tPar3, tFmtO, tMethSF, tFmt, rExtend]
      obtain ⟨t9, ct9⟩ := c14.ct
      obtain ⟨dx9, e9, r9⟩ := id ct9
      refine ⟨dx9, _, e9, by rw [List.lookup_cons]; rfl, x, t9, wd, ds, rfl, ct9, g9, fun y H15 s15 ny py => ?_⟩
      obtain ⟨dy, yt, h1, h2⟩ := id py
      refine ⟨y, rfl, dy, _, h1, y, dy, yt, rfl, h1, ?_⟩
      refine ⟨l4, as4, wd, ds, rfl, G14.same s15, g9, fun tl H16 s16 h16 => ?_⟩
      refine rows_eq g9 (s16 _ _ h2) h16 ⟨_, rfl, ?_⟩
      rw [if_neg (by decide)]
      have s46 := s15.trans s16
      exact ⟨l4, as4, ds, ⟨(P14.same s46).le (by push_cast; omega), c14.same s46, G14.same s46, g9, w3, by omega⟩, rfl⟩
    · obtain ⟨l3, as3, rs3, K3, v5', v6', v7', v8', v9', v10', rfl⟩ := hP
      exact ⟨K3.pen.le (by push_cast; omega), _, _, _, _, _, _, _, _, _, rfl⟩
  · obtain ⟨P2, v2, v3, v4, v5, v6, v7, v8, v9, v10, rfl⟩ := hP
    simp only [tSeq, tIfS, tTest, tB, tAnd, tOr, tNot, tAndV, tOrV, tNotV, tIf, tOp, tUn, tChain, rEq, rNe, rI0, rI, rU, tCallR, tCons, tNil, tC, tVar, tRet, tRetN, tTup_k, tLst_k, tCB, tNext, tAsg, gName, gTup, gCons, gNil, tDrop, tPar, tFld, ClX.tCVal, tPropR, rBin, rBinT, rNeOwn, rSetL_k, gSub, tMakeK_k, tMethR, rInO, tDNewK_k, tYes, wipe, tMakeR_k, tSMeth, tSMethK, rMulS, decide_true, tNever, sFld, rIsiT, and_false, rListOf, rTupOf, rLenSeq, rIxL, rIxT, rIxS, rCat_k, rRep_k, rSlL_k, rSlS, rNewStrs_k, rAppend_k, tBM, tBM0, tM0, tM1, tSl, tNoPart, tPart, tLc_k, tFor_k, iList, iTup, iEnumT, iRng1, iRng2, iRng2L, iStr, L2.start, List.map, List.length_cons, List.length_nil, List.cons_append, List.nil_append, List.getElem?_cons_succ, List.getElem?_cons_zero, Option.some.injEq, V.int.injEq, V.bl.injEq, V.str.injEq, V.ref.injEq, exists_eq_left', exists_eq_left, and_assoc, exists_and_left, exists_eq, exists_eq', true_and, and_true, List.set_cons_zero, List.set_cons_succ, List.set, decide_eq_true_eq, Bool.not_eq_true', if_true, if_false, rIx, cx_K, nox_K, List.replicate_succ, List.replicate_zero, Nat.reduceSub, Bool.true_eq_false, Bool.false_eq_true, Nat.reduceAdd, List.cons.injEq, reduceCtorEq, false_and, false_or, or_false, tAug, rSetO, rStrO, rUn, rBinI, rBinR, rJoin, tJs, tOrT, rIsi, tCallOI, rBinT, tFCall, tCall, tPar3, tFmtO, tMethSF, tFmt, rExtend]
    exact k H2
end
end Pf
end
section
namespace Pf
open PySem PySem.Spec PyProof.Rows L2 Ow StX

theorem fnt_mk {K : PySem.W.Frag} {x qual : Str} {st : Stmt} {f : Addr} {oc : Value} {od an : Option Addr} {osl : Array (Option Value)} {kV doc pm cdv ct : Value}
    (l : K.lookup f = some ⟨oc, od, .func (PySem.W.fnOf x qual (defArgs st) (defBody st) (defScope st) .none kV doc pm an cdv ct), osl⟩) (c : PySem.W.codeIn K cdv qual = true) (k : PySem.W.keepIn K (.ref f) = true) : FnT K x qual st [] f :=
  ⟨_, ⟨⟨oc, od, .none, kV, doc, pm, an, cdv, ct, osl, rfl, l, c, .inl ⟨rfl, rfl⟩, .inl rfl⟩, k⟩⟩
theorem fntD_mk {K : PySem.W.Frag} {x qual : Str} {st : Stmt} {f D : Addr} {oc : Value} {od an : Option Addr} {osl : Array (Option Value)} {kV doc pm cdv ct tc : Value} {td : Option Addr} {tn : Nat} {ts : Array (Option Value)} {its : List Value} {dvs : List V}
    (l : K.lookup f = some ⟨oc, od, .func (PySem.W.fnOf x qual (defArgs st) (defBody st) (defScope st) (.ref D) kV doc pm an cdv ct), osl⟩) (c : PySem.W.codeIn K cdv qual = true) (k : PySem.W.keepIn K (.ref f) = true)
    (t : K.lookup D = some ⟨tc, td, .seq its.toArray tn, ts⟩) (hd : dvs ≠ []) (v : Vals dvs its) : FnT K x qual st dvs f :=
  ⟨_, ⟨⟨oc, od, .ref D, kV, doc, pm, an, cdv, ct, osl, rfl, l, c, .inr ⟨hd, D, _, its, tn, rfl, t, rfl, v⟩, .inl rfl⟩, k⟩⟩
theorem fntD1_mk {K : PySem.W.Frag} {x qual : Str} {st : Stmt} {f D : Addr} {oc : Value} {od an : Option Addr} {osl : Array (Option Value)} {kV doc pm cdv ct tc u : Value} {td : Option Addr} {tn : Nat} {ts : Array (Option Value)} {dv : V}
    (l : K.lookup f = some ⟨oc, od, .func (PySem.W.fnOf x qual (defArgs st) (defBody st) (defScope st) (.ref D) kV doc pm an cdv ct), osl⟩) (c : PySem.W.codeIn K cdv qual = true) (k : PySem.W.keepIn K (.ref f) = true)
    (t : K.lookup D = some ⟨tc, td, .seq #[u] tn, ts⟩) (v : RelV dv u) : FnT K x qual st [dv] f := fntD_mk (its := [u]) l c k t (by simp) (.cons v .nil)
theorem propR_mk {K : PySem.W.Frag} {C p g : Addr} {f : Str} {rest : List Value} (h1 : PySem.W.findIn K (.ref C) f = some (some (.ref p))) (h2 : PySem.W.specialIn K (.ref p) "__get__" = some (some (.builtin "property.__get__")))
    (h3 : PySem.W.takesIn K (.ref p) = some true) (h4 : PySem.W.recIn K p "property" = some (.ref g :: rest)) : PropR K C f p g := ⟨h1, h2, h3, rest, h4⟩
theorem mro2_mk {K : PySem.W.Frag} {C : Addr} {cd : PySem.ClassData} (h : PySem.W.clsIn K C = some cd) (m : (cd.mro == [.ref C, .type "object"]) = true) : mro2 K C = true := by
  unfold mro2
  rw [h]
  exact m

theorem errF_mk {K : PySem.W.Frag} {C g : Addr} {nm q N bs bm sn sub ab col dd k0 k1 k2 k3 k5} (l : K.lookup C = some (excClassObj nm q C N bs bm true sn sub ab col dd k0 k1 k2 k3 k5 "ValueError.__new__")) (r : PySem.HandSPX.refsVE bm = true)
    (s : PySem.W.findIn K (.ref C) "__setattr__" = some (some (.builtin "object.__setattr__"))) (x : PySem.W.subIn K (.ref C) (.type "BaseException") = some true) (t : PySem.W.typeIn K (.ref C) = some (.type "type")) (k : PySem.W.keepIn K (.ref C) = true)
    (i : PySem.W.findIn K (.ref C) "__init__" = some (some (.ref g))) (f : PySem.W.typeIn K (.ref g) = some (.type "function")) : ErrF K C g := ⟨⟨⟨_, _, _, _, _, _, _, _, _, _, _, _, _, _, _, l, r⟩, s, x, t, k⟩, i, f⟩
theorem all_mk {l : PySem.W.OpenLaw} {w : World} {K : PySem.W.Frag} {h : Heap} {mg : Str → Option Value} {fa : Addr} (X : K.In h) (G : h.Ns mainGlobals mg) (hfa : mg "law" = some (.ref fa))
    {x_BadPlace_init x_BadSize_init x_is_int x_check_size x_Place_init x_Place_slope x_Place_offset x_Place_odd x_Place_call x_from_left x_from_right x_parts_of x_place_words x_Place_str x_bounded_place x_checked_place x_Box_init x_Box_call x_box_places x_Box_str x_BadColour_init x_BadPixel_init x_is_int_in x_is_colour x_check_colour x_check_side x_is_row x_wrong_row x_is_pixel x_check_pixel x_clipped x_painted x_filled_rows x_Picture_init x_Picture_rows x_Canvas_init x_Canvas_width x_Canvas_height x_Canvas_setitem x_Canvas_picture x_Canvas_fill x_check_box x_Copy_init x_copied_rows x_Canvas_copy_box x_Copy_on x__law_pen x__law_draw x__law_pick x__law_place x__law_at x__law_built_place x__law_box x__law_built_box x__law_ends x__law_built x__law_is_pixel x__law_spots x__law_within x__law_copied x__law_lines x__law_noise x__law_near x_law x_Place x_pr_Place_slope x_pr_Place_offset x_pr_Place_odd x_Box x_Picture x_pr_Picture_rows x_Canvas x_pr_Canvas_width x_pr_Canvas_height x_Copy x_BadPlace x_BadSize x_BadColour x_BadPixel x_BOUNDt : Addr}
    (n_len : PySem.W.nsIn K mainGlobals "len" = some none)
    (n_int : PySem.W.nsIn K mainGlobals "int" = some none)
    (n_abs : PySem.W.nsIn K mainGlobals "abs" = some none)
    (n_list : PySem.W.nsIn K mainGlobals "list" = some none)
    (n_range : PySem.W.nsIn K mainGlobals "range" = some none)
    (n_repr : PySem.W.nsIn K mainGlobals "repr" = some none)
    (n_tuple : PySem.W.nsIn K mainGlobals "tuple" = some none)
    (n_str : PySem.W.nsIn K mainGlobals "str" = some none)
    (n_isinstance : PySem.W.nsIn K mainGlobals "isinstance" = some none)
    (n_bool : PySem.W.nsIn K mainGlobals "bool" = some none)
    (n_all : PySem.W.nsIn K mainGlobals "all" = some none)
    (n_enumerate : PySem.W.nsIn K mainGlobals "enumerate" = some none)
    (m_is_int : PySem.W.nsIn K mainGlobals "is_int" = some (some (.ref x_is_int)))
    (m_check_size : PySem.W.nsIn K mainGlobals "check_size" = some (some (.ref x_check_size)))
    (m_from_left : PySem.W.nsIn K mainGlobals "from_left" = some (some (.ref x_from_left)))
    (m_from_right : PySem.W.nsIn K mainGlobals "from_right" = some (some (.ref x_from_right)))
    (m_parts_of : PySem.W.nsIn K mainGlobals "parts_of" = some (some (.ref x_parts_of)))
    (m_place_words : PySem.W.nsIn K mainGlobals "place_words" = some (some (.ref x_place_words)))
    (m_bounded_place : PySem.W.nsIn K mainGlobals "bounded_place" = some (some (.ref x_bounded_place)))
    (m_checked_place : PySem.W.nsIn K mainGlobals "checked_place" = some (some (.ref x_checked_place)))
    (m_box_places : PySem.W.nsIn K mainGlobals "box_places" = some (some (.ref x_box_places)))
    (m_is_int_in : PySem.W.nsIn K mainGlobals "is_int_in" = some (some (.ref x_is_int_in)))
    (m_is_colour : PySem.W.nsIn K mainGlobals "is_colour" = some (some (.ref x_is_colour)))
    (m_check_colour : PySem.W.nsIn K mainGlobals "check_colour" = some (some (.ref x_check_colour)))
    (m_check_side : PySem.W.nsIn K mainGlobals "check_side" = some (some (.ref x_check_side)))
    (m_is_row : PySem.W.nsIn K mainGlobals "is_row" = some (some (.ref x_is_row)))
    (m_wrong_row : PySem.W.nsIn K mainGlobals "wrong_row" = some (some (.ref x_wrong_row)))
    (m_is_pixel : PySem.W.nsIn K mainGlobals "is_pixel" = some (some (.ref x_is_pixel)))
    (m_check_pixel : PySem.W.nsIn K mainGlobals "check_pixel" = some (some (.ref x_check_pixel)))
    (m_clipped : PySem.W.nsIn K mainGlobals "clipped" = some (some (.ref x_clipped)))
    (m_painted : PySem.W.nsIn K mainGlobals "painted" = some (some (.ref x_painted)))
    (m_filled_rows : PySem.W.nsIn K mainGlobals "filled_rows" = some (some (.ref x_filled_rows)))
    (m_check_box : PySem.W.nsIn K mainGlobals "check_box" = some (some (.ref x_check_box)))
    (m_copied_rows : PySem.W.nsIn K mainGlobals "copied_rows" = some (some (.ref x_copied_rows)))
    (m__law_pen : PySem.W.nsIn K mainGlobals "_law_pen" = some (some (.ref x__law_pen)))
    (m__law_draw : PySem.W.nsIn K mainGlobals "_law_draw" = some (some (.ref x__law_draw)))
    (m__law_pick : PySem.W.nsIn K mainGlobals "_law_pick" = some (some (.ref x__law_pick)))
    (m__law_place : PySem.W.nsIn K mainGlobals "_law_place" = some (some (.ref x__law_place)))
    (m__law_at : PySem.W.nsIn K mainGlobals "_law_at" = some (some (.ref x__law_at)))
    (m__law_built_place : PySem.W.nsIn K mainGlobals "_law_built_place" = some (some (.ref x__law_built_place)))
    (m__law_box : PySem.W.nsIn K mainGlobals "_law_box" = some (some (.ref x__law_box)))
    (m__law_built_box : PySem.W.nsIn K mainGlobals "_law_built_box" = some (some (.ref x__law_built_box)))
    (m__law_ends : PySem.W.nsIn K mainGlobals "_law_ends" = some (some (.ref x__law_ends)))
    (m__law_built : PySem.W.nsIn K mainGlobals "_law_built" = some (some (.ref x__law_built)))
    (m__law_is_pixel : PySem.W.nsIn K mainGlobals "_law_is_pixel" = some (some (.ref x__law_is_pixel)))
    (m__law_spots : PySem.W.nsIn K mainGlobals "_law_spots" = some (some (.ref x__law_spots)))
    (m__law_within : PySem.W.nsIn K mainGlobals "_law_within" = some (some (.ref x__law_within)))
    (m__law_copied : PySem.W.nsIn K mainGlobals "_law_copied" = some (some (.ref x__law_copied)))
    (m__law_lines : PySem.W.nsIn K mainGlobals "_law_lines" = some (some (.ref x__law_lines)))
    (m__law_noise : PySem.W.nsIn K mainGlobals "_law_noise" = some (some (.ref x__law_noise)))
    (m__law_near : PySem.W.nsIn K mainGlobals "_law_near" = some (some (.ref x__law_near)))
    (m_law : PySem.W.nsIn K mainGlobals "law" = some (some (.ref x_law)))
    (m_Place : PySem.W.nsIn K mainGlobals "Place" = some (some (.ref x_Place)))
    (c_Place : ClsF K x_Place)
    (M_Place : Mk K x_Place x_Place_init)
    (a_Place__slope : PySem.W.findIn K (.ref x_Place) "_slope" = some none)
    (a_Place__offset : PySem.W.findIn K (.ref x_Place) "_offset" = some none)
    (a_Place__odd : PySem.W.findIn K (.ref x_Place) "_odd" = some none)
    (p_Place_slope : PropR K x_Place "slope" x_pr_Place_slope x_Place_slope)
    (p_Place_offset : PropR K x_Place "offset" x_pr_Place_offset x_Place_offset)
    (p_Place_odd : PropR K x_Place "odd" x_pr_Place_odd x_Place_odd)
    (o_Place_call : PySem.W.findIn K (.ref x_Place) "__call__" = some (some (.ref x_Place_call)))
    (f_Place_call : PySem.W.isFn K (.ref x_Place_call) = true)
    (o_Place_str : PySem.W.findIn K (.ref x_Place) "__str__" = some (some (.ref x_Place_str)))
    (f_Place_str : PySem.W.isFn K (.ref x_Place_str) = true)
    (s_Place_int : PySem.W.subIn K (.type "int") (.ref x_Place) = some false)
    (fi_Place_call : PySem.W.fnIn K x_Place_call = true)
    (s_Place_first : PySem.W.selfFirst K x_Place = true)
    (s_Place_isint : PySem.W.subIn K (.ref x_Place) (.type "int") = some false)
    (m_Box : PySem.W.nsIn K mainGlobals "Box" = some (some (.ref x_Box)))
    (c_Box : ClsF K x_Box)
    (M_Box : Mk K x_Box x_Box_init)
    (a_Box_x0 : PySem.W.findIn K (.ref x_Box) "x0" = some none)
    (a_Box_x1 : PySem.W.findIn K (.ref x_Box) "x1" = some none)
    (a_Box_y0 : PySem.W.findIn K (.ref x_Box) "y0" = some none)
    (a_Box_y1 : PySem.W.findIn K (.ref x_Box) "y1" = some none)
    (o_Box_call : PySem.W.findIn K (.ref x_Box) "__call__" = some (some (.ref x_Box_call)))
    (f_Box_call : PySem.W.isFn K (.ref x_Box_call) = true)
    (o_Box_str : PySem.W.findIn K (.ref x_Box) "__str__" = some (some (.ref x_Box_str)))
    (f_Box_str : PySem.W.isFn K (.ref x_Box_str) = true)
    (fi_Box_call : PySem.W.fnIn K x_Box_call = true)
    (m_Picture : PySem.W.nsIn K mainGlobals "Picture" = some (some (.ref x_Picture)))
    (c_Picture : ClsF K x_Picture)
    (M_Picture : Mk K x_Picture x_Picture_init)
    (a_Picture__rows : PySem.W.findIn K (.ref x_Picture) "_rows" = some none)
    (p_Picture_rows : PropR K x_Picture "rows" x_pr_Picture_rows x_Picture_rows)
    (cr_Picture : ClX.CRead K x_Picture (.type "type"))
    (cv_MOST : ∃ u, ClX.CVal K x_Picture (.type "type") "MOST" (.int 200) u)
    (m_Canvas : PySem.W.nsIn K mainGlobals "Canvas" = some (some (.ref x_Canvas)))
    (c_Canvas : ClsF K x_Canvas)
    (M_Canvas : Mk K x_Canvas x_Canvas_init)
    (a_Canvas__rows : PySem.W.findIn K (.ref x_Canvas) "_rows" = some none)
    (p_Canvas_width : PropR K x_Canvas "width" x_pr_Canvas_width x_Canvas_width)
    (p_Canvas_height : PropR K x_Canvas "height" x_pr_Canvas_height x_Canvas_height)
    (o_Canvas_setitem : PySem.W.findIn K (.ref x_Canvas) "__setitem__" = some (some (.ref x_Canvas_setitem)))
    (f_Canvas_setitem : PySem.W.isFn K (.ref x_Canvas_setitem) = true)
    (cr_Canvas : ClX.CRead K x_Canvas (.type "type"))
    (cv_CMOST : ∃ u, ClX.CVal K x_Canvas (.type "type") "MOST" (.int 200) u)
    (mt_fill : Meth K x_Canvas "fill" x_Canvas_fill)
    (bm_fill : BMeth K x_Canvas "fill" x_Canvas_fill)
    (mt_picture : Meth K x_Canvas "picture" x_Canvas_picture)
    (ns_Canvas : PySem.W.noSeq K x_Canvas = true)
    (mt_copy_box : Meth K x_Canvas "copy_box" x_Canvas_copy_box)
    (m_Copy : PySem.W.nsIn K mainGlobals "Copy" = some (some (.ref x_Copy)))
    (c_Copy : ClsF K x_Copy)
    (M_Copy : Mk K x_Copy x_Copy_init)
    (a_Copy_box : PySem.W.findIn K (.ref x_Copy) "box" = some none)
    (a_Copy_x : PySem.W.findIn K (.ref x_Copy) "x" = some none)
    (a_Copy_y : PySem.W.findIn K (.ref x_Copy) "y" = some none)
    (mt_Copy_on : Meth K x_Copy "on" x_Copy_on)
    (m_BadPlace : PySem.W.nsIn K mainGlobals "BadPlace" = some (some (.ref x_BadPlace)))
    (e_BadPlace : ErrF K x_BadPlace x_BadPlace_init)
    (a_BadPlace_part : PySem.W.findIn K (.ref x_BadPlace) "part" = some none)
    (m_BadSize : PySem.W.nsIn K mainGlobals "BadSize" = some (some (.ref x_BadSize)))
    (e_BadSize : ErrF K x_BadSize x_BadSize_init)
    (a_BadSize_part : PySem.W.findIn K (.ref x_BadSize) "part" = some none)
    (m_BadColour : PySem.W.nsIn K mainGlobals "BadColour" = some (some (.ref x_BadColour)))
    (e_BadColour : ErrF K x_BadColour x_BadColour_init)
    (a_BadColour_value : PySem.W.findIn K (.ref x_BadColour) "value" = some none)
    (m_BadPixel : PySem.W.nsIn K mainGlobals "BadPixel" = some (some (.ref x_BadPixel)))
    (e_BadPixel : ErrF K x_BadPixel x_BadPixel_init)
    (a_BadPixel_x : PySem.W.findIn K (.ref x_BadPixel) "x" = some none)
    (a_BadPixel_y : PySem.W.findIn K (.ref x_BadPixel) "y" = some none)
    (m_BOUND : PySem.W.nsIn K mainGlobals "BOUND" = some (some (.int 1000000000000 x_BOUNDt)))
    (d_BadPlace_init : FnT K "__init__" "BadPlace.__init__" s_BadPlace_init [] x_BadPlace_init)
    (d_BadSize_init : FnT K "__init__" "BadSize.__init__" s_BadSize_init [] x_BadSize_init)
    (d_is_int : FnT K "is_int" "is_int" s_is_int [] x_is_int)
    (k_is_int : PySem.W.keepIn K (.ref x_is_int) = true)
    (d_check_size : FnT K "check_size" "check_size" s_check_size [] x_check_size)
    (k_check_size : PySem.W.keepIn K (.ref x_check_size) = true)
    (d_Place_init : FnT K "__init__" "Place.__init__" s_Place_init [.int 0] x_Place_init)
    (d_Place_slope : FnT K "slope" "Place.slope" s_Place_slope [] x_Place_slope)
    (d_Place_offset : FnT K "offset" "Place.offset" s_Place_offset [] x_Place_offset)
    (d_Place_odd : FnT K "odd" "Place.odd" s_Place_odd [] x_Place_odd)
    (d_Place_call : FnT K "__call__" "Place.__call__" s_Place_call [] x_Place_call)
    (d_from_left : FnT K "from_left" "from_left" s_from_left [.int 0] x_from_left)
    (k_from_left : PySem.W.keepIn K (.ref x_from_left) = true)
    (d_from_right : FnT K "from_right" "from_right" s_from_right [.int 0] x_from_right)
    (k_from_right : PySem.W.keepIn K (.ref x_from_right) = true)
    (d_parts_of : FnT K "parts_of" "parts_of" s_parts_of [] x_parts_of)
    (k_parts_of : PySem.W.keepIn K (.ref x_parts_of) = true)
    (d_place_words : FnT K "place_words" "place_words" s_place_words [] x_place_words)
    (k_place_words : PySem.W.keepIn K (.ref x_place_words) = true)
    (d_Place_str : FnT K "__str__" "Place.__str__" s_Place_str [] x_Place_str)
    (d_bounded_place : FnT K "bounded_place" "bounded_place" s_bounded_place [] x_bounded_place)
    (k_bounded_place : PySem.W.keepIn K (.ref x_bounded_place) = true)
    (d_checked_place : FnT K "checked_place" "checked_place" s_checked_place [] x_checked_place)
    (k_checked_place : PySem.W.keepIn K (.ref x_checked_place) = true)
    (d_Box_init : FnT K "__init__" "Box.__init__" s_Box_init [] x_Box_init)
    (d_Box_call : FnT K "__call__" "Box.__call__" s_Box_call [] x_Box_call)
    (d_box_places : FnT K "box_places" "box_places" s_box_places [] x_box_places)
    (k_box_places : PySem.W.keepIn K (.ref x_box_places) = true)
    (d_Box_str : FnT K "__str__" "Box.__str__" s_Box_str [] x_Box_str)
    (d_BadColour_init : FnT K "__init__" "BadColour.__init__" s_BadColour_init [] x_BadColour_init)
    (d_BadPixel_init : FnT K "__init__" "BadPixel.__init__" s_BadPixel_init [] x_BadPixel_init)
    (d_is_int_in : FnT K "is_int_in" "is_int_in" s_is_int_in [] x_is_int_in)
    (k_is_int_in : PySem.W.keepIn K (.ref x_is_int_in) = true)
    (d_is_colour : FnT K "is_colour" "is_colour" s_is_colour [] x_is_colour)
    (k_is_colour : PySem.W.keepIn K (.ref x_is_colour) = true)
    (d_check_colour : FnT K "check_colour" "check_colour" s_check_colour [] x_check_colour)
    (k_check_colour : PySem.W.keepIn K (.ref x_check_colour) = true)
    (d_check_side : FnT K "check_side" "check_side" s_check_side [] x_check_side)
    (k_check_side : PySem.W.keepIn K (.ref x_check_side) = true)
    (d_is_row : FnT K "is_row" "is_row" s_is_row [] x_is_row)
    (k_is_row : PySem.W.keepIn K (.ref x_is_row) = true)
    (d_wrong_row : FnT K "wrong_row" "wrong_row" s_wrong_row [] x_wrong_row)
    (k_wrong_row : PySem.W.keepIn K (.ref x_wrong_row) = true)
    (d_is_pixel : FnT K "is_pixel" "is_pixel" s_is_pixel [] x_is_pixel)
    (k_is_pixel : PySem.W.keepIn K (.ref x_is_pixel) = true)
    (d_check_pixel : FnT K "check_pixel" "check_pixel" s_check_pixel [] x_check_pixel)
    (k_check_pixel : PySem.W.keepIn K (.ref x_check_pixel) = true)
    (d_clipped : FnT K "clipped" "clipped" s_clipped [] x_clipped)
    (k_clipped : PySem.W.keepIn K (.ref x_clipped) = true)
    (d_painted : FnT K "painted" "painted" s_painted [] x_painted)
    (k_painted : PySem.W.keepIn K (.ref x_painted) = true)
    (d_filled_rows : FnT K "filled_rows" "filled_rows" s_filled_rows [] x_filled_rows)
    (k_filled_rows : PySem.W.keepIn K (.ref x_filled_rows) = true)
    (d_Picture_init : FnT K "__init__" "Picture.__init__" s_Picture_init [] x_Picture_init)
    (d_Picture_rows : FnT K "rows" "Picture.rows" s_Picture_rows [] x_Picture_rows)
    (d_Canvas_init : FnT K "__init__" "Canvas.__init__" s_Canvas_init [] x_Canvas_init)
    (d_Canvas_width : FnT K "width" "Canvas.width" s_Canvas_width [] x_Canvas_width)
    (d_Canvas_height : FnT K "height" "Canvas.height" s_Canvas_height [] x_Canvas_height)
    (d_Canvas_setitem : FnT K "__setitem__" "Canvas.__setitem__" s_Canvas_setitem [] x_Canvas_setitem)
    (d_Canvas_picture : FnT K "picture" "Canvas.picture" s_Canvas_picture [] x_Canvas_picture)
    (d_Canvas_fill : FnT K "fill" "Canvas.fill" s_Canvas_fill [] x_Canvas_fill)
    (d_check_box : FnT K "check_box" "check_box" s_check_box [] x_check_box)
    (k_check_box : PySem.W.keepIn K (.ref x_check_box) = true)
    (d_Copy_init : FnT K "__init__" "Copy.__init__" s_Copy_init [] x_Copy_init)
    (d_copied_rows : FnT K "copied_rows" "copied_rows" s_copied_rows [] x_copied_rows)
    (k_copied_rows : PySem.W.keepIn K (.ref x_copied_rows) = true)
    (d_Canvas_copy_box : FnT K "copy_box" "Canvas.copy_box" s_Canvas_copy_box [] x_Canvas_copy_box)
    (d_Copy_on : FnT K "on" "Copy.on" s_Copy_on [] x_Copy_on)
    (d__law_pen : FnT K "_law_pen" "_law_pen" s__law_pen [] x__law_pen)
    (k__law_pen : PySem.W.keepIn K (.ref x__law_pen) = true)
    (d__law_draw : FnT K "_law_draw" "_law_draw" s__law_draw [] x__law_draw)
    (k__law_draw : PySem.W.keepIn K (.ref x__law_draw) = true)
    (d__law_pick : FnT K "_law_pick" "_law_pick" s__law_pick [] x__law_pick)
    (k__law_pick : PySem.W.keepIn K (.ref x__law_pick) = true)
    (d__law_place : FnT K "_law_place" "_law_place" s__law_place [] x__law_place)
    (k__law_place : PySem.W.keepIn K (.ref x__law_place) = true)
    (d__law_at : FnT K "_law_at" "_law_at" s__law_at [] x__law_at)
    (k__law_at : PySem.W.keepIn K (.ref x__law_at) = true)
    (d__law_built_place : FnT K "_law_built_place" "_law_built_place" s__law_built_place [] x__law_built_place)
    (k__law_built_place : PySem.W.keepIn K (.ref x__law_built_place) = true)
    (d__law_box : FnT K "_law_box" "_law_box" s__law_box [] x__law_box)
    (k__law_box : PySem.W.keepIn K (.ref x__law_box) = true)
    (d__law_built_box : FnT K "_law_built_box" "_law_built_box" s__law_built_box [] x__law_built_box)
    (k__law_built_box : PySem.W.keepIn K (.ref x__law_built_box) = true)
    (d__law_ends : FnT K "_law_ends" "_law_ends" s__law_ends [] x__law_ends)
    (k__law_ends : PySem.W.keepIn K (.ref x__law_ends) = true)
    (d__law_built : FnT K "_law_built" "_law_built" s__law_built [] x__law_built)
    (k__law_built : PySem.W.keepIn K (.ref x__law_built) = true)
    (d__law_is_pixel : FnT K "_law_is_pixel" "_law_is_pixel" s__law_is_pixel [] x__law_is_pixel)
    (k__law_is_pixel : PySem.W.keepIn K (.ref x__law_is_pixel) = true)
    (d__law_spots : FnT K "_law_spots" "_law_spots" s__law_spots [] x__law_spots)
    (k__law_spots : PySem.W.keepIn K (.ref x__law_spots) = true)
    (d__law_within : FnT K "_law_within" "_law_within" s__law_within [] x__law_within)
    (k__law_within : PySem.W.keepIn K (.ref x__law_within) = true)
    (d__law_copied : FnT K "_law_copied" "_law_copied" s__law_copied [] x__law_copied)
    (k__law_copied : PySem.W.keepIn K (.ref x__law_copied) = true)
    (d__law_lines : FnT K "_law_lines" "_law_lines" s__law_lines [] x__law_lines)
    (k__law_lines : PySem.W.keepIn K (.ref x__law_lines) = true)
    (d__law_noise : FnT K "_law_noise" "_law_noise" s__law_noise [] x__law_noise)
    (k__law_noise : PySem.W.keepIn K (.ref x__law_noise) = true)
    (d__law_near : FnT K "_law_near" "_law_near" s__law_near [] x__law_near)
    (k__law_near : PySem.W.keepIn K (.ref x__law_near) = true)
    (d_law : FnT K "law" "law" s_law [] x_law)
    (k_law : PySem.W.keepIn K (.ref x_law) = true)
    : ∀ base : Heap, K.In base → base.Ns mainGlobals mg → FnG l.prog w K mg base CX0 17 fa (spLaw K) := by
  have e := hfa.symm.trans (PySem.W.mg_of X G m_law)
  have e2 : x_law = fa := by
    cases e
    rfl
  subst e2
  have T : Txt K mg ⟨x_BadPlace_init, x_BadSize_init, x_is_int, x_check_size, x_Place_init, x_Place_slope, x_Place_offset, x_Place_odd, x_Place_call, x_from_left, x_from_right, x_parts_of, x_place_words, x_Place_str, x_bounded_place, x_checked_place, x_Box_init, x_Box_call, x_box_places, x_Box_str, x_BadColour_init, x_BadPixel_init, x_is_int_in, x_is_colour, x_check_colour, x_check_side, x_is_row, x_wrong_row, x_is_pixel, x_check_pixel, x_clipped, x_painted, x_filled_rows, x_Picture_init, x_Picture_rows, x_Canvas_init, x_Canvas_width, x_Canvas_height, x_Canvas_setitem, x_Canvas_picture, x_Canvas_fill, x_check_box, x_Copy_init, x_copied_rows, x_Canvas_copy_box, x_Copy_on, x__law_pen, x__law_draw, x__law_pick, x__law_place, x__law_at, x__law_built_place, x__law_box, x__law_built_box, x__law_ends, x__law_built, x__law_is_pixel, x__law_spots, x__law_within, x__law_copied, x__law_lines, x__law_noise, x__law_near, x_law, x_Place, x_pr_Place_slope, x_pr_Place_offset, x_pr_Place_odd, x_Box, x_Picture, x_pr_Picture_rows, x_Canvas, x_pr_Canvas_width, x_pr_Canvas_height, x_Copy, x_BadPlace, x_BadSize, x_BadColour, x_BadPixel, x_BOUNDt⟩ :=
    { n_len := PySem.W.mg_none_of X G n_len,
      n_int := PySem.W.mg_none_of X G n_int,
      n_abs := PySem.W.mg_none_of X G n_abs,
      n_list := PySem.W.mg_none_of X G n_list,
      n_range := PySem.W.mg_none_of X G n_range,
      n_repr := PySem.W.mg_none_of X G n_repr,
      n_tuple := PySem.W.mg_none_of X G n_tuple,
      n_str := PySem.W.mg_none_of X G n_str,
      n_isinstance := PySem.W.mg_none_of X G n_isinstance,
      n_bool := PySem.W.mg_none_of X G n_bool,
      n_all := PySem.W.mg_none_of X G n_all,
      n_enumerate := PySem.W.mg_none_of X G n_enumerate,
      d_BadPlace_init := d_BadPlace_init,
      d_BadSize_init := d_BadSize_init,
      d_is_int := d_is_int,
      m_is_int := PySem.W.mg_of X G m_is_int,
      k_is_int := k_is_int,
      d_check_size := d_check_size,
      m_check_size := PySem.W.mg_of X G m_check_size,
      k_check_size := k_check_size,
      d_Place_init := d_Place_init,
      d_Place_slope := d_Place_slope,
      d_Place_offset := d_Place_offset,
      d_Place_odd := d_Place_odd,
      d_Place_call := d_Place_call,
      d_from_left := d_from_left,
      m_from_left := PySem.W.mg_of X G m_from_left,
      k_from_left := k_from_left,
      d_from_right := d_from_right,
      m_from_right := PySem.W.mg_of X G m_from_right,
      k_from_right := k_from_right,
      d_parts_of := d_parts_of,
      m_parts_of := PySem.W.mg_of X G m_parts_of,
      k_parts_of := k_parts_of,
      d_place_words := d_place_words,
      m_place_words := PySem.W.mg_of X G m_place_words,
      k_place_words := k_place_words,
      d_Place_str := d_Place_str,
      d_bounded_place := d_bounded_place,
      m_bounded_place := PySem.W.mg_of X G m_bounded_place,
      k_bounded_place := k_bounded_place,
      d_checked_place := d_checked_place,
      m_checked_place := PySem.W.mg_of X G m_checked_place,
      k_checked_place := k_checked_place,
      d_Box_init := d_Box_init,
      d_Box_call := d_Box_call,
      d_box_places := d_box_places,
      m_box_places := PySem.W.mg_of X G m_box_places,
      k_box_places := k_box_places,
      d_Box_str := d_Box_str,
      d_BadColour_init := d_BadColour_init,
      d_BadPixel_init := d_BadPixel_init,
      d_is_int_in := d_is_int_in,
      m_is_int_in := PySem.W.mg_of X G m_is_int_in,
      k_is_int_in := k_is_int_in,
      d_is_colour := d_is_colour,
      m_is_colour := PySem.W.mg_of X G m_is_colour,
      k_is_colour := k_is_colour,
      d_check_colour := d_check_colour,
      m_check_colour := PySem.W.mg_of X G m_check_colour,
      k_check_colour := k_check_colour,
      d_check_side := d_check_side,
      m_check_side := PySem.W.mg_of X G m_check_side,
      k_check_side := k_check_side,
      d_is_row := d_is_row,
      m_is_row := PySem.W.mg_of X G m_is_row,
      k_is_row := k_is_row,
      d_wrong_row := d_wrong_row,
      m_wrong_row := PySem.W.mg_of X G m_wrong_row,
      k_wrong_row := k_wrong_row,
      d_is_pixel := d_is_pixel,
      m_is_pixel := PySem.W.mg_of X G m_is_pixel,
      k_is_pixel := k_is_pixel,
      d_check_pixel := d_check_pixel,
      m_check_pixel := PySem.W.mg_of X G m_check_pixel,
      k_check_pixel := k_check_pixel,
      d_clipped := d_clipped,
      m_clipped := PySem.W.mg_of X G m_clipped,
      k_clipped := k_clipped,
      d_painted := d_painted,
      m_painted := PySem.W.mg_of X G m_painted,
      k_painted := k_painted,
      d_filled_rows := d_filled_rows,
      m_filled_rows := PySem.W.mg_of X G m_filled_rows,
      k_filled_rows := k_filled_rows,
      d_Picture_init := d_Picture_init,
      d_Picture_rows := d_Picture_rows,
      d_Canvas_init := d_Canvas_init,
      d_Canvas_width := d_Canvas_width,
      d_Canvas_height := d_Canvas_height,
      d_Canvas_setitem := d_Canvas_setitem,
      d_Canvas_picture := d_Canvas_picture,
      d_Canvas_fill := d_Canvas_fill,
      d_check_box := d_check_box,
      m_check_box := PySem.W.mg_of X G m_check_box,
      k_check_box := k_check_box,
      d_Copy_init := d_Copy_init,
      d_copied_rows := d_copied_rows,
      m_copied_rows := PySem.W.mg_of X G m_copied_rows,
      k_copied_rows := k_copied_rows,
      d_Canvas_copy_box := d_Canvas_copy_box,
      d_Copy_on := d_Copy_on,
      d__law_pen := d__law_pen,
      m__law_pen := PySem.W.mg_of X G m__law_pen,
      k__law_pen := k__law_pen,
      d__law_draw := d__law_draw,
      m__law_draw := PySem.W.mg_of X G m__law_draw,
      k__law_draw := k__law_draw,
      d__law_pick := d__law_pick,
      m__law_pick := PySem.W.mg_of X G m__law_pick,
      k__law_pick := k__law_pick,
      d__law_place := d__law_place,
      m__law_place := PySem.W.mg_of X G m__law_place,
      k__law_place := k__law_place,
      d__law_at := d__law_at,
      m__law_at := PySem.W.mg_of X G m__law_at,
      k__law_at := k__law_at,
      d__law_built_place := d__law_built_place,
      m__law_built_place := PySem.W.mg_of X G m__law_built_place,
      k__law_built_place := k__law_built_place,
      d__law_box := d__law_box,
      m__law_box := PySem.W.mg_of X G m__law_box,
      k__law_box := k__law_box,
      d__law_built_box := d__law_built_box,
      m__law_built_box := PySem.W.mg_of X G m__law_built_box,
      k__law_built_box := k__law_built_box,
      d__law_ends := d__law_ends,
      m__law_ends := PySem.W.mg_of X G m__law_ends,
      k__law_ends := k__law_ends,
      d__law_built := d__law_built,
      m__law_built := PySem.W.mg_of X G m__law_built,
      k__law_built := k__law_built,
      d__law_is_pixel := d__law_is_pixel,
      m__law_is_pixel := PySem.W.mg_of X G m__law_is_pixel,
      k__law_is_pixel := k__law_is_pixel,
      d__law_spots := d__law_spots,
      m__law_spots := PySem.W.mg_of X G m__law_spots,
      k__law_spots := k__law_spots,
      d__law_within := d__law_within,
      m__law_within := PySem.W.mg_of X G m__law_within,
      k__law_within := k__law_within,
      d__law_copied := d__law_copied,
      m__law_copied := PySem.W.mg_of X G m__law_copied,
      k__law_copied := k__law_copied,
      d__law_lines := d__law_lines,
      m__law_lines := PySem.W.mg_of X G m__law_lines,
      k__law_lines := k__law_lines,
      d__law_noise := d__law_noise,
      m__law_noise := PySem.W.mg_of X G m__law_noise,
      k__law_noise := k__law_noise,
      d__law_near := d__law_near,
      m__law_near := PySem.W.mg_of X G m__law_near,
      k__law_near := k__law_near,
      d_law := d_law,
      m_law := PySem.W.mg_of X G m_law,
      k_law := k_law,
      m_Place := PySem.W.mg_of X G m_Place,
      c_Place := c_Place,
      M_Place := M_Place,
      a_Place__slope := a_Place__slope,
      a_Place__offset := a_Place__offset,
      a_Place__odd := a_Place__odd,
      p_Place_slope := p_Place_slope,
      p_Place_offset := p_Place_offset,
      p_Place_odd := p_Place_odd,
      o_Place_call := o_Place_call,
      f_Place_call := f_Place_call,
      o_Place_str := o_Place_str,
      f_Place_str := f_Place_str,
      s_Place_int := s_Place_int,
      fi_Place_call := fi_Place_call,
      s_Place_first := s_Place_first,
      s_Place_isint := s_Place_isint,
      m_Box := PySem.W.mg_of X G m_Box,
      c_Box := c_Box,
      M_Box := M_Box,
      a_Box_x0 := a_Box_x0,
      a_Box_x1 := a_Box_x1,
      a_Box_y0 := a_Box_y0,
      a_Box_y1 := a_Box_y1,
      o_Box_call := o_Box_call,
      f_Box_call := f_Box_call,
      o_Box_str := o_Box_str,
      f_Box_str := f_Box_str,
      fi_Box_call := fi_Box_call,
      m_Picture := PySem.W.mg_of X G m_Picture,
      c_Picture := c_Picture,
      M_Picture := M_Picture,
      a_Picture__rows := a_Picture__rows,
      p_Picture_rows := p_Picture_rows,
      cr_Picture := cr_Picture,
      cv_MOST := cv_MOST,
      m_Canvas := PySem.W.mg_of X G m_Canvas,
      c_Canvas := c_Canvas,
      M_Canvas := M_Canvas,
      a_Canvas__rows := a_Canvas__rows,
      p_Canvas_width := p_Canvas_width,
      p_Canvas_height := p_Canvas_height,
      o_Canvas_setitem := o_Canvas_setitem,
      f_Canvas_setitem := f_Canvas_setitem,
      cr_Canvas := cr_Canvas,
      cv_CMOST := cv_CMOST,
      mt_fill := mt_fill,
      bm_fill := bm_fill,
      mt_picture := mt_picture,
      ns_Canvas := ns_Canvas,
      mt_copy_box := mt_copy_box,
      m_Copy := PySem.W.mg_of X G m_Copy,
      c_Copy := c_Copy,
      M_Copy := M_Copy,
      a_Copy_box := a_Copy_box,
      a_Copy_x := a_Copy_x,
      a_Copy_y := a_Copy_y,
      mt_Copy_on := mt_Copy_on,
      m_BOUND := PySem.W.mg_of X G m_BOUND,
      m_BadPlace := PySem.W.mg_of X G m_BadPlace,
      e_BadPlace := e_BadPlace,
      a_BadPlace_part := a_BadPlace_part,
      m_BadSize := PySem.W.mg_of X G m_BadSize,
      e_BadSize := e_BadSize,
      a_BadSize_part := a_BadSize_part,
      m_BadColour := PySem.W.mg_of X G m_BadColour,
      e_BadColour := e_BadColour,
      a_BadColour_value := a_BadColour_value,
      m_BadPixel := PySem.W.mg_of X G m_BadPixel,
      e_BadPixel := e_BadPixel,
      a_BadPixel_x := a_BadPixel_x,
      a_BadPixel_y := a_BadPixel_y }
  exact fun base _ _ => ok_law T
theorem walk {l : PySem.W.OpenLaw} {q : Program} {loose : List Str} {XP : (Str → Option Value) → Heap → Prop} {YP : World → Heap → Prop} {d : DefRec} {K : Params → PySem.W.Frag} (hn : l.most = some 63) (hdf : d.params.defaults = [])
    (hY : ∀ (w : World) (h : Heap), YP w h → (K w.params).In h)
    (F : ∀ (w : World) (mg : Str → Option Value) (fa : Addr) (h : Heap), (K w.params).In h → h.Ns mainGlobals mg → mg d.name = some (.ref fa) →
      ∀ base : Heap, (K w.params).In base → base.Ns mainGlobals mg → FnG l.prog w (K w.params) mg base CX0 17 fa (spLaw (K w.params))) :
    PySem.W.WalkO q loose XP YP l.row.toRowW d [] (fun f vs => PySem.call f vs) :=
  Ow.walk_ofG (n := 63) (k := 17) (sp := fun w => spLaw (K w.params)) hn (by decide) hdf ⟨rfl, by decide, by decide⟩ hY F (fun _ _ a ns hl _ hS => ⟨a, ns, rfl, hS, hl, fun _ => rfl⟩)
end Pf
end
open PySem PySem.W PyProof.Rows
set_option maxRecDepth 100000 in
set_option maxHeartbeats 0 in
theorem PySem.Challenge.cw_heldfloods_k38_copies_by_pixels_holds : PySem.Challenge.rw_heldfloods_k38_copies_by_pixels.Holds := by
  w_on; o_law
  refine PySem.W.holds_open (q := HT.qv) (loose := HT.names) (Xt := HT.Xt) (XP := XL HT.qv []) (Yf := Hook.obs (kHook HT.as.heap_1 HT.as HT.ek)) (Ya := Hook.val (kHook HT.as.heap_1 HT.as HT.ek)) (YP := Hook.says (kHook HT.as.heap_1 HT.as HT.ek)) (N := 41000) HT.left (Hook.of (kHook HT.as.heap_1 HT.as HT.ek)) (Hook.keeps (kHook HT.as.heap_1 HT.as HT.ek)) (fun s e => xl_of s (Bool.and_eq_true_iff.mp e).1) XL.keeps (by rfl) (by rfl) (by rfl) (fun s e => recFacts_of (Bool.and_eq_true_iff.mp e).2) (by rfl) (by first | assumption | decide +kernel) (by decide +kernel) ⟨rfl, rfl, rfl, rfl, rfl, by decide +kernel⟩ (by w_witness2) ?_
  k_fill
  refine Pf.walk (l := PySem.Challenge.rw_heldfloods_k38_copies_by_pixels) rfl rfl (fun w h Y => PySem.W.kIn_of Y) ?F
  case F =>
    intro w mg fa h KX G hmg
    refine' Pf.all_mk KX G hmg ?n_len ?n_int ?n_abs ?n_list ?n_range ?n_repr ?n_tuple ?n_str ?n_isinstance ?n_bool ?n_all ?n_enumerate ?m_is_int ?m_check_size ?m_from_left ?m_from_right ?m_parts_of ?m_place_words ?m_bounded_place ?m_checked_place ?m_box_places ?m_is_int_in ?m_is_colour ?m_check_colour ?m_check_side ?m_is_row ?m_wrong_row ?m_is_pixel ?m_check_pixel ?m_clipped ?m_painted ?m_filled_rows ?m_check_box ?m_copied_rows ?m__law_pen ?m__law_draw ?m__law_pick ?m__law_place ?m__law_at ?m__law_built_place ?m__law_box ?m__law_built_box ?m__law_ends ?m__law_built ?m__law_is_pixel ?m__law_spots ?m__law_within ?m__law_copied ?m__law_lines ?m__law_noise ?m__law_near ?m_law ?m_Place ?c_Place ?M_Place ?a_Place__slope ?a_Place__offset ?a_Place__odd ?p_Place_slope ?p_Place_offset ?p_Place_odd ?o_Place_call ?f_Place_call ?o_Place_str ?f_Place_str ?s_Place_int ?fi_Place_call ?s_Place_first ?s_Place_isint ?m_Box ?c_Box ?M_Box ?a_Box_x0 ?a_Box_x1 ?a_Box_y0 ?a_Box_y1 ?o_Box_call ?f_Box_call ?o_Box_str ?f_Box_str ?fi_Box_call ?m_Picture ?c_Picture ?M_Picture ?a_Picture__rows ?p_Picture_rows ?cr_Picture ?cv_MOST ?m_Canvas ?c_Canvas ?M_Canvas ?a_Canvas__rows ?p_Canvas_width ?p_Canvas_height ?o_Canvas_setitem ?f_Canvas_setitem ?cr_Canvas ?cv_CMOST ?mt_fill ?bm_fill ?mt_picture ?ns_Canvas ?mt_copy_box ?m_Copy ?c_Copy ?M_Copy ?a_Copy_box ?a_Copy_x ?a_Copy_y ?mt_Copy_on ?m_BadPlace ?e_BadPlace ?a_BadPlace_part ?m_BadSize ?e_BadSize ?a_BadSize_part ?m_BadColour ?e_BadColour ?a_BadColour_value ?m_BadPixel ?e_BadPixel ?a_BadPixel_x ?a_BadPixel_y ?m_BOUND ?d_BadPlace_init ?d_BadSize_init ?d_is_int ?k_is_int ?d_check_size ?k_check_size ?d_Place_init ?d_Place_slope ?d_Place_offset ?d_Place_odd ?d_Place_call ?d_from_left ?k_from_left ?d_from_right ?k_from_right ?d_parts_of ?k_parts_of ?d_place_words ?k_place_words ?d_Place_str ?d_bounded_place ?k_bounded_place ?d_checked_place ?k_checked_place ?d_Box_init ?d_Box_call ?d_box_places ?k_box_places ?d_Box_str ?d_BadColour_init ?d_BadPixel_init ?d_is_int_in ?k_is_int_in ?d_is_colour ?k_is_colour ?d_check_colour ?k_check_colour ?d_check_side ?k_check_side ?d_is_row ?k_is_row ?d_wrong_row ?k_wrong_row ?d_is_pixel ?k_is_pixel ?d_check_pixel ?k_check_pixel ?d_clipped ?k_clipped ?d_painted ?k_painted ?d_filled_rows ?k_filled_rows ?d_Picture_init ?d_Picture_rows ?d_Canvas_init ?d_Canvas_width ?d_Canvas_height ?d_Canvas_setitem ?d_Canvas_picture ?d_Canvas_fill ?d_check_box ?k_check_box ?d_Copy_init ?d_copied_rows ?k_copied_rows ?d_Canvas_copy_box ?d_Copy_on ?d__law_pen ?k__law_pen ?d__law_draw ?k__law_draw ?d__law_pick ?k__law_pick ?d__law_place ?k__law_place ?d__law_at ?k__law_at ?d__law_built_place ?k__law_built_place ?d__law_box ?k__law_box ?d__law_built_box ?k__law_built_box ?d__law_ends ?k__law_ends ?d__law_built ?k__law_built ?d__law_is_pixel ?k__law_is_pixel ?d__law_spots ?k__law_spots ?d__law_within ?k__law_within ?d__law_copied ?k__law_copied ?d__law_lines ?k__law_lines ?d__law_noise ?k__law_noise ?d__law_near ?k__law_near ?d_law ?k_law
    (case n_len => k_is)
    (case n_int => k_is)
    (case n_abs => k_is)
    (case n_list => k_is)
    (case n_range => k_is)
    (case n_repr => k_is)
    (case n_tuple => k_is)
    (case n_str => k_is)
    (case n_isinstance => k_is)
    (case n_bool => k_is)
    (case n_all => k_is)
    (case n_enumerate => k_is)
    (case m_is_int => k_is)
    (case m_check_size => k_is)
    (case m_from_left => k_is)
    (case m_from_right => k_is)
    (case m_parts_of => k_is)
    (case m_place_words => k_is)
    (case m_bounded_place => k_is)
    (case m_checked_place => k_is)
    (case m_box_places => k_is)
    (case m_is_int_in => k_is)
    (case m_is_colour => k_is)
    (case m_check_colour => k_is)
    (case m_check_side => k_is)
    (case m_is_row => k_is)
    (case m_wrong_row => k_is)
    (case m_is_pixel => k_is)
    (case m_check_pixel => k_is)
    (case m_clipped => k_is)
    (case m_painted => k_is)
    (case m_filled_rows => k_is)
    (case m_check_box => k_is)
    (case m_copied_rows => k_is)
    (case m__law_pen => k_is)
    (case m__law_draw => k_is)
    (case m__law_pick => k_is)
    (case m__law_place => k_is)
    (case m__law_at => k_is)
    (case m__law_built_place => k_is)
    (case m__law_box => k_is)
    (case m__law_built_box => k_is)
    (case m__law_ends => k_is)
    (case m__law_built => k_is)
    (case m__law_is_pixel => k_is)
    (case m__law_spots => k_is)
    (case m__law_within => k_is)
    (case m__law_copied => k_is)
    (case m__law_lines => k_is)
    (case m__law_noise => k_is)
    (case m__law_near => k_is)
    (case m_law => k_is)
    (case m_Place => k_is)
    (case c_Place => (refine' ⟨⟨?_, ?_, ?_, ?_⟩, ?_, ?_, ?_, ?_, ?_, ?_⟩ <;> k_is))
    (case M_Place => (refine' ⟨?a, ?b, ?c, ?d⟩; (case a => k_is); (case b => k_is); (case c => k_is); (case d => k_is)))
    (case a_Place__slope => k_is)
    (case a_Place__offset => k_is)
    (case a_Place__odd => k_is)
    (case p_Place_slope => (refine' Pf.propR_mk ?a ?b ?c ?d; (case a => k_is); (case b => k_is); (case c => k_is); (case d => k_is)))
    (case p_Place_offset => (refine' Pf.propR_mk ?a ?b ?c ?d; (case a => k_is); (case b => k_is); (case c => k_is); (case d => k_is)))
    (case p_Place_odd => (refine' Pf.propR_mk ?a ?b ?c ?d; (case a => k_is); (case b => k_is); (case c => k_is); (case d => k_is)))
    (case o_Place_call => k_is)
    (case f_Place_call => k_is)
    (case o_Place_str => k_is)
    (case f_Place_str => k_is)
    (case s_Place_int => k_is)
    (case fi_Place_call => k_is)
    (case s_Place_first => k_is)
    (case s_Place_isint => k_is)
    (case m_Box => k_is)
    (case c_Box => (refine' ⟨⟨?_, ?_, ?_, ?_⟩, ?_, ?_, ?_, ?_, ?_, ?_⟩ <;> k_is))
    (case M_Box => (refine' ⟨?a, ?b, ?c, ?d⟩; (case a => k_is); (case b => k_is); (case c => k_is); (case d => k_is)))
    (case a_Box_x0 => k_is)
    (case a_Box_x1 => k_is)
    (case a_Box_y0 => k_is)
    (case a_Box_y1 => k_is)
    (case o_Box_call => k_is)
    (case f_Box_call => k_is)
    (case o_Box_str => k_is)
    (case f_Box_str => k_is)
    (case fi_Box_call => k_is)
    (case m_Picture => k_is)
    (case c_Picture => (refine' ⟨⟨?_, ?_, ?_, ?_⟩, ?_, ?_, ?_, ?_, ?_, ?_⟩ <;> k_is))
    (case M_Picture => (refine' ⟨?a, ?b, ?c, ?d⟩; (case a => k_is); (case b => k_is); (case c => k_is); (case d => k_is)))
    (case a_Picture__rows => k_is)
    (case p_Picture_rows => (refine' Pf.propR_mk ?a ?b ?c ?d; (case a => k_is); (case b => k_is); (case c => k_is); (case d => k_is)))
    (case cr_Picture => (refine' ⟨?a, ?b⟩; (case a => k_is); (case b => k_is)))
    (case cv_MOST => (refine' ⟨_, ⟨?a, ?b⟩⟩; (case a => k_is); (case b => exact ⟨_, rfl⟩)))
    (case m_Canvas => k_is)
    (case c_Canvas => (refine' ⟨⟨?_, ?_, ?_, ?_⟩, ?_, ?_, ?_, ?_, ?_, ?_⟩ <;> k_is))
    (case M_Canvas => (refine' ⟨?a, ?b, ?c, ?d⟩; (case a => k_is); (case b => k_is); (case c => k_is); (case d => k_is)))
    (case a_Canvas__rows => k_is)
    (case p_Canvas_width => (refine' Pf.propR_mk ?a ?b ?c ?d; (case a => k_is); (case b => k_is); (case c => k_is); (case d => k_is)))
    (case p_Canvas_height => (refine' Pf.propR_mk ?a ?b ?c ?d; (case a => k_is); (case b => k_is); (case c => k_is); (case d => k_is)))
    (case o_Canvas_setitem => k_is)
    (case f_Canvas_setitem => k_is)
    (case cr_Canvas => (refine' ⟨?a, ?b⟩; (case a => k_is); (case b => k_is)))
    (case cv_CMOST => (refine' ⟨_, ⟨?a, ?b⟩⟩; (case a => k_is); (case b => exact ⟨_, rfl⟩)))
    (case mt_fill => (refine' ⟨?a, ?b, ?c⟩; (case a => k_is); (case b => k_is); (case c => k_is)))
    (case bm_fill => (refine' ⟨⟨?a, ?b, ?c⟩, ?d, ?e, ?f, ?g⟩; (case a => k_is); (case b => k_is); (case c => k_is); (case d => k_is); (case e => k_is); (case f => first | rfl | decide +kernel); (case g => k_is)))
    (case mt_picture => (refine' ⟨?a, ?b, ?c⟩; (case a => k_is); (case b => k_is); (case c => k_is)))
    (case ns_Canvas => k_is)
    (case mt_copy_box => (refine' ⟨?a, ?b, ?c⟩; (case a => k_is); (case b => k_is); (case c => k_is)))
    (case m_Copy => k_is)
    (case c_Copy => (refine' ⟨⟨?_, ?_, ?_, ?_⟩, ?_, ?_, ?_, ?_, ?_, ?_⟩ <;> k_is))
    (case M_Copy => (refine' ⟨?a, ?b, ?c, ?d⟩; (case a => k_is); (case b => k_is); (case c => k_is); (case d => k_is)))
    (case a_Copy_box => k_is)
    (case a_Copy_x => k_is)
    (case a_Copy_y => k_is)
    (case mt_Copy_on => (refine' ⟨?a, ?b, ?c⟩; (case a => k_is); (case b => k_is); (case c => k_is)))
    (case m_BadPlace => k_is)
    (case e_BadPlace => (refine' Pf.errF_mk ?l ?r ?s ?x ?t ?k ?i ?f; (case l => k_is); (case r => rfl); (case s => k_is); (case x => k_is); (case t => k_is); (case k => k_is); (case i => k_is); (case f => k_is)))
    (case a_BadPlace_part => k_is)
    (case m_BadSize => k_is)
    (case e_BadSize => (refine' Pf.errF_mk ?l ?r ?s ?x ?t ?k ?i ?f; (case l => k_is); (case r => rfl); (case s => k_is); (case x => k_is); (case t => k_is); (case k => k_is); (case i => k_is); (case f => k_is)))
    (case a_BadSize_part => k_is)
    (case m_BadColour => k_is)
    (case e_BadColour => (refine' Pf.errF_mk ?l ?r ?s ?x ?t ?k ?i ?f; (case l => k_is); (case r => rfl); (case s => k_is); (case x => k_is); (case t => k_is); (case k => k_is); (case i => k_is); (case f => k_is)))
    (case a_BadColour_value => k_is)
    (case m_BadPixel => k_is)
    (case e_BadPixel => (refine' Pf.errF_mk ?l ?r ?s ?x ?t ?k ?i ?f; (case l => k_is); (case r => rfl); (case s => k_is); (case x => k_is); (case t => k_is); (case k => k_is); (case i => k_is); (case f => k_is)))
    (case a_BadPixel_x => k_is)
    (case a_BadPixel_y => k_is)
    (case m_BOUND => k_is)
    (case d_BadPlace_init => (refine' Pf.fnt_mk ?l ?c ?k; (case l => k_is); (case c => k_is); (case k => k_is)))
    (case d_BadSize_init => (refine' Pf.fnt_mk ?l ?c ?k; (case l => k_is); (case c => k_is); (case k => k_is)))
    (case d_is_int => (refine' Pf.fnt_mk ?l ?c ?k; (case l => k_is); (case c => k_is); (case k => k_is)))
    (case k_is_int => k_is)
    (case d_check_size => (refine' Pf.fnt_mk ?l ?c ?k; (case l => k_is); (case c => k_is); (case k => k_is)))
    (case k_check_size => k_is)
    (case d_Place_init => (refine' Pf.fntD1_mk ?l ?c ?k ?t ?v; (case l => k_is); (case c => k_is); (case k => k_is); (case t => k_is); (case v => first | exact ⟨_, rfl⟩ | rfl)))
    (case d_Place_slope => (refine' Pf.fnt_mk ?l ?c ?k; (case l => k_is); (case c => k_is); (case k => k_is)))
    (case d_Place_offset => (refine' Pf.fnt_mk ?l ?c ?k; (case l => k_is); (case c => k_is); (case k => k_is)))
    (case d_Place_odd => (refine' Pf.fnt_mk ?l ?c ?k; (case l => k_is); (case c => k_is); (case k => k_is)))
    (case d_Place_call => (refine' Pf.fnt_mk ?l ?c ?k; (case l => k_is); (case c => k_is); (case k => k_is)))
    (case d_from_left => (refine' Pf.fntD1_mk ?l ?c ?k ?t ?v; (case l => k_is); (case c => k_is); (case k => k_is); (case t => k_is); (case v => first | exact ⟨_, rfl⟩ | rfl)))
    (case k_from_left => k_is)
    (case d_from_right => (refine' Pf.fntD1_mk ?l ?c ?k ?t ?v; (case l => k_is); (case c => k_is); (case k => k_is); (case t => k_is); (case v => first | exact ⟨_, rfl⟩ | rfl)))
    (case k_from_right => k_is)
    (case d_parts_of => (refine' Pf.fnt_mk ?l ?c ?k; (case l => k_is); (case c => k_is); (case k => k_is)))
    (case k_parts_of => k_is)
    (case d_place_words => (refine' Pf.fnt_mk ?l ?c ?k; (case l => k_is); (case c => k_is); (case k => k_is)))
    (case k_place_words => k_is)
    (case d_Place_str => (refine' Pf.fnt_mk ?l ?c ?k; (case l => k_is); (case c => k_is); (case k => k_is)))
    (case d_bounded_place => (refine' Pf.fnt_mk ?l ?c ?k; (case l => k_is); (case c => k_is); (case k => k_is)))
    (case k_bounded_place => k_is)
    (case d_checked_place => (refine' Pf.fnt_mk ?l ?c ?k; (case l => k_is); (case c => k_is); (case k => k_is)))
    (case k_checked_place => k_is)
    (case d_Box_init => (refine' Pf.fnt_mk ?l ?c ?k; (case l => k_is); (case c => k_is); (case k => k_is)))
    (case d_Box_call => (refine' Pf.fnt_mk ?l ?c ?k; (case l => k_is); (case c => k_is); (case k => k_is)))
    (case d_box_places => (refine' Pf.fnt_mk ?l ?c ?k; (case l => k_is); (case c => k_is); (case k => k_is)))
    (case k_box_places => k_is)
    (case d_Box_str => (refine' Pf.fnt_mk ?l ?c ?k; (case l => k_is); (case c => k_is); (case k => k_is)))
    (case d_BadColour_init => (refine' Pf.fnt_mk ?l ?c ?k; (case l => k_is); (case c => k_is); (case k => k_is)))
    (case d_BadPixel_init => (refine' Pf.fnt_mk ?l ?c ?k; (case l => k_is); (case c => k_is); (case k => k_is)))
    (case d_is_int_in => (refine' Pf.fnt_mk ?l ?c ?k; (case l => k_is); (case c => k_is); (case k => k_is)))
    (case k_is_int_in => k_is)
    (case d_is_colour => (refine' Pf.fnt_mk ?l ?c ?k; (case l => k_is); (case c => k_is); (case k => k_is)))
    (case k_is_colour => k_is)
    (case d_check_colour => (refine' Pf.fnt_mk ?l ?c ?k; (case l => k_is); (case c => k_is); (case k => k_is)))
    (case k_check_colour => k_is)
    (case d_check_side => (refine' Pf.fnt_mk ?l ?c ?k; (case l => k_is); (case c => k_is); (case k => k_is)))
    (case k_check_side => k_is)
    (case d_is_row => (refine' Pf.fnt_mk ?l ?c ?k; (case l => k_is); (case c => k_is); (case k => k_is)))
    (case k_is_row => k_is)
    (case d_wrong_row => (refine' Pf.fnt_mk ?l ?c ?k; (case l => k_is); (case c => k_is); (case k => k_is)))
    (case k_wrong_row => k_is)
    (case d_is_pixel => (refine' Pf.fnt_mk ?l ?c ?k; (case l => k_is); (case c => k_is); (case k => k_is)))
    (case k_is_pixel => k_is)
    (case d_check_pixel => (refine' Pf.fnt_mk ?l ?c ?k; (case l => k_is); (case c => k_is); (case k => k_is)))
    (case k_check_pixel => k_is)
    (case d_clipped => (refine' Pf.fnt_mk ?l ?c ?k; (case l => k_is); (case c => k_is); (case k => k_is)))
    (case k_clipped => k_is)
    (case d_painted => (refine' Pf.fnt_mk ?l ?c ?k; (case l => k_is); (case c => k_is); (case k => k_is)))
    (case k_painted => k_is)
    (case d_filled_rows => (refine' Pf.fnt_mk ?l ?c ?k; (case l => k_is); (case c => k_is); (case k => k_is)))
    (case k_filled_rows => k_is)
    (case d_Picture_init => (refine' Pf.fnt_mk ?l ?c ?k; (case l => k_is); (case c => k_is); (case k => k_is)))
    (case d_Picture_rows => (refine' Pf.fnt_mk ?l ?c ?k; (case l => k_is); (case c => k_is); (case k => k_is)))
    (case d_Canvas_init => (refine' Pf.fnt_mk ?l ?c ?k; (case l => k_is); (case c => k_is); (case k => k_is)))
    (case d_Canvas_width => (refine' Pf.fnt_mk ?l ?c ?k; (case l => k_is); (case c => k_is); (case k => k_is)))
    (case d_Canvas_height => (refine' Pf.fnt_mk ?l ?c ?k; (case l => k_is); (case c => k_is); (case k => k_is)))
    (case d_Canvas_setitem => (refine' Pf.fnt_mk ?l ?c ?k; (case l => k_is); (case c => k_is); (case k => k_is)))
    (case d_Canvas_picture => (refine' Pf.fnt_mk ?l ?c ?k; (case l => k_is); (case c => k_is); (case k => k_is)))
    (case d_Canvas_fill => (refine' Pf.fnt_mk ?l ?c ?k; (case l => k_is); (case c => k_is); (case k => k_is)))
    (case d_check_box => (refine' Pf.fnt_mk ?l ?c ?k; (case l => k_is); (case c => k_is); (case k => k_is)))
    (case k_check_box => k_is)
    (case d_Copy_init => (refine' Pf.fnt_mk ?l ?c ?k; (case l => k_is); (case c => k_is); (case k => k_is)))
    (case d_copied_rows => (refine' Pf.fnt_mk ?l ?c ?k; (case l => k_is); (case c => k_is); (case k => k_is)))
    (case k_copied_rows => k_is)
    (case d_Canvas_copy_box => (refine' Pf.fnt_mk ?l ?c ?k; (case l => k_is); (case c => k_is); (case k => k_is)))
    (case d_Copy_on => (refine' Pf.fnt_mk ?l ?c ?k; (case l => k_is); (case c => k_is); (case k => k_is)))
    (case d__law_pen => (refine' Pf.fnt_mk ?l ?c ?k; (case l => k_is); (case c => k_is); (case k => k_is)))
    (case k__law_pen => k_is)
    (case d__law_draw => (refine' Pf.fnt_mk ?l ?c ?k; (case l => k_is); (case c => k_is); (case k => k_is)))
    (case k__law_draw => k_is)
    (case d__law_pick => (refine' Pf.fnt_mk ?l ?c ?k; (case l => k_is); (case c => k_is); (case k => k_is)))
    (case k__law_pick => k_is)
    (case d__law_place => (refine' Pf.fnt_mk ?l ?c ?k; (case l => k_is); (case c => k_is); (case k => k_is)))
    (case k__law_place => k_is)
    (case d__law_at => (refine' Pf.fnt_mk ?l ?c ?k; (case l => k_is); (case c => k_is); (case k => k_is)))
    (case k__law_at => k_is)
    (case d__law_built_place => (refine' Pf.fnt_mk ?l ?c ?k; (case l => k_is); (case c => k_is); (case k => k_is)))
    (case k__law_built_place => k_is)
    (case d__law_box => (refine' Pf.fnt_mk ?l ?c ?k; (case l => k_is); (case c => k_is); (case k => k_is)))
    (case k__law_box => k_is)
    (case d__law_built_box => (refine' Pf.fnt_mk ?l ?c ?k; (case l => k_is); (case c => k_is); (case k => k_is)))
    (case k__law_built_box => k_is)
    (case d__law_ends => (refine' Pf.fnt_mk ?l ?c ?k; (case l => k_is); (case c => k_is); (case k => k_is)))
    (case k__law_ends => k_is)
    (case d__law_built => (refine' Pf.fnt_mk ?l ?c ?k; (case l => k_is); (case c => k_is); (case k => k_is)))
    (case k__law_built => k_is)
    (case d__law_is_pixel => (refine' Pf.fnt_mk ?l ?c ?k; (case l => k_is); (case c => k_is); (case k => k_is)))
    (case k__law_is_pixel => k_is)
    (case d__law_spots => (refine' Pf.fnt_mk ?l ?c ?k; (case l => k_is); (case c => k_is); (case k => k_is)))
    (case k__law_spots => k_is)
    (case d__law_within => (refine' Pf.fnt_mk ?l ?c ?k; (case l => k_is); (case c => k_is); (case k => k_is)))
    (case k__law_within => k_is)
    (case d__law_copied => (refine' Pf.fnt_mk ?l ?c ?k; (case l => k_is); (case c => k_is); (case k => k_is)))
    (case k__law_copied => k_is)
    (case d__law_lines => (refine' Pf.fnt_mk ?l ?c ?k; (case l => k_is); (case c => k_is); (case k => k_is)))
    (case k__law_lines => k_is)
    (case d__law_noise => (refine' Pf.fnt_mk ?l ?c ?k; (case l => k_is); (case c => k_is); (case k => k_is)))
    (case k__law_noise => k_is)
    (case d__law_near => (refine' Pf.fnt_mk ?l ?c ?k; (case l => k_is); (case c => k_is); (case k => k_is)))
    (case k__law_near => k_is)
    (case d_law => (refine' Pf.fnt_mk ?l ?c ?k; (case l => k_is); (case c => k_is); (case k => k_is)))
    (case k_law => k_is)
