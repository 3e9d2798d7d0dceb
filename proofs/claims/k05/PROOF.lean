import PyProof.Rows.All
import Wide.All
import OpenK.AllK
import Wide.FinOn
import KE.KStateDown
import Lean
import HandS.ForMost
import HandS.ForExc
import HandS.Defaults
import HandS.Head0
import HandS.Head1
import HandS.Head2
import HandS.HeadEnd
import HandS.HeadHook1
import HandS.HeadHook2
import HandS.HeadHook3
import HandS.HeadHook4
import HandS.Wide
import HandS.SetKeys
import HandS.Style
import HandS.IsInst
import HandS.ExcValue
import HandS.ExcIs
import HandS.Steps
import HandS.Codes
import HandS.Walk
import HandS.Lambda
import HandS.HeadWalk
import HandS.ExcInit
import HandS.ExcField
import HandS.WordsExc
import HandS.ExcOwn
import HandS.MakeKw
import HandS.MakeKwOnly
import HandS.SortRule
import HandS.FStr
import HandS.NoneIn
import HandS.TupAny
import HandS.RaiseMore
import HandS.CallSlots
import KE.KFmtOwn
import KE.KExcIs
import KE.KExcStr
import PySem.Challenge.RW_rimsewn_k05_skins_refused_in_order
import KE.DataMinMax
import HandS.Conv
set_option Elab.async false
set_option linter.all false
set_option maxRecDepth 100000
set_option maxHeartbeats 4000000
namespace Vf
open PySem PySem.Spec PyProof.Rows L2
/-! ### a def by its name -/
abbrev FnP (K : PySem.W.Frag) (x : Str) (st : Stmt) (f : Addr) (fd : FuncData) : Prop := FunD K x x (defArgs st) (defBody st) (defScope st) [] [] f fd
/-- the module's name x stands for a def that keeps the promise -/
def Has (P : Program) (w : World) (K : PySem.W.Frag) (mg : Str → Option Value) (base : Heap) (x : Str) (k : Nat) (ps : List Str) (sp : Sp) : Prop :=
  ∃ (f : Addr) (fd : FuncData), FnOk P w K mg base CX0 k f fd ps sp ∧ mg x = some (.ref f) ∧ PySem.W.keepIn K (.ref f) = true ∧ Binds K fd ps []
/-! ### what stays -/
def Kp (p : Addr) (H H' : Hp) : Prop := ∀ a o, a ≠ p → H a = some o → H' a = some o
theorem Kp.refl (p : Addr) (H : Hp) : Kp p H H := fun _ _ _ h => h
theorem Kp.trans {p : Addr} {H H1 H2 : Hp} (a : Kp p H H1) (b : Kp p H1 H2) : Kp p H H2 := fun c o n h => b c o n (a c o n h)
theorem Kp.same {p : Addr} {H H1 : Hp} (a : Same H H1) : Kp p H H1 := fun c o _ h => a c o h
theorem Kp.set {p : Addr} {H H1 : Hp} {o : HO} (a : Kp p H H1) : Kp p H (upd H1 p o) := fun c u n h => by
  rw [upd_ne n]
  exact a c u n h
theorem same_new {H : Hp} {p : Addr} {o : HO} (h : H p = none) : Same H (upd H p o) := fun b x e => by
  rw [upd_ne (ne_of_none e h)]
  exact e
theorem Kp.new {p q : Addr} {H H1 : Hp} {o : HO} (a : Kp p H H1) (h : H1 q = none) : Kp p H (upd H1 q o) := a.trans (Kp.same (same_new h))
/-- an object that was not there may change -/
theorem Kp.mut {p q : Addr} {H H1 : Hp} {o : HO} (a : Kp p H H1) (h : H q = none) : Kp p H (upd H1 q o) := fun c u n e => by
  rw [upd_ne (ne_of_none e h)]
  exact a c u n e
theorem Same.mut {q : Addr} {H H1 : Hp} {o : HO} (a : Same H H1) (h : H q = none) : Same H (upd H1 q o) := fun c u e => by
  rw [upd_ne (ne_of_none e h)]
  exact a c u e
/-! ### the pen -/
/-- the pen at p, its cells at c, with at least b draws to go -/
def PenAt (H : Hp) (p c : Addr) (b : Nat) : Prop := ∃ (ns : List Int) (n g : Int), H p = some (.lst [.ref c, .int n, .int g]) ∧ H c = some (.lst (ns.map V.int)) ∧ 0 ≤ n ∧ n + (b : Int) ≤ 1000000
theorem PenAt.less {H : Hp} {p c : Addr} {b d : Nat} (h : PenAt H p c b) (l : d ≤ b) : PenAt H p c d := by
  obtain ⟨ns, n, g, h1, h2, h3, h4⟩ := h
  exact ⟨ns, n, g, h1, h2, h3, by omega⟩
theorem ref_ints {c : Addr} {n g : Int} {ns : List Int} : [V.ref c, V.int n, V.int g] ≠ ns.map V.int := fun e => by
  cases ns with
  | nil => cases e
  | cons a r =>
    injection e with e1 _
    cases e1
theorem PenAt.same {H H' : Hp} {p c : Addr} {b : Nat} (h : PenAt H p c b) (s : Same H H') : PenAt H' p c b := by
  obtain ⟨ns, n, g, h1, h2, h3, h4⟩ := h
  exact ⟨ns, n, g, s _ _ h1, s _ _ h2, h3, h4⟩
theorem PenAt.at {H : Hp} {p c : Addr} {b : Nat} (h : PenAt H p c b) : ∃ xs, H p = some (.lst xs) := by
  obtain ⟨ns, n, g, h1, h2, h3, h4⟩ := h
  exact ⟨_, h1⟩
theorem PenAt.cells {H : Hp} {p c : Addr} {b : Nat} (h : PenAt H p c b) : ∃ xs, H c = some (.lst xs) := by
  obtain ⟨ns, n, g, h1, h2, h3, h4⟩ := h
  exact ⟨_, h2⟩
/-- another object than the pen's changes -/
theorem PenAt.mut {H : Hp} {p c q : Addr} {o : HO} {b : Nat} (h : PenAt H p c b) (hp : q ≠ p) (hc : q ≠ c) : PenAt (upd H q o) p c b := by
  obtain ⟨ns, n, g, h1, h2, h3, h4⟩ := h
  refine ⟨ns, n, g, ?_, ?_, h3, h4⟩
  · rw [upd_ne hp.symm]
    exact h1
  · rw [upd_ne hc.symm]
    exact h2
/-- what was not there is no part of the pen -/
theorem PenAt.new {H : Hp} {p c q : Addr} {b : Nat} (h : PenAt H p c b) (hq : H q = none) : q ≠ p ∧ q ≠ c := by
  obtain ⟨ns, n, g, h1, h2, h3, h4⟩ := h
  exact ⟨ne_of_none h1 hq |>.symm, ne_of_none h2 hq |>.symm⟩
def spDraw : Sp := fun vs H Q _ => ∃ (p c : Addr) (many : Int) (b : Nat), vs = [.ref p, .int many] ∧ PenAt H p c (b + 1) ∧ 0 < many ∧ many < 2 ^ 200 ∧
  ∀ (H' : Hp) (d : Int), PenAt H' p c b → Kp p H H' → 0 ≤ d → d < many → Q (.int d) H'
theorem many_div {g m : Int} (h : 0 < m) (h2 : m < 2 ^ 200) : CDivW g m := wide_div h (b := 200) (by omega) (by decide) (by decide)
/-! ### flat data -/
def fdat : V → PyData
  | .int i => .int i
  | .str x => .str x
  | .bl b => .bool b
  | _ => .none
def flatS : V → Bool
  | .int _ => true
  | .str x => PyData.strOk x
  | .bl _ => true
  | .non => true
  | _ => false
theorem dp_flat {K : PySem.W.Frag} {H : Hp} : ∀ {v : V}, flatS v = true → Dp K H v (fdat v)
  | .int i, _ => .int i
  | .str x, _ => .str x
  | .bl b, _ => .bl b
  | .non, _ => .non
theorem dpAll_flat {K : PySem.W.Frag} {H : Hp} : ∀ {xs : List V}, (∀ v ∈ xs, flatS v = true) → DpAll K H xs (xs.map fdat)
  | [], _ => .nil
  | v :: vs, h => .cons (dp_flat (h v (List.mem_cons_self ..))) (dpAll_flat fun u hu => h u (List.mem_cons_of_mem _ hu))
theorem canLay_flat : ∀ {v : V}, flatS v = true → PyData.canLay0 (fdat v) = true
  | .int i, _ => by simp only [fdat, PyData.canLay0]
  | .str x, h => by simp only [fdat, PyData.canLay0]; exact h
  | .bl b, _ => by simp only [fdat, PyData.canLay0]
  | .non, _ => by simp only [fdat, PyData.canLay0]
theorem canLayAll_flat : ∀ {xs : List V}, (∀ v ∈ xs, flatS v = true) → PyData.canLayAll0 (xs.map fdat) = true
  | [], _ => by simp only [List.map_nil, PyData.canLayAll0]
  | v :: vs, h => by
    simp only [List.map_cons, PyData.canLayAll0, Bool.and_eq_true]
    exact ⟨canLay_flat (h v (List.mem_cons_self ..)), canLayAll_flat fun u hu => h u (List.mem_cons_of_mem _ hu)⟩
theorem depth_flat (v : V) : PyData.depth (fdat v) ≤ 1 := by
  cases v <;> simp [fdat, PyData.depth]
theorem depthAll_flat : ∀ xs : List V, PyData.depthAll (xs.map fdat) ≤ 1
  | [] => by simp [PyData.depthAll]
  | v :: vs => by
    have h1 := depth_flat v
    have h2 := depthAll_flat vs
    simp only [List.map_cons, PyData.depthAll]
    omega
theorem shaped_flat {v : V} (h : flatS v = true) : SeqAt.shaped (fdat v) = true := by
  unfold SeqAt.shaped
  have h2 := depth_flat v
  rw [canLay_flat h, Bool.true_and]
  exact decide_eq_true (by omega)
theorem shaped_list {xs : List V} (h : ∀ v ∈ xs, flatS v = true) : SeqAt.shaped (.list (xs.map fdat)) = true := by
  unfold SeqAt.shaped
  have h1 := depthAll_flat xs
  have h2 : PyData.canLay0 (.list (xs.map fdat)) = true := by simp only [PyData.canLay0]; exact canLayAll_flat h
  rw [h2, Bool.true_and]
  refine decide_eq_true ?_
  simp only [PyData.depth]
  omega
theorem eqv_nil (xs : List V) : PyData.eqv (.list (xs.map fdat)) (.list []) = decide (xs = []) := by
  cases xs with
  | nil => simp [PyData.eqv, PyData.eqvAll]
  | cons a r => simp [PyData.eqv, PyData.eqvAll]
theorem flat_ints (ns : List Int) : ∀ v ∈ ns.map V.int, flatS v = true := fun v hv => by
  obtain ⟨i, _, rfl⟩ := List.mem_map.mp hv
  rfl
/-- an item at a place reckoned by a remainder -/
theorem at_mod {α : Type} {xs : List α} {n : Int} (h : xs ≠ []) : ∃ x, x ∈ xs ∧ atI xs (n % (xs.length : Int)) = some x := by
  have hl : 0 < xs.length := List.length_pos_iff.mpr h
  have h0 := Int.emod_nonneg n (b := (xs.length : Int)) (by omega)
  have h1 := Int.emod_lt_of_pos n (b := (xs.length : Int)) (by omega)
  obtain ⟨j, hj⟩ := Int.eq_ofNat_of_zero_le h0
  rw [hj] at h1 ⊢
  have hlt : j < xs.length := by omega
  exact ⟨xs[j], List.getElem_mem hlt, atI_nat (List.getElem?_eq_getElem hlt)⟩
theorem at_in {α : Type} {xs : List α} {n : Int} (h0 : 0 ≤ n) (h1 : n < (xs.length : Int)) : ∃ x, x ∈ xs ∧ atI xs n = some x := by
  obtain ⟨j, hj⟩ := Int.eq_ofNat_of_zero_le h0
  rw [hj] at h1 ⊢
  have hlt : j < xs.length := by omega
  exact ⟨xs[j], List.getElem_mem hlt, atI_nat (List.getElem?_eq_getElem hlt)⟩
end Vf
namespace Vf
open PySem PySem.Spec PyProof.Rows L2
section
variable {X : Cx}
/-- X(), an own exception class without own __init__, as a value: a new exception object -/
theorem pe_exc0 {C : Addr} {bmB : List Value} {B newId initId : String} {x : Str} {p pos : Pos} (F : ExcBaseFacts B newId initId bmB) (q : PySem.W.excIn X.K C bmB newId = true) (gC : X.mg x = some (.ref C)) (kC : PySem.W.keepIn X.K (.ref C) = true) (hg : Gl X x)
    (hdb : (x == ("__debug__" : Str)) = false := by decide) :
    PE X (.Call (.Name x p) [] [] pos) (fun σ H Q => ∀ a, H a = none → Q (.ref a) (upd H a (ExO (.ref C) a))) := by
  refine ⟨fun pins s σ H Q I h => ?_⟩
  refine wpAny_Call_Name_kw (ld_glob I hg gC ?_ hdb)
  refine PySem.W.callWith_K0 I.kIn kC ?_
  obtain ⟨bm, N, nm, qn, bs, hdct, sn, sub, ab, col, dd, k0, k1, k2, k3, k5, mN, hC, hN, hni, T⟩ := exc_obj I.kIn q
  refine wpAny_call_exc_subT F T hC hN hni (fun h' a hm => ?_) (by show 0 ≤ sizeLine; exact Nat.zero_le _)
  have hn : H a = none := I.hok.gone hm.new
  obtain ⟨t, ht, _, _⟩ := hm.there
  exact ⟨.ref a, upd H a (ExO (.ref C) a), I.laidN hm.keeps hm.new hn (exO_ok ht ⟨rfl, rfl⟩ rfl rfl rfl (show 4 < 6 by decide)), rfl, h a hn⟩
end
end Vf
namespace Vf
open PySem PySem.Spec PyProof.Rows L2
/-! ### isinstance by what a value is -/
inductive Knd where
  | int | str | bool | none | list | tuple | exc (C : Addr)
def Knd.ty : Knd → Value
  | .int => .type "int"
  | .str => .type "str"
  | .bool => .type "bool"
  | .none => .type "NoneType"
  | .list => .type "list"
  | .tuple => .type "tuple"
  | .exc C => .ref C
/-- a value is of a kind; exceptions of the class at C alone -/
def KndV (C : Addr) (H : Hp) : V → Knd → Prop
  | .int _, .int => True
  | .str _, .str => True
  | .bl _, .bool => True
  | .non, .none => True
  | .ref a, .list => ∃ xs, H a = some (.lst xs)
  | .ref a, .tuple => ∃ xs, H a = some (.tup xs)
  | .ref a, .exc D => D = C ∧ H a = some (ExO (.ref C) a)
  | _, _ => False
theorem KndV.same {C : Addr} {H H' : Hp} {v : V} {k : Knd} (h : KndV C H v k) (s : Same H H') : KndV C H' v k := by
  cases v <;> cases k <;> first | exact h | exact h.elim | skip
  · obtain ⟨xs, e⟩ := h
    exact ⟨xs, s _ _ e⟩
  · obtain ⟨xs, e⟩ := h
    exact ⟨xs, s _ _ e⟩
  · exact ⟨h.1, s _ _ h.2⟩
section
variable {X : Cx} {pins : List (Addr × Obj)} {σ : L2.St} {H : Hp} {s : Shared}
theorem knd_kit {C : Addr} {x : V} {u : Value} {k : Knd} (E : ExcC X.K C) (I : Inv X pins σ H s) (rx : RelV x u) (h : KndV C H x k) : ∃ P : Heap → Prop, PySem.W.KitX X.K u k.ty P ∧ P s.heap ∧ u ≠ .builtin "__main__.__loader__#opaque" := by
  cases x <;> cases k <;> first | exact h.elim | skip
  · exact kit_of (t := .type "NoneType") I rx (.base .non)
  · exact kit_of (t := .type "bool") I rx (.base (.bl _))
  · exact kit_of (t := .type "int") I rx (.base (.int _))
  · exact kit_of (t := .type "str") I rx (.base (.str _))
  · obtain ⟨xs, e⟩ := h
    exact kit_of (t := .type "list") I rx (.base (.lst e))
  · obtain ⟨xs, e⟩ := h
    exact kit_of (t := .type "tuple") I rx (.base (.tup e))
  · rename_i a D
    obtain ⟨rfl, e⟩ := h
    cases (show u = Value.ref a from rx)
    obtain ⟨⟨oe, vs, ho, hz, hd, _⟩, _, _⟩ := I.hok _ _ e
    have J : PySem.W.InstAt s.heap a oe D none := by
      obtain ⟨oc, od, oda, osl⟩ := oe
      obtain ⟨h1, h2⟩ := hz
      dsimp only at h1 h2 hd
      subst h1 h2 hd
      exact ⟨ho, rfl, rfl, trivial⟩
    exact ⟨_, PySem.W.handS_kitx_exc E.hg E.hk E.hs E.hd E.ha E.hn E.ht E.hm, J, fun z => nomatch z⟩
def rIsY (C : Addr) (K : PySem.W.Frag) : List V → Hp → VK → Prop := fun xs H Q => ∃ (x : V) (T : String) (k : Knd) (b : Bool), xs = [x, .ty T] ∧ KndV C H x k ∧ PySem.W.kitOne K k.ty (.type T) = some b ∧ Q (.bl b) H
theorem call_isY {C : Addr} (E : ExcC X.K C) : CallR X (.builtin "isinstance") (rIsY C X.K) := by
  intro pins s σ H xs us Q I r h
  obtain ⟨x, T, k, b, rfl, ty, e, q⟩ := h
  obtain ⟨u1, u2, rfl, r1, r2⟩ := vals2 r
  cases (show u2 = Value.type T from r2)
  obtain ⟨P, Z, p, hx⟩ := knd_kit E I r1 ty
  exact PySem.W.kia_one Z I.kIn p e hx fun tk => ⟨.bl b, H, I.tok tk, rfl, q⟩
def rIsTY (C : Addr) (K : PySem.W.Frag) : List V → Hp → VK → Prop := fun xs H Q => ∃ (x : V) (tp : Addr) (cs : List V) (k : Knd) (us : List Value) (b : Bool), xs = [x, .ref tp] ∧ H tp = some (.tup cs) ∧ Paired ClsV cs us ∧ KndV C H x k ∧ PySem.W.kitAny K k.ty us = some b ∧ Q (.bl b) H
theorem call_isTY {C : Addr} (E : ExcC X.K C) : CallR X (.builtin "isinstance") (rIsTY C X.K) := by
  intro pins s σ H xs us Q I r h
  obtain ⟨x, tp, cs, k, ws, b, rfl, hT, kk, ty, e, q⟩ := h
  obtain ⟨u1, u2, rfl, r1, r2⟩ := vals2 r
  cases (show u2 = Value.ref tp from r2)
  obtain ⟨P, Z, p, hx⟩ := knd_kit E I r1 ty
  obtain ⟨_, its, rv, o, h1, h2, n, h3⟩ := (show ObjOk X.prog X.w H s.heap tp (.tup cs) from I.hok tp _ hT)
  have e3 := ClsV.all kk rv
  subst e3
  obtain ⟨oc, od, dt, sl⟩ := o
  simp only at h2 h3
  subst h2 h3
  exact PySem.W.kia_tup Z I.kIn p h1 e hx fun tk => ⟨.bl b, H, I.tok tk, rfl, q⟩
end
end Vf
namespace Vf
open PySem PySem.Spec PyProof.Rows L2
/-! ### facts of an own error class without fields, off the head -/
def excB (K : PySem.W.Frag) (C : Addr) : Bool :=
  He.eqO (PySem.W.findIn K (.ref C) "__getattribute__") (some (some (.builtin "BaseException.__getattribute__"))) && (He.eqO (PySem.W.findIn K (.ref C) "__getattr__") (some none) && (decide (PySem.W.subIn K (.ref C) (.type "BaseException") = some true) &&
  (PySem.W.hasDictIn K C && (He.eqO (PySem.W.findIn K (.ref C) "__class__") (some (some (.builtin "object.__class__"))) && (decide (PySem.W.specialIn K (.builtin "object.__class__") "__get__" = some (some (.builtin "getset_descriptor.__get__"))) &&
  (decide (PySem.W.takesIn K (.builtin "object.__class__") = some true) && decide (PySem.W.mroIn K C (.type "object") = some true)))))))
theorem excC_of {K : PySem.W.Frag} {C : Addr} (h : excB K C = true) : ExcC K C := by
  unfold excB at h
  simp only [Bool.and_eq_true, decide_eq_true_eq] at h
  obtain ⟨h1, h2, h3, h4, h5, h6, h7, h8⟩ := h
  exact ⟨He.eqO_ok h1, He.eqO_ok h2, h3, h4, He.eqO_ok h5, h6, h7, h8⟩
def kitNo (K : PySem.W.Frag) (C : Addr) : List String → Bool
  | [] => true
  | T :: r => decide (PySem.W.kitOne K (.ref C) (.type T) = some false) && kitNo K C r
theorem kitNo_of {K : PySem.W.Frag} {C : Addr} : ∀ {l : List String}, kitNo K C l = true → ∀ T ∈ l, PySem.W.kitOne K (.ref C) (.type T) = some false
  | [], _, T, h => nomatch h
  | S :: r, h, T, hT => by
    simp only [kitNo, Bool.and_eq_true, decide_eq_true_eq] at h
    rcases List.mem_cons.mp hT with e | e
    · rw [e]
      exact h.1
    · exact kitNo_of h.2 T e
def kinds5 : List String := ["int", "str", "bool", "list", "tuple"]
def Knd.is (T : String) : Knd → Bool
  | .int => T == "int"
  | .str => T == "str"
  | .bool => T == "bool" || T == "int"
  | .list => T == "list"
  | .tuple => T == "tuple"
  | _ => false
theorem kit_is {K : PySem.W.Frag} {C : Addr} {H : Hp} {v : V} {k : Knd} (n : kitNo K C kinds5 = true) (h : KndV C H v k) {T : String} (hT : T ∈ kinds5) : PySem.W.kitOne K k.ty (.type T) = some (k.is T) := by
  cases k with
  | exc D =>
    have e : D = C := by
      cases v <;> first | exact h.1 | exact h.elim
    rw [e]
    exact kitNo_of n T hT
  | _ =>
    simp only [kinds5, List.mem_cons, List.not_mem_nil, or_false] at hT
    rcases hT with rfl | rfl | rfl | rfl | rfl <;> exact kit_ty (by decide +kernel)
theorem kit_seq {K : PySem.W.Frag} {C : Addr} {H : Hp} {v : V} {k : Knd} (n : kitNo K C kinds5 = true) (h : KndV C H v k) : PySem.W.kitAny K k.ty [.type "list", .type "tuple"] = some (k.is "list" || k.is "tuple") := by
  refine kitAny_cons (kit_is n h (by decide)) (fun e => ?_) (fun e => by rw [e]; rfl)
  rw [e, Bool.false_or]
  refine kitAny_cons (kit_is n h (by decide)) (fun e => ?_) (fun e => e)
  rw [e]
  exact kitAny_nil
end Vf
namespace Vf
open PySem PySem.Spec PyProof.Rows L2
theorem small_line {n : Nat} (h : n ≤ 100000) : n < sizeLine := Nat.lt_of_le_of_lt h (by decide)
theorem le_line {n : Nat} (h : n ≤ 100000) : n ≤ sizeLine := Nat.le_of_lt (small_line h)
/-- a comprehension over things that stand, whose tests and elements change nothing that stood -/
theorem lc_pure {J : It} {n : Nat} {G : Hp → Prop} {Y : Nat → Hp → V → Hp → Prop} (w : Walk J n G Y) (ys : List V) (hn : n = ys.length) (hl : ys.length ≤ 100000) (hY : ∀ i H x H', Y i H x H' → Same H H' ∧ ys[i]? = some x) (f : V → V) (keep : V → Bool)
    {g : TG} {tt : TT} {te : TE} {vs : List Nat} {σ : L2.St} {H1 : Hp} {D : Addr} {Qd : Hp → Prop} (nD : H1 D = none) (hG : ∀ H, Same H1 H → G H)
    (hs : ∀ (i : Nat) x H (Q1 : VK) (Q0 : Hp → Prop), ys[i]? = some x → Same H1 H → (keep x = true → ∀ H4, Same H H4 → Q1 (f x) H4) → (keep x = false → ∀ H4, Same H H4 → Q0 H4) →
      g x (wipe σ vs) H fun σ2 H2 => wipe σ2 vs = wipe σ vs ∧ tt σ2 H2 fun b H3 => if b = true then te σ2 H3 Q1 else Q0 H3)
    (hd : ∀ H, Same H1 H → H D = some (.lst ((ys.filter keep).map f)) → Qd H) :
    ∃ W : Nat → Nat → Hp → Prop, (∃ m, W 0 m (upd H1 D (.lst []))) ∧ ∀ i m H, W i m H →
      (J.stop i H ∧ Qd H) ∨ (J.go i H ∧ ∃ Nx : Hp → Prop, (∀ H', Nx H' → ∃ m', m' < m ∧ W (i + 1) m' H') ∧ ∀ x H', J.yld i H x H' → g x (wipe σ vs) H' fun σ2 H2 => wipe σ2 vs = wipe σ vs ∧ tt σ2 H2 fun b H3 =>
        if b = true then te σ2 H3 fun y H4 => ∃ acc, H4 D = some (.lst acc) ∧ acc.length < sizeLine ∧ Nx (upd H4 D (.lst (acc ++ [y]))) else Nx H3) := by
  refine lc_it w (fun i H => Same H1 H ∧ H D = some (.lst (((ys.take i).filter keep).map f))) ⟨same_new nD, upd_same⟩ (fun i H _ p => hG H p.1) (fun i x H H' hi p y => ?_) (fun H p => ?_)
  · obtain ⟨s, hx⟩ := hY i H x H' y
    have hD := s _ _ p.2
    have et : ys.take (i + 1) = ys.take i ++ [x] := by rw [List.take_add_one, hx] <;> rfl
    refine hs i x H' _ _ hx (p.1.trans s) (fun k H4 s4 => ?_) (fun k H4 s4 => ?_)
    · refine ⟨_, s4 _ _ hD, ?_, ?_, ?_⟩
      · rw [List.length_map]
        refine small_line (Nat.le_trans (List.length_filter_le _ _) ?_)
        rw [List.length_take]
        omega
      · exact Same.mut ((p.1.trans s).trans s4) nD
      · rw [upd_same, et, List.filter_append, List.map_append]
        simp [k]
    · refine ⟨(p.1.trans s).trans s4, ?_⟩
      rw [s4 _ _ hD, et, List.filter_append, List.map_append]
      simp [k]
  · refine hd H p.1 ?_
    rw [p.2, hn, List.take_length]
def sgs (z : Str) : List V := z.cps.toList.map fun c => .str ⟨#[c]⟩
theorem sgs_len (z : Str) : (sgs z).length = z.cps.size := by unfold sgs; simp
theorem walk_sgs {z : Str} : Walk (Its z) z.cps.size (fun _ => True) (fun i H x H' => H' = H ∧ (sgs z)[i]? = some x) :=
  walk_str.mono (fun _ h => h) fun i H x H' _ _ y => ⟨y.1, by
    obtain ⟨_, c, hc, rfl⟩ := y
    unfold sgs
    rw [List.getElem?_map, show z.cps.toList[i]? = some c by rw [Array.getElem?_toList]; exact hc] <;> rfl⟩
theorem same_of_eq {H H' : Hp} (h : H' = H) : Same H H' := by
  rw [h]
  exact Same.refl H
end Vf
namespace Vf
open PySem PySem.Spec PyProof.Rows L2
/-! ### texts of a bounded length -/
def TxB (z : Str) (n : Nat) : Prop := z.length ≤ n ∧ PyData.strOk z = true
theorem TxB.le {z : Str} {m n : Nat} (h : TxB z m) (l : m ≤ n) : TxB z n := ⟨Nat.le_trans h.1 l, h.2⟩
theorem strOk_iff {z : Str} : PyData.strOk z = true ↔ ∀ c ∈ z.cps.toList, c < 0x110000 := by
  unfold PyData.strOk
  rw [← Array.all_toList, List.all_eq_true]
  simp
theorem app_len (x y : Str) : (x ++ y).length = x.length + y.length := by
  show (x.cps ++ y.cps).size = _
  rw [Array.size_append]
  rfl
theorem app_cps (x y : Str) : (x ++ y).cps.toList = x.cps.toList ++ y.cps.toList := by
  show (x.cps ++ y.cps).toList = _
  rw [Array.toList_append]
theorem TxB.app {x y : Str} {m n : Nat} (h : TxB x m) (g : TxB y n) : TxB (x ++ y) (m + n) := by
  refine ⟨by rw [app_len]; exact Nat.add_le_add h.1 g.1, strOk_iff.mpr fun c hc => ?_⟩
  rw [app_cps] at hc
  rcases List.mem_append.mp hc with e | e
  · exact strOk_iff.mp h.2 c e
  · exact strOk_iff.mp g.2 c e
theorem TxB.sign {x : Str} {m : Nat} {c : Nat} (h : TxB x m) (hc : c ∈ x.cps.toList) : TxB ⟨#[c]⟩ 1 :=
  ⟨Nat.le_refl _, strOk_iff.mpr fun d hd => by
    have e : d = c := by simpa using hd
    rw [e]
    exact strOk_iff.mp h.2 c hc⟩
theorem TxB.cut {x : Str} {m : Nat} (h : TxB x m) (lo hi : Option Int) : TxB (cutS x lo hi) m := by
  refine ⟨Nat.le_trans (cutS_length x lo hi) h.1, strOk_iff.mpr fun c hc => ?_⟩
  unfold cutS at hc
  exact strOk_iff.mp h.2 c (List.mem_of_mem_drop (List.mem_of_mem_take (by simpa using hc)))
theorem TxB.lit {z : Str} (n : Nat) (h : (decide (z.length ≤ n) && PyData.strOk z) = true) : TxB z n := by
  simp only [Bool.and_eq_true, decide_eq_true_eq] at h
  exact h
theorem TxB.line {z : Str} {n : Nat} (h : TxB z n) (l : n ≤ 100000) : z.length ≤ sizeLine := le_line (Nat.le_trans h.1 l)
/-- a sign of a text at a drawn place -/
theorem TxB.at {z : Str} {n : Nat} {d : Int} (h : TxB z n) (h0 : 0 ≤ d) (h1 : d < (z.length : Int)) : ∃ c, atI z.cps.toList d = some c ∧ TxB ⟨#[c]⟩ 1 := by
  have e : z.length = z.cps.toList.length := by simp [Str.length]
  obtain ⟨c, hc, hat⟩ := at_in (xs := z.cps.toList) h0 (by omega)
  exact ⟨c, hat, h.sign hc⟩
/-- the text that a def of one return gives back -/
def retStr (st : Stmt) : Str := match defBody st with
  | [.Return (some (.Constant (.str x) _ _)) _] => x
  | _ => Str.empty
section
variable {X : Cx}
/-- text * number -/
def rRepS : V → V → Hp → VK → Prop := fun x y H Q => ∃ z k, x = .str z ∧ y = .int k ∧ z.length ≤ 1000 ∧ 0 ≤ k ∧ k ≤ 1000 ∧ Q (.str (Txt.mul z k)) H
theorem op_rep_str : OpR X (binaryOp .Mult) rRepS := by
  intro pins s σ H x y u v Q I rx ry h
  obtain ⟨z, k, rfl, rfl, hz, h0, h1, q⟩ := h
  obtain ⟨t, rfl⟩ := rx
  obtain ⟨t', rfl⟩ := ry
  exact SB.mul (mulOk_of 1000 1000 hz (by omega) (by omega) (by decide) (by decide)) fun t2 k2 => ⟨.str (Txt.mul z k), H, I.tok k2, ⟨t2, rfl⟩, q⟩
end
end Vf
namespace Vf
open PySem PySem.Spec PyProof.Rows L2
section
variable {X : Cx}
/-- a list == [], whatever its items are -/
def rEqNil (K : PySem.W.Frag) : V → V → Hp → VK → Prop := fun x y H Q => ∃ a b xs, x = .ref a ∧ y = .ref b ∧ SqL K H a xs ∧ SqL K H b [] ∧ Q (.bl (decide (xs = []))) H
theorem op_eqNil (hu : X.A.units < cLine) : OpR X (compareOp .Eq) (rEqNil X.K) := by
  intro pins s σ H x y v u Q I rx ry h
  obtain ⟨a, b, xs, rfl, rfl, ha, hb, q⟩ := h
  cases (show v = Value.ref a from rx)
  cases (show u = Value.ref b from ry)
  obtain ⟨its, rv, hl, _⟩ := I.list ha
  obtain ⟨its2, rv2, hl2, _⟩ := I.list hb
  cases rv2
  cases xs with
  | nil =>
    cases rv
    exact SeqAt.eq_listAt (e := fun _ => true) hl.isList hl2.isList rfl hu (fun j h1 => by simp at h1) ⟨.bl true, H, I, rfl, q⟩
  | cons z r =>
    cases rv
    exact SeqAt.eq_list_lengthsAt hl.isList hl2.isList (by simp) hu ⟨.bl false, H, I, rfl, q⟩
end
end Vf
namespace Vf
open PySem PySem.Spec PyProof.Rows L2
/-! ### f(k = v, ..) -/
section
variable {X : Cx} {CX : CXT} {k : Nat} {f : Addr} {fd : FuncData} {ps ks : List Str} {sp : Sp} {E : XK} {x : Str} {p pos : Pos} {kws : List Keyword} {tk : TA} {g : List Value → List Value → List Value} {gV : List V → List V → List V}
theorem pe_callK0 (F : FnOk X.prog X.w X.K X.mg X.base CX k f fd ps sp) (hr : Room k X.A) (hg : Gl X x) (hm : X.mg x = some (.ref f)) (hk : PySem.W.keepIn X.K (.ref f) = true) (hb : KBn X.K fd ps 0 ks g gV) (hx : Passes CX X E)
    (hkw : PK X kws tk) (hall : (backToKw pos (keywordEach kws X.env)).all (·.1.isSome) = true := by rfl) (hks : (backToKw pos (keywordEach kws X.env)).filterMap (·.1) = ks := by rfl)
    (hdb : (x == ("__debug__" : Str)) = false := by decide) (hpl : ((backTo pos (starEach [] X.env)).any (·.1) || (backToKw pos (keywordEach kws X.env)).any (·.1.isNone)) = false := by rfl) :
    PE X (.Call (.Name x p) [] kws pos) (tCallN 0 ks.length sp gV E tNil tk) := by
  refine ⟨fun pins s σ H Q I h => ?_⟩
  refine wpAny_Call_Name_kw (ld_glob I hg hm ?_ hdb)
  refine PySem.W.callWith_KW0 (h₀ := X.base) I.ok.mod.kin hk hall ?_ hpl
  refine thn (hkw.run pos pins s σ H _ I h) fun ws s2 ⟨zs, H2, I2, rz, l1, l2, q2⟩ => ⟨I2.kIn, ?_⟩
  rw [hks]
  exact run_fnN (us := []) (vs := []) F hr hb hx I2 .nil rz rfl l2 q2
end
/-- the module's name x stands for a def that keeps the promise, called by keywords alone -/
def HasK (P : Program) (w : World) (K : PySem.W.Frag) (mg : Str → Option Value) (base : Heap) (x : Str) (k : Nat) (ps ks : List Str) (gV : List V → List V → List V) (sp : Sp) : Prop :=
  ∃ (f : Addr) (fd : FuncData) (g : List Value → List Value → List Value), FnOk P w K mg base CX0 k f fd ps sp ∧ mg x = some (.ref f) ∧ PySem.W.keepIn K (.ref f) = true ∧ KBn K fd ps 0 ks g gV
theorem kbn_of {K : PySem.W.Frag} {x qual : Str} {params : Arguments} {body : List Stmt} {scope : Scope} {f : Addr} {fd : FuncData} {ps ks : List Str} {g : List Value → List Value → List Value} {gV : List V → List V → List V} (F : FunD K x qual params body scope [] [] f fd)
    (h : ∀ (kV doc pm : Value) (an : Option Addr) (cdv ct : Value) (ws : List Value), ws.length = ks.length → bindArgs (PySem.W.fnOf x qual params body scope .none kV doc pm an cdv ct) ⟨[], ks.zip ws⟩ = pure (ps.zip (g [] ws)))
    (rel : ∀ {vs : List V} {us : List Value} {zs : List V} {ws : List Value}, Vals vs us → Vals zs ws → Vals (gV vs zs) (g us ws)) : KBn K fd ps 0 ks g gV := by
  obtain ⟨oc, od, dV, kV, doc, pm, an, cdv, ct, osl, rfl, lk, hcd, hD, hK⟩ := F.ex
  rcases hD with ⟨_, rfl⟩ | ⟨e, _⟩
  · refine ⟨fun s us ws _ l1 l2 => ?_, rel⟩
    cases us with
    | nil => exact .of_eq (h kV doc pm an cdv ct ws l2)
    | cons a r => cases l1
  · exact absurd rfl e
/-- one keyword -/
def gv1 : List V → List V → List V := fun _ zs => zs
/-- three keywords: the last parameter, then the first, then the second -/
def gv3 : List V → List V → List V := fun _ zs => match zs with
  | [m, v, l] => [v, l, m]
  | _ => []
def gu3 : List Value → List Value → List Value := fun _ zs => match zs with
  | [m, v, l] => [v, l, m]
  | _ => []
theorem gv3_rel {vs : List V} {us : List Value} {zs : List V} {ws : List Value} (_ : Vals vs us) (h : Vals zs ws) : Vals (gv3 vs zs) (gu3 us ws) := by
  cases h with
  | nil => exact .nil
  | cons r1 h =>
    cases h with
    | nil => exact .nil
    | cons r2 h =>
      cases h with
      | nil => exact .nil
      | cons r3 h =>
        cases h with
        | nil => exact .cons r2 (.cons r3 (.cons r1 .nil))
        | cons r4 h => exact .nil
end Vf
namespace Vf
open PySem PySem.Spec PyProof.Rows L2
/-! ### own error classes with fields -/
def oexB (K : PySem.W.Frag) (C : Addr) : Bool := (match K.lookup C with
  | some ⟨.type "type", _, .cls cd, sl⟩ => (match cd.mro, sl.toList with
    | .ref C' :: bm, [_, _, _, _, some (.builtin n), _] => C' == C && (n == "ValueError.__new__" && (!cd.hasDel && (cd.hasDict && PySem.HandSPX.refsVE bm)))
    | _, _ => false)
  | _ => false) && (He.eqO (PySem.W.findIn K (.ref C) "__setattr__") (some (some (.builtin "object.__setattr__"))) && (decide (PySem.W.subIn K (.ref C) (.type "BaseException") = some true) && (decide (PySem.W.typeIn K (.ref C) = some (.type "type")) && PySem.W.keepIn K (.ref C))))
theorem oexC_of {K : PySem.W.Frag} {C : Addr} (h : oexB K C = true) : OexC K C := by
  unfold oexB at h
  obtain ⟨q, h⟩ := He.ba h
  obtain ⟨h1, h⟩ := He.ba h
  obtain ⟨h2, h⟩ := He.ba h
  obtain ⟨h3, h4⟩ := He.ba h
  refine ⟨?_, He.eqO_ok h1, of_decide_eq_true h2, of_decide_eq_true h3, h4⟩
  split at q
  · rename_i dd cd sl ho
    split at q
    · rename_i C' bm k0 k1 k2 k3 n k5 hm hs
      simp only [Bool.and_eq_true, beq_iff_eq, Bool.not_eq_true'] at q
      obtain ⟨e1, e2, hdel, hdct, ht⟩ := q
      subst e1 e2
      obtain ⟨nm, bs, mro, ns, qn, hd, sn, sub, ab, col, del⟩ := cd
      dsimp only at hm hdel hdct
      subst hm hdel hdct
      have hsl : sl = #[k0, k1, k2, k3, some (.builtin "ValueError.__new__"), k5] := by
        obtain ⟨l⟩ := sl
        simp only at hs
        rw [hs]
      subst hsl
      exact ⟨nm, qn, ns, bs, bm, sn, sub, ab, col, dd, k0, k1, k2, k3, k5, ho, ht⟩
    · cases q
  · cases q
/-- an own error class x, its own __init__, the fields fs: none of them is an attribute of the class -/
structure ErrC (K : PySem.W.Frag) (x : Str) (fs : List Str) : Prop where
  oex : OexC K (He.ga K x)
  exc : ExcC K (He.ga K x)
  ini : PySem.W.findIn K (.ref (He.ga K x)) "__init__" = some (some (.ref (He.ma K (He.ga K x) "__init__")))
  fn : PySem.W.typeIn K (.ref (He.ma K (He.ga K x) "__init__")) = some (.type "function")
  no : ∀ f ∈ fs, PySem.W.findIn K (.ref (He.ga K x)) f = some none
def errB (K : PySem.W.Frag) (x : Str) (fs : List Str) : Bool := oexB K (He.ga K x) && (excB K (He.ga K x) && (He.eqO (PySem.W.findIn K (.ref (He.ga K x)) "__init__") (some (some (.ref (He.ma K (He.ga K x) "__init__")))) &&
  (decide (PySem.W.typeIn K (.ref (He.ma K (He.ga K x) "__init__")) = some (.type "function")) && fs.all fun f => He.eqO (PySem.W.findIn K (.ref (He.ga K x)) f) (some none))))
theorem errC_of {K : PySem.W.Frag} {x : Str} {fs : List Str} (h : errB K x fs = true) : ErrC K x fs := by
  unfold errB at h
  obtain ⟨h1, h⟩ := He.ba h
  obtain ⟨h2, h⟩ := He.ba h
  obtain ⟨h3, h⟩ := He.ba h
  obtain ⟨h4, h5⟩ := He.ba h
  exact ⟨oexC_of h1, excC_of h2, He.eqO_ok h3, of_decide_eq_true h4, fun f hf => He.eqO_ok (List.all_eq_true.mp h5 f hf)⟩
theorem ErrC.xf {K : PySem.W.Frag} {x : Str} {fs : List Str} (h : ErrC K x fs) : XfC K (He.ga K x) := ⟨h.exc.hg, h.exc.hk, h.exc.hs, h.exc.hd⟩
/-- isinstance's answers -/
def kitsB (K : PySem.W.Frag) (x : Str) (ys : List (Str × Bool)) : Bool := decide (PySem.W.kitOne K (.ref (He.ga K x)) (.type "ValueError") = some true) && ys.all fun y => decide (PySem.W.kitOne K (.ref (He.ga K x)) (.ref (He.ga K y.1)) = some y.2)
structure Kits (K : PySem.W.Frag) (x : Str) (ys : List (Str × Bool)) : Prop where
  ve : PySem.W.kitOne K (.ref (He.ga K x)) (.type "ValueError") = some true
  own : ∀ y ∈ ys, PySem.W.kitOne K (.ref (He.ga K x)) (.ref (He.ga K y.1)) = some y.2
theorem kits_of {K : PySem.W.Frag} {x : Str} {ys : List (Str × Bool)} (h : kitsB K x ys = true) : Kits K x ys := by
  unfold kitsB at h
  obtain ⟨h1, h2⟩ := He.ba h
  exact ⟨of_decide_eq_true h1, fun y hy => of_decide_eq_true (List.all_eq_true.mp h2 y hy)⟩
/-! ### raising them -/
/-- the wish of an exception of the class at C with the fields fs, told from H -/
def Rz (E : XK) (C : Addr) (fs : List (Str × V)) (H : Hp) : Prop := ∀ H' d, Same H H' → H d = none → H' d = some (.xd fs) → E (.ref C) (some d) H'
theorem Rz.same {E : XK} {C : Addr} {fs : List (Str × V)} {H H1 : Hp} (h : Rz E C fs H) (s : Same H H1) : Rz E C fs H1 := fun H' d s2 n e => by
  refine h H' d (s.trans s2) ?_ e
  cases q : H d with
  | none => rfl
  | some o =>
    rw [s _ _ q] at n
    cases n
/-- def __init__(self, f): self.f = f -/
def spI1 (K : PySem.W.Frag) (f : Str) : Sp := fun vs H Q _ => ∃ (a C : Addr) (v : V), vs = [.ref a, v] ∧ OexC K C ∧ PySem.W.findIn K (.ref C) f = some none ∧ H a = some (exo a C none) ∧
  ∀ dx, H dx = none → dx ≠ a → Q .non (upd (upd H dx (exd dx [(f, v)])) a (exo a C (some dx)))
/-- .. of two fields -/
def spI2 (K : PySem.W.Frag) (f g : Str) : Sp := fun vs H Q _ => ∃ (a C : Addr) (v u : V), vs = [.ref a, v, u] ∧ OexC K C ∧ PySem.W.findIn K (.ref C) f = some none ∧ PySem.W.findIn K (.ref C) g = some none ∧ H a = some (exo a C none) ∧
  ∀ dx, H dx = none → dx ≠ a → Q .non (upd (upd (upd H dx (exd dx [(f, v)])) a (exo a C (some dx))) dx (exd dx [(g, u), (f, v)]))
theorem same_exc {H : Hp} {a d : Addr} {o : HO} (ha : H a = none) (hd : H d = none) {H2 : Hp} (h2 : ∀ b, b ≠ a → b ≠ d → H2 b = H b) : Same H (upd (L2.del H2 a) d o) := fun b u e => by
  have n1 := ne_of_none e ha
  have n2 := ne_of_none e hd
  rw [upd_ne n2, del_ne n1, h2 b n1 n2]
  exact e
theorem mk1 {K : PySem.W.Frag} {C : Addr} {f : Str} {v : V} {H : Hp} {E : XK} (T : OexC K C) (no : PySem.W.findIn K (.ref C) f = some none) (r : Rz E C [(f, v)] H) :
    ([v].length ≤ 1000 ∧ ∀ a, H a = none → spI1 K f (.ref a :: ([v] ++ [])) (upd H a (exo a C none))
      (fun v H2 => v = .non ∧ ∃ (d : Addr) (fs : List (Str × V)), H2 a = some (exo a C (some d)) ∧ H2 d = some (exd d fs) ∧ H d = none ∧ E (.ref C) (some d) (upd (L2.del H2 a) d (.xd fs))) (fun _ _ _ => False)) := by
  refine ⟨(show 1 ≤ 1000 by decide), fun a na => ⟨a, C, v, rfl, T, no, upd_same, fun dx nd nda => ?_⟩⟩
  have nd' : H dx = none := by
    rw [upd_ne nda] at nd
    exact nd
  refine ⟨rfl, dx, [(f, v)], upd_same, by rw [upd_ne nda, upd_same], nd', ?_⟩
  exact r _ dx (same_exc na nd' fun b n1 n2 => by rw [upd_ne n1, upd_ne n2, upd_ne n1]) nd' upd_same
theorem mk2 {K : PySem.W.Frag} {C : Addr} {f g : Str} {v u : V} {H : Hp} {E : XK} (T : OexC K C) (no : PySem.W.findIn K (.ref C) f = some none) (no2 : PySem.W.findIn K (.ref C) g = some none) (r : Rz E C [(g, u), (f, v)] H) :
    ([v, u].length ≤ 1000 ∧ ∀ a, H a = none → spI2 K f g (.ref a :: ([v, u] ++ [])) (upd H a (exo a C none))
      (fun v H2 => v = .non ∧ ∃ (d : Addr) (fs : List (Str × V)), H2 a = some (exo a C (some d)) ∧ H2 d = some (exd d fs) ∧ H d = none ∧ E (.ref C) (some d) (upd (L2.del H2 a) d (.xd fs))) (fun _ _ _ => False)) := by
  refine ⟨(show 2 ≤ 1000 by decide), fun a na => ⟨a, C, v, u, rfl, T, no, no2, upd_same, fun dx nd nda => ?_⟩⟩
  have nd' : H dx = none := by
    rw [upd_ne nda] at nd
    exact nd
  refine ⟨rfl, dx, [(g, u), (f, v)], by rw [upd_ne nda.symm, upd_same], upd_same, nd', ?_⟩
  exact r _ dx (same_exc na nd' fun b n1 n2 => by rw [upd_ne n2, upd_ne n1, upd_ne n2, upd_ne n1]) nd' upd_same
/-- what a def that may raise lets out, in a def that may raise -/
theorem passE {X : Cx} {E : XK} (hs : X.stack = X.env :: X.outer) (hf : X.env.frame = some X.env.locals) (hex : X.ex = []) {E₁ : Value → Shared → Prop} (hx : X.xe = fun e s' => wpAny (model X.prog X.w) X.A (leaving X.env e) (fun _ s'' => L2.CX X.prog X.w X.outer X.H_0 X.s_0 E e s'') E₁ s') : Passes (L2.CX X.prog X.w) X E :=
  passes_call (takes_of hs hf hex hx) fun _ _ _ _ h => h
theorem takes_no {X : Cx} : Takes X (fun _ _ _ _ => False) := fun _ _ x => by
  obtain ⟨_, _, _, _, _, _, _, _, _, _, _, _, _, _, _, _, z⟩ := x
  exact z.elim
/-- .. in a def that lets nothing out -/
theorem passN {X : Cx} : Passes (L2.CX X.prog X.w) X (fun _ _ _ => False) := passes_call takes_no fun _ _ _ _ h => h
/-- a def that may raise, by its name -/
def HasX (P : Program) (w : World) (K : PySem.W.Frag) (mg : Str → Option Value) (base : Heap) (x : Str) (k : Nat) (ps : List Str) (sp : Sp) : Prop :=
  ∃ (f : Addr) (fd : FuncData), FnOk P w K mg base (L2.CX P w) k f fd ps sp ∧ mg x = some (.ref f) ∧ PySem.W.keepIn K (.ref f) = true ∧ Binds K fd ps []
end Vf
namespace K05
open PySem PySem.Spec PyProof.Rows L2 Vf
def dflA : PySem.W.Frag → Addr := He.dflAt ("Skin", some "__init__") 0
def dfl0 (K : PySem.W.Frag) : Bool := match K.lookup (dflA K) with
  | some ⟨.type c, _, .seq its _, _⟩ => decide (c = "tuple") && its.isEmpty
  | _ => false
theorem dfl0_ok {K : PySem.W.Frag} (h : dfl0 K = true) : ∃ od n sl, K.lookup (dflA K) = some ⟨.type "tuple", od, .seq #[] n, sl⟩ := by
  unfold dfl0 at h
  split at h
  · rename_i c od its n sl e
    obtain ⟨h1, h2⟩ := He.ba h
    have e1 : c = "tuple" := of_decide_eq_true h1
    subst e1
    have e2 : its = #[] := by simpa using h2
    subst e2
    exact ⟨od, n, sl, e⟩
  · cases h
def tabT (K : PySem.W.Frag) (x : Str) : Addr := (He.cT K (x, none)).2
def tabsNe (K : PySem.W.Frag) : Bool := decide (tabT K "_law_told_right" ≠ tabT K "_law_twice_right") && (decide (tabT K "_law_told_right" ≠ tabT K "_law_many_right") && decide (tabT K "_law_twice_right" ≠ tabT K "_law_many_right"))
def tf : List He.Defn := [("_law_told_right", none), ("_law_twice_right", none), ("_law_many_right", none)]
def top (i : Nat) : Stmt := PySem.Challenge.pw_rimsewn_k05_skins_refused_in_order.main.body.getD i (.Pass ⟨0, 0, 0, 0⟩)
abbrev s_wall : Stmt := top 0
abbrev s_BadKind_init : Stmt := inClass (top 3) 0
abbrev s_BadSkin_init : Stmt := inClass (top 4) 0
abbrev s_BadSheet_init : Stmt := inClass (top 5) 0
abbrev s_BadNumber_init : Stmt := inClass (top 6) 0
abbrev s_Missing_init : Stmt := inClass (top 7) 0
abbrev s_Twice_init : Stmt := inClass (top 9) 0
abbrev s_TooMany_init : Stmt := inClass (top 10) 0
abbrev s_BadText_init : Stmt := inClass (top 11) 0
abbrev s_is_grid : Stmt := top 14
abbrev s_need_kind : Stmt := top 15
abbrev s_sides_of : Stmt := top 16
abbrev s_full_of : Stmt := top 17
abbrev s_is_integer : Stmt := top 19
abbrev s_is_within : Stmt := top 20
abbrev s_is_listed : Stmt := top 21
abbrev s_first_twice : Stmt := top 22
abbrev s_words_of : Stmt := top 25
abbrev s_natural_of : Stmt := top 26
abbrev s_word_at : Stmt := top 27
abbrev s_number_at : Stmt := top 28
abbrev s_is_seam : Stmt := top 31
abbrev s_need_seams : Stmt := top 32
abbrev s_sides_in : Stmt := top 33
abbrev s_mates_of : Stmt := top 34
abbrev s_turned_sides : Stmt := top 35
abbrev s_Skin_init : Stmt := inClass (top 36) 0
abbrev s_Skin_need_side : Stmt := inClass (top 36) 1
abbrev s_Skin_mate : Stmt := inClass (top 36) 2
abbrev s_Skin_next : Stmt := inClass (top 36) 3
abbrev s_Skin_back : Stmt := inClass (top 36) 4
abbrev s_Skin_face : Stmt := inClass (top 36) 5
abbrev s_Skin_with_seams : Stmt := inClass (top 36) 6
abbrev s_Skin_mirrored : Stmt := inClass (top 36) 7
abbrev s_Skin_mirror_of : Stmt := inClass (top 36) 8
abbrev s_Skin_eq : Stmt := inClass (top 36) 9
abbrev s_Skin_str : Stmt := inClass (top 36) 10
abbrev s_skin_words : Stmt := top 37
abbrev s_read_seams : Stmt := top 38
abbrev s_law_pen : Stmt := top 40
abbrev s_law_draw : Stmt := top 41
abbrev s_law_pick : Stmt := top 42
abbrev s_law_pairs : Stmt := top 43
abbrev s_law_heard : Stmt := top 44
abbrev s_law_twice : Stmt := top 45
abbrev s_law_odd_seams : Stmt := top 46
abbrev s_law_told_right : Stmt := top 47
abbrev s_law_twice_right : Stmt := top 48
abbrev s_law_many_right : Stmt := top 49
abbrev s_law : Stmt := top 50
def d_wall : He.DefD := ⟨("_wall", none), "_wall", "_wall", defArgs s_wall, defBody s_wall, defScope s_wall, [], []⟩
def d_BadKind_init : He.DefD := ⟨("BadKind", some "__init__"), "__init__", "BadKind.__init__", defArgs s_BadKind_init, defBody s_BadKind_init, defScope s_BadKind_init, [], []⟩
def d_BadSkin_init : He.DefD := ⟨("BadSkin", some "__init__"), "__init__", "BadSkin.__init__", defArgs s_BadSkin_init, defBody s_BadSkin_init, defScope s_BadSkin_init, [], []⟩
def d_BadSheet_init : He.DefD := ⟨("BadSheet", some "__init__"), "__init__", "BadSheet.__init__", defArgs s_BadSheet_init, defBody s_BadSheet_init, defScope s_BadSheet_init, [], []⟩
def d_BadNumber_init : He.DefD := ⟨("BadNumber", some "__init__"), "__init__", "BadNumber.__init__", defArgs s_BadNumber_init, defBody s_BadNumber_init, defScope s_BadNumber_init, [], []⟩
def d_Missing_init : He.DefD := ⟨("Missing", some "__init__"), "__init__", "Missing.__init__", defArgs s_Missing_init, defBody s_Missing_init, defScope s_Missing_init, [], []⟩
def d_Twice_init : He.DefD := ⟨("Twice", some "__init__"), "__init__", "Twice.__init__", defArgs s_Twice_init, defBody s_Twice_init, defScope s_Twice_init, [], []⟩
def d_TooMany_init : He.DefD := ⟨("TooMany", some "__init__"), "__init__", "TooMany.__init__", defArgs s_TooMany_init, defBody s_TooMany_init, defScope s_TooMany_init, [], []⟩
def d_BadText_init : He.DefD := ⟨("BadText", some "__init__"), "__init__", "BadText.__init__", defArgs s_BadText_init, defBody s_BadText_init, defScope s_BadText_init, [], []⟩
def d_is_grid : He.DefD := ⟨("is_grid", none), "is_grid", "is_grid", defArgs s_is_grid, defBody s_is_grid, defScope s_is_grid, [], []⟩
def d_need_kind : He.DefD := ⟨("need_kind", none), "need_kind", "need_kind", defArgs s_need_kind, defBody s_need_kind, defScope s_need_kind, [], []⟩
def d_sides_of : He.DefD := ⟨("sides_of", none), "sides_of", "sides_of", defArgs s_sides_of, defBody s_sides_of, defScope s_sides_of, [], []⟩
def d_full_of : He.DefD := ⟨("full_of", none), "full_of", "full_of", defArgs s_full_of, defBody s_full_of, defScope s_full_of, [], []⟩
def d_is_integer : He.DefD := ⟨("is_integer", none), "is_integer", "is_integer", defArgs s_is_integer, defBody s_is_integer, defScope s_is_integer, [], []⟩
def d_is_within : He.DefD := ⟨("is_within", none), "is_within", "is_within", defArgs s_is_within, defBody s_is_within, defScope s_is_within, [], []⟩
def d_is_listed : He.DefD := ⟨("is_listed", none), "is_listed", "is_listed", defArgs s_is_listed, defBody s_is_listed, defScope s_is_listed, [], []⟩
def d_first_twice : He.DefD := ⟨("first_twice", none), "first_twice", "first_twice", defArgs s_first_twice, defBody s_first_twice, defScope s_first_twice, [], []⟩
def d_words_of : He.DefD := ⟨("words_of", none), "words_of", "words_of", defArgs s_words_of, defBody s_words_of, defScope s_words_of, [], []⟩
def d_natural_of : He.DefD := ⟨("natural_of", none), "natural_of", "natural_of", defArgs s_natural_of, defBody s_natural_of, defScope s_natural_of, [], []⟩
def d_word_at : He.DefD := ⟨("word_at", none), "word_at", "word_at", defArgs s_word_at, defBody s_word_at, defScope s_word_at, [], []⟩
def d_number_at : He.DefD := ⟨("number_at", none), "number_at", "number_at", defArgs s_number_at, defBody s_number_at, defScope s_number_at, [], []⟩
def d_is_seam : He.DefD := ⟨("is_seam", none), "is_seam", "is_seam", defArgs s_is_seam, defBody s_is_seam, defScope s_is_seam, [], []⟩
def d_need_seams : He.DefD := ⟨("need_seams", none), "need_seams", "need_seams", defArgs s_need_seams, defBody s_need_seams, defScope s_need_seams, [], []⟩
def d_sides_in : He.DefD := ⟨("sides_in", none), "sides_in", "sides_in", defArgs s_sides_in, defBody s_sides_in, defScope s_sides_in, [], []⟩
def d_mates_of : He.DefD := ⟨("mates_of", none), "mates_of", "mates_of", defArgs s_mates_of, defBody s_mates_of, defScope s_mates_of, [], []⟩
def d_turned_sides : He.DefD := ⟨("turned_sides", none), "turned_sides", "turned_sides", defArgs s_turned_sides, defBody s_turned_sides, defScope s_turned_sides, [], []⟩
def d_Skin_init : He.DefD := ⟨("Skin", some "__init__"), "__init__", "Skin.__init__", defArgs s_Skin_init, defBody s_Skin_init, defScope s_Skin_init, [.adr dflA], []⟩
def d_Skin_need_side : He.DefD := ⟨("Skin", some "need_side"), "need_side", "Skin.need_side", defArgs s_Skin_need_side, defBody s_Skin_need_side, defScope s_Skin_need_side, [], []⟩
def d_Skin_mate : He.DefD := ⟨("Skin", some "mate"), "mate", "Skin.mate", defArgs s_Skin_mate, defBody s_Skin_mate, defScope s_Skin_mate, [], []⟩
def d_Skin_next : He.DefD := ⟨("Skin", some "next"), "next", "Skin.next", defArgs s_Skin_next, defBody s_Skin_next, defScope s_Skin_next, [], []⟩
def d_Skin_back : He.DefD := ⟨("Skin", some "back"), "back", "Skin.back", defArgs s_Skin_back, defBody s_Skin_back, defScope s_Skin_back, [], []⟩
def d_Skin_face : He.DefD := ⟨("Skin", some "face"), "face", "Skin.face", defArgs s_Skin_face, defBody s_Skin_face, defScope s_Skin_face, [], []⟩
def d_Skin_with_seams : He.DefD := ⟨("Skin", some "with_seams"), "with_seams", "Skin.with_seams", defArgs s_Skin_with_seams, defBody s_Skin_with_seams, defScope s_Skin_with_seams, [], []⟩
def d_Skin_mirrored : He.DefD := ⟨("Skin", some "mirrored"), "mirrored", "Skin.mirrored", defArgs s_Skin_mirrored, defBody s_Skin_mirrored, defScope s_Skin_mirrored, [], []⟩
def d_Skin_mirror_of : He.DefD := ⟨("Skin", some "mirror_of"), "mirror_of", "Skin.mirror_of", defArgs s_Skin_mirror_of, defBody s_Skin_mirror_of, defScope s_Skin_mirror_of, [], []⟩
def d_Skin_eq : He.DefD := ⟨("Skin", some "__eq__"), "__eq__", "Skin.__eq__", defArgs s_Skin_eq, defBody s_Skin_eq, defScope s_Skin_eq, [], []⟩
def d_Skin_str : He.DefD := ⟨("Skin", some "__str__"), "__str__", "Skin.__str__", defArgs s_Skin_str, defBody s_Skin_str, defScope s_Skin_str, [], []⟩
def d_skin_words : He.DefD := ⟨("skin_words", none), "skin_words", "skin_words", defArgs s_skin_words, defBody s_skin_words, defScope s_skin_words, [], []⟩
def d_read_seams : He.DefD := ⟨("read_seams", none), "read_seams", "read_seams", defArgs s_read_seams, defBody s_read_seams, defScope s_read_seams, [], []⟩
def d_law_pen : He.DefD := ⟨("_law_pen", none), "_law_pen", "_law_pen", defArgs s_law_pen, defBody s_law_pen, defScope s_law_pen, [], []⟩
def d_law_draw : He.DefD := ⟨("_law_draw", none), "_law_draw", "_law_draw", defArgs s_law_draw, defBody s_law_draw, defScope s_law_draw, [], []⟩
def d_law_pick : He.DefD := ⟨("_law_pick", none), "_law_pick", "_law_pick", defArgs s_law_pick, defBody s_law_pick, defScope s_law_pick, [], []⟩
def d_law_pairs : He.DefD := ⟨("_law_pairs", none), "_law_pairs", "_law_pairs", defArgs s_law_pairs, defBody s_law_pairs, defScope s_law_pairs, [], []⟩
def d_law_heard : He.DefD := ⟨("_law_heard", none), "_law_heard", "_law_heard", defArgs s_law_heard, defBody s_law_heard, defScope s_law_heard, [], []⟩
def d_law_twice : He.DefD := ⟨("_law_twice", none), "_law_twice", "_law_twice", defArgs s_law_twice, defBody s_law_twice, defScope s_law_twice, [], []⟩
def d_law_odd_seams : He.DefD := ⟨("_law_odd_seams", none), "_law_odd_seams", "_law_odd_seams", defArgs s_law_odd_seams, defBody s_law_odd_seams, defScope s_law_odd_seams, [], []⟩
def d_law_told_right : He.DefD := ⟨("_law_told_right", none), "_law_told_right", "_law_told_right", defArgs s_law_told_right, defBody s_law_told_right, defScope s_law_told_right, [], []⟩
def d_law_twice_right : He.DefD := ⟨("_law_twice_right", none), "_law_twice_right", "_law_twice_right", defArgs s_law_twice_right, defBody s_law_twice_right, defScope s_law_twice_right, [], []⟩
def d_law_many_right : He.DefD := ⟨("_law_many_right", none), "_law_many_right", "_law_many_right", defArgs s_law_many_right, defBody s_law_many_right, defScope s_law_many_right, [], []⟩
def d_law : He.DefD := ⟨("law", none), "law", "law", defArgs s_law, defBody s_law, defScope s_law, [], []⟩
def fn : List He.DefD := [d_wall, d_BadKind_init, d_BadSkin_init, d_BadSheet_init, d_BadNumber_init, d_Missing_init, d_Twice_init, d_TooMany_init, d_BadText_init, d_is_grid, d_need_kind, d_sides_of, d_full_of, d_is_integer, d_is_within, d_is_listed, d_first_twice, d_words_of, d_natural_of, d_word_at, d_number_at, d_is_seam, d_need_seams, d_sides_in, d_mates_of, d_turned_sides, d_Skin_init, d_Skin_need_side, d_Skin_mate, d_Skin_next, d_Skin_back, d_Skin_face, d_Skin_with_seams, d_Skin_mirrored, d_Skin_mirror_of, d_Skin_eq, d_Skin_str, d_skin_words, d_read_seams, d_law_pen, d_law_draw, d_law_pick, d_law_pairs, d_law_heard, d_law_twice, d_law_odd_seams, d_law_told_right, d_law_twice_right, d_law_many_right, d_law]
def fa : List He.Fa := [.glo "_wall", .glo "SewError", .glo "BadKind", .glo "BadSkin", .glo "BadSheet", .glo "BadNumber", .glo "Missing", .glo "NoSide", .glo "Twice", .glo "TooMany", .glo "BadText", .glo "is_grid", .glo "need_kind", .glo "sides_of", .glo "full_of", .glo "is_integer", .glo "is_within", .glo "is_listed", .glo "first_twice", .glo "words_of", .glo "natural_of", .glo "word_at", .glo "number_at", .glo "is_seam", .glo "need_seams", .glo "sides_in", .glo "mates_of", .glo "turned_sides", .glo "Skin", .glo "skin_words", .glo "read_seams", .glo "_law_pen", .glo "_law_draw", .glo "_law_pick", .glo "_law_pairs", .glo "_law_heard", .glo "_law_twice", .glo "_law_odd_seams", .glo "_law_told_right", .glo "_law_twice_right", .glo "_law_many_right", .glo "law", .glo "KINDS", .int "LONGEST_NUMBER" 60, .int "MOST_FACES" 24, .free "ValueError", .free "abs", .free "all", .free "bool", .free "int", .free "isinstance", .free "len", .free "list", .free "max", .free "min", .free "range", .free "set", .free "sorted", .free "staticmethod", .free "str", .free "tuple", .cls "Skin", .mkr "Skin", .noat "Skin" "kind", .noat "Skin" "faces", .noat "Skin" "turn", .noat "Skin" "full", .noat "Skin" "sides", .noat "Skin" "seams", .noat "Skin" "mates", .noat "Skin" "nexts", .noat "Skin" "backs", .noat "Skin" "free", .meth "Skin" "need_side", .meth "Skin" "mate", .meth "Skin" "with_seams", .meth "Skin" "__str__", .exm "BadKind" "SewError" true, .exm "BadSkin" "SewError" true, .exm "Twice" "SewError" true, .exm "TooMany" "SewError" true]
def ex (K : PySem.W.Frag) : Bool := [He.tupB K "KINDS" [.str "square", .str "triangle"], dfl0 K, errB K "BadKind" ["part"], kitsB K "BadKind" [("BadNumber", false), ("BadSheet", false), ("NoSide", false), ("BadKind", true), ("BadSkin", false), ("Twice", false), ("TooMany", false)], errB K "BadSkin" ["part"], kitsB K "BadSkin" [("BadNumber", false), ("BadSheet", false), ("NoSide", false), ("BadKind", false), ("BadSkin", true), ("Twice", false), ("TooMany", false)], errB K "Twice" ["value"], kitsB K "Twice" [("BadNumber", false), ("BadSheet", false), ("NoSide", false), ("BadKind", false), ("BadSkin", false), ("Twice", true), ("TooMany", false)], errB K "TooMany" ["what", "most"], kitsB K "TooMany" [("BadNumber", false), ("BadSheet", false), ("NoSide", false), ("BadKind", false), ("BadSkin", false), ("Twice", false), ("TooMany", true)], tabsNe K].all id
abbrev R : PySem.W.OpenRow := PySem.W.OpenLaw.row PySem.Challenge.rw_rimsewn_k05_skins_refused_in_order
abbrev hk : PySem.W.Hook := He.hookX 6 fa fn [] tf ex
def ob (s : PySem.W.SharedT) : He.AlX := He.obsX 6 fa fn [] tf ex (HandSHeadRun.getT s)
theorem ob_eq (s : PySem.W.SharedT) : ob s = hk.obs s.abs := He.obsX_eq (HandSHeadRun.getT_eq s)
def loose : List Str := [("_wall" : Str), ("SewError" : Str), ("BadKind" : Str), ("BadSkin" : Str), ("BadSheet" : Str), ("BadNumber" : Str), ("Missing" : Str), ("NoSide" : Str), ("Twice" : Str), ("TooMany" : Str), ("BadText" : Str), ("KINDS" : Str), ("is_grid" : Str), ("need_kind" : Str), ("sides_of" : Str), ("full_of" : Str), ("is_integer" : Str), ("is_within" : Str), ("is_listed" : Str), ("first_twice" : Str), ("LONGEST_NUMBER" : Str), ("words_of" : Str), ("natural_of" : Str), ("word_at" : Str), ("number_at" : Str), ("MOST_FACES" : Str), ("is_seam" : Str), ("need_seams" : Str), ("sides_in" : Str), ("mates_of" : Str), ("turned_sides" : Str), ("Skin" : Str), ("skin_words" : Str), ("read_seams" : Str), ("_law_pen" : Str), ("_law_draw" : Str), ("_law_pick" : Str), ("_law_pairs" : Str), ("_law_heard" : Str), ("_law_twice" : Str), ("_law_odd_seams" : Str), ("_law_told_right" : Str), ("_law_twice_right" : Str), ("_law_many_right" : Str)]
theorem run (w : World) : HandSHeadRun.RunEq R (PySem.W.view R.prog [50]) hk ob 6000 loose w := by
  intro os
  kernel_rfl
structure Txt (K : PySem.W.Frag) (mg : Str → Option Value) : Prop where
  g_SewError : mg "SewError" = some (.ref (He.ga K "SewError"))
  g_BadKind : mg "BadKind" = some (.ref (He.ga K "BadKind"))
  g_BadSkin : mg "BadSkin" = some (.ref (He.ga K "BadSkin"))
  g_BadSheet : mg "BadSheet" = some (.ref (He.ga K "BadSheet"))
  g_BadNumber : mg "BadNumber" = some (.ref (He.ga K "BadNumber"))
  g_Missing : mg "Missing" = some (.ref (He.ga K "Missing"))
  g_NoSide : mg "NoSide" = some (.ref (He.ga K "NoSide"))
  g_Twice : mg "Twice" = some (.ref (He.ga K "Twice"))
  g_TooMany : mg "TooMany" = some (.ref (He.ga K "TooMany"))
  g_BadText : mg "BadText" = some (.ref (He.ga K "BadText"))
  g_Skin : mg "Skin" = some (.ref (He.ga K "Skin"))
  g_KINDS : mg "KINDS" = some (.ref (He.ga K "KINDS"))
  c_LONGEST_NUMBER : ∃ t, mg "LONGEST_NUMBER" = some (.int 60 t)
  c_MOST_FACES : ∃ t, mg "MOST_FACES" = some (.int 24 t)
  n_ValueError : mg "ValueError" = none
  n_abs : mg "abs" = none
  n_all : mg "all" = none
  n_bool : mg "bool" = none
  n_int : mg "int" = none
  n_isinstance : mg "isinstance" = none
  n_len : mg "len" = none
  n_list : mg "list" = none
  n_max : mg "max" = none
  n_min : mg "min" = none
  n_range : mg "range" = none
  n_set : mg "set" = none
  n_sorted : mg "sorted" = none
  n_staticmethod : mg "staticmethod" = none
  n_str : mg "str" = none
  n_tuple : mg "tuple" = none
  cl_Skin : Cls K (He.ga K "Skin")
  mk_Skin : Mk K (He.ga K "Skin") (He.ma K (He.ga K "Skin") "__init__")
  no_Skin_kind : NoAttr K (He.ga K "Skin") "kind"
  no_Skin_faces : NoAttr K (He.ga K "Skin") "faces"
  no_Skin_turn : NoAttr K (He.ga K "Skin") "turn"
  no_Skin_full : NoAttr K (He.ga K "Skin") "full"
  no_Skin_sides : NoAttr K (He.ga K "Skin") "sides"
  no_Skin_seams : NoAttr K (He.ga K "Skin") "seams"
  no_Skin_mates : NoAttr K (He.ga K "Skin") "mates"
  no_Skin_nexts : NoAttr K (He.ga K "Skin") "nexts"
  no_Skin_backs : NoAttr K (He.ga K "Skin") "backs"
  no_Skin_free : NoAttr K (He.ga K "Skin") "free"
  me_Skin_need_side : Meth K (He.ga K "Skin") "need_side" (He.ma K (He.ga K "Skin") "need_side")
  me_Skin_mate : Meth K (He.ga K "Skin") "mate" (He.ma K (He.ga K "Skin") "mate")
  me_Skin_with_seams : Meth K (He.ga K "Skin") "with_seams" (He.ma K (He.ga K "Skin") "with_seams")
  me_Skin_str : Meth K (He.ga K "Skin") "__str__" (He.ma K (He.ga K "Skin") "__str__")
  ex_BadKind : PySem.W.exmOne K (.ref (He.ga K "BadKind")) (.ref (He.ga K "SewError")) = some true
  ex_BadSkin : PySem.W.exmOne K (.ref (He.ga K "BadSkin")) (.ref (He.ga K "SewError")) = some true
  ex_Twice : PySem.W.exmOne K (.ref (He.ga K "Twice")) (.ref (He.ga K "SewError")) = some true
  ex_TooMany : PySem.W.exmOne K (.ref (He.ga K "TooMany")) (.ref (He.ga K "SewError")) = some true
  kinds : ∀ H, SqT K H (He.ga K "KINDS") [.str "square", .str "triangle"]
  dfl : ∃ od n sl, K.lookup (dflA K) = some ⟨.type "tuple", od, .seq #[] n, sl⟩
  er_BadKind : ErrC K "BadKind" ["part"]
  ki_BadKind : Kits K "BadKind" [("BadNumber", false), ("BadSheet", false), ("NoSide", false), ("BadKind", true), ("BadSkin", false), ("Twice", false), ("TooMany", false)]
  er_BadSkin : ErrC K "BadSkin" ["part"]
  ki_BadSkin : Kits K "BadSkin" [("BadNumber", false), ("BadSheet", false), ("NoSide", false), ("BadKind", false), ("BadSkin", true), ("Twice", false), ("TooMany", false)]
  er_Twice : ErrC K "Twice" ["value"]
  ki_Twice : Kits K "Twice" [("BadNumber", false), ("BadSheet", false), ("NoSide", false), ("BadKind", false), ("BadSkin", false), ("Twice", true), ("TooMany", false)]
  er_TooMany : ErrC K "TooMany" ["what", "most"]
  ki_TooMany : Kits K "TooMany" [("BadNumber", false), ("BadSheet", false), ("NoSide", false), ("BadKind", false), ("BadSkin", false), ("Twice", false), ("TooMany", true)]
  tabs : tabsNe K = true
def exl (K : PySem.W.Frag) : List Bool := [He.tupB K "KINDS" [.str "square", .str "triangle"], dfl0 K, errB K "BadKind" ["part"], kitsB K "BadKind" [("BadNumber", false), ("BadSheet", false), ("NoSide", false), ("BadKind", true), ("BadSkin", false), ("Twice", false), ("TooMany", false)], errB K "BadSkin" ["part"], kitsB K "BadSkin" [("BadNumber", false), ("BadSheet", false), ("NoSide", false), ("BadKind", false), ("BadSkin", true), ("Twice", false), ("TooMany", false)], errB K "Twice" ["value"], kitsB K "Twice" [("BadNumber", false), ("BadSheet", false), ("NoSide", false), ("BadKind", false), ("BadSkin", false), ("Twice", true), ("TooMany", false)], errB K "TooMany" ["what", "most"], kitsB K "TooMany" [("BadNumber", false), ("BadSheet", false), ("NoSide", false), ("BadKind", false), ("BadSkin", false), ("Twice", false), ("TooMany", true)], tabsNe K]
theorem exx {K : PySem.W.Frag} (h : ex K = true) {i : Nat} {b : Bool} (e : (exl K)[i]? = some b) : b = true := List.all_eq_true.mp (show (exl K).all id = true from h) b (List.mem_of_getElem? e)
theorem txt_of {w : World} {K : PySem.W.Frag} {h : Heap} {mg : Str → Option Value} (X : K.In h) (G : h.Ns mainGlobals mg) (c : He.SaysX fa fn [] tf ex w h K) : Txt K mg :=
  ⟨He.glo_ok X G (c.t.d.fact 1 (f := .glo "SewError") rfl),
   He.glo_ok X G (c.t.d.fact 2 (f := .glo "BadKind") rfl),
   He.glo_ok X G (c.t.d.fact 3 (f := .glo "BadSkin") rfl),
   He.glo_ok X G (c.t.d.fact 4 (f := .glo "BadSheet") rfl),
   He.glo_ok X G (c.t.d.fact 5 (f := .glo "BadNumber") rfl),
   He.glo_ok X G (c.t.d.fact 6 (f := .glo "Missing") rfl),
   He.glo_ok X G (c.t.d.fact 7 (f := .glo "NoSide") rfl),
   He.glo_ok X G (c.t.d.fact 8 (f := .glo "Twice") rfl),
   He.glo_ok X G (c.t.d.fact 9 (f := .glo "TooMany") rfl),
   He.glo_ok X G (c.t.d.fact 10 (f := .glo "BadText") rfl),
   He.glo_ok X G (c.t.d.fact 28 (f := .glo "Skin") rfl),
   He.glo_ok X G (c.t.d.fact 42 (f := .glo "KINDS") rfl),
   He.int_ok X G (c.t.d.fact 43 (f := .int "LONGEST_NUMBER" 60) rfl),
   He.int_ok X G (c.t.d.fact 44 (f := .int "MOST_FACES" 24) rfl),
   He.free_ok X G (c.t.d.fact 45 (f := .free "ValueError") rfl),
   He.free_ok X G (c.t.d.fact 46 (f := .free "abs") rfl),
   He.free_ok X G (c.t.d.fact 47 (f := .free "all") rfl),
   He.free_ok X G (c.t.d.fact 48 (f := .free "bool") rfl),
   He.free_ok X G (c.t.d.fact 49 (f := .free "int") rfl),
   He.free_ok X G (c.t.d.fact 50 (f := .free "isinstance") rfl),
   He.free_ok X G (c.t.d.fact 51 (f := .free "len") rfl),
   He.free_ok X G (c.t.d.fact 52 (f := .free "list") rfl),
   He.free_ok X G (c.t.d.fact 53 (f := .free "max") rfl),
   He.free_ok X G (c.t.d.fact 54 (f := .free "min") rfl),
   He.free_ok X G (c.t.d.fact 55 (f := .free "range") rfl),
   He.free_ok X G (c.t.d.fact 56 (f := .free "set") rfl),
   He.free_ok X G (c.t.d.fact 57 (f := .free "sorted") rfl),
   He.free_ok X G (c.t.d.fact 58 (f := .free "staticmethod") rfl),
   He.free_ok X G (c.t.d.fact 59 (f := .free "str") rfl),
   He.free_ok X G (c.t.d.fact 60 (f := .free "tuple") rfl),
   He.cls_ok (c.t.d.fact 61 (f := .cls "Skin") rfl),
   He.mkr_ok (c.t.d.fact 62 (f := .mkr "Skin") rfl),
   He.noat_ok (c.t.d.fact 63 (f := .noat "Skin" "kind") rfl),
   He.noat_ok (c.t.d.fact 64 (f := .noat "Skin" "faces") rfl),
   He.noat_ok (c.t.d.fact 65 (f := .noat "Skin" "turn") rfl),
   He.noat_ok (c.t.d.fact 66 (f := .noat "Skin" "full") rfl),
   He.noat_ok (c.t.d.fact 67 (f := .noat "Skin" "sides") rfl),
   He.noat_ok (c.t.d.fact 68 (f := .noat "Skin" "seams") rfl),
   He.noat_ok (c.t.d.fact 69 (f := .noat "Skin" "mates") rfl),
   He.noat_ok (c.t.d.fact 70 (f := .noat "Skin" "nexts") rfl),
   He.noat_ok (c.t.d.fact 71 (f := .noat "Skin" "backs") rfl),
   He.noat_ok (c.t.d.fact 72 (f := .noat "Skin" "free") rfl),
   He.meth_ok (c.t.d.fact 73 (f := .meth "Skin" "need_side") rfl),
   He.meth_ok (c.t.d.fact 74 (f := .meth "Skin" "mate") rfl),
   He.meth_ok (c.t.d.fact 75 (f := .meth "Skin" "with_seams") rfl),
   He.meth_ok (c.t.d.fact 76 (f := .meth "Skin" "__str__") rfl),
   He.exm_ok (c.t.d.fact 77 (f := .exm "BadKind" "SewError" true) rfl),
   He.exm_ok (c.t.d.fact 78 (f := .exm "BadSkin" "SewError" true) rfl),
   He.exm_ok (c.t.d.fact 79 (f := .exm "Twice" "SewError" true) rfl),
   He.exm_ok (c.t.d.fact 80 (f := .exm "TooMany" "SewError" true) rfl),
   fun H => He.tupB_ok (exx c.more (i := 0) rfl) H,
   dfl0_ok (exx c.more (i := 1) rfl),
   errC_of (exx c.more (i := 2) rfl),
   kits_of (exx c.more (i := 3) rfl),
   errC_of (exx c.more (i := 4) rfl),
   kits_of (exx c.more (i := 5) rfl),
   errC_of (exx c.more (i := 6) rfl),
   kits_of (exx c.more (i := 7) rfl),
   errC_of (exx c.more (i := 8) rfl),
   kits_of (exx c.more (i := 9) rfl),
   exx c.more (i := 10) rfl⟩
end K05

namespace Vf
open PySem PySem.Spec PyProof.Rows L2
/-! ### min, max of a tuple of two ints; str of an own object -/
section
variable {X : Cx}
theorem alike_two {i j : Int} : PySem.W.AlikeAll [.int i, .int j] := by
  refine ⟨fun x hx y hy => ?_, fun x hx => ?_⟩
  · simp only [List.mem_cons, List.not_mem_nil, or_false] at hx hy
    rcases hx with rfl | rfl <;> rcases hy with rfl | rfl <;> simp [PySem.W.alike]
  · simp only [List.mem_cons, List.not_mem_nil, or_false] at hx
    rcases hx with rfl | rfl <;> exact fun z => nomatch z
theorem depth_two {i j : Int} : PyData.depthAll [.int i, .int j] ≤ 2 := by simp [PyData.depthAll, PyData.depth]
theorem lt_ints {i j : Int} : PySem.W.dataLt (.int i) (.int j) = decide (i < j) := by
  unfold PySem.W.dataLt
  simp [PySem.W.keyToks, PyProof.Rows.lexLt]
  rfl
def rMinT (K : PySem.W.Frag) : List V → Hp → VK → Prop := fun vs H Q => ∃ (a : Addr) (i j : Int), vs = [.ref a] ∧ SqT K H a [.int i, .int j] ∧ Q (.int (if j < i then j else i)) H
def rMaxT (K : PySem.W.Frag) : List V → Hp → VK → Prop := fun vs H Q => ∃ (a : Addr) (i j : Int), vs = [.ref a] ∧ SqT K H a [.int i, .int j] ∧ Q (.int (if i < j then j else i)) H
theorem cr_minT (hc : X.calm = true) (hu : X.A.units + 64 < cLine) : CallR X (.builtin "min") (rMinT X.K) := by
  intro pins s σ H vs us Q I r h
  obtain ⟨a, i, j, rfl, hs, q⟩ := h
  obtain ⟨its, rv, hl, _⟩ := I.tuple hs
  rw [Vals.ref1 r]
  obtain ⟨u1, u2, rfl, ⟨t1, rfl⟩, ⟨t2, rfl⟩⟩ := vals2 rv
  refine PySem.W.min_tuple_data (as := []) (x := .int i) (xs := [.int j]) (I.ok.hd hc) hl (.cons (.int ..) (.cons (.int ..) .nil)) alike_two (by have := depth_two (i := i) (j := j); omega) fun n v h' tk bs hv hr hk => ?_
  have e : PySem.W.minD (.int i) [.int j] = .int (if j < i then j else i) := by
    show (if PySem.W.dataLt (.int j) (.int i) = true then PyData.int j else PyData.int i) = _
    rw [lt_ints]
    by_cases h : j < i
    · rw [if_pos (decide_eq_true h), if_pos h]
    · rw [if_neg (by simpa using h), if_neg h]
  rw [e] at hr
  cases hr
  exact ⟨.int _, H, I.kept hk, ⟨_, rfl⟩, q⟩
theorem cr_maxT (hc : X.calm = true) (hu : X.A.units + 64 < cLine) : CallR X (.builtin "max") (rMaxT X.K) := by
  intro pins s σ H vs us Q I r h
  obtain ⟨a, i, j, rfl, hs, q⟩ := h
  obtain ⟨its, rv, hl, _⟩ := I.tuple hs
  rw [Vals.ref1 r]
  obtain ⟨u1, u2, rfl, ⟨t1, rfl⟩, ⟨t2, rfl⟩⟩ := vals2 rv
  refine PySem.W.max_tuple_data (as := []) (x := .int i) (xs := [.int j]) (I.ok.hd hc) hl (.cons (.int ..) (.cons (.int ..) .nil)) alike_two (by have := depth_two (i := i) (j := j); omega) fun n v h' tk bs hv hr hk => ?_
  have e : PySem.W.maxD (.int i) [.int j] = .int (if i < j then j else i) := by
    show (if PySem.W.dataLt (.int i) (.int j) = true then PyData.int j else PyData.int i) = _
    rw [lt_ints]
    by_cases h : i < j
    · rw [if_pos (decide_eq_true h), if_pos h]
    · rw [if_neg (by simpa using h), if_neg h]
  rw [e] at hr
  cases hr
  exact ⟨.int _, H, I.kept hk, ⟨_, rfl⟩, q⟩
/-- str(o), o's class with its own __str__ -/
def rStrO (C : Addr) (sp : Sp) : List V → Hp → VK → Prop := fun xs H Q => ∃ (a dx : Addr) (fs : List (Str × V)), xs = [.ref a] ∧ H a = some (.ins C dx fs) ∧ sp [.ref a] H (fun v H' => ∃ z, v = .str z ∧ Q (.str z) H') (fun _ _ _ => False)
theorem call_strO {C f : Addr} {k : Nat} {fd : FuncData} {ps : List Str} {sp : Sp} (M : Meth X.K C "__str__" f) (F : FnOk X.prog X.w X.K X.mg X.base CX0 k f fd ps sp) (hb : Binds X.K fd ps []) (hr : Room (k + 2) X.A) : CallR X (.type "str") (rStrO C sp) := by
  intro pins s σ H xs us Q I r h
  obtain ⟨a, dx, fs, rfl, e, h⟩ := h
  rw [Vals.ref1 r]
  obtain ⟨mA, O, _⟩ := ins_get I.hok e
  obtain ⟨od, J, _⟩ := O.look
  have hr2 : Room k X.A.in1.in1 := hr.in1.in1
  refine PySem.W.kso_call hr2.units0 I.kIn J M.at_ M.fn ?_
  have e0 : Env0 X.prog X.w X.K X.mg X.base X.A.in1.in1 X.stack s H := ⟨I.env0.frames, I.env0.mod, I.env0.bs, I.env0.bsz, I.env0.funs, I.env0.frf, I.env0.hok, I.env0.bare⟩
  refine wpAny_call (codeAny_mono (F.run X.A.in1.in1 X.stack s H ⟨[.ref a], []⟩ [.ref a] [.ref a] _ _ hr2 e0 (hb s [.ref a] I.kIn (F.len _ _ _ _ h)) (.cons rfl .nil) h) fun r s' hq => ?_)
  cases r with
  | error e => exact (show False from hq).elim
  | ok fl =>
    cases fl with
    | ret u =>
      obtain ⟨v, H', os, bare, un, hok, rv, z, rfl, q⟩ := hq
      obtain ⟨t, rfl⟩ := rv
      exact I.after ⟨.str z, H', os, bare, un, hok, ⟨t, rfl⟩, q⟩
    | next => exact False.elim hq
    | brk => exact False.elim hq
    | cont => exact False.elim hq
end
/-! ### isinstance of the exception that a suite holds, its fields told -/
def rIsZ (K : PySem.W.Frag) (a : Addr) (cls : Value) (d : Option Addr) : List V → Hp → VK → Prop := fun xs H Q => ∃ (c : V) (u : Value) (D dd : Addr) (fs : List (Str × V)) (b : Bool), xs = [.ref a, c] ∧ ClsV c u ∧ cls = .ref D ∧ d = some dd ∧ H dd = some (.xd fs) ∧ ExcC K D ∧ PySem.W.kitOne K (.ref D) u = some b ∧ Q (.bl b) H
def rIsZT (K : PySem.W.Frag) (a : Addr) (cls : Value) (d : Option Addr) : List V → Hp → VK → Prop := fun xs H Q => ∃ (tp : Addr) (cs : List V) (us : List Value) (D dd : Addr) (fs : List (Str × V)) (b : Bool), xs = [.ref a, .ref tp] ∧ H tp = some (.tup cs) ∧ Paired ClsV cs us ∧ cls = .ref D ∧ d = some dd ∧ H dd = some (.xd fs) ∧ ExcC K D ∧ PySem.W.kitAny K (.ref D) us = some b ∧ Q (.bl b) H
section
variable {X : Cx} {a : Addr} {oe : Obj} {cls : Value} {d : Option Addr} {pn : List (Addr × Obj)}
theorem inst_held {pins : List (Addr × Obj)} {σ : L2.St} {H : Hp} {s : Shared} {D dd : Addr} {fs : List (Str × V)} (hz : Zc cls d oe) (hf : ∃ vs, oe.data = .fields vs) (I : Inv (X.suite a ((a, oe) :: pn)) pins σ H s) (e1 : cls = .ref D) (e2 : d = some dd) (hd : H dd = some (.xd fs)) :
    ∃ o : Obj, PySem.W.InstAt s.heap a oe D (some o) := by
  obtain ⟨hget, _⟩ := I.pin (a, oe) (List.mem_append.mpr (.inl List.mem_cons_self))
  obtain ⟨vs, hv⟩ := hf
  obtain ⟨m, ⟨o, es, ep, ho, _⟩, _⟩ := (show ObjOk _ _ H s.heap dd (.xd fs) from I.hok dd _ hd)
  refine ⟨o, ?_⟩
  obtain ⟨oc, od, oda, osl⟩ := oe
  obtain ⟨h1, h2⟩ := hz
  dsimp only at h1 h2 hv
  subst h1 h2 hv e1 e2
  exact ⟨hget, rfl, rfl, ho⟩
theorem kit_held {K : PySem.W.Frag} {D : Addr} {o : Obj} (C : ExcC K D) : PySem.W.KitX K (.ref a) (.ref D) fun h => PySem.W.InstAt h a oe D (some o) := by
  refine PySem.W.kitx_exc ?_ C.hg C.hk C.hs C.ha C.hn C.ht C.hm
  obtain ⟨cd, hc, _⟩ := PySem.W.any_some C.hd
  rw [hc] <;> rfl
theorem call_isZ (hz : Zc cls d oe) (hf : ∃ vs, oe.data = .fields vs) : CallR (X.suite a ((a, oe) :: pn)) (.builtin "isinstance") (rIsZ X.K a cls d) := by
  intro pins s σ H xs us Q I r h
  obtain ⟨c, u, D, dd, fs, b, rfl, k, e1, e2, hd, C, e, q⟩ := h
  obtain ⟨u1, u2, rfl, r1, r2⟩ := vals2 r
  have e3 := k.eq r2
  subst e3
  cases (show u1 = Value.ref a from r1)
  obtain ⟨o, J⟩ := inst_held hz hf I e1 e2 hd
  exact PySem.W.kia_one (kit_held C) I.kIn J e (fun z => nomatch z) fun tk => ⟨.bl b, H, I.tok tk, rfl, q⟩
theorem call_isZT (hz : Zc cls d oe) (hf : ∃ vs, oe.data = .fields vs) : CallR (X.suite a ((a, oe) :: pn)) (.builtin "isinstance") (rIsZT X.K a cls d) := by
  intro pins s σ H xs us Q I r h
  obtain ⟨tp, cs, ws, D, dd, fs, b, rfl, hT, k, e1, e2, hd, C, e, q⟩ := h
  obtain ⟨u1, u2, rfl, r1, r2⟩ := vals2 r
  cases (show u2 = Value.ref tp from r2)
  cases (show u1 = Value.ref a from r1)
  obtain ⟨o, J⟩ := inst_held hz hf I e1 e2 hd
  obtain ⟨_, its, rv, o2, h1, h2, n, h3⟩ := (show ObjOk _ _ H s.heap tp (.tup cs) from I.hok tp _ hT)
  have e3 := ClsV.all k rv
  subst e3
  obtain ⟨oc, od, dt, sl⟩ := o2
  simp only at h2 h3
  subst h2 h3
  exact PySem.W.kia_tup (kit_held C) I.kIn J h1 e (fun z => nomatch z) fun tk => ⟨.bl b, H, I.tok tk, rfl, q⟩
end
/-! ### kinds of values -/
inductive Kd where
  | int | str | bool | none | list | tuple | dict
def Kd.nm : Kd → String
  | .int => "int"
  | .str => "str"
  | .bool => "bool"
  | .none => "NoneType"
  | .list => "list"
  | .tuple => "tuple"
  | .dict => "dict"
def KdV (K : PySem.W.Frag) (H : Hp) : V → Kd → Prop
  | .int _, .int => True
  | .str _, .str => True
  | .bl _, .bool => True
  | .non, .none => True
  | .ref a, .list => ∃ xs, H a = some (.lst xs)
  | .ref a, .tuple => (∃ xs, H a = some (.tup xs)) ∨ ∃ o, K.lookup a = some o ∧ o.cls = .type "tuple"
  | .ref a, .dict => ∃ kvs, H a = some (.dK kvs)
  | _, _ => False
theorem KdV.ext {K : PySem.W.Frag} {H H' : Hp} {v : V} {k : Kd} (h : KdV K H v k) (s : ∀ a o, v = .ref a → H a = some o → (∀ ps, o ≠ .tbl ps) → H' a = some o) : KdV K H' v k := by
  cases v <;> cases k <;> first | exact h | exact h.elim | skip
  · obtain ⟨xs, e⟩ := h
    exact ⟨xs, s _ _ rfl e fun _ z => nomatch z⟩
  · rcases h with ⟨xs, e⟩ | h
    · exact .inl ⟨xs, s _ _ rfl e fun _ z => nomatch z⟩
    · exact .inr h
  · obtain ⟨xs, e⟩ := h
    exact ⟨xs, s _ _ rfl e fun _ z => nomatch z⟩
theorem KdV.same {K : PySem.W.Frag} {H H' : Hp} {v : V} {k : Kd} (h : KdV K H v k) (s : Same H H') : KdV K H' v k := h.ext fun a o _ e _ => s a o e
theorem KdV.ty {K : PySem.W.Frag} {H : Hp} {v : V} {k : Kd} (h : KdV K H v k) : TyX K H v (.type k.nm) := by
  cases v <;> cases k <;> first | exact h.elim | skip
  · exact .base .non
  · exact .base (.bl _)
  · exact .base (.int _)
  · exact .base (.str _)
  · obtain ⟨xs, e⟩ := h
    exact .base (.lst e)
  · rcases h with ⟨xs, e⟩ | ⟨o, e, c⟩
    · exact .base (.tup e)
    · exact .kTuple e c
  · obtain ⟨xs, e⟩ := h
    exact .base (.dK e)
def Kd.is (T : String) : Kd → Bool
  | .int => T == "int"
  | .str => T == "str"
  | .bool => T == "bool" || T == "int"
  | .list => T == "list"
  | .tuple => T == "tuple"
  | .dict => T == "dict"
  | .none => false
theorem kd_is {K : PySem.W.Frag} {k : Kd} {T : String} (hT : T ∈ kinds5) : PySem.W.kitOne K (.type k.nm) (.type T) = some (k.is T) := by
  cases k <;>
  · simp only [kinds5, List.mem_cons, List.not_mem_nil, or_false] at hT
    rcases hT with rfl | rfl | rfl | rfl | rfl <;> exact kit_ty (by decide +kernel)
def Kd.seq (k : Kd) : Bool := k.is "list" || k.is "tuple"
theorem kd_seq {K : PySem.W.Frag} {k : Kd} : PySem.W.kitAny K (.type k.nm) [.type "list", .type "tuple"] = some k.seq := by
  refine kitAny_cons (kd_is (by decide)) (fun e => ?_) (fun e => by unfold Kd.seq; rw [e]; rfl)
  unfold Kd.seq
  rw [e, Bool.false_or]
  refine kitAny_cons (kd_is (by decide)) (fun e => ?_) (fun e => e)
  rw [e]
  exact kitAny_nil
end Vf
namespace Vf
open PySem PySem.Spec PyProof.Rows L2
theorem sqT_same {K : PySem.W.Frag} {H H' : Hp} {a : Addr} {xs : List V} (h : SqT K H a xs) (s : Same H H') : SqT K H' a xs := by
  rcases h with (h | ⟨o, h⟩) | h
  · exact .inl (.inl (s _ _ h))
  · exact .inl (.inr ⟨o, s _ _ h⟩)
  · exact .inr h
theorem sqL_same {K : PySem.W.Frag} {H H' : Hp} {a : Addr} {xs : List V} (h : SqL K H a xs) (s : Same H H') : SqL K H' a xs := by
  rcases h with (h | ⟨o, h⟩) | h
  · exact .inl (.inl (s _ _ h))
  · exact .inl (.inr ⟨o, s _ _ h⟩)
  · exact .inr h
/-! ### the rules whose readings name the written part, it told -/
section
variable {X : Cx} {K : PySem.W.Frag}
theorem pe_fldK {a : Expr} {f : Str} {pos : Pos} {ta : TE} (hK : X.K = K) (ha : PE X a ta) (hb : attributeBase a f X.env (eval a X.env) = eval a X.env) : PE X (.Attribute a f pos) (tFld K ta f) := by
  subst hK
  exact pe_fld ha hb
theorem cr_minTK (hK : X.K = K) (hc : X.calm = true) (hu : X.A.units + 64 < cLine) : CallR X (.builtin "min") (rMinT K) := by
  subst hK
  exact cr_minT hc hu
theorem cr_maxTK (hK : X.K = K) (hc : X.calm = true) (hu : X.A.units + 64 < cLine) : CallR X (.builtin "max") (rMaxT K) := by
  subst hK
  exact cr_maxT hc hu
theorem ix_tupK (hK : X.K = K) : IxR X (rIxT K) := by
  subst hK
  exact ix_tup
theorem ix_listK (hK : X.K = K) : IxR X (rIxL K) := by
  subst hK
  exact ix_list
theorem pg_tupK {es : List Expr} {k : Nat} {pos : Pos} {t : TGs} {n : Nat} (hK : X.K = K) (hc : X.calm = true) (h : PGs X es t)
    (hn : (assignEach es X.env).length = n := by rfl) (hst : (assignEach es X.env).findIdx? (·.1) = none := by rfl) : PG X (.Tuple es k pos) (gTup K n t) := by
  subst hK
  exact pg_tup hc h hn hst
theorem op_in_seqK (hK : X.K = K) : OpR X (compareOp .In) (rIn K false) := by
  subst hK
  exact op_in_seq
theorem op_notIn_seqK (hK : X.K = K) : OpR X (compareOp .NotIn) (rIn K true) := by
  subst hK
  exact op_notIn_seq
end
/-- a method of an own class, by its class and name -/
def HasM (P : Program) (w : World) (K : PySem.W.Frag) (mg : Str → Option Value) (base : Heap) (CX : CXT) (x m : Str) (k : Nat) (ps : List Str) (sp : Sp) : Prop :=
  ∃ fd : FuncData, FnOk P w K mg base CX k (He.ma K (He.ga K x) m) fd ps sp ∧ Binds K fd ps []
/-- f(k = v, ..) of a def with defaults: n positional values, keywords ks; g puts positional values, defaults, keywords' values in the parameters' order -/
theorem kbn_dfl {K : PySem.W.Frag} {x qual : Str} {params : Arguments} {body : List Stmt} {scope : Scope} {dvs : List V} {f : Addr} {fd : FuncData} {ps : List Str} (F : FunD K x qual params body scope dvs [] f fd) (n : Nat) (ks : List Str) (g : {α : Type} → List α → List α → List α → List α) (hd : dvs ≠ [])
    (hrel : ∀ {vs ds zs : List V} {us its ws : List Value}, Vals vs us → Vals ds its → Vals zs ws → Vals (g vs ds zs) (g us its ws))
    (h : ∀ (T : Addr) (kV doc pm : Value) (an : Option Addr) (cdv ct : Value) (us its ws : List Value), us.length = n → its.length = dvs.length → ws.length = ks.length →
      ∃ k, bindArgs (PySem.W.fnOf x qual params body scope (.ref T) kV doc pm an cdv ct) ⟨us, ks.zip ws⟩ = seqItems? (.ref T) >>= k ∧ k (some its.toArray) = pure (ps.zip (g us its ws))) :
    ∃ its : List Value, KBn K fd ps n ks (fun us ws => g us its ws) (fun vs zs => g vs dvs zs) := by
  obtain ⟨oc, od, dV, kV, doc, pm, an, cdv, ct, osl, rfl, lk, hcd, hD, hK⟩ := F.ex
  rcases hD with ⟨e, _⟩ | ⟨_, T, o, its, m, rfl, lT, oT, rT⟩
  · exact absurd e hd
  · refine ⟨its, ⟨fun s us ws X l1 l2 => ?_, fun r1 r2 => hrel r1 rT r2⟩⟩
    obtain ⟨k, e1, e2⟩ := h T kV doc pm an cdv ct us its ws l1 rT.length.symm l2
    refine BindsTo.of_looks fun M => ?_
    rw [e1]
    exact looks_items X lT oT (.of_pure e2)
end Vf
namespace K05
open PySem PySem.Spec PyProof.Rows L2 Vf
def gSK {α : Type} : List α → List α → List α → List α := fun us ds ws => match us, ds, ws with
  | [s], [d], [f, k] => [s, k, f, d]
  | _, _, _ => []
theorem gSK_rel {vs ds zs : List V} {us its ws : List Value} (h1 : Vals vs us) (h2 : Vals ds its) (h3 : Vals zs ws) : Vals (gSK vs ds zs) (gSK us its ws) := by
  cases h1 with
  | nil => exact .nil
  | cons r1 h1 =>
    cases h1 with
    | cons _ _ => exact .nil
    | nil =>
      cases h2 with
      | nil => exact .nil
      | cons r2 h2 =>
        cases h2 with
        | cons _ _ => exact .nil
        | nil =>
          cases h3 with
          | nil => exact .nil
          | cons r3 h3 =>
            cases h3 with
            | nil => exact .nil
            | cons r4 h3 =>
              cases h3 with
              | cons _ _ => exact .nil
              | nil => exact .cons r1 (.cons r4 (.cons r3 (.cons r2 .nil)))
/-- Skin's __init__ and how its arguments come -/
def HasI (P : Program) (w : World) (K : PySem.W.Frag) (mg : Str → Option Value) (base : Heap) (k : Nat) (sp : Sp) : Prop :=
  ∃ fd : FuncData, FnOk P w K mg base (L2.CX P w) k (He.ma K (He.ga K "Skin") "__init__") fd ["self", "kind", "faces", "seams"] sp ∧ Binds K fd ["self", "kind", "faces", "seams"] [] ∧
    (∃ ds : List Value, Vals [.ref (dflA K)] ds ∧ Binds K fd ["self", "kind", "faces", "seams"] ds) ∧ ∃ its : List Value, True ∧ KBn K fd ["self", "kind", "faces", "seams"] 1 ["faces", "kind"] (fun us ws => gSK us its ws) (fun vs zs => gSK vs [.ref (dflA K)] zs)
theorem bindsI {K : PySem.W.Frag} {f : Addr} {fd : FuncData} (F : FunD K "__init__" "Skin.__init__" (defArgs s_Skin_init) (defBody s_Skin_init) (defScope s_Skin_init) [.ref (dflA K)] [] f fd) :
    Binds K fd ["self", "kind", "faces", "seams"] [] ∧ (∃ ds : List Value, Vals [.ref (dflA K)] ds ∧ Binds K fd ["self", "kind", "faces", "seams"] ds) ∧
      ∃ its : List Value, True ∧ KBn K fd ["self", "kind", "faces", "seams"] 1 ["faces", "kind"] (fun us ws => gSK us its ws) (fun vs zs => gSK vs [.ref (dflA K)] zs) := by
  refine ⟨?_, ?_, ?_⟩
  · obtain ⟨ds, r, b⟩ := FunD.binds1 (ps := ["self", "kind", "faces", "seams"]) F 4 1 (by simp) rfl (fun T kV doc pm an cdv ct us its h1 h2 => match us, its, h1, h2 with
      | [_, _, _, _], [_], _, _ => ⟨_, rfl, rfl⟩)
    cases r
    exact b
  · exact FunD.binds1 (ps := ["self", "kind", "faces", "seams"]) F 3 0 (by simp) rfl (fun T kV doc pm an cdv ct us its h1 h2 => match us, its, h1, h2 with
      | [_, _, _], [_], _, _ => ⟨_, rfl, rfl⟩)
  · obtain ⟨its, k⟩ := kbn_dfl (ps := ["self", "kind", "faces", "seams"]) F 1 ["faces", "kind"] gSK (by simp) gSK_rel (fun T kV doc pm an cdv ct us its ws h1 h2 h3 => match us, its, ws, h1, h2, h3 with
      | [_], [_], [_, _], _, _, _ => ⟨_, rfl, rfl⟩)
    exact ⟨its, True.intro, k⟩
end K05

namespace K05
open PySem PySem.Spec PyProof.Rows L2 Vf LamX
section
variable {hh : Heap} {P : Program} {w : World} {K : PySem.W.Frag} {mg : Str → Option Value} {base : Heap}
/-! ### what the checks tell -/
def isI : V → Bool
  | .int _ => true
  | _ => false
def isB : V → Bool
  | .bl _ => true
  | _ => false
def isS : V → Bool
  | .str _ => true
  | _ => false
theorem kd_int {H : Hp} {v : V} {k : Kd} (h : KdV K H v k) : k.is "int" = (isI v || isB v) := by
  cases v <;> cases k <;> first | rfl | exact h.elim
theorem kd_bool {H : Hp} {v : V} {k : Kd} (h : KdV K H v k) : k.is "bool" = isB v := by
  cases v <;> cases k <;> first | rfl | exact h.elim
theorem kd_str {H : Hp} {v : V} {k : Kd} (h : KdV K H v k) : k.is "str" = isS v := by
  cases v <;> cases k <;> first | rfl | exact h.elim
def isGrid (v : V) : Bool := isS v && inV v [.str "square", .str "triangle"]
def sp_is_grid (K : PySem.W.Frag) : Sp := fun vs H Q _ => ∃ (v : V) (k : Kd), vs = [v] ∧ KdV K H v k ∧ Q (.bl (isGrid v)) H
theorem sc_is_grid : FnScope ["value"] ["value"] (defScope s_is_grid) := ⟨rfl, rfl, rfl, by decide +kernel, rfl, by decide +kernel, by decide +kernel⟩
theorem ok_is_grid {f : Addr} {fd : FuncData} (F : FunD K "is_grid" "is_grid" (defArgs s_is_grid) (defBody s_is_grid) (defScope s_is_grid) [] [] f fd) (Tx : Txt K mg)   : FnOk P w K mg base CX0 1 f fd ["value"] (sp_is_grid K) := by
  refine FunD.ok F sc_is_grid (fun vs H Q E h => ?_) (fun cdv A outer s H vs Q E hr h => ?_)
  · obtain ⟨v, k, rfl, _⟩ := h
    rfl
  · obtain ⟨v, k, rfl, hk, q⟩ := h
    refine ⟨_, PSs.nox (pss_one (ps_ret (pe_and (pe_callB call_isi (by rfl) Tx.n_isinstance (by decide +kernel) (pa_cons (pv 0) (pa_cons (pe_bltn (v := .ty "str") (by rfl) Tx.n_str (by decide +kernel) rfl) pa_nil))) (pe_one (pe_cmpR op_in_seq (pv 0) (pe_glob (v := .ref (He.ga K "KINDS")) (by rfl) Tx.g_KINDS rfl) rfl))))), ?_⟩
    refine ⟨_, rfl, v, _, _, _, _, rfl, .ty "str", hk.ty, kd_is (by decide), _, rfl, ?_⟩
    rw [kd_str hk]
    cases v with
    | str z => exact ⟨_, rfl, _, _, rfl, .inr (Tx.kinds _), rfl, rfl, q⟩
    | _ => exact q
theorem has_is_grid (Tx : Txt K mg) (c : He.SaysX fa fn [] tf ex w hh K) (X : K.In hh) (GG : hh.Ns mainGlobals mg)   : Has P w K mg base "is_grid" 1 ["value"] (sp_is_grid K) := by
  obtain ⟨fd, F⟩ := c.t.d.def_ 9 (d := d_is_grid) rfl
  exact ⟨_, fd, ok_is_grid F Tx , He.glo_ok X GG (c.t.d.fact 11 (f := .glo "is_grid") rfl), F.kp, F.bindsN fun _ _ _ _ _ _ us hl => match us, hl with | [_], _ => rfl⟩
def sp_is_integer (K : PySem.W.Frag) : Sp := fun vs H Q _ => ∃ (v : V) (k : Kd), vs = [v] ∧ KdV K H v k ∧ Q (.bl (isI v)) H
theorem sc_is_integer : FnScope ["value"] ["value"] (defScope s_is_integer) := ⟨rfl, rfl, rfl, by decide +kernel, rfl, by decide +kernel, by decide +kernel⟩
theorem ok_is_integer {f : Addr} {fd : FuncData} (F : FunD K "is_integer" "is_integer" (defArgs s_is_integer) (defBody s_is_integer) (defScope s_is_integer) [] [] f fd) (Tx : Txt K mg)   : FnOk P w K mg base CX0 1 f fd ["value"] (sp_is_integer K) := by
  refine FunD.ok F sc_is_integer (fun vs H Q E h => ?_) (fun cdv A outer s H vs Q E hr h => ?_)
  · obtain ⟨v, k, rfl, _⟩ := h
    rfl
  · obtain ⟨v, k, rfl, hk, q⟩ := h
    refine ⟨_, PSs.nox (pss_one (ps_ret (pe_and (pe_callB call_isi (by rfl) Tx.n_isinstance (by decide +kernel) (pa_cons (pv 0) (pa_cons (pe_bltn (v := .ty "int") (by rfl) Tx.n_int (by decide +kernel) rfl) pa_nil))) (pe_one (pe_not (pe_callB call_isi (by rfl) Tx.n_isinstance (by decide +kernel) (pa_cons (pv 0) (pa_cons (pe_bltn (v := .ty "bool") (by rfl) Tx.n_bool (by decide +kernel) rfl) pa_nil)))))))), ?_⟩
    refine ⟨_, rfl, v, _, _, _, _, rfl, .ty "int", hk.ty, kd_is (by decide), _, rfl, ?_⟩
    rw [kd_int hk]
    refine ite2 (fun e => ?_) (fun e => ?_)
    · refine ⟨_, rfl, v, _, _, _, _, rfl, .ty "bool", hk.ty, kd_is (by decide), _, rfl, ?_⟩
      rw [kd_bool hk]
      cases v <;> first | exact q | cases e
    · cases v <;> first | exact q | exact absurd rfl e
theorem has_is_integer (Tx : Txt K mg) (c : He.SaysX fa fn [] tf ex w hh K) (X : K.In hh) (GG : hh.Ns mainGlobals mg)   : Has P w K mg base "is_integer" 1 ["value"] (sp_is_integer K) := by
  obtain ⟨fd, F⟩ := c.t.d.def_ 13 (d := d_is_integer) rfl
  exact ⟨_, fd, ok_is_integer F Tx , He.glo_ok X GG (c.t.d.fact 15 (f := .glo "is_integer") rfl), F.kp, F.bindsN fun _ _ _ _ _ _ us hl => match us, hl with | [_], _ => rfl⟩
def lo1 (x : Int) : V → Bool
  | .int i => decide (i ≤ x)
  | _ => true
def hi1 (x : Int) : V → Bool
  | .int j => decide (x ≤ j)
  | _ => true
def bnd (v l m : V) : Bool := match v with
  | .int x => lo1 x l && hi1 x m
  | _ => false
def noi : V → Bool
  | .non => true
  | .int _ => true
  | _ => false
def sp_is_within (K : PySem.W.Frag) : Sp := fun vs H Q _ => ∃ (v l m : V) (k : Kd), vs = [v, l, m] ∧ KdV K H v k ∧ noi l = true ∧ noi m = true ∧ Q (.bl (bnd v l m)) H
theorem sc_is_within : FnScope ["value", "least", "most"] ["value", "least", "most"] (defScope s_is_within) := ⟨rfl, rfl, rfl, by decide +kernel, rfl, by decide +kernel, by decide +kernel⟩
theorem ok_is_within {f : Addr} {fd : FuncData} (F : FunD K "is_within" "is_within" (defArgs s_is_within) (defBody s_is_within) (defScope s_is_within) [] [] f fd) (Tx : Txt K mg) (h_is_integer : Has P w K mg base "is_integer" 1 ["value"] (sp_is_integer K))  : FnOk P w K mg base CX0 2 f fd ["value", "least", "most"] (sp_is_within K) := by
  obtain ⟨f_is_integer, fd_is_integer, G_is_integer, g_is_integer, k_is_integer, b_is_integer⟩ := h_is_integer
  refine FunD.ok F sc_is_within (fun vs H Q E h => ?_) (fun cdv A outer s H vs Q E hr h => ?_)
  · obtain ⟨v, l, m, k, rfl, _⟩ := h
    rfl
  · obtain ⟨v, l, m, k, rfl, hk, hl, hm, q⟩ := h
    refine ⟨_, PSs.nox (pss_cons (ps_if (pt_not (pt_val (pe_call G_is_integer (hr.mono (by decide)) (by rfl) g_is_integer k_is_integer b_is_integer .nil pass0 (pa_cons (pv 0) pa_nil)))) (pss_one (ps_ret pe_bl)) pss_nil)
        (pss_one (ps_ret (pe_and (pe_or (pe_cmpR op_isN (pv 1) pe_non (nomark _)) (pe_one (pe_cmpR op_ge (pv 0) (pv 1) (nomark _)))) (pe_one (pe_or (pe_cmpR op_isN (pv 2) pe_non (nomark _)) (pe_one (pe_cmpR op_le (pv 0) (pv 2) (nomark _))))))))), ?_⟩
    refine ⟨_, rfl, v, k, rfl, hk, _, rfl, ite2 (fun e => ?_) (fun e => ?_)⟩
    · cases v <;> first | exact q | cases e
    · cases v with
      | int x =>
        cases l with
        | non =>
          refine ⟨_, rfl, rfl, _, rfl, ?_⟩
          refine ⟨_, rfl, ?_⟩
          cases m with
          | non => exact ⟨_, rfl, rfl, _, rfl, q⟩
          | int j => exact ⟨_, rfl, rfl, _, rfl, _, rfl, _, rfl, _, _, rfl, rfl, q⟩
          | _ => cases hm
        | int i =>
          refine ⟨_, rfl, rfl, _, rfl, _, rfl, _, rfl, _, _, rfl, rfl, _, rfl, ?_⟩
          refine ite2 (fun e1 => ?_) (fun e1 => ?_)
          · have q2 : Q (.bl (hi1 x m)) H := by
              have q3 : Q (.bl (decide (i ≤ x) && hi1 x m)) H := q
              rw [e1, Bool.true_and] at q3
              exact q3
            cases m with
            | non => exact ⟨_, rfl, rfl, _, rfl, q2⟩
            | int j => exact ⟨_, rfl, rfl, _, rfl, _, rfl, _, rfl, _, _, rfl, rfl, q2⟩
            | _ => cases hm
          · have q3 : Q (.bl (decide (i ≤ x) && hi1 x m)) H := q
            rw [Bool.eq_false_iff.mpr e1, Bool.false_and] at q3
            exact q3
        | _ => cases hl
      | _ => exact absurd rfl e
theorem has_is_within (Tx : Txt K mg) (c : He.SaysX fa fn [] tf ex w hh K) (X : K.In hh) (GG : hh.Ns mainGlobals mg) (h_is_integer : Has P w K mg base "is_integer" 1 ["value"] (sp_is_integer K))  : Has P w K mg base "is_within" 2 ["value", "least", "most"] (sp_is_within K) := by
  obtain ⟨fd, F⟩ := c.t.d.def_ 14 (d := d_is_within) rfl
  exact ⟨_, fd, ok_is_within F Tx h_is_integer, He.glo_ok X GG (c.t.d.fact 16 (f := .glo "is_within") rfl), F.kp, F.bindsN fun _ _ _ _ _ _ us hl => match us, hl with | [_, _, _], _ => rfl⟩
def sp_is_listed (K : PySem.W.Frag) : Sp := fun vs H Q _ => ∃ (v : V) (k : Kd), vs = [v] ∧ KdV K H v k ∧ ∀ H', Same H H' → Q (.bl k.seq) H'
theorem sc_is_listed : FnScope ["value"] ["value"] (defScope s_is_listed) := ⟨rfl, rfl, rfl, by decide +kernel, rfl, by decide +kernel, by decide +kernel⟩
theorem ok_is_listed {f : Addr} {fd : FuncData} (F : FunD K "is_listed" "is_listed" (defArgs s_is_listed) (defBody s_is_listed) (defScope s_is_listed) [] [] f fd) (Tx : Txt K mg)   : FnOk P w K mg base CX0 1 f fd ["value"] (sp_is_listed K) := by
  refine FunD.ok F sc_is_listed (fun vs H Q E h => ?_) (fun cdv A outer s H vs Q E hr h => ?_)
  · obtain ⟨v, k, rfl, _⟩ := h
    rfl
  · obtain ⟨v, k, rfl, hk, q⟩ := h
    refine ⟨_, PSs.nox (pss_one (ps_ret (pe_callB call_isiT (by rfl) Tx.n_isinstance (by decide +kernel) (pa_cons (pv 0) (pa_cons (pe_tup (pa_cons (pe_bltn (v := .ty "list") (by rfl) Tx.n_list (by decide +kernel) rfl) (pa_cons (pe_bltn (v := .ty "tuple") (by rfl) Tx.n_tuple (by decide +kernel) rfl) pa_nil))) pa_nil))))), ?_⟩
    refine ⟨_, rfl, le_line (by decide), fun t nt => ?_⟩
    exact ⟨v, t, _, _, _, _, rfl, upd_same, .cons (.ty "list") (.cons (.ty "tuple") .nil), (hk.same (same_new nt)).ty, kd_seq, q _ (same_new nt)⟩
theorem has_is_listed (Tx : Txt K mg) (c : He.SaysX fa fn [] tf ex w hh K) (X : K.In hh) (GG : hh.Ns mainGlobals mg)   : Has P w K mg base "is_listed" 1 ["value"] (sp_is_listed K) := by
  obtain ⟨fd, F⟩ := c.t.d.def_ 15 (d := d_is_listed) rfl
  exact ⟨_, fd, ok_is_listed F Tx , He.glo_ok X GG (c.t.d.fact 17 (f := .glo "is_listed") rfl), F.kp, F.bindsN fun _ _ _ _ _ _ us hl => match us, hl with | [_], _ => rfl⟩
/-! ### the error classes' own __init__ -/
def sp_BadKind_init (K : PySem.W.Frag) : Sp := spI1 K "part"
def sp_BadSkin_init (K : PySem.W.Frag) : Sp := spI1 K "part"
def sp_Twice_init (K : PySem.W.Frag) : Sp := spI1 K "value"
def sp_TooMany_init (K : PySem.W.Frag) : Sp := spI2 K "what" "most"
theorem sc_BadKind_init : FnScope ["self", "part"] ["self", "part"] (defScope s_BadKind_init) := ⟨rfl, rfl, rfl, by decide +kernel, rfl, by decide +kernel, by decide +kernel⟩
theorem ok_BadKind_init {f : Addr} {fd : FuncData} (F : FunD K "__init__" "BadKind.__init__" (defArgs s_BadKind_init) (defBody s_BadKind_init) (defScope s_BadKind_init) [] [] f fd) (Tx : Txt K mg)   : FnOk P w K mg base CX0 1 f fd ["self", "part"] (sp_BadKind_init K) := by
  refine FunD.ok F sc_BadKind_init (fun vs H Q E h => ?_) (fun cdv A outer s H vs Q E hr h => ?_)
  · obtain ⟨a, C, v, rfl, _⟩ := h
    rfl
  · obtain ⟨a, C, v, rfl, T, no, e, q⟩ := h
    refine ⟨_, PSs.nox (pss_one (ps_ost (pv 0) (pv 1))), ?_⟩
    exact ⟨_, rfl, _, rfl, a, C, rfl, T, no, .inl ⟨e, fun dx nd ne => q dx nd ne⟩⟩
theorem has_BadKind_init (Tx : Txt K mg) (c : He.SaysX fa fn [] tf ex w hh K) (X : K.In hh) (GG : hh.Ns mainGlobals mg)   : HasM P w K mg base CX0 "BadKind" "__init__" 1 ["self", "part"] (sp_BadKind_init K) := by
  obtain ⟨fd, F⟩ := c.t.d.def_ 1 (d := d_BadKind_init) rfl
  exact ⟨fd, ok_BadKind_init F Tx , F.bindsN fun _ _ _ _ _ _ us hl => match us, hl with | [_, _], _ => rfl⟩
theorem sc_BadSkin_init : FnScope ["self", "part"] ["self", "part"] (defScope s_BadSkin_init) := ⟨rfl, rfl, rfl, by decide +kernel, rfl, by decide +kernel, by decide +kernel⟩
theorem ok_BadSkin_init {f : Addr} {fd : FuncData} (F : FunD K "__init__" "BadSkin.__init__" (defArgs s_BadSkin_init) (defBody s_BadSkin_init) (defScope s_BadSkin_init) [] [] f fd) (Tx : Txt K mg)   : FnOk P w K mg base CX0 1 f fd ["self", "part"] (sp_BadSkin_init K) := by
  refine FunD.ok F sc_BadSkin_init (fun vs H Q E h => ?_) (fun cdv A outer s H vs Q E hr h => ?_)
  · obtain ⟨a, C, v, rfl, _⟩ := h
    rfl
  · obtain ⟨a, C, v, rfl, T, no, e, q⟩ := h
    refine ⟨_, PSs.nox (pss_one (ps_ost (pv 0) (pv 1))), ?_⟩
    exact ⟨_, rfl, _, rfl, a, C, rfl, T, no, .inl ⟨e, fun dx nd ne => q dx nd ne⟩⟩
theorem has_BadSkin_init (Tx : Txt K mg) (c : He.SaysX fa fn [] tf ex w hh K) (X : K.In hh) (GG : hh.Ns mainGlobals mg)   : HasM P w K mg base CX0 "BadSkin" "__init__" 1 ["self", "part"] (sp_BadSkin_init K) := by
  obtain ⟨fd, F⟩ := c.t.d.def_ 2 (d := d_BadSkin_init) rfl
  exact ⟨fd, ok_BadSkin_init F Tx , F.bindsN fun _ _ _ _ _ _ us hl => match us, hl with | [_, _], _ => rfl⟩
theorem sc_Twice_init : FnScope ["self", "value"] ["self", "value"] (defScope s_Twice_init) := ⟨rfl, rfl, rfl, by decide +kernel, rfl, by decide +kernel, by decide +kernel⟩
theorem ok_Twice_init {f : Addr} {fd : FuncData} (F : FunD K "__init__" "Twice.__init__" (defArgs s_Twice_init) (defBody s_Twice_init) (defScope s_Twice_init) [] [] f fd) (Tx : Txt K mg)   : FnOk P w K mg base CX0 1 f fd ["self", "value"] (sp_Twice_init K) := by
  refine FunD.ok F sc_Twice_init (fun vs H Q E h => ?_) (fun cdv A outer s H vs Q E hr h => ?_)
  · obtain ⟨a, C, v, rfl, _⟩ := h
    rfl
  · obtain ⟨a, C, v, rfl, T, no, e, q⟩ := h
    refine ⟨_, PSs.nox (pss_one (ps_ost (pv 0) (pv 1))), ?_⟩
    exact ⟨_, rfl, _, rfl, a, C, rfl, T, no, .inl ⟨e, fun dx nd ne => q dx nd ne⟩⟩
theorem has_Twice_init (Tx : Txt K mg) (c : He.SaysX fa fn [] tf ex w hh K) (X : K.In hh) (GG : hh.Ns mainGlobals mg)   : HasM P w K mg base CX0 "Twice" "__init__" 1 ["self", "value"] (sp_Twice_init K) := by
  obtain ⟨fd, F⟩ := c.t.d.def_ 6 (d := d_Twice_init) rfl
  exact ⟨fd, ok_Twice_init F Tx , F.bindsN fun _ _ _ _ _ _ us hl => match us, hl with | [_, _], _ => rfl⟩
theorem sc_TooMany_init : FnScope ["self", "what", "most"] ["self", "what", "most"] (defScope s_TooMany_init) := ⟨rfl, rfl, rfl, by decide +kernel, rfl, by decide +kernel, by decide +kernel⟩
theorem ok_TooMany_init {f : Addr} {fd : FuncData} (F : FunD K "__init__" "TooMany.__init__" (defArgs s_TooMany_init) (defBody s_TooMany_init) (defScope s_TooMany_init) [] [] f fd) (Tx : Txt K mg)   : FnOk P w K mg base CX0 1 f fd ["self", "what", "most"] (sp_TooMany_init K) := by
  refine FunD.ok F sc_TooMany_init (fun vs H Q E h => ?_) (fun cdv A outer s H vs Q E hr h => ?_)
  · obtain ⟨a, C, v, u, rfl, _⟩ := h
    rfl
  · obtain ⟨a, C, v, u, rfl, T, no, no2, e, q⟩ := h
    refine ⟨_, PSs.nox (pss_cons (ps_ost (pv 0) (pv 1))
        (pss_one (ps_ost (pv 0) (pv 2)))), ?_⟩
    refine ⟨_, rfl, _, rfl, a, C, rfl, T, no, .inl ⟨e, fun dx nd ne => ?_⟩⟩
    exact ⟨_, rfl, _, rfl, a, C, rfl, T, no2, .inr ⟨dx, [("what", v)], upd_same, by rw [upd_ne ne, upd_same], (show 1 ≤ 900 by decide), q dx nd ne⟩⟩
theorem has_TooMany_init (Tx : Txt K mg) (c : He.SaysX fa fn [] tf ex w hh K) (X : K.In hh) (GG : hh.Ns mainGlobals mg)   : HasM P w K mg base CX0 "TooMany" "__init__" 1 ["self", "what", "most"] (sp_TooMany_init K) := by
  obtain ⟨fd, F⟩ := c.t.d.def_ 7 (d := d_TooMany_init) rfl
  exact ⟨fd, ok_TooMany_init F Tx , F.bindsN fun _ _ _ _ _ _ us hl => match us, hl with | [_, _, _], _ => rfl⟩
/-! ### kinds of grid -/
def turnOf (z : Str) : Int := if z = "square" then 4 else 3
def fullOf (z : Str) : Int := if z = "square" then 4 else 6
def kdErr (K : PySem.W.Frag) (E : XK) (H : Hp) : Prop := Rz E (He.ga K "BadKind") [("part", .str "kind")] H
def sp_need_kind (K : PySem.W.Frag) : Sp := fun vs H Q E => ∃ (v : V) (k : Kd), vs = [v] ∧ KdV K H v k ∧ (isGrid v = true → Q .non H) ∧ (isGrid v = false → kdErr K E H)
theorem sc_need_kind : FnScope ["kind"] ["kind"] (defScope s_need_kind) := ⟨rfl, rfl, rfl, by decide +kernel, rfl, by decide +kernel, by decide +kernel⟩
theorem ok_need_kind {f : Addr} {fd : FuncData} (F : FunD K "need_kind" "need_kind" (defArgs s_need_kind) (defBody s_need_kind) (defScope s_need_kind) [] [] f fd) (Tx : Txt K mg) (h_is_grid : Has P w K mg base "is_grid" 1 ["value"] (sp_is_grid K)) (h_BadKind_init : HasM P w K mg base CX0 "BadKind" "__init__" 1 ["self", "part"] (sp_BadKind_init K))  : FnOk P w K mg base (L2.CX P w) 3 f fd ["kind"] (sp_need_kind K) := by
  obtain ⟨f_is_grid, fd_is_grid, G_is_grid, g_is_grid, k_is_grid, b_is_grid⟩ := h_is_grid
  obtain ⟨fd_BadKind_init, G_BadKind_init, b_BadKind_init⟩ := h_BadKind_init
  refine FunD.ok F sc_need_kind (fun vs H Q E h => ?_) (fun cdv A outer s H vs Q E hr h => ?_)
  · obtain ⟨v, k, rfl, _⟩ := h
    rfl
  · obtain ⟨v, k, rfl, hk, q, r⟩ := h
    refine ⟨_, (pss_one (ps_if (pt_not (pt_val (pe_call G_is_grid (hr.mono (by decide)) (by rfl) g_is_grid k_is_grid b_is_grid .nil pass0 (pa_cons (pv 0) pa_nil)))) (pss_one (ps_raise rfl (takes_of rfl rfl rfl rfl) (pmk_oex Tx.er_BadKind.oex Tx.er_BadKind.ini Tx.er_BadKind.fn G_BadKind_init (hr.mono (by decide)) b_BadKind_init .nil pass0 (by rfl) Tx.g_BadKind (pa_cons pe_str pa_nil)))) pss_nil)), ?_⟩
    refine ⟨_, rfl, v, k, rfl, hk, _, rfl, ?_⟩
    cases e : isGrid v with
    | true => exact q e
    | false => exact mk1 Tx.er_BadKind.oex (Tx.er_BadKind.no "part" (by simp)) (r e)
theorem has_need_kind (Tx : Txt K mg) (c : He.SaysX fa fn [] tf ex w hh K) (X : K.In hh) (GG : hh.Ns mainGlobals mg) (h_is_grid : Has P w K mg base "is_grid" 1 ["value"] (sp_is_grid K)) (h_BadKind_init : HasM P w K mg base CX0 "BadKind" "__init__" 1 ["self", "part"] (sp_BadKind_init K))  : HasX P w K mg base "need_kind" 3 ["kind"] (sp_need_kind K) := by
  obtain ⟨fd, F⟩ := c.t.d.def_ 10 (d := d_need_kind) rfl
  exact ⟨_, fd, ok_need_kind F Tx h_is_grid h_BadKind_init, He.glo_ok X GG (c.t.d.fact 12 (f := .glo "need_kind") rfl), F.kp, F.bindsN fun _ _ _ _ _ _ us hl => match us, hl with | [_], _ => rfl⟩
def sp_sides_of (K : PySem.W.Frag) : Sp := fun vs H Q E => ∃ (v : V) (k : Kd), vs = [v] ∧ KdV K H v k ∧ (∀ z, v = .str z → isGrid v = true → Q (.int (turnOf z)) H) ∧ (isGrid v = false → kdErr K E H)
theorem grid_str {v : V} (h : isGrid v = true) : ∃ z, v = .str z := by
  cases v with
  | str z => exact ⟨z, rfl⟩
  | _ => cases h
theorem str_sq (z : Str) : decide (V.str z = V.str "square") = decide (z = "square") := by
  by_cases h : z = "square"
  · rw [h, decide_eq_true rfl, decide_eq_true rfl]
  · rw [decide_eq_false h, decide_eq_false fun e => h (by injection e)]
theorem sc_sides_of : FnScope ["kind"] ["kind"] (defScope s_sides_of) := ⟨rfl, rfl, rfl, by decide +kernel, rfl, by decide +kernel, by decide +kernel⟩
theorem ok_sides_of {f : Addr} {fd : FuncData} (F : FunD K "sides_of" "sides_of" (defArgs s_sides_of) (defBody s_sides_of) (defScope s_sides_of) [] [] f fd) (Tx : Txt K mg) (h_need_kind : HasX P w K mg base "need_kind" 3 ["kind"] (sp_need_kind K))  : FnOk P w K mg base (L2.CX P w) 4 f fd ["kind"] (sp_sides_of K) := by
  obtain ⟨f_need_kind, fd_need_kind, G_need_kind, g_need_kind, k_need_kind, b_need_kind⟩ := h_need_kind
  refine FunD.ok F sc_sides_of (fun vs H Q E h => ?_) (fun cdv A outer s H vs Q E hr h => ?_)
  · obtain ⟨v, k, rfl, _⟩ := h
    rfl
  · obtain ⟨v, k, rfl, hk, q, r⟩ := h
    refine ⟨_, (pss_cons (ps_expr (pe_call G_need_kind (hr.mono (by decide)) (by rfl) g_need_kind k_need_kind b_need_kind .nil (passE rfl rfl rfl rfl) (pa_cons (pv 0) pa_nil)))
        (pss_one (ps_ret (pe_ifExp (pt_cmpR op_eq (pv 0) pe_str (nomark _)) pe_int pe_int)))), ?_⟩
    refine ⟨_, rfl, v, k, rfl, hk, fun e => ?_, fun e => r e⟩
    obtain ⟨z, rfl⟩ := grid_str e
    have q2 := q z rfl e
    refine ⟨_, rfl, rfl, _, rfl, ?_⟩
    rw [str_sq]
    unfold turnOf at q2
    refine ite2 (fun hz => ?_) (fun hz => ?_)
    · rw [if_pos (of_decide_eq_true hz)] at q2
      exact q2
    · rw [if_neg fun e => hz (decide_eq_true e)] at q2
      exact q2
theorem has_sides_of (Tx : Txt K mg) (c : He.SaysX fa fn [] tf ex w hh K) (X : K.In hh) (GG : hh.Ns mainGlobals mg) (h_need_kind : HasX P w K mg base "need_kind" 3 ["kind"] (sp_need_kind K))  : HasX P w K mg base "sides_of" 4 ["kind"] (sp_sides_of K) := by
  obtain ⟨fd, F⟩ := c.t.d.def_ 11 (d := d_sides_of) rfl
  exact ⟨_, fd, ok_sides_of F Tx h_need_kind, He.glo_ok X GG (c.t.d.fact 13 (f := .glo "sides_of") rfl), F.kp, F.bindsN fun _ _ _ _ _ _ us hl => match us, hl with | [_], _ => rfl⟩

def sp_full_of (K : PySem.W.Frag) : Sp := fun vs H Q E => ∃ (v : V) (k : Kd), vs = [v] ∧ KdV K H v k ∧ (∀ z, v = .str z → isGrid v = true → Q (.int (fullOf z)) H) ∧ (isGrid v = false → kdErr K E H)
theorem sc_full_of : FnScope ["kind"] ["kind"] (defScope s_full_of) := ⟨rfl, rfl, rfl, by decide +kernel, rfl, by decide +kernel, by decide +kernel⟩
theorem ok_full_of {f : Addr} {fd : FuncData} (F : FunD K "full_of" "full_of" (defArgs s_full_of) (defBody s_full_of) (defScope s_full_of) [] [] f fd) (Tx : Txt K mg) (h_need_kind : HasX P w K mg base "need_kind" 3 ["kind"] (sp_need_kind K))  : FnOk P w K mg base (L2.CX P w) 4 f fd ["kind"] (sp_full_of K) := by
  obtain ⟨f_need_kind, fd_need_kind, G_need_kind, g_need_kind, k_need_kind, b_need_kind⟩ := h_need_kind
  refine FunD.ok F sc_full_of (fun vs H Q E h => ?_) (fun cdv A outer s H vs Q E hr h => ?_)
  · obtain ⟨v, k, rfl, _⟩ := h
    rfl
  · obtain ⟨v, k, rfl, hk, q, r⟩ := h
    refine ⟨_, (pss_cons (ps_expr (pe_call G_need_kind (hr.mono (by decide)) (by rfl) g_need_kind k_need_kind b_need_kind .nil (passE rfl rfl rfl rfl) (pa_cons (pv 0) pa_nil)))
        (pss_one (ps_ret (pe_ifExp (pt_cmpR op_eq (pv 0) pe_str (nomark _)) pe_int pe_int)))), ?_⟩
    refine ⟨_, rfl, v, k, rfl, hk, fun e => ?_, fun e => r e⟩
    obtain ⟨z, rfl⟩ := grid_str e
    have q2 := q z rfl e
    refine ⟨_, rfl, rfl, _, rfl, ?_⟩
    rw [str_sq]
    unfold fullOf at q2
    refine ite2 (fun hz => ?_) (fun hz => ?_)
    · rw [if_pos (of_decide_eq_true hz)] at q2
      exact q2
    · rw [if_neg fun e => hz (decide_eq_true e)] at q2
      exact q2
theorem has_full_of (Tx : Txt K mg) (c : He.SaysX fa fn [] tf ex w hh K) (X : K.In hh) (GG : hh.Ns mainGlobals mg) (h_need_kind : HasX P w K mg base "need_kind" 3 ["kind"] (sp_need_kind K))  : HasX P w K mg base "full_of" 4 ["kind"] (sp_full_of K) := by
  obtain ⟨fd, F⟩ := c.t.d.def_ 12 (d := d_full_of) rfl
  exact ⟨_, fd, ok_full_of F Tx h_need_kind, He.glo_ok X GG (c.t.d.fact 14 (f := .glo "full_of") rfl), F.kp, F.bindsN fun _ _ _ _ _ _ us hl => match us, hl with | [_], _ => rfl⟩

end
end K05

namespace K05
open PySem PySem.Spec PyProof.Rows L2 Vf LamX
section
variable {hh : Heap} {P : Program} {w : World} {K : PySem.W.Frag} {mg : Str → Option Value} {base : Heap}
/-! ### the first that stands twice -/
theorem run_it {J : It} {n : Nat} {G : Hp → Prop} {Y : Nat → Hp → V → Hp → Prop} (w : Walk J n G Y) {B : (Hp → Prop) → V → Hp → Prop} {H0 : Hp} {Qd : Hp → Prop} (Pv : Nat → Hp → Prop) (h0 : Pv 0 H0) (hG : ∀ i H, i ≤ n → Pv i H → G H)
    (hs : ∀ i x H H', i < n → Pv i H → Y i H x H' → B (Pv (i + 1)) x H') (hd : ∀ H, Pv n H → Qd H) :
    ∃ W : Nat → Nat → Hp → Prop, (∃ m, W 0 m H0) ∧ ∀ i m H, W i m H → (J.stop i H ∧ Qd H) ∨ (J.go i H ∧ ∃ Nx : Hp → Prop, (∀ H', Nx H' → ∃ m', m' < m ∧ W (i + 1) m' H') ∧ ∀ x H', J.yld i H x H' → B Nx x H') := by
  refine ⟨fun i m H => m = n - i ∧ i ≤ n ∧ Pv i H, ⟨n, by simp, Nat.zero_le _, h0⟩, ?_⟩
  rintro i m H ⟨rfl, hi, p⟩
  have q := hG i H hi p
  by_cases hlt : i < n
  · exact .inr ⟨w.goes i H hlt q, Pv (i + 1), fun H' p' => ⟨n - (i + 1), by omega, rfl, hlt, p'⟩, fun x H' y => hs i x H H' hlt p (w.yields i H x H' hlt q y)⟩
  · have e : i = n := by omega
    subst e
    exact .inl ⟨w.stops H q, hd H p⟩
def optV : Option Int → V
  | none => .non
  | some t => .int t
def twF (seen : List Int) : List Int → Option Int
  | [] => none
  | x :: r => if x ∈ seen then some x else twF (x :: seen) r
def tw (ns : List Int) : Option Int := twF [] ns
def sp_first_twice (K : PySem.W.Frag) : Sp := fun vs H Q _ => ∃ (a : Addr) (ns : List Int), vs = [.ref a] ∧ SqL K H a (ns.map V.int) ∧ ns.length ≤ 1000 ∧ ∀ H', Same H H' → Q (optV (tw ns)) H'
theorem sc_first_twice : FnScope ["values", "seen", "value"] ["values"] (defScope s_first_twice) := ⟨rfl, rfl, rfl, by decide +kernel, rfl, by decide +kernel, by decide +kernel⟩
theorem ok_first_twice {f : Addr} {fd : FuncData} (F : FunD K "first_twice" "first_twice" (defArgs s_first_twice) (defBody s_first_twice) (defScope s_first_twice) [] [] f fd) (Tx : Txt K mg)   : FnOk P w K mg base CX0 1 f fd ["values"] (sp_first_twice K) := by
  refine FunD.ok F sc_first_twice (fun vs H Q E h => ?_) (fun cdv A outer s H vs Q E hr h => ?_)
  · obtain ⟨a, ns, rfl, _⟩ := h
    rfl
  · obtain ⟨a, ns, rfl, ha, hl, q⟩ := h
    refine ⟨_, PSs.nox (pss_cons (ps_set (i := 1) sc_first_twice.nd rfl (Or.inl rfl) (pe_callTy0 cr_set0K (by rfl) Tx.n_set (by decide +kernel)))
        (pss_cons (ps_for PassesOwn.never rfl (pi_list (pv 0)) (pg_name (i := 2) sc_first_twice.nd rfl (Or.inl rfl)) (pss_cons (ps_if (pt_cmpR or_sinK (pv 2) (pv 1) rfl) (pss_one (ps_ret (pv 2))) pss_nil)
        (pss_one (ps_expr (pe_saddK (pv 1) (pa_cons (pv 2) pa_nil))))))
        (pss_one (ps_ret pe_non)))), ?_⟩
    refine ⟨rfl, fun s ns0 => ?_⟩
    have s1 : Same H (upd H s (SetK P w s (fun _ => false) 0)) := same_new ns0
    refine ⟨_, rfl, a, rfl, ⟨_, sqL_same ha s1⟩, ?_⟩
    refine for_it (walk_list (K := K) (a := a) (xs := ns.map V.int)) (fun i σ H2 => ∃ (v : Option V) (seen : List Int) (S : Key → Bool) (n : Nat), σ = [some (.ref a), some (.ref s), v] ∧ Same H H2 ∧ H2 s = some (SetK P w s S n) ∧ n ≤ i ∧ (∀ k : Int, S (.inl k) = decide (k ∈ seen)) ∧ tw ns = twF seen (ns.drop i))
      ⟨none, [], _, 0, rfl, s1, upd_same, Nat.le_refl _, fun k => by simp, rfl⟩ (fun i σ H2 _ p => ?_) (fun i x σ H2 H3 hi p y => ?_) (fun σ H2 p => ?_)
    · obtain ⟨_, _, _, _, _, s2, _⟩ := p
      exact sqL_same ha s2
    · obtain ⟨v, seen, S, n, rfl, s2, hs, hn, hS, ht⟩ := p
      obtain ⟨rfl, hx⟩ := y
      rw [List.getElem?_map] at hx
      obtain ⟨m, hm, rfl⟩ := Option.map_eq_some_iff.mp hx
      obtain ⟨hlt, hm2⟩ := List.getElem?_eq_some_iff.mp hm
      have hd : ns.drop i = m :: ns.drop (i + 1) := by rw [List.drop_eq_getElem_cons hlt, hm2]
      rw [hd] at ht
      rw [List.length_map] at hi
      refine ⟨_, rfl, _, rfl, .inl m, s, S, n, rfl, rfl, hs, _, rfl, ?_⟩
      have ht2 : tw ns = if m ∈ seen then some m else twF (m :: seen) (ns.drop (i + 1)) := ht
      show if S (.inl m) = true then _ else _
      refine ite2 (fun e => ?_) (fun e => ?_)
      · rw [hS m] at e
        rw [if_pos (of_decide_eq_true e)] at ht2
        rw [ht2] at q
        exact ⟨_, rfl, q _ s2⟩
      · rw [hS m] at e
        rw [if_neg fun z => e (decide_eq_true z)] at ht2
        refine ⟨_, rfl, ⟨s, S, n, rfl, hs⟩, _, rfl, s, .inl m, S, n, rfl, rfl, hs, by show n + 1 < 4096; omega, ?_⟩
        refine ⟨_, m :: seen, _, _, rfl, Same.mut s2 ns0, upd_same, ?_, fun k => ?_, ht2⟩
        · split <;> omega
        · rw [hS k]
          by_cases hk : k = m
          · subst hk
            simp
          · simp [hk]
    · obtain ⟨v, seen, S, n, rfl, s2, hs, hn, hS, ht⟩ := p
      rw [List.length_map, List.drop_length] at ht
      have ht2 : tw ns = none := ht
      rw [ht2] at q
      exact q _ s2
theorem has_first_twice (Tx : Txt K mg) (c : He.SaysX fa fn [] tf ex w hh K) (X : K.In hh) (GG : hh.Ns mainGlobals mg)   : Has P w K mg base "first_twice" 1 ["values"] (sp_first_twice K) := by
  obtain ⟨fd, F⟩ := c.t.d.def_ 16 (d := d_first_twice) rfl
  exact ⟨_, fd, ok_first_twice F Tx , He.glo_ok X GG (c.t.d.fact 18 (f := .glo "first_twice") rfl), F.kp, F.bindsN fun _ _ _ _ _ _ us hl => match us, hl with | [_], _ => rfl⟩
/-! ### seams -/
/-- what is_seam tells of a value -/
def SeamSays (K : PySem.W.Frag) (H : Hp) (v : V) (k : Kd) (n : Int) (b : Bool) : Prop := (k.seq = false ∧ b = false) ∨ (k.seq = true ∧ ∃ (a : Addr) (xs : List V), v = .ref a ∧ (H a = some (.lst xs) ∨ H a = some (.tup xs)) ∧
  ((xs.length ≠ 2 ∧ b = false) ∨ ∃ (x y : V) (kx ky : Kd), xs = [x, y] ∧ KdV K H x kx ∧ KdV K H y ky ∧ b = (bnd x (.int 0) (.int (n - 1)) && (bnd y (.int 0) (.int (n - 1)) && !decide (x = y)))))
theorem SeamSays.same {H H' : Hp} {v : V} {k : Kd} {n : Int} {b : Bool} (h : SeamSays K H v k n b) (s : Same H H') : SeamSays K H' v k n b := by
  rcases h with h | ⟨h1, a, xs, e, h2, h3⟩
  · exact .inl h
  · refine .inr ⟨h1, a, xs, e, ?_, ?_⟩
    · rcases h2 with h2 | h2
      · exact .inl (s _ _ h2)
      · exact .inr (s _ _ h2)
    · rcases h3 with h3 | ⟨x, y, kx, ky, e1, h4, h5, h6⟩
      · exact .inl h3
      · exact .inr ⟨x, y, kx, ky, e1, h4.same s, h5.same s, h6⟩
theorem bnd_int {v l m : V} (h : bnd v l m = true) : ∃ i, v = .int i := by
  cases v with
  | int i => exact ⟨i, rfl⟩
  | _ => cases h
theorem len_ne {xs : List V} (h : xs.length ≠ 2) : (!decide (V.int (xs.length : Int) = V.int 2)) = true := by
  rw [decide_eq_false, Bool.not_false]
  intro e
  injection e with e
  omega
theorem len_eq {x y : V} : (!decide (V.int ([x, y].length : Int) = V.int 2)) = false := rfl
def sp_is_seam (K : PySem.W.Frag) : Sp := fun vs H Q _ => ∃ (v : V) (k : Kd) (n : Int) (b : Bool), vs = [v, .int n] ∧ KdV K H v k ∧ SeamSays K H v k n b ∧ ∀ H', Same H H' → Q (.bl b) H'
theorem sc_is_seam : FnScope ["value", "sides", "one", "other"] ["value", "sides"] (defScope s_is_seam) := ⟨rfl, rfl, rfl, by decide +kernel, rfl, by decide +kernel, by decide +kernel⟩
theorem ok_is_seam {f : Addr} {fd : FuncData} (F : FunD K "is_seam" "is_seam" (defArgs s_is_seam) (defBody s_is_seam) (defScope s_is_seam) [] [] f fd) (Tx : Txt K mg) (h_is_listed : Has P w K mg base "is_listed" 1 ["value"] (sp_is_listed K)) (h_is_within : Has P w K mg base "is_within" 2 ["value", "least", "most"] (sp_is_within K))  : FnOk P w K mg base CX0 3 f fd ["value", "sides"] (sp_is_seam K) := by
  obtain ⟨f_is_listed, fd_is_listed, G_is_listed, g_is_listed, k_is_listed, b_is_listed⟩ := h_is_listed
  obtain ⟨f_is_within, fd_is_within, G_is_within, g_is_within, k_is_within, b_is_within⟩ := h_is_within
  refine FunD.ok F sc_is_seam (fun vs H Q E h => ?_) (fun cdv A outer s H vs Q E hr h => ?_)
  · obtain ⟨v, k, n, b, rfl, _⟩ := h
    rfl
  · obtain ⟨v, k, n, b, rfl, hk, hs, q⟩ := h
    rcases hs with ⟨h1, rfl⟩ | ⟨h1, a, xs, rfl, h2, h3⟩
    · refine ⟨_, PSs.nox (pss_cons (ps_if (PW.pt (pw_or (pt_not (pt_val (pe_call G_is_listed (hr.mono (by decide)) (by rfl) g_is_listed k_is_listed b_is_listed .nil pass0 (pa_cons (pv 0) pa_nil)))) (pw_or1 (pt_cmpR op_ne (pe_callB call_len_seq (by rfl) Tx.n_len (by decide +kernel) (pa_cons (pv 0) pa_nil)) pe_int (nomark _))))) (pss_one (ps_ret pe_bl)) pss_nil)
        (pss_cons (ps_asg (pv 0) (pg_tup (by rfl) (pgs_cons (pg_name (i := 2) sc_is_seam.nd rfl (Or.inl rfl)) (pgs_cons (pg_name (i := 3) sc_is_seam.nd rfl (Or.inl rfl)) pgs_nil))))
        (pss_one (ps_ret (pe_and (pe_call G_is_within (hr.mono (by decide)) (by rfl) g_is_within k_is_within b_is_within .nil pass0 (pa_cons (pv 2) (pa_cons pe_int (pa_cons (pe_op op_sub (pv 1) pe_int) pa_nil)))) (pe_and (pe_call G_is_within (hr.mono (by decide)) (by rfl) g_is_within k_is_within b_is_within .nil pass0 (pa_cons (pv 3) (pa_cons pe_int (pa_cons (pe_op op_sub (pv 1) pe_int) pa_nil)))) (pe_one (pe_cmpR op_ne (pv 2) (pv 3) (nomark _))))))))), ?_⟩
      refine ⟨_, rfl, v, k, rfl, hk, fun H1 s1 => ⟨_, rfl, ?_⟩⟩
      rw [h1]
      exact iteT (q _ s1)
    · rcases h2 with h2 | h2
      · refine ⟨_, PSs.nox (pss_cons (ps_if (PW.pt (pw_or (pt_not (pt_val (pe_call G_is_listed (hr.mono (by decide)) (by rfl) g_is_listed k_is_listed b_is_listed .nil pass0 (pa_cons (pv 0) pa_nil)))) (pw_or1 (pt_cmpR op_ne (pe_callB call_len_seq (by rfl) Tx.n_len (by decide +kernel) (pa_cons (pv 0) pa_nil)) pe_int (nomark _))))) (pss_one (ps_ret pe_bl)) pss_nil)
        (pss_cons (ps_asg (pv 0) (pg_unl (by rfl) (pgs_cons (pg_name (i := 2) sc_is_seam.nd rfl (Or.inl rfl)) (pgs_cons (pg_name (i := 3) sc_is_seam.nd rfl (Or.inl rfl)) pgs_nil))))
        (pss_one (ps_ret (pe_and (pe_call G_is_within (hr.mono (by decide)) (by rfl) g_is_within k_is_within b_is_within .nil pass0 (pa_cons (pv 2) (pa_cons pe_int (pa_cons (pe_op op_sub (pv 1) pe_int) pa_nil)))) (pe_and (pe_call G_is_within (hr.mono (by decide)) (by rfl) g_is_within k_is_within b_is_within .nil pass0 (pa_cons (pv 3) (pa_cons pe_int (pa_cons (pe_op op_sub (pv 1) pe_int) pa_nil)))) (pe_one (pe_cmpR op_ne (pv 2) (pv 3) (nomark _))))))))), ?_⟩
        refine ⟨_, rfl, _, k, rfl, hk, fun H1 s1 => ⟨_, rfl, ?_⟩⟩
        rw [h1]
        refine iteF ?_
        have h2' := s1 _ _ h2
        refine ⟨_, rfl, a, _, rfl, .inl (SqL.of h2'), rfl, _, rfl, ?_⟩
        rcases h3 with ⟨h3, rfl⟩ | ⟨x, y, kx, ky, rfl, hx, hy, e⟩
        · exact ite2 (fun _ => q _ s1) (fun e => absurd (len_ne h3) e)
        · refine ite2 (fun e => absurd e (by rw [len_eq]; exact Bool.false_ne_true)) (fun _ => ?_)
          refine ⟨_, rfl, a, _, rfl, SqL.of h2', rfl, x, [y], rfl, y, [], rfl, rfl, ?_⟩
          refine ⟨_, rfl, _, rfl, _, _, rfl, rfl, x, .int 0, .int (n - 1), kx, rfl, hx.same s1, rfl, rfl, _, rfl, ?_⟩
          refine ite2 (fun e1 => ?_) (fun e1 => ?_)
          · refine ⟨_, rfl, _, rfl, _, _, rfl, rfl, y, .int 0, .int (n - 1), ky, rfl, hy.same s1, rfl, rfl, _, rfl, ?_⟩
            have q1 := q H1 s1
            rw [e, e1, Bool.true_and] at q1
            refine ite2 (fun e2 => ?_) (fun e2 => ?_)
            · rw [e2, Bool.true_and] at q1
              obtain ⟨i, rfl⟩ := bnd_int e1
              obtain ⟨j, rfl⟩ := bnd_int e2
              exact ⟨_, rfl, _, rfl, rfl, q1⟩
            · rw [Bool.eq_false_iff.mpr e2, Bool.false_and] at q1
              exact q1
          · have q1 := q H1 s1
            rw [e, Bool.eq_false_iff.mpr e1, Bool.false_and] at q1
            exact q1
      · refine ⟨_, PSs.nox (pss_cons (ps_if (PW.pt (pw_or (pt_not (pt_val (pe_call G_is_listed (hr.mono (by decide)) (by rfl) g_is_listed k_is_listed b_is_listed .nil pass0 (pa_cons (pv 0) pa_nil)))) (pw_or1 (pt_cmpR op_ne (pe_callB call_len_seq (by rfl) Tx.n_len (by decide +kernel) (pa_cons (pv 0) pa_nil)) pe_int (nomark _))))) (pss_one (ps_ret pe_bl)) pss_nil)
        (pss_cons (ps_asg (pv 0) (pg_tup (by rfl) (pgs_cons (pg_name (i := 2) sc_is_seam.nd rfl (Or.inl rfl)) (pgs_cons (pg_name (i := 3) sc_is_seam.nd rfl (Or.inl rfl)) pgs_nil))))
        (pss_one (ps_ret (pe_and (pe_call G_is_within (hr.mono (by decide)) (by rfl) g_is_within k_is_within b_is_within .nil pass0 (pa_cons (pv 2) (pa_cons pe_int (pa_cons (pe_op op_sub (pv 1) pe_int) pa_nil)))) (pe_and (pe_call G_is_within (hr.mono (by decide)) (by rfl) g_is_within k_is_within b_is_within .nil pass0 (pa_cons (pv 3) (pa_cons pe_int (pa_cons (pe_op op_sub (pv 1) pe_int) pa_nil)))) (pe_one (pe_cmpR op_ne (pv 2) (pv 3) (nomark _))))))))), ?_⟩
        refine ⟨_, rfl, _, k, rfl, hk, fun H1 s1 => ⟨_, rfl, ?_⟩⟩
        rw [h1]
        refine iteF ?_
        have h2' := s1 _ _ h2
        refine ⟨_, rfl, a, _, rfl, .inr (SqT.of h2'), rfl, _, rfl, ?_⟩
        rcases h3 with ⟨h3, rfl⟩ | ⟨x, y, kx, ky, rfl, hx, hy, e⟩
        · exact ite2 (fun _ => q _ s1) (fun e => absurd (len_ne h3) e)
        · refine ite2 (fun e => absurd e (by rw [len_eq]; exact Bool.false_ne_true)) (fun _ => ?_)
          refine ⟨_, rfl, a, _, rfl, SqT.of h2', rfl, x, [y], rfl, y, [], rfl, rfl, ?_⟩
          refine ⟨_, rfl, _, rfl, _, _, rfl, rfl, x, .int 0, .int (n - 1), kx, rfl, hx.same s1, rfl, rfl, _, rfl, ?_⟩
          refine ite2 (fun e1 => ?_) (fun e1 => ?_)
          · refine ⟨_, rfl, _, rfl, _, _, rfl, rfl, y, .int 0, .int (n - 1), ky, rfl, hy.same s1, rfl, rfl, _, rfl, ?_⟩
            have q1 := q H1 s1
            rw [e, e1, Bool.true_and] at q1
            refine ite2 (fun e2 => ?_) (fun e2 => ?_)
            · rw [e2, Bool.true_and] at q1
              obtain ⟨i, rfl⟩ := bnd_int e1
              obtain ⟨j, rfl⟩ := bnd_int e2
              exact ⟨_, rfl, _, rfl, rfl, q1⟩
            · rw [Bool.eq_false_iff.mpr e2, Bool.false_and] at q1
              exact q1
          · have q1 := q H1 s1
            rw [e, Bool.eq_false_iff.mpr e1, Bool.false_and] at q1
            exact q1
theorem has_is_seam (Tx : Txt K mg) (c : He.SaysX fa fn [] tf ex w hh K) (X : K.In hh) (GG : hh.Ns mainGlobals mg) (h_is_listed : Has P w K mg base "is_listed" 1 ["value"] (sp_is_listed K)) (h_is_within : Has P w K mg base "is_within" 2 ["value", "least", "most"] (sp_is_within K))  : Has P w K mg base "is_seam" 3 ["value", "sides"] (sp_is_seam K) := by
  obtain ⟨fd, F⟩ := c.t.d.def_ 21 (d := d_is_seam) rfl
  exact ⟨_, fd, ok_is_seam F Tx h_is_listed h_is_within, He.glo_ok X GG (c.t.d.fact 23 (f := .glo "is_seam") rfl), F.kp, F.bindsN fun _ _ _ _ _ _ us hl => match us, hl with | [_, _], _ => rfl⟩

end
end K05

namespace K05
open PySem PySem.Spec PyProof.Rows L2 Vf LamX
section
variable {hh : Heap} {P : Program} {w : World} {K : PySem.W.Frag} {mg : Str → Option Value} {base : Heap}
/-! ### the seams of a skin -/
def smErr (K : PySem.W.Frag) (E : XK) (H : Hp) : Prop := Rz E (He.ga K "BadSkin") [("part", .str "seams")] H
theorem bls_mapf (f : V → Bool) (xs : List V) : (xs.filter fun _ => true).map (fun x => V.bl (f x)) = (xs.map f).map V.bl := by
  rw [List.filter_eq_self.mpr fun _ _ => rfl, List.map_map]
  rfl
/-- the items of a list or a tuple -/
def Box (K : PySem.W.Frag) (H : Hp) (a : Addr) (xs : List V) : Prop := H a = some (.lst xs) ∨ SqT K H a xs
theorem Box.same {H H' : Hp} {a : Addr} {xs : List V} (h : Box K H a xs) (s : Same H H') : Box K H' a xs := by
  rcases h with h | h
  · exact .inl (s _ _ h)
  · exact .inr (sqT_same h s)
def sp_need_seams (K : PySem.W.Frag) : Sp := fun vs H Q E => ∃ (v : V) (k : Kd) (n : Int), vs = [v, .int n] ∧ KdV K H v k ∧
  ((k.seq = false ∧ smErr K E H) ∨ (k.seq = true ∧ ∃ (a : Addr) (xs : List V) (f : V → Bool), v = .ref a ∧ Box K H a xs ∧ xs.length ≤ 1000 ∧ (∀ x ∈ xs, ∃ kx, KdV K H x kx ∧ SeamSays K H x kx n (f x)) ∧
    (xs.all f = true → ∀ H', Same H H' → Q .non H') ∧ (xs.all f = false → smErr K E H)))
theorem all_id {f : V → Bool} {xs : List V} : (xs.map f).all id = xs.all f := by
  rw [List.all_map]
  rfl
theorem sc_need_seams : FnScope ["seams", "sides", "seam"] ["seams", "sides"] (defScope s_need_seams) := ⟨rfl, rfl, rfl, by decide +kernel, rfl, by decide +kernel, by decide +kernel⟩
theorem ok_need_seams {f : Addr} {fd : FuncData} (F : FunD K "need_seams" "need_seams" (defArgs s_need_seams) (defBody s_need_seams) (defScope s_need_seams) [] [] f fd) (Tx : Txt K mg) (h_is_listed : Has P w K mg base "is_listed" 1 ["value"] (sp_is_listed K)) (h_is_seam : Has P w K mg base "is_seam" 3 ["value", "sides"] (sp_is_seam K)) (h_BadSkin_init : HasM P w K mg base CX0 "BadSkin" "__init__" 1 ["self", "part"] (sp_BadSkin_init K))  : FnOk P w K mg base (L2.CX P w) 4 f fd ["seams", "sides"] (sp_need_seams K) := by
  obtain ⟨f_is_listed, fd_is_listed, G_is_listed, g_is_listed, k_is_listed, b_is_listed⟩ := h_is_listed
  obtain ⟨f_is_seam, fd_is_seam, G_is_seam, g_is_seam, k_is_seam, b_is_seam⟩ := h_is_seam
  obtain ⟨fd_BadSkin_init, G_BadSkin_init, b_BadSkin_init⟩ := h_BadSkin_init
  refine FunD.ok F sc_need_seams (fun vs H Q E h => ?_) (fun cdv A outer s H vs Q E hr h => ?_)
  · obtain ⟨v, k, n, rfl, _⟩ := h
    rfl
  · obtain ⟨v, k, n, rfl, hk, h⟩ := h
    rcases h with ⟨h1, r⟩ | ⟨h1, a, xs, f, rfl, hb, hl, hx, q, r⟩
    · refine ⟨_, (pss_one (ps_if (PW.pt (pw_or (pt_not (pt_val (pe_call G_is_listed (hr.mono (by decide)) (by rfl) g_is_listed k_is_listed b_is_listed .nil pass0 (pa_cons (pv 0) pa_nil)))) (pw_or1 (pt_not (pt_val (pe_callB (cr_all rfl) (by rfl) Tx.n_all (by decide +kernel) (pa_cons (pe_lc (own := [("seam", 2)]) (g := gName 2) (tt := tYes) rfl sc_need_seams.nd (pi_list (pv 0)) (blkOk_by (own := [("seam", 2)]) (N := ["seams", "sides", "seam"]) (sc := defScope s_need_seams) (by decide +kernel)) (fun _ _ _ _ _ => (pg_name (i := 2) sc_need_seams.nd rfl (Or.inl rfl))) (fun _ _ _ _ _ => pts_nil) (fun _ _ _ _ _ => (pe_call G_is_seam (hr.mono (by decide)) (by rfl) g_is_seam k_is_seam b_is_seam .nil pass0 (pa_cons (pv 2) (pa_cons (pv 1) pa_nil))))) pa_nil))))))) (pss_one (ps_raise rfl (takes_of rfl rfl rfl rfl) (pmk_oex Tx.er_BadSkin.oex Tx.er_BadSkin.ini Tx.er_BadSkin.fn G_BadSkin_init (hr.mono (by decide)) b_BadSkin_init .nil pass0 (by rfl) Tx.g_BadSkin (pa_cons pe_str pa_nil)))) pss_nil)), ?_⟩
      refine ⟨_, rfl, v, k, rfl, hk, fun H1 s1 => ⟨_, rfl, ?_⟩⟩
      rw [h1]
      exact iteT (mk1 Tx.er_BadSkin.oex (Tx.er_BadSkin.no "part" (by simp)) (r.same s1))
    · rcases hb with hb | hb
      · refine ⟨_, (pss_one (ps_if (PW.pt (pw_or (pt_not (pt_val (pe_call G_is_listed (hr.mono (by decide)) (by rfl) g_is_listed k_is_listed b_is_listed .nil pass0 (pa_cons (pv 0) pa_nil)))) (pw_or1 (pt_not (pt_val (pe_callB (cr_all rfl) (by rfl) Tx.n_all (by decide +kernel) (pa_cons (pe_lc (own := [("seam", 2)]) (g := gName 2) (tt := tYes) rfl sc_need_seams.nd (pi_list (pv 0)) (blkOk_by (own := [("seam", 2)]) (N := ["seams", "sides", "seam"]) (sc := defScope s_need_seams) (by decide +kernel)) (fun _ _ _ _ _ => (pg_name (i := 2) sc_need_seams.nd rfl (Or.inl rfl))) (fun _ _ _ _ _ => pts_nil) (fun _ _ _ _ _ => (pe_call G_is_seam (hr.mono (by decide)) (by rfl) g_is_seam k_is_seam b_is_seam .nil pass0 (pa_cons (pv 2) (pa_cons (pv 1) pa_nil))))) pa_nil))))))) (pss_one (ps_raise rfl (takes_of rfl rfl rfl rfl) (pmk_oex Tx.er_BadSkin.oex Tx.er_BadSkin.ini Tx.er_BadSkin.fn G_BadSkin_init (hr.mono (by decide)) b_BadSkin_init .nil pass0 (by rfl) Tx.g_BadSkin (pa_cons pe_str pa_nil)))) pss_nil)), ?_⟩
        refine ⟨_, rfl, _, k, rfl, hk, fun H1 s1 => ⟨_, rfl, ?_⟩⟩
        rw [h1]
        refine iteF ?_
        refine ⟨_, rfl, a, rfl, ⟨xs, SqL.of (s1 _ _ hb)⟩, fun D nD => ?_⟩
        refine lc_pure (walk_list (K := K) (a := a) (xs := xs)) xs rfl (by omega) (fun i H x H' y => ⟨same_of_eq y.1, y.2⟩) (fun x => .bl (f x)) (fun _ => true) nD (fun H s => SqL.of (s _ _ (s1 _ _ hb))) (fun i x H2 Q1 Q0 hi s2 q1 q0 => ?_) (fun H2 s2 hD => ?_)
        · refine ⟨rfl, ?_⟩
          obtain ⟨kx, h2, h3⟩ := hx x (List.mem_of_getElem? hi)
          exact ⟨_, rfl, _, rfl, x, kx, n, f x, rfl, (h2.same s1).same s2, (h3.same s1).same s2, fun H4 s4 => q1 rfl _ s4⟩
        · rw [bls_mapf] at hD
          refine ⟨D, _, rfl, SqL.of hD, _, rfl, ?_⟩
          rw [all_id]
          cases e : xs.all f with
          | true => exact q e _ (s1.trans s2)
          | false => exact mk1 Tx.er_BadSkin.oex (Tx.er_BadSkin.no "part" (by simp)) ((r e).same (s1.trans s2))
      · refine ⟨_, (pss_one (ps_if (PW.pt (pw_or (pt_not (pt_val (pe_call G_is_listed (hr.mono (by decide)) (by rfl) g_is_listed k_is_listed b_is_listed .nil pass0 (pa_cons (pv 0) pa_nil)))) (pw_or1 (pt_not (pt_val (pe_callB (cr_all rfl) (by rfl) Tx.n_all (by decide +kernel) (pa_cons (pe_lc (own := [("seam", 2)]) (g := gName 2) (tt := tYes) rfl sc_need_seams.nd (pi_tup (pv 0)) (blkOk_by (own := [("seam", 2)]) (N := ["seams", "sides", "seam"]) (sc := defScope s_need_seams) (by decide +kernel)) (fun _ _ _ _ _ => (pg_name (i := 2) sc_need_seams.nd rfl (Or.inl rfl))) (fun _ _ _ _ _ => pts_nil) (fun _ _ _ _ _ => (pe_call G_is_seam (hr.mono (by decide)) (by rfl) g_is_seam k_is_seam b_is_seam .nil pass0 (pa_cons (pv 2) (pa_cons (pv 1) pa_nil))))) pa_nil))))))) (pss_one (ps_raise rfl (takes_of rfl rfl rfl rfl) (pmk_oex Tx.er_BadSkin.oex Tx.er_BadSkin.ini Tx.er_BadSkin.fn G_BadSkin_init (hr.mono (by decide)) b_BadSkin_init .nil pass0 (by rfl) Tx.g_BadSkin (pa_cons pe_str pa_nil)))) pss_nil)), ?_⟩
        refine ⟨_, rfl, _, k, rfl, hk, fun H1 s1 => ⟨_, rfl, ?_⟩⟩
        rw [h1]
        refine iteF ?_
        refine ⟨_, rfl, a, rfl, ⟨xs, sqT_same hb s1⟩, fun D nD => ?_⟩
        refine lc_pure (walk_tup (K := K) (a := a) (xs := xs)) xs rfl (by omega) (fun i H x H' y => ⟨same_of_eq y.1, y.2⟩) (fun x => .bl (f x)) (fun _ => true) nD (fun H s => sqT_same (sqT_same hb s1) s) (fun i x H2 Q1 Q0 hi s2 q1 q0 => ?_) (fun H2 s2 hD => ?_)
        · refine ⟨rfl, ?_⟩
          obtain ⟨kx, h2, h3⟩ := hx x (List.mem_of_getElem? hi)
          exact ⟨_, rfl, _, rfl, x, kx, n, f x, rfl, (h2.same s1).same s2, (h3.same s1).same s2, fun H4 s4 => q1 rfl _ s4⟩
        · rw [bls_mapf] at hD
          refine ⟨D, _, rfl, SqL.of hD, _, rfl, ?_⟩
          rw [all_id]
          cases e : xs.all f with
          | true => exact q e _ (s1.trans s2)
          | false => exact mk1 Tx.er_BadSkin.oex (Tx.er_BadSkin.no "part" (by simp)) ((r e).same (s1.trans s2))
theorem has_need_seams (Tx : Txt K mg) (c : He.SaysX fa fn [] tf ex w hh K) (X : K.In hh) (GG : hh.Ns mainGlobals mg) (h_is_listed : Has P w K mg base "is_listed" 1 ["value"] (sp_is_listed K)) (h_is_seam : Has P w K mg base "is_seam" 3 ["value", "sides"] (sp_is_seam K)) (h_BadSkin_init : HasM P w K mg base CX0 "BadSkin" "__init__" 1 ["self", "part"] (sp_BadSkin_init K))  : HasX P w K mg base "need_seams" 4 ["seams", "sides"] (sp_need_seams K) := by
  obtain ⟨fd, F⟩ := c.t.d.def_ 22 (d := d_need_seams) rfl
  exact ⟨_, fd, ok_need_seams F Tx h_is_listed h_is_seam h_BadSkin_init, He.glo_ok X GG (c.t.d.fact 24 (f := .glo "need_seams") rfl), F.kp, F.bindsN fun _ _ _ _ _ _ us hl => match us, hl with | [_, _], _ => rfl⟩
/-! ### pairs of sides -/
/-- the tuples at ts are the pairs ps -/
structure Seams (H : Hp) (ts : List Addr) (ps : List (Int × Int)) : Prop where
  len : ts.length = ps.length
  at_ : ∀ (i : Nat) (t : Addr) (p : Int × Int), ts[i]? = some t → ps[i]? = some p → H t = some (.tup [.int p.1, .int p.2])
theorem Seams.same {H H' : Hp} {ts : List Addr} {ps : List (Int × Int)} (h : Seams H ts ps) (s : Same H H') : Seams H' ts ps := ⟨h.len, fun i t p h1 h2 => s _ _ (h.at_ i t p h1 h2)⟩
def flat2 (ps : List (Int × Int)) : List Int := ps.flatMap fun p => [p.1, p.2]
theorem flat2_len (ps : List (Int × Int)) : (flat2 ps).length = 2 * ps.length := by
  unfold flat2
  induction ps with
  | nil => rfl
  | cons p r ih => simp only [List.flatMap_cons, List.length_append, List.length_cons, List.length_nil, ih]; omega
theorem flat2_take {ps : List (Int × Int)} {i : Nat} {p : Int × Int} (h : ps[i]? = some p) : flat2 (ps.take (i + 1)) = flat2 (ps.take i) ++ [p.1, p.2] := by
  unfold flat2
  rw [List.take_add_one, h, Option.toList_some, List.flatMap_append]
  rfl
/-- one seam of the walk -/
theorem Seams.get {H : Hp} {ts : List Addr} {ps : List (Int × Int)} (h : Seams H ts ps) {i : Nat} {x : V} (hx : (ts.map V.ref)[i]? = some x) : ∃ t p, x = .ref t ∧ ts[i]? = some t ∧ ps[i]? = some p ∧ H t = some (.tup [.int p.1, .int p.2]) := by
  rw [List.getElem?_map] at hx
  obtain ⟨t, ht, rfl⟩ := Option.map_eq_some_iff.mp hx
  obtain ⟨hlt, _⟩ := List.getElem?_eq_some_iff.mp ht
  rw [h.len] at hlt
  exact ⟨t, ps[i], rfl, ht, List.getElem?_eq_getElem hlt, h.at_ i t _ ht (List.getElem?_eq_getElem hlt)⟩
def sp_sides_in (K : PySem.W.Frag) : Sp := fun vs H Q _ => ∃ (a : Addr) (ts : List Addr) (ps : List (Int × Int)), vs = [.ref a] ∧ Box K H a (ts.map V.ref) ∧ Seams H ts ps ∧ ps.length ≤ 400 ∧
  ∀ H' r, Same H H' → H r = none → H' r = some (.lst ((flat2 ps).map V.int)) → Q (.ref r) H'
theorem two_at {x y : Int} {j : Nat} {v : V} (h : [V.int x, V.int y][j]? = some v) : ∃ m, v = .int m ∧ [x, y].take (j + 1) = [x, y].take j ++ [m] := by
  match j, h with
  | 0, h => exact ⟨x, (Option.some.inj h).symm, rfl⟩
  | 1, h => exact ⟨y, (Option.some.inj h).symm, rfl⟩
  | j + 2, h => simp at h
theorem sc_sides_in : FnScope ["seams", "seam", "side"] ["seams"] (defScope s_sides_in) := ⟨rfl, rfl, rfl, by decide +kernel, rfl, by decide +kernel, by decide +kernel⟩
theorem ok_sides_in {f : Addr} {fd : FuncData} (F : FunD K "sides_in" "sides_in" (defArgs s_sides_in) (defBody s_sides_in) (defScope s_sides_in) [] [] f fd) (Tx : Txt K mg)   : FnOk P w K mg base CX0 1 f fd ["seams"] (sp_sides_in K) := by
  refine FunD.ok F sc_sides_in (fun vs H Q E h => ?_) (fun cdv A outer s H vs Q E hr h => ?_)
  · obtain ⟨a, ts, ps, rfl, _⟩ := h
    rfl
  · obtain ⟨a, ts, ps, rfl, hb, hs, hl, q⟩ := h
    have len2 : ∀ (i j : Nat) (pr : Int × Int), ((flat2 (ps.take i) ++ [pr.1, pr.2].take j).map V.int).length < sizeLine := fun i j pr => by
      refine small_line ?_
      rw [List.length_map, List.length_append, flat2_len, List.length_take, List.length_take]
      have : [pr.1, pr.2].length = 2 := rfl
      omega
    rcases hb with hb | hb
    · refine ⟨_, PSs.nox (pss_one (ps_ret (pe_lc2 (wi1 := iTup K (tVar 1)) (own := [("seam", 1), ("side", 2)]) (vs1 := [2]) (tt := tYes) (tt1 := tYes) rfl sc_sides_in.nd (pi_list (pv 0)) (blkOk_by (own := [("seam", 1), ("side", 2)]) (N := ["seams", "seam", "side"]) (sc := defScope s_sides_in) (by decide +kernel)) (by decide) (fun _ _ _ _ _ => (pg_name (i := 1) sc_sides_in.nd rfl (Or.inl rfl))) (fun _ _ _ _ _ => pts_nil) (fun _ _ _ _ _ => (pi_tup (pv 1))) (fun _ _ _ _ _ => (pg_name (i := 2) sc_sides_in.nd rfl (Or.inl rfl))) (fun _ _ _ _ _ => pts_nil) (fun _ _ _ _ _ => (pv 2))))), ?_⟩
      refine ⟨_, rfl, a, rfl, ⟨_, SqL.of hb⟩, fun D nD => ?_⟩
      refine run_it (walk_list (K := K) (a := a) (xs := ts.map V.ref)) (fun i H' => Same H H' ∧ H' D = some (.lst ((flat2 (ps.take i)).map V.int))) ⟨same_new nD, upd_same⟩ (fun i H' _ p => SqL.of (p.1 _ _ hb)) (fun i x H2 H3 hi p y => ?_) (fun H' p => ?_)
      · obtain ⟨rfl, hx⟩ := y
        obtain ⟨t, pr, rfl, ht, hp, htup⟩ := hs.get hx
        refine ⟨rfl, ?_⟩
        refine ⟨_, rfl, t, rfl, ⟨_, SqT.of (p.1 _ _ htup)⟩, ?_⟩
        refine run_it (walk_tup (K := K) (a := t) (xs := [.int pr.1, .int pr.2])) (fun j H' => Same H H' ∧ H' D = some (.lst ((flat2 (ps.take i) ++ [pr.1, pr.2].take j).map V.int))) ⟨p.1, by rw [List.take_zero, List.append_nil]; exact p.2⟩ (fun j H' _ p => SqT.of (p.1 _ _ htup)) (fun j x H4 H5 hj p4 y4 => ?_) (fun H' p4 => ?_)
        · obtain ⟨rfl, hx2⟩ := y4
          obtain ⟨m, rfl, em⟩ := two_at hx2
          refine ⟨rfl, ?_⟩
          refine ⟨_, rfl, _, p4.2, len2 i j pr, Same.mut p4.1 nD, ?_⟩
          rw [upd_same, em]
          simp only [List.map_append, List.append_assoc, List.map_cons, List.map_nil]
        · refine ⟨p4.1, ?_⟩
          rw [p4.2, flat2_take hp]
          rfl
      · refine q _ _ p.1 nD ?_
        rw [p.2, List.length_map, hs.len, List.take_length]
    · refine ⟨_, PSs.nox (pss_one (ps_ret (pe_lc2 (wi1 := iTup K (tVar 1)) (own := [("seam", 1), ("side", 2)]) (vs1 := [2]) (tt := tYes) (tt1 := tYes) rfl sc_sides_in.nd (pi_tup (pv 0)) (blkOk_by (own := [("seam", 1), ("side", 2)]) (N := ["seams", "seam", "side"]) (sc := defScope s_sides_in) (by decide +kernel)) (by decide) (fun _ _ _ _ _ => (pg_name (i := 1) sc_sides_in.nd rfl (Or.inl rfl))) (fun _ _ _ _ _ => pts_nil) (fun _ _ _ _ _ => (pi_tup (pv 1))) (fun _ _ _ _ _ => (pg_name (i := 2) sc_sides_in.nd rfl (Or.inl rfl))) (fun _ _ _ _ _ => pts_nil) (fun _ _ _ _ _ => (pv 2))))), ?_⟩
      refine ⟨_, rfl, a, rfl, ⟨_, hb⟩, fun D nD => ?_⟩
      refine run_it (walk_tup (K := K) (a := a) (xs := ts.map V.ref)) (fun i H' => Same H H' ∧ H' D = some (.lst ((flat2 (ps.take i)).map V.int))) ⟨same_new nD, upd_same⟩ (fun i H' _ p => sqT_same hb p.1) (fun i x H2 H3 hi p y => ?_) (fun H' p => ?_)
      · obtain ⟨rfl, hx⟩ := y
        obtain ⟨t, pr, rfl, ht, hp, htup⟩ := hs.get hx
        refine ⟨rfl, ?_⟩
        refine ⟨_, rfl, t, rfl, ⟨_, SqT.of (p.1 _ _ htup)⟩, ?_⟩
        refine run_it (walk_tup (K := K) (a := t) (xs := [.int pr.1, .int pr.2])) (fun j H' => Same H H' ∧ H' D = some (.lst ((flat2 (ps.take i) ++ [pr.1, pr.2].take j).map V.int))) ⟨p.1, by rw [List.take_zero, List.append_nil]; exact p.2⟩ (fun j H' _ p => SqT.of (p.1 _ _ htup)) (fun j x H4 H5 hj p4 y4 => ?_) (fun H' p4 => ?_)
        · obtain ⟨rfl, hx2⟩ := y4
          obtain ⟨m, rfl, em⟩ := two_at hx2
          refine ⟨rfl, ?_⟩
          refine ⟨_, rfl, _, p4.2, len2 i j pr, Same.mut p4.1 nD, ?_⟩
          rw [upd_same, em]
          simp only [List.map_append, List.append_assoc, List.map_cons, List.map_nil]
        · refine ⟨p4.1, ?_⟩
          rw [p4.2, flat2_take hp]
          rfl
      · refine q _ _ p.1 nD ?_
        rw [p.2, List.length_map, hs.len, List.take_length]
theorem has_sides_in (Tx : Txt K mg) (c : He.SaysX fa fn [] tf ex w hh K) (X : K.In hh) (GG : hh.Ns mainGlobals mg)   : Has P w K mg base "sides_in" 1 ["seams"] (sp_sides_in K) := by
  obtain ⟨fd, F⟩ := c.t.d.def_ 23 (d := d_sides_in) rfl
  exact ⟨_, fd, ok_sides_in F Tx , He.glo_ok X GG (c.t.d.fact 25 (f := .glo "sides_in") rfl), F.kp, F.bindsN fun _ _ _ _ _ _ us hl => match us, hl with | [_], _ => rfl⟩
/-! ### mates -/
def msF (ms : List V) (p : Int × Int) : List V := (ms.set p.1.toNat (.int p.2)).set p.2.toNat (.int p.1)
def msL (ps : List (Int × Int)) (n : Nat) : List V := ps.foldl msF (List.replicate n .non)
theorem msF_len (ms : List V) (p : Int × Int) : (msF ms p).length = ms.length := by unfold msF; simp
theorem msL_len (ps : List (Int × Int)) (n : Nat) : (msL ps n).length = n := by
  unfold msL
  suffices h : ∀ ms : List V, (ps.foldl msF ms).length = ms.length by rw [h, List.length_replicate]
  induction ps with
  | nil => intro ms; rfl
  | cons p r ih => intro ms; rw [List.foldl_cons, ih, msF_len]
theorem msL_take {ps : List (Int × Int)} {i n : Nat} {p : Int × Int} (h : ps[i]? = some p) : msL (ps.take (i + 1)) n = msF (msL (ps.take i) n) p := by
  unfold msL
  rw [List.take_add_one, h, Option.toList_some, List.foldl_append]
  rfl
/-- a pair of sides of a skin of n sides -/
def Pok (n : Int) (p : Int × Int) : Prop := 0 ≤ p.1 ∧ p.1 < n ∧ 0 ≤ p.2 ∧ p.2 < n ∧ p.1 ≠ p.2
theorem ixN_at {n j : Nat} (hj : j < n) : ixN n (j : Int) = some j := by
  unfold ixN
  rw [if_pos (by omega), if_pos (by omega)]
  simp
theorem ixN_in {n : Nat} {i : Int} (h0 : 0 ≤ i) (h1 : i < n) : ixN n i = some i.toNat := by
  obtain ⟨j, rfl⟩ := Int.eq_ofNat_of_zero_le h0
  rw [ixN_at (by omega)]
  rfl
def sp_mates_of (K : PySem.W.Frag) : Sp := fun vs H Q _ => ∃ (a : Addr) (ts : List Addr) (ps : List (Int × Int)) (n : Int), vs = [.ref a, .int n] ∧ Box K H a (ts.map V.ref) ∧ Seams H ts ps ∧ (∀ p ∈ ps, Pok n p) ∧ 0 ≤ n ∧ n ≤ 100 ∧
  ∀ H' r, Same H H' → H r = none → H' r = some (.tup (msL ps n.toNat)) → Q (.ref r) H'
theorem rep_one (n : Nat) : (List.replicate n [V.non]).flatten = List.replicate n V.non := by
  induction n with
  | zero => rfl
  | succ n ih => rw [List.replicate_succ, List.flatten_cons, ih, List.replicate_succ]; rfl
theorem sc_mates_of : FnScope ["seams", "sides", "mates", "one", "other"] ["seams", "sides"] (defScope s_mates_of) := ⟨rfl, rfl, rfl, by decide +kernel, rfl, by decide +kernel, by decide +kernel⟩
theorem ok_mates_of {f : Addr} {fd : FuncData} (F : FunD K "mates_of" "mates_of" (defArgs s_mates_of) (defBody s_mates_of) (defScope s_mates_of) [] [] f fd) (Tx : Txt K mg)   : FnOk P w K mg base CX0 1 f fd ["seams", "sides"] (sp_mates_of K) := by
  refine FunD.ok F sc_mates_of (fun vs H Q E h => ?_) (fun cdv A outer s H vs Q E hr h => ?_)
  · obtain ⟨a, ts, ps, n, rfl, _⟩ := h
    rfl
  · obtain ⟨a, ts, ps, n, rfl, hb, hs, hok, n0, n1, q⟩ := h
    rcases hb with hb | hb
    · refine ⟨_, PSs.nox (pss_cons (ps_set (i := 2) sc_mates_of.nd rfl (Or.inl rfl) (pe_op op_rep (pe_lst (pa_cons pe_non pa_nil)) (pv 1)))
        (pss_cons (ps_for PassesOwn.never rfl (pi_list (pv 0)) (pg_tup (by rfl) (pgs_cons (pg_name (i := 3) sc_mates_of.nd rfl (Or.inl rfl)) (pgs_cons (pg_name (i := 4) sc_mates_of.nd rfl (Or.inl rfl)) pgs_nil))) (pss_cons (ps_asg (pv 4) (pg_sub (pv 2) (pv 3) set_list))
        (pss_one (ps_asg (pv 3) (pg_sub (pv 2) (pv 4) set_list)))))
        (pss_one (ps_ret (pe_callTy call_tuple_of (by rfl) Tx.n_tuple (by decide +kernel) (pa_cons (pv 2) pa_nil)))))), ?_⟩
      refine ⟨le_line (n := 1) (by decide), fun l nl => ⟨_, rfl, l, n, _, rfl, rfl, upd_same, by omega, by omega, le_line (by show 1 * n.toNat ≤ 100000; omega), fun m nm => ?_⟩⟩
      rw [rep_one]
      have s1 : Same H (upd H l (.lst [.non])) := same_new nl
      have nm0 : H m = none := s1.free nm
      have s2 := s1.trans (same_new (o := .lst (List.replicate n.toNat .non)) nm)
      refine ⟨_, rfl, a, rfl, ⟨_, SqL.of (s2 _ _ hb)⟩, ?_⟩
      refine for_it (walk_list (K := K) (a := a) (xs := ts.map V.ref)) (fun i σ H2 => ∃ (x y : Option V), σ = [some (.ref a), some (.int n), some (.ref m), x, y] ∧ Same H H2 ∧ H2 m = some (.lst (msL (ps.take i) n.toNat)))
        ⟨none, none, rfl, s2, upd_same⟩ (fun i σ H2 _ p => ?_) (fun i x σ H2 H3 hi p y => ?_) (fun σ H2 p => ?_)
      · obtain ⟨_, _, _, s3, _⟩ := p
        exact SqL.of (s3 _ _ hb)
      · obtain ⟨x0, y0, rfl, s3, hm⟩ := p
        obtain ⟨rfl, hx⟩ := y
        obtain ⟨t, pr, rfl, ht, hp, htup⟩ := hs.get hx
        obtain ⟨p0, p1, p2, p3, p4⟩ := hok pr (List.mem_of_getElem? hp)
        refine ⟨t, _, rfl, SqT.of (s3 _ _ htup), rfl, _, _, rfl, _, _, rfl, rfl, ?_⟩
        refine ⟨_, rfl, _, rfl, _, rfl, m, _, pr.1, pr.1.toNat, rfl, rfl, hm, ixN_in p0 (by rw [msL_len]; omega), ?_⟩
        refine ⟨_, rfl, _, rfl, _, rfl, m, _, pr.2, pr.2.toNat, rfl, rfl, upd_same, ixN_in p2 (by rw [List.length_set, msL_len]; omega), ?_⟩
        refine ⟨_, _, rfl, Same.mut (Same.mut s3 nm0) nm0, ?_⟩
        rw [upd_same, msL_take hp]
        rfl
      · obtain ⟨x0, y0, rfl, s3, hm⟩ := p
        rw [List.length_map, hs.len, List.take_length] at hm
        refine ⟨_, rfl, m, _, rfl, .inl ⟨SqL.of hm, fun r nr => ?_⟩⟩
        exact q _ _ (s3.trans (same_new nr)) (s3.free nr) upd_same
    · refine ⟨_, PSs.nox (pss_cons (ps_set (i := 2) sc_mates_of.nd rfl (Or.inl rfl) (pe_op op_rep (pe_lst (pa_cons pe_non pa_nil)) (pv 1)))
        (pss_cons (ps_for PassesOwn.never rfl (pi_tup (pv 0)) (pg_tup (by rfl) (pgs_cons (pg_name (i := 3) sc_mates_of.nd rfl (Or.inl rfl)) (pgs_cons (pg_name (i := 4) sc_mates_of.nd rfl (Or.inl rfl)) pgs_nil))) (pss_cons (ps_asg (pv 4) (pg_sub (pv 2) (pv 3) set_list))
        (pss_one (ps_asg (pv 3) (pg_sub (pv 2) (pv 4) set_list)))))
        (pss_one (ps_ret (pe_callTy call_tuple_of (by rfl) Tx.n_tuple (by decide +kernel) (pa_cons (pv 2) pa_nil)))))), ?_⟩
      refine ⟨le_line (n := 1) (by decide), fun l nl => ⟨_, rfl, l, n, _, rfl, rfl, upd_same, by omega, by omega, le_line (by show 1 * n.toNat ≤ 100000; omega), fun m nm => ?_⟩⟩
      rw [rep_one]
      have s1 : Same H (upd H l (.lst [.non])) := same_new nl
      have nm0 : H m = none := s1.free nm
      have s2 := s1.trans (same_new (o := .lst (List.replicate n.toNat .non)) nm)
      refine ⟨_, rfl, a, rfl, ⟨_, sqT_same hb s2⟩, ?_⟩
      refine for_it (walk_tup (K := K) (a := a) (xs := ts.map V.ref)) (fun i σ H2 => ∃ (x y : Option V), σ = [some (.ref a), some (.int n), some (.ref m), x, y] ∧ Same H H2 ∧ H2 m = some (.lst (msL (ps.take i) n.toNat)))
        ⟨none, none, rfl, s2, upd_same⟩ (fun i σ H2 _ p => ?_) (fun i x σ H2 H3 hi p y => ?_) (fun σ H2 p => ?_)
      · obtain ⟨_, _, _, s3, _⟩ := p
        exact sqT_same hb s3
      · obtain ⟨x0, y0, rfl, s3, hm⟩ := p
        obtain ⟨rfl, hx⟩ := y
        obtain ⟨t, pr, rfl, ht, hp, htup⟩ := hs.get hx
        obtain ⟨p0, p1, p2, p3, p4⟩ := hok pr (List.mem_of_getElem? hp)
        refine ⟨t, _, rfl, SqT.of (s3 _ _ htup), rfl, _, _, rfl, _, _, rfl, rfl, ?_⟩
        refine ⟨_, rfl, _, rfl, _, rfl, m, _, pr.1, pr.1.toNat, rfl, rfl, hm, ixN_in p0 (by rw [msL_len]; omega), ?_⟩
        refine ⟨_, rfl, _, rfl, _, rfl, m, _, pr.2, pr.2.toNat, rfl, rfl, upd_same, ixN_in p2 (by rw [List.length_set, msL_len]; omega), ?_⟩
        refine ⟨_, _, rfl, Same.mut (Same.mut s3 nm0) nm0, ?_⟩
        rw [upd_same, msL_take hp]
        rfl
      · obtain ⟨x0, y0, rfl, s3, hm⟩ := p
        rw [List.length_map, hs.len, List.take_length] at hm
        refine ⟨_, rfl, m, _, rfl, .inl ⟨SqL.of hm, fun r nr => ?_⟩⟩
        exact q _ _ (s3.trans (same_new nr)) (s3.free nr) upd_same
theorem has_mates_of (Tx : Txt K mg) (c : He.SaysX fa fn [] tf ex w hh K) (X : K.In hh) (GG : hh.Ns mainGlobals mg)   : Has P w K mg base "mates_of" 1 ["seams", "sides"] (sp_mates_of K) := by
  obtain ⟨fd, F⟩ := c.t.d.def_ 24 (d := d_mates_of) rfl
  exact ⟨_, fd, ok_mates_of F Tx , He.glo_ok X GG (c.t.d.fact 26 (f := .glo "mates_of") rfl), F.kp, F.bindsN fun _ _ _ _ _ _ us hl => match us, hl with | [_, _], _ => rfl⟩

end
end K05

namespace K05
open PySem PySem.Spec PyProof.Rows L2 Vf LamX
section
variable {hh : Heap} {P : Program} {w : World} {K : PySem.W.Frag} {mg : Str → Option Value} {base : Heap}
/-! ### a skin -/
theorem st_app {f : Str} {v : V} : ∀ {fs : List (Str × V)} {ns : List Str}, fs.map (·.1) = ns → f ∉ ns → putF f v fs = fs ++ [(f, v)]
  | [], _, _, _ => rfl
  | (g, x) :: r, ns, hn, hf => by
    subst hn
    have h1 : g ≠ f := fun e => hf (by rw [e]; exact List.mem_cons_self ..)
    have h2 : f ∉ r.map (·.1) := fun e => hf (List.mem_cons_of_mem _ e)
    show (if g = f then (g, v) :: r else (g, x) :: putF f v r) = _
    rw [if_neg h1, st_app rfl h2]
    rfl
def srt (p : Int × Int) : Int × Int := (if p.2 < p.1 then p.2 else p.1, if p.1 < p.2 then p.2 else p.1)
def freeB (ms : List V) (i : Nat) : Bool := match ms[i]? with
  | some .non => true
  | _ => false
def frL (ps : List (Int × Int)) (n : Nat) : List Int := ((List.range n).filter (freeB (msL ps n))).map Int.ofNat
def skF (z : Str) (n : Int) (st mt : Addr) (nb : Addr × Addr) (ft : Addr) : List (Str × V) := [("kind", .str z), ("faces", .int n), ("turn", .int (turnOf z)), ("full", .int (fullOf z)), ("sides", .int (n * turnOf z)), ("seams", .ref st), ("mates", .ref mt), ("nexts", .ref nb.1), ("backs", .ref nb.2), ("free", .ref ft)]
/-- for each side the one so many places behind it in its face -/
def tnF (t b : Int) : V → V
  | .int i => .int (i / t * t + (i + b) % t)
  | v => v
def tnL (N : Nat) (t b : Int) : List V := (List.range N).map fun i : Nat => V.int ((i : Int) / t * t + ((i : Int) + b) % t)
/-- a skin of the kind z, of n faces, with the seams ps as told -/
structure SkinIs (K : PySem.W.Frag) (H : Hp) (x : Addr) (z : Str) (n : Int) (ps : List (Int × Int)) (dx st mt ft : Addr) (us : List Addr) (qs : List (Int × Int)) : Prop where
  ins0 : ∃ nb : Addr × Addr, H x = some (.ins (He.ga K "Skin") dx (skF z n st mt nb ft)) ∧ H nb.1 = some (.tup (tnL (n * turnOf z).toNat (turnOf z) 1)) ∧ H nb.2 = some (.tup (tnL (n * turnOf z).toNat (turnOf z) (turnOf z - 1)))
  seams : H st = some (.tup (us.map V.ref))
  sts : Seams H us qs
  perm : qs.Perm (ps.map srt)
  mates : H mt = some (.tup (msL ps (n * turnOf z).toNat))
  free : H ft = some (.tup ((frL ps (n * turnOf z).toNat).map V.int))
noncomputable def SkinIs.nb {H : Hp} {x dx st mt ft : Addr} {us : List Addr} {z : Str} {n : Int} {ps qs : List (Int × Int)} (h : SkinIs K H x z n ps dx st mt ft us qs) : Addr × Addr := Classical.choose h.ins0
theorem SkinIs.ins {H : Hp} {x dx st mt ft : Addr} {us : List Addr} {z : Str} {n : Int} {ps qs : List (Int × Int)} (h : SkinIs K H x z n ps dx st mt ft us qs) : H x = some (.ins (He.ga K "Skin") dx (skF z n st mt h.nb ft)) := (Classical.choose_spec h.ins0).1
theorem SkinIs.nexts {H : Hp} {x dx st mt ft : Addr} {us : List Addr} {z : Str} {n : Int} {ps qs : List (Int × Int)} (h : SkinIs K H x z n ps dx st mt ft us qs) : H h.nb.1 = some (.tup (tnL (n * turnOf z).toNat (turnOf z) 1)) := (Classical.choose_spec h.ins0).2.1
theorem SkinIs.backs {H : Hp} {x dx st mt ft : Addr} {us : List Addr} {z : Str} {n : Int} {ps qs : List (Int × Int)} (h : SkinIs K H x z n ps dx st mt ft us qs) : H h.nb.2 = some (.tup (tnL (n * turnOf z).toNat (turnOf z) (turnOf z - 1))) := (Classical.choose_spec h.ins0).2.2
def SkinAt (K : PySem.W.Frag) (H : Hp) (x : Addr) (z : Str) (n : Int) (ps : List (Int × Int)) : Prop := ∃ dx st mt ft us qs, SkinIs K H x z n ps dx st mt ft us qs
def SBox (K : PySem.W.Frag) (H : Hp) (a : Addr) (xs : List V) : Prop := H a = some (.lst xs) ∨ H a = some (.tup xs) ∨ (xs = [] ∧ a = dflA K)
theorem SBox.box {H : Hp} {a : Addr} {xs : List V} (Tx : Txt K mg) (h : SBox K H a xs) : Box K H a xs := by
  rcases h with h | h | ⟨rfl, rfl⟩
  · exact .inl h
  · exact .inr (SqT.of h)
  · obtain ⟨od, n, sl, e⟩ := Tx.dfl
    exact .inr (.inr ⟨_, #[], n, e, rfl, rfl, Nat.zero_le _, .nil⟩)
theorem SBox.kd {H : Hp} {a : Addr} {xs : List V} (Tx : Txt K mg) (h : SBox K H a xs) : ∃ k : Kd, KdV K H (.ref a) k ∧ k.seq = true := by
  rcases h with h | h | ⟨rfl, rfl⟩
  · exact ⟨.list, ⟨_, h⟩, rfl⟩
  · exact ⟨.tuple, .inl ⟨_, h⟩, rfl⟩
  · obtain ⟨od, n, sl, e⟩ := Tx.dfl
    exact ⟨.tuple, .inr ⟨_, e, rfl⟩, rfl⟩
theorem SBox.same {H H' : Hp} {a : Addr} {xs : List V} (h : SBox K H a xs) (s : Same H H') : SBox K H' a xs := by
  rcases h with h | h | h
  · exact .inl (s _ _ h)
  · exact .inr (.inl (s _ _ h))
  · exact .inr (.inr h)
theorem says_ok {H : Hp} {t : Addr} {p : Int × Int} {n : Int} (h : H t = some (.tup [.int p.1, .int p.2])) (hp : Pok n p) : KdV K H (.ref t) .tuple ∧ SeamSays K H (.ref t) .tuple n true := by
  obtain ⟨h0, h1, h2, h3, h4⟩ := hp
  refine ⟨.inl ⟨_, h⟩, .inr ⟨rfl, t, _, rfl, .inr h, .inr ⟨_, _, .int, .int, rfl, True.intro, True.intro, ?_⟩⟩⟩
  have e1 : bnd (.int p.1) (.int 0) (.int (n - 1)) = true := by
    show (decide (0 ≤ p.1) && decide (p.1 ≤ n - 1)) = true
    rw [decide_eq_true h0, decide_eq_true (by omega)] <;> rfl
  have e2 : bnd (.int p.2) (.int 0) (.int (n - 1)) = true := by
    show (decide (0 ≤ p.2) && decide (p.2 ≤ n - 1)) = true
    rw [decide_eq_true h2, decide_eq_true (by omega)] <;> rfl
  rw [e1, e2, decide_eq_false (fun e => h4 (by injection e))]
  rfl
theorem items_ok {H : Hp} {ts : List Addr} {ps : List (Int × Int)} {n : Int} (hs : Seams H ts ps) (hok : ∀ p ∈ ps, Pok n p) : ∀ x ∈ ts.map V.ref, ∃ kx, KdV K H x kx ∧ SeamSays K H x kx n true := fun x hx => by
  obtain ⟨i, hi, e⟩ := List.mem_iff_getElem.mp hx
  obtain ⟨t, p, rfl, ht, hp, htup⟩ := hs.get (by rw [List.getElem?_eq_getElem hi, e])
  exact ⟨.tuple, says_ok htup (hok p (List.mem_of_getElem? hp))⟩
theorem turn_in (z : Str) : turnOf z = 4 ∨ turnOf z = 3 := by
  unfold turnOf
  by_cases h : z = "square"
  · exact .inl (if_pos h)
  · exact .inr (if_neg h)
def pairOf (H : Hp) (v : V) : Int × Int := match v with
  | .ref t => (match H t with
    | some (.tup [.int i, .int j]) => (i, j)
    | _ => (0, 0))
  | _ => (0, 0)
def addrOf : V → Addr
  | .ref t => t
  | _ => 0
theorem pairOf_at {H : Hp} {t : Addr} {p : Int × Int} (h : H t = some (.tup [.int p.1, .int p.2])) : pairOf H (.ref t) = p := by
  unfold pairOf
  simp only [h]
theorem perm_seams {H : Hp} {ts : List Addr} {ps : List (Int × Int)} {ys : List V} (hs : Seams H ts ps) (hp : ys.Perm (ts.map V.ref)) : ∃ us qs, ys = us.map V.ref ∧ Seams H us qs ∧ qs.Perm ps := by
  have all : ∀ y ∈ ys, ∃ (t : Addr) (p : Int × Int), y = .ref t ∧ H t = some (.tup [.int p.1, .int p.2]) := fun y hy => by
    obtain ⟨i, hi, e⟩ := List.mem_iff_getElem.mp (hp.mem_iff.mp hy)
    obtain ⟨t, p, e1, _, _, htup⟩ := hs.get (by rw [List.getElem?_eq_getElem hi, e])
    exact ⟨t, p, e1, htup⟩
  refine ⟨ys.map addrOf, ys.map (pairOf H), ?_, ⟨by rw [List.length_map, List.length_map], fun i t p h1 h2 => ?_⟩, ?_⟩
  · rw [List.map_map]
    conv => lhs; rw [← List.map_id ys]
    refine List.map_congr_left fun y hy => ?_
    obtain ⟨t, p, rfl, _⟩ := all y hy
    rfl
  · rw [List.getElem?_map] at h1 h2
    obtain ⟨y, hy, rfl⟩ := Option.map_eq_some_iff.mp h1
    rw [hy] at h2
    obtain ⟨t, p, rfl, htup⟩ := all y (List.mem_of_getElem? hy)
    have e := Option.some.inj h2
    rw [pairOf_at htup] at e
    subst e
    exact htup
  · have e : (ts.map V.ref).map (pairOf H) = ps := by
      refine List.ext_getElem? fun i => ?_
      rw [List.getElem?_map]
      cases h : (ts.map V.ref)[i]? with
      | none =>
        rw [List.getElem?_eq_none_iff, List.length_map, hs.len] at h
        rw [Option.map_none, eq_comm, List.getElem?_eq_none_iff]
        exact h
      | some x =>
        obtain ⟨t, p, rfl, _, hp2, htup⟩ := hs.get h
        rw [Option.map_some, pairOf_at htup, hp2]
    have h2 := hp.map (pairOf H)
    rw [e] at h2
    exact h2
def fcErr (K : PySem.W.Frag) (E : XK) (H : Hp) : Prop := Rz E (He.ga K "BadSkin") [("part", .str "faces")] H
def twErr (K : PySem.W.Frag) (E : XK) (H : Hp) (t : Int) : Prop := Rz E (He.ga K "Twice") [("value", .int t)] H
def mnErr (K : PySem.W.Frag) (E : XK) (H : Hp) : Prop := Rz E (He.ga K "TooMany") [("most", .int 24), ("what", .str "faces")] H
/-- what Skin(kv, fv, sv) does: ok, when it is made, or E -/
inductive SkDo (K : PySem.W.Frag) (E : XK) (H : Hp) (kv fv sv : V) (ok : Str → Int → List (Int × Int) → Prop) : Prop where
  | kind (g : isGrid kv = false) (e : kdErr K E H)
  | faces (g : isGrid kv = true) (b : bnd fv (.int 1) .non = false) (e : fcErr K E H)
  | seams (z : Str) (n : Int) (k : Kd) (ez : kv = .str z) (g : isGrid kv = true) (en : fv = .int n) (b : 1 ≤ n) (hk : KdV K H sv k) (e : smErr K E H)
      (h : k.seq = false ∨ (k.seq = true ∧ ∃ (a : Addr) (xs : List V) (f : V → Bool), sv = .ref a ∧ Box K H a xs ∧ xs.length ≤ 1000 ∧ (∀ x ∈ xs, ∃ kx, KdV K H x kx ∧ SeamSays K H x kx (n * turnOf z) (f x)) ∧ xs.all f = false))
  | made (z : Str) (n : Int) (a : Addr) (ts : List Addr) (ps : List (Int × Int)) (ez : kv = .str z) (g : isGrid kv = true) (en : fv = .int n) (b : 1 ≤ n) (es : sv = .ref a) (hb : SBox K H a (ts.map V.ref)) (hs : Seams H ts ps) (hl : ps.length ≤ 400)
      (hok : ∀ p ∈ ps, Pok (n * turnOf z) p) (e1 : ∀ t, tw (flat2 ps) = some t → twErr K E H t) (e2 : tw (flat2 ps) = none → 24 < n → mnErr K E H) (q : tw (flat2 ps) = none → n ≤ 24 → ok z n ps)
def sp_Skin_init (K : PySem.W.Frag) : Sp := fun vs H Q E => ∃ (x dx : Addr) (kv fv sv : V) (k1 k2 : Kd), vs = [.ref x, kv, fv, sv] ∧ H x = some (.ins (He.ga K "Skin") dx []) ∧ KdV K H kv k1 ∧ KdV K H fv k2 ∧
  SkDo K E H kv fv sv fun z n ps => ∀ H', Kp x H H' → SkinAt K H' x z n ps → Q .non H'
/-- while the fields are stored -/
structure Stg (K : PySem.W.Frag) (x dx : Addr) (H0 H' : Hp) (fs : List (Str × V)) : Prop where
  ins : H' x = some (.ins (He.ga K "Skin") dx fs)
  kp : Kp x H0 H'
theorem Stg.put {x dx : Addr} {H0 H' : Hp} {fs : List (Str × V)} {f : Str} {v : V} {ns : List Str} (h : Stg K x dx H0 H' fs) (hn : fs.map (·.1) = ns) (hf : f ∉ ns) : Stg K x dx H0 (upd H' x (.ins (He.ga K "Skin") dx (putF f v fs))) (fs ++ [(f, v)]) :=
  ⟨by rw [upd_same, st_app hn hf], h.kp.set⟩
theorem hbl_kp {x dx a : Addr} {H H' : Hp} {xs : List V} {fs : List (Str × V)} {C : Addr} (hx : H x = some (.ins C dx fs)) (hb : H a = some (.lst xs)) (k : Kp x H H') : SqL K H' a xs := by
  refine SqL.of (k _ _ (fun e => ?_) hb)
  rw [e, hx] at hb
  cases hb
theorem hbt_kp {x dx a : Addr} {H H' : Hp} {xs : List V} {fs : List (Str × V)} {C : Addr} (hx : H x = some (.ins C dx fs)) (hb : SqT K H a xs) (k : Kp x H H') : SqT K H' a xs := by
  rcases hb with (hb | ⟨o, hb⟩) | hb
  · refine .inl (.inl (k _ _ (fun e => ?_) hb))
    rw [e, hx] at hb
    cases hb
  · refine .inl (.inr ⟨o, k _ _ (fun e => ?_) hb⟩)
    rw [e, hx] at hb
    cases hb
  · exact .inr hb
theorem seams_kp {x dx : Addr} {H H' : Hp} {ts : List Addr} {ps : List (Int × Int)} {fs : List (Str × V)} {C : Addr} (hx : H x = some (.ins C dx fs)) (hs : Seams H ts ps) (k : Kp x H H') : Seams H' ts ps :=
  ⟨hs.len, fun i t p h1 h2 => by
    have h := hs.at_ i t p h1 h2
    refine k _ _ (fun e => ?_) h
    rw [e, hx] at h
    cases h⟩
theorem Seams.upd {x dx : Addr} {H : Hp} {ts : List Addr} {ps : List (Int × Int)} {fs : List (Str × V)} {C : Addr} {o : HO} (hs : Seams H ts ps) (hx : H x = some (.ins C dx fs)) : Seams (L2.upd H x o) ts ps := seams_kp hx hs (Kp.refl x H).set
theorem Seams.push {H : Hp} {us : List Addr} {ps : List (Int × Int)} {T D : Addr} {p : Int × Int} {xs ys : List V} (hs : Seams H us ps) (nT : H T = none) (hD : H D = some (.lst xs)) :
    Seams (L2.upd (L2.upd H T (.tup [.int p.1, .int p.2])) D (.lst ys)) (us ++ [T]) (ps ++ [p]) := by
  refine ⟨by rw [List.length_append, List.length_append, hs.len] <;> rfl, fun i t q h1 h2 => ?_⟩
  have hTD : T ≠ D := (ne_of_none hD nT).symm
  by_cases hi : i < us.length
  · rw [List.getElem?_append_left hi] at h1
    rw [List.getElem?_append_left (by rw [← hs.len]; exact hi)] at h2
    have h := hs.at_ i t q h1 h2
    have tD : t ≠ D := fun e => by
      rw [e, hD] at h
      cases h
    rw [upd_ne tD, upd_ne (ne_of_none h nT)]
    exact h
  · rw [List.getElem?_append_right (by omega)] at h1
    rw [List.getElem?_append_right (by rw [← hs.len]; omega)] at h2
    obtain ⟨k, hk⟩ : ∃ k, i - us.length = k := ⟨_, rfl⟩
    rw [← hs.len, hk] at h2
    rw [hk] at h1
    cases k with
    | zero =>
      cases h1
      cases h2
      rw [upd_ne hTD, upd_same]
    | succ k => simp at h1
theorem tup_upd {x dx st : Addr} {H : Hp} {xs : List V} {fs : List (Str × V)} {C : Addr} {o : HO} (hx : H x = some (.ins C dx fs)) (h : H st = some (.tup xs)) : L2.upd H x o st = some (.tup xs) := by
  rw [upd_ne fun e => ?_]
  · exact h
  · rw [e, hx] at h
    cases h
theorem box_kp {x dx a : Addr} {H H' : Hp} {xs : List V} {fs : List (Str × V)} {C : Addr} (hx : H x = some (.ins C dx fs)) (hb : Box K H a xs) (k : Kp x H H') : Box K H' a xs := by
  rcases hb with hb | hb
  · refine .inl (k _ _ (fun e => ?_) hb)
    rw [e, hx] at hb
    cases hb
  · exact .inr (hbt_kp hx hb k)
def rgL (N : Nat) : List V := (List.range N).map fun i => V.int ((0 : Int) + (i : Nat))
theorem rgL_len (N : Nat) : (rgL N).length = N := by unfold rgL; simp
theorem rgL_at {N i : Nat} (h : i < N) : (rgL N)[i]? = some (V.int ((0 : Int) + (i : Nat))) := by
  unfold rgL
  rw [List.getElem?_map, List.getElem?_range h]
  rfl
theorem rgL_get {N i : Nat} {v : V} (h : (rgL N)[i]? = some v) : i < N ∧ v = .int (i : Nat) := by
  obtain ⟨hlt, _⟩ := List.getElem?_eq_some_iff.mp h
  rw [rgL_len] at hlt
  rw [rgL_at hlt] at h
  refine ⟨hlt, ?_⟩
  rw [← Option.some.inj h, Int.zero_add]
def keepF (ms : List V) : V → Bool
  | .int i => freeB ms i.toNat
  | _ => false
theorem keepF_at {ms : List V} {i : Nat} {v : V} (h : ms[i]? = some v) : keepF ms (.int (i : Nat)) = decide (v = .non) := by
  show freeB ms (Int.toNat (i : Int)) = _
  rw [Int.toNat_natCast]
  unfold freeB
  rw [h]
  cases v <;> first | rfl | (symm; exact decide_eq_false fun e => nomatch e)
theorem rgL_keep {ps : List (Int × Int)} {N : Nat} : (rgL N).filter (keepF (msL ps N)) = (frL ps N).map V.int := by
  unfold rgL frL
  rw [List.filter_map, List.map_map]
  have e1 : (keepF (msL ps N) ∘ fun i : Nat => V.int ((0 : Int) + (i : Nat))) = freeB (msL ps N) := by
    funext i
    show freeB (msL ps N) ((0 : Int) + (i : Nat)).toNat = _
    rw [Int.zero_add, Int.toNat_natCast]
  rw [e1]
  refine List.map_congr_left fun i _ => ?_
  show V.int ((0 : Int) + (i : Nat)) = V.int (Int.ofNat i)
  rw [Int.zero_add]
  rfl
theorem rgL_tn {N : Nat} {t b : Int} : ((rgL N).filter fun _ => true).map (tnF t b) = tnL N t b := by
  rw [List.filter_eq_self.mpr fun _ _ => rfl]
  unfold rgL tnL
  rw [List.map_map]
  refine List.map_congr_left fun i _ => ?_
  show V.int ((0 + (i : Int)) / t * t + ((0 + (i : Int)) + b) % t) = _
  rw [Int.zero_add]
def sp_turned_sides (K : PySem.W.Frag) : Sp := fun vs H Q _ => ∃ (n t b : Int), vs = [.int n, .int t, .int b] ∧ 0 ≤ n ∧ n ≤ 200 ∧ 0 < t ∧ t ≤ 10 ∧ ∀ H' r, Same H H' → H r = none → H' r = some (.tup (tnL n.toNat t b)) → Q (.ref r) H'
theorem sc_turned_sides : FnScope ["sides", "turn", "by", "side"] ["sides", "turn", "by"] (defScope s_turned_sides) := ⟨rfl, rfl, rfl, by decide +kernel, rfl, by decide +kernel, by decide +kernel⟩
theorem ok_turned_sides {f : Addr} {fd : FuncData} (F : FunD K "turned_sides" "turned_sides" (defArgs s_turned_sides) (defBody s_turned_sides) (defScope s_turned_sides) [] [] f fd) (Tx : Txt K mg)   : FnOk P w K mg base CX0 1 f fd ["sides", "turn", "by"] (sp_turned_sides K) := by
  refine FunD.ok F sc_turned_sides (fun vs H Q E h => ?_) (fun cdv A outer s H vs Q E hr h => ?_)
  · obtain ⟨n, t, b, rfl, _⟩ := h
    rfl
  · obtain ⟨n, t, b, rfl, n0, n1, t0, t1, q⟩ := h
    obtain ⟨N, rfl⟩ := Int.eq_ofNat_of_zero_le n0
    refine ⟨_, PSs.nox (pss_one (ps_ret (pe_callTy call_tuple_of (by rfl) Tx.n_tuple (by decide +kernel) (pa_cons (pe_lc (own := [("side", 3)]) (g := gName 3) (tt := tYes) rfl sc_turned_sides.nd (pi_range1 (by rfl) Tx.n_range (pa_cons (pv 0) pa_nil)) (blkOk_by (own := [("side", 3)]) (N := ["sides", "turn", "by", "side"]) (sc := defScope s_turned_sides) (by decide +kernel)) (fun _ _ _ _ _ => (pg_name (i := 3) sc_turned_sides.nd rfl (Or.inl rfl))) (fun _ _ _ _ _ => pts_nil) (fun _ _ _ _ _ => (pe_op op_add (pe_op op_mul (pe_op op_fdiv (pv 3) (pv 1)) (pv 1)) (pe_op op_mod (pe_op op_add (pv 3) (pv 2)) (pv 1))))) pa_nil)))), ?_⟩
    refine ⟨_, rfl, _, rfl, by omega, by omega, fun D nD => ?_⟩
    refine lc_pure ((walk_range (lo := 0) (n := (N : Int).toNat)).mono (Y' := fun i H x H' => H' = H ∧ (rgL N)[i]? = some x) (fun _ h => h) (fun i H x H' hi _ y => ⟨y.1, by rw [y.2]; exact rgL_at hi⟩)) (rgL N) (by rw [rgL_len]; rfl) (by rw [rgL_len]; omega) (fun i H x H' y => ⟨same_of_eq y.1, y.2⟩) (tnF t b) (fun _ => true) nD (fun _ _ => True.intro) (fun i v H2 Q1 Q0 hi s2 q1 q0 => ?_) (fun H2 s2 hD => ?_)
    · refine ⟨rfl, ?_⟩
      obtain ⟨iN, rfl⟩ := rgL_get hi
      exact ⟨_, rfl, _, rfl, _, _, rfl, rfl, ⟨t0, by omega⟩, _, rfl, _, _, rfl, rfl, .inr ⟨by omega, by omega⟩, _, rfl, _, rfl, _, _, rfl, rfl, _, rfl, _, _, rfl, rfl, t0, _, _, rfl, rfl, q1 rfl _ (Same.refl _)⟩
    · rw [rgL_tn] at hD
      refine ⟨D, _, rfl, .inl ⟨SqL.of hD, fun r nr => ?_⟩⟩
      exact q _ r (s2.trans (same_new nr)) (s2.free nr) upd_same
theorem has_turned_sides (Tx : Txt K mg) (c : He.SaysX fa fn [] tf ex w hh K) (X : K.In hh) (GG : hh.Ns mainGlobals mg)   : Has P w K mg base "turned_sides" 1 ["sides", "turn", "by"] (sp_turned_sides K) := by
  obtain ⟨fd, F⟩ := c.t.d.def_ 25 (d := d_turned_sides) rfl
  exact ⟨_, fd, ok_turned_sides F Tx , He.glo_ok X GG (c.t.d.fact 27 (f := .glo "turned_sides") rfl), F.kp, F.bindsN fun _ _ _ _ _ _ us hl => match us, hl with | [_, _, _], _ => rfl⟩
theorem sc_Skin_init : FnScope ["self", "kind", "faces", "seams", "turn", "twice", "seam", "side"] ["self", "kind", "faces", "seams"] (defScope s_Skin_init) := ⟨rfl, rfl, rfl, by decide +kernel, rfl, by decide +kernel, by decide +kernel⟩
theorem ok_Skin_init {f : Addr} {fd : FuncData} (F : FunD K "__init__" "Skin.__init__" (defArgs s_Skin_init) (defBody s_Skin_init) (defScope s_Skin_init) [.ref (dflA K)] [] f fd) (Tx : Txt K mg) (h_need_kind : HasX P w K mg base "need_kind" 3 ["kind"] (sp_need_kind K)) (h_is_within : Has P w K mg base "is_within" 2 ["value", "least", "most"] (sp_is_within K)) (h_BadSkin_init : HasM P w K mg base CX0 "BadSkin" "__init__" 1 ["self", "part"] (sp_BadSkin_init K)) (h_sides_of : HasX P w K mg base "sides_of" 4 ["kind"] (sp_sides_of K)) (h_need_seams : HasX P w K mg base "need_seams" 4 ["seams", "sides"] (sp_need_seams K)) (h_first_twice : Has P w K mg base "first_twice" 1 ["values"] (sp_first_twice K)) (h_sides_in : Has P w K mg base "sides_in" 1 ["seams"] (sp_sides_in K)) (h_Twice_init : HasM P w K mg base CX0 "Twice" "__init__" 1 ["self", "value"] (sp_Twice_init K)) (h_TooMany_init : HasM P w K mg base CX0 "TooMany" "__init__" 1 ["self", "what", "most"] (sp_TooMany_init K)) (h_full_of : HasX P w K mg base "full_of" 4 ["kind"] (sp_full_of K)) (h_mates_of : Has P w K mg base "mates_of" 1 ["seams", "sides"] (sp_mates_of K)) (h_turned_sides : Has P w K mg base "turned_sides" 1 ["sides", "turn", "by"] (sp_turned_sides K))  : FnOk P w K mg base (L2.CX P w) 5 f fd ["self", "kind", "faces", "seams"] (sp_Skin_init K) := by
  obtain ⟨f_need_kind, fd_need_kind, G_need_kind, g_need_kind, k_need_kind, b_need_kind⟩ := h_need_kind
  obtain ⟨f_is_within, fd_is_within, G_is_within, g_is_within, k_is_within, b_is_within⟩ := h_is_within
  obtain ⟨fd_BadSkin_init, G_BadSkin_init, b_BadSkin_init⟩ := h_BadSkin_init
  obtain ⟨f_sides_of, fd_sides_of, G_sides_of, g_sides_of, k_sides_of, b_sides_of⟩ := h_sides_of
  obtain ⟨f_need_seams, fd_need_seams, G_need_seams, g_need_seams, k_need_seams, b_need_seams⟩ := h_need_seams
  obtain ⟨f_first_twice, fd_first_twice, G_first_twice, g_first_twice, k_first_twice, b_first_twice⟩ := h_first_twice
  obtain ⟨f_sides_in, fd_sides_in, G_sides_in, g_sides_in, k_sides_in, b_sides_in⟩ := h_sides_in
  obtain ⟨fd_Twice_init, G_Twice_init, b_Twice_init⟩ := h_Twice_init
  obtain ⟨fd_TooMany_init, G_TooMany_init, b_TooMany_init⟩ := h_TooMany_init
  obtain ⟨f_full_of, fd_full_of, G_full_of, g_full_of, k_full_of, b_full_of⟩ := h_full_of
  obtain ⟨f_mates_of, fd_mates_of, G_mates_of, g_mates_of, k_mates_of, b_mates_of⟩ := h_mates_of
  obtain ⟨f_turned_sides, fd_turned_sides, G_turned_sides, g_turned_sides, k_turned_sides, b_turned_sides⟩ := h_turned_sides
  refine FunD.ok F sc_Skin_init (fun vs H Q E h => ?_) (fun cdv A outer s H vs Q E hr h => ?_)
  · obtain ⟨x, dx, kv, fv, sv, k1, k2, rfl, _⟩ := h
    rfl
  · obtain ⟨x, dx, kv, fv, sv, k1, k2, rfl, hx, hk1, hk2, h⟩ := h
    cases h with
    | kind g e =>
      refine ⟨_, (pss_cons (ps_expr (pe_call G_need_kind (hr.mono (by decide)) (by rfl) g_need_kind k_need_kind b_need_kind .nil (passE rfl rfl rfl rfl) (pa_cons (pv 1) pa_nil)))
        (pss_cons (ps_if (pt_not (pt_val (pe_call G_is_within (hr.mono (by decide)) (by rfl) g_is_within k_is_within b_is_within .nil pass0 (pa_cons (pv 2) (pa_cons pe_int (pa_cons pe_non pa_nil)))))) (pss_one (ps_raise rfl (takes_of rfl rfl rfl rfl) (pmk_oex Tx.er_BadSkin.oex Tx.er_BadSkin.ini Tx.er_BadSkin.fn G_BadSkin_init (hr.mono (by decide)) b_BadSkin_init .nil pass0 (by rfl) Tx.g_BadSkin (pa_cons pe_str pa_nil)))) pss_nil)
        (pss_cons (ps_set (i := 4) sc_Skin_init.nd rfl (Or.inl rfl) (pe_call G_sides_of (hr.mono (by decide)) (by rfl) g_sides_of k_sides_of b_sides_of .nil (passE rfl rfl rfl rfl) (pa_cons (pv 1) pa_nil)))
        (pss_cons (ps_expr (pe_call G_need_seams (hr.mono (by decide)) (by rfl) g_need_seams k_need_seams b_need_seams .nil (passE rfl rfl rfl rfl) (pa_cons (pv 3) (pa_cons (pe_op op_mul (pv 2) (pv 4)) pa_nil))))
        (pss_cons (ps_set (i := 5) sc_Skin_init.nd rfl (Or.inl rfl) (pe_call G_first_twice (hr.mono (by decide)) (by rfl) g_first_twice k_first_twice b_first_twice .nil pass0 (pa_cons (pe_call G_sides_in (hr.mono (by decide)) (by rfl) g_sides_in k_sides_in b_sides_in .nil pass0 (pa_cons (pv 3) pa_nil)) pa_nil)))
        (pss_cons (ps_if (pt_cmpR op_notN (pv 5) pe_non (nomark _)) (pss_one (ps_raise rfl (takes_of rfl rfl rfl rfl) (pmk_oex Tx.er_Twice.oex Tx.er_Twice.ini Tx.er_Twice.fn G_Twice_init (hr.mono (by decide)) b_Twice_init .nil pass0 (by rfl) Tx.g_Twice (pa_cons (pv 5) pa_nil)))) pss_nil)
        (pss_cons (ps_if (pt_cmpR op_gt (pv 2) (pe_glob (v := .int 24) (by rfl) (Tx.c_MOST_FACES).choose_spec ⟨_, rfl⟩) (nomark _)) (pss_one (ps_raise rfl (takes_of rfl rfl rfl rfl) (pmk_oex Tx.er_TooMany.oex Tx.er_TooMany.ini Tx.er_TooMany.fn G_TooMany_init (hr.mono (by decide)) b_TooMany_init .nil pass0 (by rfl) Tx.g_TooMany (pa_cons pe_str (pa_cons (pe_glob (v := .int 24) (by rfl) (Tx.c_MOST_FACES).choose_spec ⟨_, rfl⟩) pa_nil))))) pss_nil)
        (C8.pss_cut (ps_fld (pv 0) (pv 1) rfl)
        (C8.pss_cut (ps_fld (pv 0) (pv 2) rfl)
        (C8.pss_cut (ps_fld (pv 0) (pv 4) rfl)
        (C8.pss_cut (ps_fld (pv 0) (pe_call G_full_of (hr.mono (by decide)) (by rfl) g_full_of k_full_of b_full_of .nil (passE rfl rfl rfl rfl) (pa_cons (pv 1) pa_nil)) rfl)
        (C8.pss_cut (ps_fld (pv 0) (pe_op op_mul (pv 2) (pv 4)) rfl)
        (C8.pss_cut (ps_fld (pv 0) (pe_callTy call_tuple_of (by rfl) Tx.n_tuple (by decide +kernel) (pa_cons (pe_callB cr_sortedP (by rfl) Tx.n_sorted (by decide +kernel) (pa_cons (pe_lc (own := [("seam", 6)]) (g := gName 6) (tt := tYes) rfl sc_Skin_init.nd (pi_list (pv 3)) (blkOk_by (own := [("seam", 6)]) (N := ["self", "kind", "faces", "seams", "turn", "twice", "seam", "side"]) (sc := defScope s_Skin_init) (by decide +kernel)) (fun _ _ _ _ _ => (pg_name (i := 6) sc_Skin_init.nd rfl (Or.inl rfl))) (fun _ _ _ _ _ => pts_nil) (fun _ _ _ _ _ => (pe_tup (pa_cons (pe_callB (cr_minTK (K := K) rfl rfl hr.units) (by rfl) Tx.n_min (by decide +kernel) (pa_cons (pv 6) pa_nil)) (pa_cons (pe_callB (cr_maxTK (K := K) rfl rfl hr.units) (by rfl) Tx.n_max (by decide +kernel) (pa_cons (pv 6) pa_nil)) pa_nil))))) pa_nil)) pa_nil)) rfl)
        (C8.pss_cut (ps_fld (pv 0) (pe_call G_mates_of (hr.mono (by decide)) (by rfl) g_mates_of k_mates_of b_mates_of .nil pass0 (pa_cons (pv 3) (pa_cons (pe_fld (pv 0) rfl) pa_nil))) rfl)
        (C8.pss_cut (ps_fld (pv 0) (pe_call G_turned_sides (hr.mono (by decide)) (by rfl) g_turned_sides k_turned_sides b_turned_sides .nil pass0 (pa_cons (pe_fld (pv 0) rfl) (pa_cons (pv 4) (pa_cons pe_int pa_nil)))) rfl)
        (C8.pss_cut (ps_fld (pv 0) (pe_call G_turned_sides (hr.mono (by decide)) (by rfl) g_turned_sides k_turned_sides b_turned_sides .nil pass0 (pa_cons (pe_fld (pv 0) rfl) (pa_cons (pv 4) (pa_cons (pe_op op_sub (pv 4) pe_int) pa_nil)))) rfl)
        (pss_one (ps_fld (pv 0) (pe_callTy call_tuple_of (by rfl) Tx.n_tuple (by decide +kernel) (pa_cons (pe_lc (own := [("side", 7)]) (g := gName 7) rfl sc_Skin_init.nd (pi_range1 (by rfl) Tx.n_range (pa_cons (pe_fld (pv 0) rfl) pa_nil)) (blkOk_by (own := [("side", 7)]) (N := ["self", "kind", "faces", "seams", "turn", "twice", "seam", "side"]) (sc := defScope s_Skin_init) (by decide +kernel)) (fun _ _ _ _ _ => (pg_name (i := 7) sc_Skin_init.nd rfl (Or.inl rfl))) (fun _ _ _ _ _ => (pts_one (pt_cmpR op_isN (pe_ix (ix_tupK (K := K) rfl) (pe_fldK (K := K) rfl (pv 0) rfl) (pv 7) (fun _ _ => rfl)) pe_non (nomark _)))) (fun _ _ _ _ _ => (pv 7))) pa_nil)) rfl)))))))))))))))))), ?_⟩
      exact ⟨_, rfl, kv, k1, rfl, hk1, fun g1 => absurd g (by rw [g1]; decide), fun _ => e⟩
    | faces g b e =>
      refine ⟨_, (pss_cons (ps_expr (pe_call G_need_kind (hr.mono (by decide)) (by rfl) g_need_kind k_need_kind b_need_kind .nil (passE rfl rfl rfl rfl) (pa_cons (pv 1) pa_nil)))
        (pss_cons (ps_if (pt_not (pt_val (pe_call G_is_within (hr.mono (by decide)) (by rfl) g_is_within k_is_within b_is_within .nil pass0 (pa_cons (pv 2) (pa_cons pe_int (pa_cons pe_non pa_nil)))))) (pss_one (ps_raise rfl (takes_of rfl rfl rfl rfl) (pmk_oex Tx.er_BadSkin.oex Tx.er_BadSkin.ini Tx.er_BadSkin.fn G_BadSkin_init (hr.mono (by decide)) b_BadSkin_init .nil pass0 (by rfl) Tx.g_BadSkin (pa_cons pe_str pa_nil)))) pss_nil)
        (pss_cons (ps_set (i := 4) sc_Skin_init.nd rfl (Or.inl rfl) (pe_call G_sides_of (hr.mono (by decide)) (by rfl) g_sides_of k_sides_of b_sides_of .nil (passE rfl rfl rfl rfl) (pa_cons (pv 1) pa_nil)))
        (pss_cons (ps_expr (pe_call G_need_seams (hr.mono (by decide)) (by rfl) g_need_seams k_need_seams b_need_seams .nil (passE rfl rfl rfl rfl) (pa_cons (pv 3) (pa_cons (pe_op op_mul (pv 2) (pv 4)) pa_nil))))
        (pss_cons (ps_set (i := 5) sc_Skin_init.nd rfl (Or.inl rfl) (pe_call G_first_twice (hr.mono (by decide)) (by rfl) g_first_twice k_first_twice b_first_twice .nil pass0 (pa_cons (pe_call G_sides_in (hr.mono (by decide)) (by rfl) g_sides_in k_sides_in b_sides_in .nil pass0 (pa_cons (pv 3) pa_nil)) pa_nil)))
        (pss_cons (ps_if (pt_cmpR op_notN (pv 5) pe_non (nomark _)) (pss_one (ps_raise rfl (takes_of rfl rfl rfl rfl) (pmk_oex Tx.er_Twice.oex Tx.er_Twice.ini Tx.er_Twice.fn G_Twice_init (hr.mono (by decide)) b_Twice_init .nil pass0 (by rfl) Tx.g_Twice (pa_cons (pv 5) pa_nil)))) pss_nil)
        (pss_cons (ps_if (pt_cmpR op_gt (pv 2) (pe_glob (v := .int 24) (by rfl) (Tx.c_MOST_FACES).choose_spec ⟨_, rfl⟩) (nomark _)) (pss_one (ps_raise rfl (takes_of rfl rfl rfl rfl) (pmk_oex Tx.er_TooMany.oex Tx.er_TooMany.ini Tx.er_TooMany.fn G_TooMany_init (hr.mono (by decide)) b_TooMany_init .nil pass0 (by rfl) Tx.g_TooMany (pa_cons pe_str (pa_cons (pe_glob (v := .int 24) (by rfl) (Tx.c_MOST_FACES).choose_spec ⟨_, rfl⟩) pa_nil))))) pss_nil)
        (C8.pss_cut (ps_fld (pv 0) (pv 1) rfl)
        (C8.pss_cut (ps_fld (pv 0) (pv 2) rfl)
        (C8.pss_cut (ps_fld (pv 0) (pv 4) rfl)
        (C8.pss_cut (ps_fld (pv 0) (pe_call G_full_of (hr.mono (by decide)) (by rfl) g_full_of k_full_of b_full_of .nil (passE rfl rfl rfl rfl) (pa_cons (pv 1) pa_nil)) rfl)
        (C8.pss_cut (ps_fld (pv 0) (pe_op op_mul (pv 2) (pv 4)) rfl)
        (C8.pss_cut (ps_fld (pv 0) (pe_callTy call_tuple_of (by rfl) Tx.n_tuple (by decide +kernel) (pa_cons (pe_callB cr_sortedP (by rfl) Tx.n_sorted (by decide +kernel) (pa_cons (pe_lc (own := [("seam", 6)]) (g := gName 6) (tt := tYes) rfl sc_Skin_init.nd (pi_list (pv 3)) (blkOk_by (own := [("seam", 6)]) (N := ["self", "kind", "faces", "seams", "turn", "twice", "seam", "side"]) (sc := defScope s_Skin_init) (by decide +kernel)) (fun _ _ _ _ _ => (pg_name (i := 6) sc_Skin_init.nd rfl (Or.inl rfl))) (fun _ _ _ _ _ => pts_nil) (fun _ _ _ _ _ => (pe_tup (pa_cons (pe_callB (cr_minTK (K := K) rfl rfl hr.units) (by rfl) Tx.n_min (by decide +kernel) (pa_cons (pv 6) pa_nil)) (pa_cons (pe_callB (cr_maxTK (K := K) rfl rfl hr.units) (by rfl) Tx.n_max (by decide +kernel) (pa_cons (pv 6) pa_nil)) pa_nil))))) pa_nil)) pa_nil)) rfl)
        (C8.pss_cut (ps_fld (pv 0) (pe_call G_mates_of (hr.mono (by decide)) (by rfl) g_mates_of k_mates_of b_mates_of .nil pass0 (pa_cons (pv 3) (pa_cons (pe_fld (pv 0) rfl) pa_nil))) rfl)
        (C8.pss_cut (ps_fld (pv 0) (pe_call G_turned_sides (hr.mono (by decide)) (by rfl) g_turned_sides k_turned_sides b_turned_sides .nil pass0 (pa_cons (pe_fld (pv 0) rfl) (pa_cons (pv 4) (pa_cons pe_int pa_nil)))) rfl)
        (C8.pss_cut (ps_fld (pv 0) (pe_call G_turned_sides (hr.mono (by decide)) (by rfl) g_turned_sides k_turned_sides b_turned_sides .nil pass0 (pa_cons (pe_fld (pv 0) rfl) (pa_cons (pv 4) (pa_cons (pe_op op_sub (pv 4) pe_int) pa_nil)))) rfl)
        (pss_one (ps_fld (pv 0) (pe_callTy call_tuple_of (by rfl) Tx.n_tuple (by decide +kernel) (pa_cons (pe_lc (own := [("side", 7)]) (g := gName 7) rfl sc_Skin_init.nd (pi_range1 (by rfl) Tx.n_range (pa_cons (pe_fld (pv 0) rfl) pa_nil)) (blkOk_by (own := [("side", 7)]) (N := ["self", "kind", "faces", "seams", "turn", "twice", "seam", "side"]) (sc := defScope s_Skin_init) (by decide +kernel)) (fun _ _ _ _ _ => (pg_name (i := 7) sc_Skin_init.nd rfl (Or.inl rfl))) (fun _ _ _ _ _ => (pts_one (pt_cmpR op_isN (pe_ix (ix_tupK (K := K) rfl) (pe_fldK (K := K) rfl (pv 0) rfl) (pv 7) (fun _ _ => rfl)) pe_non (nomark _)))) (fun _ _ _ _ _ => (pv 7))) pa_nil)) rfl)))))))))))))))))), ?_⟩
      refine ⟨_, rfl, kv, k1, rfl, hk1, fun _ => ?_, fun g1 => absurd g (by rw [g1]; decide)⟩
      refine ⟨_, rfl, fv, .int 1, .non, k2, rfl, hk2, rfl, rfl, _, rfl, ?_⟩
      rw [b]
      exact iteT (mk1 Tx.er_BadSkin.oex (Tx.er_BadSkin.no "part" (by simp)) e)
    | seams z n k ez g en b hk e hh =>
      subst ez en
      refine ⟨_, (pss_cons (ps_expr (pe_call G_need_kind (hr.mono (by decide)) (by rfl) g_need_kind k_need_kind b_need_kind .nil (passE rfl rfl rfl rfl) (pa_cons (pv 1) pa_nil)))
        (pss_cons (ps_if (pt_not (pt_val (pe_call G_is_within (hr.mono (by decide)) (by rfl) g_is_within k_is_within b_is_within .nil pass0 (pa_cons (pv 2) (pa_cons pe_int (pa_cons pe_non pa_nil)))))) (pss_one (ps_raise rfl (takes_of rfl rfl rfl rfl) (pmk_oex Tx.er_BadSkin.oex Tx.er_BadSkin.ini Tx.er_BadSkin.fn G_BadSkin_init (hr.mono (by decide)) b_BadSkin_init .nil pass0 (by rfl) Tx.g_BadSkin (pa_cons pe_str pa_nil)))) pss_nil)
        (pss_cons (ps_set (i := 4) sc_Skin_init.nd rfl (Or.inl rfl) (pe_call G_sides_of (hr.mono (by decide)) (by rfl) g_sides_of k_sides_of b_sides_of .nil (passE rfl rfl rfl rfl) (pa_cons (pv 1) pa_nil)))
        (pss_cons (ps_expr (pe_call G_need_seams (hr.mono (by decide)) (by rfl) g_need_seams k_need_seams b_need_seams .nil (passE rfl rfl rfl rfl) (pa_cons (pv 3) (pa_cons (pe_op op_mul (pv 2) (pv 4)) pa_nil))))
        (pss_cons (ps_set (i := 5) sc_Skin_init.nd rfl (Or.inl rfl) (pe_call G_first_twice (hr.mono (by decide)) (by rfl) g_first_twice k_first_twice b_first_twice .nil pass0 (pa_cons (pe_call G_sides_in (hr.mono (by decide)) (by rfl) g_sides_in k_sides_in b_sides_in .nil pass0 (pa_cons (pv 3) pa_nil)) pa_nil)))
        (pss_cons (ps_if (pt_cmpR op_notN (pv 5) pe_non (nomark _)) (pss_one (ps_raise rfl (takes_of rfl rfl rfl rfl) (pmk_oex Tx.er_Twice.oex Tx.er_Twice.ini Tx.er_Twice.fn G_Twice_init (hr.mono (by decide)) b_Twice_init .nil pass0 (by rfl) Tx.g_Twice (pa_cons (pv 5) pa_nil)))) pss_nil)
        (pss_cons (ps_if (pt_cmpR op_gt (pv 2) (pe_glob (v := .int 24) (by rfl) (Tx.c_MOST_FACES).choose_spec ⟨_, rfl⟩) (nomark _)) (pss_one (ps_raise rfl (takes_of rfl rfl rfl rfl) (pmk_oex Tx.er_TooMany.oex Tx.er_TooMany.ini Tx.er_TooMany.fn G_TooMany_init (hr.mono (by decide)) b_TooMany_init .nil pass0 (by rfl) Tx.g_TooMany (pa_cons pe_str (pa_cons (pe_glob (v := .int 24) (by rfl) (Tx.c_MOST_FACES).choose_spec ⟨_, rfl⟩) pa_nil))))) pss_nil)
        (C8.pss_cut (ps_fld (pv 0) (pv 1) rfl)
        (C8.pss_cut (ps_fld (pv 0) (pv 2) rfl)
        (C8.pss_cut (ps_fld (pv 0) (pv 4) rfl)
        (C8.pss_cut (ps_fld (pv 0) (pe_call G_full_of (hr.mono (by decide)) (by rfl) g_full_of k_full_of b_full_of .nil (passE rfl rfl rfl rfl) (pa_cons (pv 1) pa_nil)) rfl)
        (C8.pss_cut (ps_fld (pv 0) (pe_op op_mul (pv 2) (pv 4)) rfl)
        (C8.pss_cut (ps_fld (pv 0) (pe_callTy call_tuple_of (by rfl) Tx.n_tuple (by decide +kernel) (pa_cons (pe_callB cr_sortedP (by rfl) Tx.n_sorted (by decide +kernel) (pa_cons (pe_lc (own := [("seam", 6)]) (g := gName 6) (tt := tYes) rfl sc_Skin_init.nd (pi_list (pv 3)) (blkOk_by (own := [("seam", 6)]) (N := ["self", "kind", "faces", "seams", "turn", "twice", "seam", "side"]) (sc := defScope s_Skin_init) (by decide +kernel)) (fun _ _ _ _ _ => (pg_name (i := 6) sc_Skin_init.nd rfl (Or.inl rfl))) (fun _ _ _ _ _ => pts_nil) (fun _ _ _ _ _ => (pe_tup (pa_cons (pe_callB (cr_minTK (K := K) rfl rfl hr.units) (by rfl) Tx.n_min (by decide +kernel) (pa_cons (pv 6) pa_nil)) (pa_cons (pe_callB (cr_maxTK (K := K) rfl rfl hr.units) (by rfl) Tx.n_max (by decide +kernel) (pa_cons (pv 6) pa_nil)) pa_nil))))) pa_nil)) pa_nil)) rfl)
        (C8.pss_cut (ps_fld (pv 0) (pe_call G_mates_of (hr.mono (by decide)) (by rfl) g_mates_of k_mates_of b_mates_of .nil pass0 (pa_cons (pv 3) (pa_cons (pe_fld (pv 0) rfl) pa_nil))) rfl)
        (C8.pss_cut (ps_fld (pv 0) (pe_call G_turned_sides (hr.mono (by decide)) (by rfl) g_turned_sides k_turned_sides b_turned_sides .nil pass0 (pa_cons (pe_fld (pv 0) rfl) (pa_cons (pv 4) (pa_cons pe_int pa_nil)))) rfl)
        (C8.pss_cut (ps_fld (pv 0) (pe_call G_turned_sides (hr.mono (by decide)) (by rfl) g_turned_sides k_turned_sides b_turned_sides .nil pass0 (pa_cons (pe_fld (pv 0) rfl) (pa_cons (pv 4) (pa_cons (pe_op op_sub (pv 4) pe_int) pa_nil)))) rfl)
        (pss_one (ps_fld (pv 0) (pe_callTy call_tuple_of (by rfl) Tx.n_tuple (by decide +kernel) (pa_cons (pe_lc (own := [("side", 7)]) (g := gName 7) rfl sc_Skin_init.nd (pi_range1 (by rfl) Tx.n_range (pa_cons (pe_fld (pv 0) rfl) pa_nil)) (blkOk_by (own := [("side", 7)]) (N := ["self", "kind", "faces", "seams", "turn", "twice", "seam", "side"]) (sc := defScope s_Skin_init) (by decide +kernel)) (fun _ _ _ _ _ => (pg_name (i := 7) sc_Skin_init.nd rfl (Or.inl rfl))) (fun _ _ _ _ _ => (pts_one (pt_cmpR op_isN (pe_ix (ix_tupK (K := K) rfl) (pe_fldK (K := K) rfl (pv 0) rfl) (pv 7) (fun _ _ => rfl)) pe_non (nomark _)))) (fun _ _ _ _ _ => (pv 7))) pa_nil)) rfl)))))))))))))))))), ?_⟩
      refine ⟨_, rfl, _, k1, rfl, hk1, fun _ => ?_, fun g1 => absurd g (by rw [g1]; decide)⟩
      refine ⟨_, rfl, _, .int 1, .non, k2, rfl, hk2, rfl, rfl, _, rfl, ?_⟩
      rw [show bnd (.int n) (.int 1) .non = true by show (decide (1 ≤ n) && true) = true; rw [decide_eq_true b] <;> rfl]
      refine iteF ?_
      refine ⟨_, rfl, _, k1, rfl, hk1, fun z' e' _ => ?_, fun g1 => absurd g (by rw [g1]; decide)⟩
      cases e'
      have ht := turn_in z
      refine ⟨_, rfl, _, rfl, _, rfl, _, _, rfl, rfl, .inr ⟨by omega, by omega⟩, sv, k, _, rfl, hk, ?_⟩
      rcases hh with h1 | ⟨h1, a, xs, f, es, hb, hl, hx, hf⟩
      · exact .inl ⟨h1, e⟩
      · exact .inr ⟨h1, a, xs, f, es, hb, hl, hx, fun c => absurd hf (by rw [c]; decide), fun _ => e⟩
    | made z n a ts ps ez g en b es hb hs hl hok e1 e2 q =>
      subst ez en es
      obtain ⟨k3, hk3, hseq⟩ := hb.kd Tx
      have hlt : ts.length ≤ 400 := by rw [hs.len]; exact hl
      have turn := turn_in z
      have nins : ∀ {H' : Hp} {b : Addr} {o : HO}, H' x = some (.ins (He.ga K "Skin") dx []) → H' b = some o → (∀ C d fs, o ≠ .ins C d fs) → b ≠ x := fun {H' b o} h1 h2 h3 e => by
        rw [e, h1] at h2
        exact h3 _ _ _ (Option.some.inj h2).symm
      rcases hb.box Tx with hbl | hbt
      · have sq : ∀ {H' : Hp}, Kp x H H' → SqL K H' a (ts.map V.ref) := fun {H'} k => hbl_kp hx hbl k
        refine ⟨_, (pss_cons (ps_expr (pe_call G_need_kind (hr.mono (by decide)) (by rfl) g_need_kind k_need_kind b_need_kind .nil (passE rfl rfl rfl rfl) (pa_cons (pv 1) pa_nil)))
        (pss_cons (ps_if (pt_not (pt_val (pe_call G_is_within (hr.mono (by decide)) (by rfl) g_is_within k_is_within b_is_within .nil pass0 (pa_cons (pv 2) (pa_cons pe_int (pa_cons pe_non pa_nil)))))) (pss_one (ps_raise rfl (takes_of rfl rfl rfl rfl) (pmk_oex Tx.er_BadSkin.oex Tx.er_BadSkin.ini Tx.er_BadSkin.fn G_BadSkin_init (hr.mono (by decide)) b_BadSkin_init .nil pass0 (by rfl) Tx.g_BadSkin (pa_cons pe_str pa_nil)))) pss_nil)
        (pss_cons (ps_set (i := 4) sc_Skin_init.nd rfl (Or.inl rfl) (pe_call G_sides_of (hr.mono (by decide)) (by rfl) g_sides_of k_sides_of b_sides_of .nil (passE rfl rfl rfl rfl) (pa_cons (pv 1) pa_nil)))
        (pss_cons (ps_expr (pe_call G_need_seams (hr.mono (by decide)) (by rfl) g_need_seams k_need_seams b_need_seams .nil (passE rfl rfl rfl rfl) (pa_cons (pv 3) (pa_cons (pe_op op_mul (pv 2) (pv 4)) pa_nil))))
        (pss_cons (ps_set (i := 5) sc_Skin_init.nd rfl (Or.inl rfl) (pe_call G_first_twice (hr.mono (by decide)) (by rfl) g_first_twice k_first_twice b_first_twice .nil pass0 (pa_cons (pe_call G_sides_in (hr.mono (by decide)) (by rfl) g_sides_in k_sides_in b_sides_in .nil pass0 (pa_cons (pv 3) pa_nil)) pa_nil)))
        (pss_cons (ps_if (pt_cmpR op_notN (pv 5) pe_non (nomark _)) (pss_one (ps_raise rfl (takes_of rfl rfl rfl rfl) (pmk_oex Tx.er_Twice.oex Tx.er_Twice.ini Tx.er_Twice.fn G_Twice_init (hr.mono (by decide)) b_Twice_init .nil pass0 (by rfl) Tx.g_Twice (pa_cons (pv 5) pa_nil)))) pss_nil)
        (pss_cons (ps_if (pt_cmpR op_gt (pv 2) (pe_glob (v := .int 24) (by rfl) (Tx.c_MOST_FACES).choose_spec ⟨_, rfl⟩) (nomark _)) (pss_one (ps_raise rfl (takes_of rfl rfl rfl rfl) (pmk_oex Tx.er_TooMany.oex Tx.er_TooMany.ini Tx.er_TooMany.fn G_TooMany_init (hr.mono (by decide)) b_TooMany_init .nil pass0 (by rfl) Tx.g_TooMany (pa_cons pe_str (pa_cons (pe_glob (v := .int 24) (by rfl) (Tx.c_MOST_FACES).choose_spec ⟨_, rfl⟩) pa_nil))))) pss_nil)
        (C8.pss_cut (ps_fld (pv 0) (pv 1) rfl)
        (C8.pss_cut (ps_fld (pv 0) (pv 2) rfl)
        (C8.pss_cut (ps_fld (pv 0) (pv 4) rfl)
        (C8.pss_cut (ps_fld (pv 0) (pe_call G_full_of (hr.mono (by decide)) (by rfl) g_full_of k_full_of b_full_of .nil (passE rfl rfl rfl rfl) (pa_cons (pv 1) pa_nil)) rfl)
        (C8.pss_cut (ps_fld (pv 0) (pe_op op_mul (pv 2) (pv 4)) rfl)
        (C8.pss_cut (ps_fld (pv 0) (pe_callTy call_tuple_of (by rfl) Tx.n_tuple (by decide +kernel) (pa_cons (pe_callB cr_sortedP (by rfl) Tx.n_sorted (by decide +kernel) (pa_cons (pe_lc (own := [("seam", 6)]) (g := gName 6) (tt := tYes) rfl sc_Skin_init.nd (pi_list (pv 3)) (blkOk_by (own := [("seam", 6)]) (N := ["self", "kind", "faces", "seams", "turn", "twice", "seam", "side"]) (sc := defScope s_Skin_init) (by decide +kernel)) (fun _ _ _ _ _ => (pg_name (i := 6) sc_Skin_init.nd rfl (Or.inl rfl))) (fun _ _ _ _ _ => pts_nil) (fun _ _ _ _ _ => (pe_tup (pa_cons (pe_callB (cr_minTK (K := K) rfl rfl hr.units) (by rfl) Tx.n_min (by decide +kernel) (pa_cons (pv 6) pa_nil)) (pa_cons (pe_callB (cr_maxTK (K := K) rfl rfl hr.units) (by rfl) Tx.n_max (by decide +kernel) (pa_cons (pv 6) pa_nil)) pa_nil))))) pa_nil)) pa_nil)) rfl)
        (C8.pss_cut (ps_fld (pv 0) (pe_call G_mates_of (hr.mono (by decide)) (by rfl) g_mates_of k_mates_of b_mates_of .nil pass0 (pa_cons (pv 3) (pa_cons (pe_fld (pv 0) rfl) pa_nil))) rfl)
        (C8.pss_cut (ps_fld (pv 0) (pe_call G_turned_sides (hr.mono (by decide)) (by rfl) g_turned_sides k_turned_sides b_turned_sides .nil pass0 (pa_cons (pe_fld (pv 0) rfl) (pa_cons (pv 4) (pa_cons pe_int pa_nil)))) rfl)
        (C8.pss_cut (ps_fld (pv 0) (pe_call G_turned_sides (hr.mono (by decide)) (by rfl) g_turned_sides k_turned_sides b_turned_sides .nil pass0 (pa_cons (pe_fld (pv 0) rfl) (pa_cons (pv 4) (pa_cons (pe_op op_sub (pv 4) pe_int) pa_nil)))) rfl)
        (pss_one (ps_fld (pv 0) (pe_callTy call_tuple_of (by rfl) Tx.n_tuple (by decide +kernel) (pa_cons (pe_lc (own := [("side", 7)]) (g := gName 7) rfl sc_Skin_init.nd (pi_range1 (by rfl) Tx.n_range (pa_cons (pe_fld (pv 0) rfl) pa_nil)) (blkOk_by (own := [("side", 7)]) (N := ["self", "kind", "faces", "seams", "turn", "twice", "seam", "side"]) (sc := defScope s_Skin_init) (by decide +kernel)) (fun _ _ _ _ _ => (pg_name (i := 7) sc_Skin_init.nd rfl (Or.inl rfl))) (fun _ _ _ _ _ => (pts_one (pt_cmpR op_isN (pe_ix (ix_tupK (K := K) rfl) (pe_fldK (K := K) rfl (pv 0) rfl) (pv 7) (fun _ _ => rfl)) pe_non (nomark _)))) (fun _ _ _ _ _ => (pv 7))) pa_nil)) rfl)))))))))))))))))), ?_⟩
        refine ⟨_, rfl, _, k1, rfl, hk1, fun _ => ?_, fun g1 => absurd g (by rw [g1]; decide)⟩
        refine ⟨_, rfl, _, .int 1, .non, k2, rfl, hk2, rfl, rfl, _, rfl, ?_⟩
        rw [show bnd (.int n) (.int 1) .non = true by show (decide (1 ≤ n) && true) = true; rw [decide_eq_true b] <;> rfl]
        refine iteF ?_
        refine ⟨_, rfl, _, k1, rfl, hk1, fun z' e' _ => ?_, fun g1 => absurd g (by rw [g1]; decide)⟩
        cases e'
        refine ⟨_, rfl, _, rfl, _, rfl, _, _, rfl, rfl, .inr ⟨by omega, by omega⟩, _, k3, _, rfl, hk3, .inr ⟨hseq, a, ts.map V.ref, fun _ => true, rfl, hb.box Tx, by rw [List.length_map]; omega, items_ok hs hok, fun _ H1 s1 => ?_, fun c => ?_⟩⟩
        · refine ⟨_, rfl, a, ts, ps, rfl, (hb.box Tx).same s1, hs.same s1, hl, fun H2 r s2 nr hr => ?_⟩
          refine ⟨r, flat2 ps, rfl, SqL.of hr, by rw [flat2_len]; omega, fun H3 s3 => ?_⟩
          have s03 := (s1.trans s2).trans s3
          refine ⟨_, rfl, rfl, _, rfl, ?_⟩
          cases ht : tw (flat2 ps) with
          | some t => exact ⟨_, rfl, mk1 Tx.er_Twice.oex (Tx.er_Twice.no "value" (by simp)) ((e1 t ht).same s03)⟩
          | none =>
            refine ⟨_, rfl, _, _, rfl, rfl, _, rfl, ite2 (fun h24 => ?_) (fun h24 => ?_)⟩
            · exact mk2 Tx.er_TooMany.oex (Tx.er_TooMany.no "what" (by simp)) (Tx.er_TooMany.no "most" (by simp)) ((e2 ht (of_decide_eq_true h24)).same s03)
            · have n24 : n ≤ 24 := Int.not_lt.mp fun c => h24 (decide_eq_true c)
              have hN0 : 0 ≤ n * turnOf z := by rcases turn with e | e <;> rw [e] <;> omega
              have hN1 : n * turnOf z ≤ 96 := by rcases turn with e | e <;> rw [e] <;> omega
              let σ0 : L2.St := [some (.ref x), some (.str z), some (.int n), some (.ref a), some (.int (turnOf z)), some .non, none, none]
              refine ⟨fun σ H' => σ = σ0 ∧ Stg K x dx H H' [("kind", .str z)], ?_, ?_⟩
              · refine ⟨_, rfl, _, rfl, x, _, dx, _, rfl, s03 _ _ hx, Tx.cl_Skin, Tx.no_Skin_kind, (show 0 < 1000 by decide), rfl, ?_⟩
                exact Stg.put (ns := []) ⟨s03 _ _ hx, Kp.same s03⟩ rfl (by simp)
              · rintro σ H4 ⟨rfl, t4⟩
                refine ⟨fun σ H' => σ = σ0 ∧ Stg K x dx H H' [("kind", .str z), ("faces", .int n)], ?_, ?_⟩
                · refine ⟨_, rfl, _, rfl, x, _, dx, _, rfl, t4.ins, Tx.cl_Skin, Tx.no_Skin_faces, (show 1 < 1000 by decide), rfl, ?_⟩
                  exact Stg.put (ns := ["kind"]) t4 rfl (by decide +kernel)
                · rintro σ H5 ⟨rfl, t5⟩
                  refine ⟨fun σ H' => σ = σ0 ∧ Stg K x dx H H' [("kind", .str z), ("faces", .int n), ("turn", .int (turnOf z))], ?_, ?_⟩
                  · refine ⟨_, rfl, _, rfl, x, _, dx, _, rfl, t5.ins, Tx.cl_Skin, Tx.no_Skin_turn, (show 2 < 1000 by decide), rfl, ?_⟩
                    exact Stg.put (ns := ["kind", "faces"]) t5 rfl (by decide +kernel)
                  · rintro σ H6 ⟨rfl, t6⟩
                    refine ⟨fun σ H' => σ = σ0 ∧ Stg K x dx H H' [("kind", .str z), ("faces", .int n), ("turn", .int (turnOf z)), ("full", .int (fullOf z))], ?_, ?_⟩
                    · refine ⟨_, rfl, _, .str, rfl, True.intro, fun z' e' _ => ?_, fun g1 => absurd g (by rw [g1]; decide)⟩
                      cases e'
                      refine ⟨_, rfl, x, _, dx, _, rfl, t6.ins, Tx.cl_Skin, Tx.no_Skin_full, (show 3 < 1000 by decide), rfl, ?_⟩
                      exact Stg.put (ns := ["kind", "faces", "turn"]) t6 rfl (by decide +kernel)
                    · rintro σ H7 ⟨rfl, t7⟩
                      refine ⟨fun σ H' => σ = σ0 ∧ Stg K x dx H H' [("kind", .str z), ("faces", .int n), ("turn", .int (turnOf z)), ("full", .int (fullOf z)), ("sides", .int (n * turnOf z))], ?_, ?_⟩
                      · refine ⟨_, rfl, _, rfl, _, _, rfl, rfl, .inr ⟨by omega, by omega⟩, _, rfl, x, _, dx, _, rfl, t7.ins, Tx.cl_Skin, Tx.no_Skin_sides, (show 4 < 1000 by decide), rfl, ?_⟩
                        exact Stg.put (ns := ["kind", "faces", "turn", "full"]) t7 rfl (by decide +kernel)
                      · rintro σ H8 ⟨rfl, t8⟩
                        have hs8 : Seams H8 ts ps := seams_kp hx hs t8.kp
                        refine ⟨fun σ H' => σ = σ0 ∧ ∃ (st : Addr) (us : List Addr) (qs : List (Int × Int)), Stg K x dx H H' [("kind", .str z), ("faces", .int n), ("turn", .int (turnOf z)), ("full", .int (fullOf z)), ("sides", .int (n * turnOf z)), ("seams", .ref st)] ∧ H' st = some (.tup (us.map V.ref)) ∧ Seams H' us qs ∧ qs.Perm (ps.map srt), ?_, ?_⟩
                        · refine ⟨_, rfl, a, rfl, ⟨_, sq t8.kp⟩, fun D nD => ?_⟩
                          refine lc_it (walk_list (K := K) (a := a) (xs := ts.map V.ref)) (fun i H' => ∃ us : List Addr, Same H8 H' ∧ H' D = some (.lst (us.map V.ref)) ∧ Seams H' us ((ps.take i).map srt)) ⟨[], same_new nD, upd_same, ⟨rfl, fun i t p h => by simp at h⟩⟩ (fun i H' _ p => by obtain ⟨_, s8, _⟩ := p; exact sq (t8.kp.trans (Kp.same s8))) (fun i v H' H'' hi p y => ?_) (fun H' p => ?_)
                          · obtain ⟨us, s8, hD, hus⟩ := p
                            obtain ⟨rfl, hv⟩ := y
                            obtain ⟨t, p, rfl, htt, hp, htup⟩ := hs8.get hv
                            refine ⟨rfl, ?_⟩
                            refine ⟨_, rfl, t, p.1, p.2, rfl, SqT.of (s8 _ _ htup), _, rfl, t, p.1, p.2, rfl, SqT.of (s8 _ _ htup), le_line (n := 2) (by decide), fun T nT => ?_⟩
                            have sT : Same H'' (upd H'' T (.tup [.int (srt p).1, .int (srt p).2])) := same_new nT
                            have D8 : H8 D = none := nD
                            refine ⟨_, sT _ _ hD, ?_, us ++ [T], Same.mut (s8.trans sT) D8, by rw [upd_same, List.map_append]; rfl, ?_⟩
                            · rw [List.length_map, hus.len, List.length_map, List.length_take]
                              exact small_line (by omega)
                            · have hTD : T ≠ D := (ne_of_none hD nT).symm
                              have ep : (ps.take (i + 1)).map srt = (ps.take i).map srt ++ [srt p] := by
                                rw [List.take_add_one, hp, Option.toList_some, List.map_append]
                                rfl
                              rw [ep]
                              exact hus.push (p := srt p) (ys := us.map V.ref ++ [V.ref T]) nT hD
                          · obtain ⟨us, s8, hD, hus⟩ := p
                            have el : (ps.take (ts.map V.ref).length).map srt = ps.map srt := by rw [List.length_map, hs.len, List.take_length]
                            rw [el] at hus
                            refine ⟨D, _, rfl, SqL.of hD, fun v hv => ?_, fun ys p hperm np => ?_⟩
                            · obtain ⟨i, hi, e⟩ := List.mem_iff_getElem.mp hv
                              obtain ⟨t, pr, rfl, _, _, htup⟩ := hus.get (by rw [List.getElem?_eq_getElem hi, e])
                              exact ⟨t, _, _, rfl, htup⟩
                            · obtain ⟨vs, qs, rfl, hvs, hq⟩ := perm_seams hus hperm
                              refine ⟨p, _, rfl, .inl ⟨SqL.of upd_same, fun st nst => ?_⟩⟩
                              have s9 : Same H8 _ := s8.trans ((same_new np).trans (same_new (o := .tup (vs.map V.ref)) nst))
                              have t9 : Stg K x dx H _ _ := ⟨s9 _ _ t8.ins, t8.kp.trans (Kp.same s9)⟩
                              refine ⟨_, rfl, x, _, dx, _, rfl, t9.ins, Tx.cl_Skin, Tx.no_Skin_seams, (show 5 < 1000 by decide), rfl, st, vs, qs, ?_, ?_, ?_, hq⟩
                              · exact Stg.put (ns := ["kind", "faces", "turn", "full", "sides"]) t9 rfl (by decide +kernel)
                              · rw [upd_ne (fun e => ?_), upd_same]
                                rw [e] at nst
                                have := ((s8.trans (same_new np)) _ _ t8.ins).symm.trans nst
                                cases this
                              · have h9 : Seams _ vs qs := (hvs.same (same_new np)).same (same_new (o := .tup (vs.map V.ref)) nst)
                                exact h9.upd t9.ins
                        · rintro σ H9 ⟨rfl, st, us, qs, t9, h9, hus, hq⟩
                          refine ⟨fun σ H' => σ = σ0 ∧ ∃ (mt : Addr), Stg K x dx H H' [("kind", .str z), ("faces", .int n), ("turn", .int (turnOf z)), ("full", .int (fullOf z)), ("sides", .int (n * turnOf z)), ("seams", .ref st), ("mates", .ref mt)] ∧ H' st = some (.tup (us.map V.ref)) ∧ Seams H' us qs ∧ H' mt = some (.tup (msL ps (n * turnOf z).toNat)), ?_, ?_⟩
                          · refine ⟨_, rfl, _, rfl, x, _, dx, _, _, rfl, t9.ins, Tx.cl_Skin, Tx.no_Skin_sides, rfl, a, ts, ps, _, rfl, box_kp hx (hb.box Tx) t9.kp, seams_kp hx hs t9.kp, hok, hN0, by omega, fun H10 mt s10 nmt hmt => ?_⟩
                            have t10 : Stg K x dx H H10 _ := ⟨s10 _ _ t9.ins, t9.kp.trans (Kp.same s10)⟩
                            refine ⟨_, rfl, x, _, dx, _, rfl, t10.ins, Tx.cl_Skin, Tx.no_Skin_mates, (show 6 < 1000 by decide), rfl, mt, ?_, ?_, ?_, ?_⟩
                            · exact Stg.put (ns := ["kind", "faces", "turn", "full", "sides", "seams"]) t10 rfl (by decide +kernel)
                            · exact tup_upd t10.ins (s10 _ _ h9)
                            · exact (hus.same s10).upd t10.ins
                            · exact tup_upd t10.ins hmt
                          · rintro σ H11 ⟨rfl, mt, t11, h11, hus11, hmt⟩
                            refine ⟨fun σ H' => σ = σ0 ∧ ∃ (nt : Addr), Stg K x dx H H' [("kind", .str z), ("faces", .int n), ("turn", .int (turnOf z)), ("full", .int (fullOf z)), ("sides", .int (n * turnOf z)), ("seams", .ref st), ("mates", .ref mt), ("nexts", .ref nt)] ∧ H' st = some (.tup (us.map V.ref)) ∧ Seams H' us qs ∧ H' mt = some (.tup (msL ps (n * turnOf z).toNat)) ∧ H' nt = some (.tup (tnL (n * turnOf z).toNat (turnOf z) 1)), ?_, ?_⟩
                            · refine ⟨_, rfl, x, _, dx, _, _, rfl, t11.ins, Tx.cl_Skin, Tx.no_Skin_sides, rfl, _, rfl, n * turnOf z, turnOf z, 1, rfl, hN0, by omega, by omega, by omega, fun H12 nt s12 nnt hnt => ?_⟩
                              have t12 : Stg K x dx H H12 _ := ⟨s12 _ _ t11.ins, t11.kp.trans (Kp.same s12)⟩
                              refine ⟨_, rfl, x, _, dx, _, rfl, t12.ins, Tx.cl_Skin, Tx.no_Skin_nexts, (show 7 < 1000 by decide), rfl, nt, ?_, ?_, ?_, ?_, ?_⟩
                              · exact Stg.put (ns := ["kind", "faces", "turn", "full", "sides", "seams", "mates"]) t12 rfl (by decide +kernel)
                              · exact tup_upd t12.ins (s12 _ _ h11)
                              · exact (hus11.same s12).upd t12.ins
                              · exact tup_upd t12.ins (s12 _ _ hmt)
                              · exact tup_upd t12.ins hnt
                            rintro σ H11 ⟨rfl, nt, t11, h11, hus11, hmt, hnt⟩
                            refine ⟨fun σ H' => σ = σ0 ∧ ∃ (bt : Addr), Stg K x dx H H' [("kind", .str z), ("faces", .int n), ("turn", .int (turnOf z)), ("full", .int (fullOf z)), ("sides", .int (n * turnOf z)), ("seams", .ref st), ("mates", .ref mt), ("nexts", .ref nt), ("backs", .ref bt)] ∧ H' st = some (.tup (us.map V.ref)) ∧ Seams H' us qs ∧ H' mt = some (.tup (msL ps (n * turnOf z).toNat)) ∧ H' nt = some (.tup (tnL (n * turnOf z).toNat (turnOf z) 1)) ∧ H' bt = some (.tup (tnL (n * turnOf z).toNat (turnOf z) (turnOf z - 1))), ?_, ?_⟩
                            · refine ⟨_, rfl, x, _, dx, _, _, rfl, t11.ins, Tx.cl_Skin, Tx.no_Skin_sides, rfl, _, rfl, _, rfl, _, _, rfl, rfl, n * turnOf z, turnOf z, turnOf z - 1, rfl, hN0, by omega, by omega, by omega, fun H12 bt s12 nbt hbk => ?_⟩
                              have t12 : Stg K x dx H H12 _ := ⟨s12 _ _ t11.ins, t11.kp.trans (Kp.same s12)⟩
                              refine ⟨_, rfl, x, _, dx, _, rfl, t12.ins, Tx.cl_Skin, Tx.no_Skin_backs, (show 8 < 1000 by decide), rfl, bt, ?_, ?_, ?_, ?_, ?_, ?_⟩
                              · exact Stg.put (ns := ["kind", "faces", "turn", "full", "sides", "seams", "mates", "nexts"]) t12 rfl (by decide +kernel)
                              · exact tup_upd t12.ins (s12 _ _ h11)
                              · exact (hus11.same s12).upd t12.ins
                              · exact tup_upd t12.ins (s12 _ _ hmt)
                              · exact tup_upd t12.ins (s12 _ _ hnt)
                              · exact tup_upd t12.ins hbk
                            · rintro σ H11 ⟨rfl, bt, t11, h11, hus11, hmt, hnt, hbk⟩
                              obtain ⟨N, hN⟩ := Int.eq_ofNat_of_zero_le hN0
                              rw [hN] at hmt t11 hnt hbk
                              have hmt' : H11 mt = some (.tup (msL ps N)) := hmt
                              refine ⟨_, rfl, x, _, dx, _, _, rfl, t11.ins, Tx.cl_Skin, Tx.no_Skin_sides, rfl, _, rfl, by omega, by omega, fun D nD => ?_⟩
                              refine lc_pure ((walk_range (lo := 0) (n := (N : Int).toNat)).mono (Y' := fun i H x H' => H' = H ∧ (rgL N)[i]? = some x) (fun _ h => h) (fun i H x H' hi _ y => ⟨y.1, by rw [y.2]; exact rgL_at hi⟩)) (rgL N) (by rw [rgL_len]; rfl) (by rw [rgL_len]; omega) (fun i H x H' y => ⟨same_of_eq y.1, y.2⟩) (fun x => x) (keepF (msL ps N)) nD (fun _ _ => True.intro) (fun i v H2 Q1 Q0 hi s2 q1 q0 => ?_) (fun H2 s2 hD => ?_)
                              · refine ⟨rfl, ?_⟩
                                obtain ⟨iN, rfl⟩ := rgL_get hi
                                have hlt : i < (msL ps N).length := by rw [msL_len]; exact iN
                                refine ⟨_, rfl, x, _, dx, _, _, rfl, s2 _ _ t11.ins, Tx.cl_Skin, Tx.no_Skin_mates, rfl, _, rfl, mt, _, _, (msL ps N)[i], rfl, rfl, SqT.of (s2 _ _ hmt'), atI_nat (List.getElem?_eq_getElem hlt), rfl, _, rfl, ?_⟩
                                have ek := keepF_at (List.getElem?_eq_getElem hlt)
                                refine ite2 (fun e => ?_) (fun e => ?_)
                                · exact ⟨_, rfl, q1 (ek.trans e) _ (Same.refl _)⟩
                                · exact q0 (ek.trans (Bool.eq_false_iff.mpr e)) _ (Same.refl _)
                              · rw [List.map_id', rgL_keep] at hD
                                refine ⟨D, _, rfl, .inl ⟨SqL.of hD, fun ft nft => ?_⟩⟩
                                have s12 : Same H11 _ := s2.trans (same_new (o := .tup ((frL ps N).map V.int)) nft)
                                have t12 : Stg K x dx H _ _ := ⟨s12 _ _ t11.ins, t11.kp.trans (Kp.same s12)⟩
                                refine ⟨_, rfl, x, _, dx, _, rfl, t12.ins, Tx.cl_Skin, Tx.no_Skin_free, (show 9 < 1000 by decide), ?_⟩
                                have t13 := Stg.put (f := "free") (v := .ref ft) (ns := ["kind", "faces", "turn", "full", "sides", "seams", "mates", "nexts", "backs"]) t12 rfl (by decide +kernel)
                                refine q ht n24 _ t13.kp ⟨dx, st, mt, ft, us, qs, ⟨(nt, bt), ?_, ?_, ?_⟩, ?_, ?_, hq, ?_, ?_⟩
                                · rw [t13.ins, ← hN]
                                  rfl
                                · rw [hN]
                                  exact tup_upd t12.ins (s12 _ _ hnt)
                                · rw [hN]
                                  exact tup_upd t12.ins (s12 _ _ hbk)
                                · exact tup_upd t12.ins (s12 _ _ h11)
                                · exact (hus11.same s12).upd t12.ins
                                · rw [hN]
                                  exact tup_upd t12.ins (s12 _ _ hmt')
                                · rw [hN]
                                  exact tup_upd t12.ins upd_same
        · cases c.symm.trans (show ((ts.map V.ref).all fun _ => true) = true from List.all_eq_true.mpr fun _ _ => rfl)
      · have sq : ∀ {H' : Hp}, Kp x H H' → SqT K H' a (ts.map V.ref) := fun {H'} k => hbt_kp hx hbt k
        refine ⟨_, (pss_cons (ps_expr (pe_call G_need_kind (hr.mono (by decide)) (by rfl) g_need_kind k_need_kind b_need_kind .nil (passE rfl rfl rfl rfl) (pa_cons (pv 1) pa_nil)))
        (pss_cons (ps_if (pt_not (pt_val (pe_call G_is_within (hr.mono (by decide)) (by rfl) g_is_within k_is_within b_is_within .nil pass0 (pa_cons (pv 2) (pa_cons pe_int (pa_cons pe_non pa_nil)))))) (pss_one (ps_raise rfl (takes_of rfl rfl rfl rfl) (pmk_oex Tx.er_BadSkin.oex Tx.er_BadSkin.ini Tx.er_BadSkin.fn G_BadSkin_init (hr.mono (by decide)) b_BadSkin_init .nil pass0 (by rfl) Tx.g_BadSkin (pa_cons pe_str pa_nil)))) pss_nil)
        (pss_cons (ps_set (i := 4) sc_Skin_init.nd rfl (Or.inl rfl) (pe_call G_sides_of (hr.mono (by decide)) (by rfl) g_sides_of k_sides_of b_sides_of .nil (passE rfl rfl rfl rfl) (pa_cons (pv 1) pa_nil)))
        (pss_cons (ps_expr (pe_call G_need_seams (hr.mono (by decide)) (by rfl) g_need_seams k_need_seams b_need_seams .nil (passE rfl rfl rfl rfl) (pa_cons (pv 3) (pa_cons (pe_op op_mul (pv 2) (pv 4)) pa_nil))))
        (pss_cons (ps_set (i := 5) sc_Skin_init.nd rfl (Or.inl rfl) (pe_call G_first_twice (hr.mono (by decide)) (by rfl) g_first_twice k_first_twice b_first_twice .nil pass0 (pa_cons (pe_call G_sides_in (hr.mono (by decide)) (by rfl) g_sides_in k_sides_in b_sides_in .nil pass0 (pa_cons (pv 3) pa_nil)) pa_nil)))
        (pss_cons (ps_if (pt_cmpR op_notN (pv 5) pe_non (nomark _)) (pss_one (ps_raise rfl (takes_of rfl rfl rfl rfl) (pmk_oex Tx.er_Twice.oex Tx.er_Twice.ini Tx.er_Twice.fn G_Twice_init (hr.mono (by decide)) b_Twice_init .nil pass0 (by rfl) Tx.g_Twice (pa_cons (pv 5) pa_nil)))) pss_nil)
        (pss_cons (ps_if (pt_cmpR op_gt (pv 2) (pe_glob (v := .int 24) (by rfl) (Tx.c_MOST_FACES).choose_spec ⟨_, rfl⟩) (nomark _)) (pss_one (ps_raise rfl (takes_of rfl rfl rfl rfl) (pmk_oex Tx.er_TooMany.oex Tx.er_TooMany.ini Tx.er_TooMany.fn G_TooMany_init (hr.mono (by decide)) b_TooMany_init .nil pass0 (by rfl) Tx.g_TooMany (pa_cons pe_str (pa_cons (pe_glob (v := .int 24) (by rfl) (Tx.c_MOST_FACES).choose_spec ⟨_, rfl⟩) pa_nil))))) pss_nil)
        (C8.pss_cut (ps_fld (pv 0) (pv 1) rfl)
        (C8.pss_cut (ps_fld (pv 0) (pv 2) rfl)
        (C8.pss_cut (ps_fld (pv 0) (pv 4) rfl)
        (C8.pss_cut (ps_fld (pv 0) (pe_call G_full_of (hr.mono (by decide)) (by rfl) g_full_of k_full_of b_full_of .nil (passE rfl rfl rfl rfl) (pa_cons (pv 1) pa_nil)) rfl)
        (C8.pss_cut (ps_fld (pv 0) (pe_op op_mul (pv 2) (pv 4)) rfl)
        (C8.pss_cut (ps_fld (pv 0) (pe_callTy call_tuple_of (by rfl) Tx.n_tuple (by decide +kernel) (pa_cons (pe_callB cr_sortedP (by rfl) Tx.n_sorted (by decide +kernel) (pa_cons (pe_lc (own := [("seam", 6)]) (g := gName 6) (tt := tYes) rfl sc_Skin_init.nd (pi_tup (pv 3)) (blkOk_by (own := [("seam", 6)]) (N := ["self", "kind", "faces", "seams", "turn", "twice", "seam", "side"]) (sc := defScope s_Skin_init) (by decide +kernel)) (fun _ _ _ _ _ => (pg_name (i := 6) sc_Skin_init.nd rfl (Or.inl rfl))) (fun _ _ _ _ _ => pts_nil) (fun _ _ _ _ _ => (pe_tup (pa_cons (pe_callB (cr_minTK (K := K) rfl rfl hr.units) (by rfl) Tx.n_min (by decide +kernel) (pa_cons (pv 6) pa_nil)) (pa_cons (pe_callB (cr_maxTK (K := K) rfl rfl hr.units) (by rfl) Tx.n_max (by decide +kernel) (pa_cons (pv 6) pa_nil)) pa_nil))))) pa_nil)) pa_nil)) rfl)
        (C8.pss_cut (ps_fld (pv 0) (pe_call G_mates_of (hr.mono (by decide)) (by rfl) g_mates_of k_mates_of b_mates_of .nil pass0 (pa_cons (pv 3) (pa_cons (pe_fld (pv 0) rfl) pa_nil))) rfl)
        (C8.pss_cut (ps_fld (pv 0) (pe_call G_turned_sides (hr.mono (by decide)) (by rfl) g_turned_sides k_turned_sides b_turned_sides .nil pass0 (pa_cons (pe_fld (pv 0) rfl) (pa_cons (pv 4) (pa_cons pe_int pa_nil)))) rfl)
        (C8.pss_cut (ps_fld (pv 0) (pe_call G_turned_sides (hr.mono (by decide)) (by rfl) g_turned_sides k_turned_sides b_turned_sides .nil pass0 (pa_cons (pe_fld (pv 0) rfl) (pa_cons (pv 4) (pa_cons (pe_op op_sub (pv 4) pe_int) pa_nil)))) rfl)
        (pss_one (ps_fld (pv 0) (pe_callTy call_tuple_of (by rfl) Tx.n_tuple (by decide +kernel) (pa_cons (pe_lc (own := [("side", 7)]) (g := gName 7) rfl sc_Skin_init.nd (pi_range1 (by rfl) Tx.n_range (pa_cons (pe_fld (pv 0) rfl) pa_nil)) (blkOk_by (own := [("side", 7)]) (N := ["self", "kind", "faces", "seams", "turn", "twice", "seam", "side"]) (sc := defScope s_Skin_init) (by decide +kernel)) (fun _ _ _ _ _ => (pg_name (i := 7) sc_Skin_init.nd rfl (Or.inl rfl))) (fun _ _ _ _ _ => (pts_one (pt_cmpR op_isN (pe_ix (ix_tupK (K := K) rfl) (pe_fldK (K := K) rfl (pv 0) rfl) (pv 7) (fun _ _ => rfl)) pe_non (nomark _)))) (fun _ _ _ _ _ => (pv 7))) pa_nil)) rfl)))))))))))))))))), ?_⟩
        refine ⟨_, rfl, _, k1, rfl, hk1, fun _ => ?_, fun g1 => absurd g (by rw [g1]; decide)⟩
        refine ⟨_, rfl, _, .int 1, .non, k2, rfl, hk2, rfl, rfl, _, rfl, ?_⟩
        rw [show bnd (.int n) (.int 1) .non = true by show (decide (1 ≤ n) && true) = true; rw [decide_eq_true b] <;> rfl]
        refine iteF ?_
        refine ⟨_, rfl, _, k1, rfl, hk1, fun z' e' _ => ?_, fun g1 => absurd g (by rw [g1]; decide)⟩
        cases e'
        refine ⟨_, rfl, _, rfl, _, rfl, _, _, rfl, rfl, .inr ⟨by omega, by omega⟩, _, k3, _, rfl, hk3, .inr ⟨hseq, a, ts.map V.ref, fun _ => true, rfl, hb.box Tx, by rw [List.length_map]; omega, items_ok hs hok, fun _ H1 s1 => ?_, fun c => ?_⟩⟩
        · refine ⟨_, rfl, a, ts, ps, rfl, (hb.box Tx).same s1, hs.same s1, hl, fun H2 r s2 nr hr => ?_⟩
          refine ⟨r, flat2 ps, rfl, SqL.of hr, by rw [flat2_len]; omega, fun H3 s3 => ?_⟩
          have s03 := (s1.trans s2).trans s3
          refine ⟨_, rfl, rfl, _, rfl, ?_⟩
          cases ht : tw (flat2 ps) with
          | some t => exact ⟨_, rfl, mk1 Tx.er_Twice.oex (Tx.er_Twice.no "value" (by simp)) ((e1 t ht).same s03)⟩
          | none =>
            refine ⟨_, rfl, _, _, rfl, rfl, _, rfl, ite2 (fun h24 => ?_) (fun h24 => ?_)⟩
            · exact mk2 Tx.er_TooMany.oex (Tx.er_TooMany.no "what" (by simp)) (Tx.er_TooMany.no "most" (by simp)) ((e2 ht (of_decide_eq_true h24)).same s03)
            · have n24 : n ≤ 24 := Int.not_lt.mp fun c => h24 (decide_eq_true c)
              have hN0 : 0 ≤ n * turnOf z := by rcases turn with e | e <;> rw [e] <;> omega
              have hN1 : n * turnOf z ≤ 96 := by rcases turn with e | e <;> rw [e] <;> omega
              let σ0 : L2.St := [some (.ref x), some (.str z), some (.int n), some (.ref a), some (.int (turnOf z)), some .non, none, none]
              refine ⟨fun σ H' => σ = σ0 ∧ Stg K x dx H H' [("kind", .str z)], ?_, ?_⟩
              · refine ⟨_, rfl, _, rfl, x, _, dx, _, rfl, s03 _ _ hx, Tx.cl_Skin, Tx.no_Skin_kind, (show 0 < 1000 by decide), rfl, ?_⟩
                exact Stg.put (ns := []) ⟨s03 _ _ hx, Kp.same s03⟩ rfl (by simp)
              · rintro σ H4 ⟨rfl, t4⟩
                refine ⟨fun σ H' => σ = σ0 ∧ Stg K x dx H H' [("kind", .str z), ("faces", .int n)], ?_, ?_⟩
                · refine ⟨_, rfl, _, rfl, x, _, dx, _, rfl, t4.ins, Tx.cl_Skin, Tx.no_Skin_faces, (show 1 < 1000 by decide), rfl, ?_⟩
                  exact Stg.put (ns := ["kind"]) t4 rfl (by decide +kernel)
                · rintro σ H5 ⟨rfl, t5⟩
                  refine ⟨fun σ H' => σ = σ0 ∧ Stg K x dx H H' [("kind", .str z), ("faces", .int n), ("turn", .int (turnOf z))], ?_, ?_⟩
                  · refine ⟨_, rfl, _, rfl, x, _, dx, _, rfl, t5.ins, Tx.cl_Skin, Tx.no_Skin_turn, (show 2 < 1000 by decide), rfl, ?_⟩
                    exact Stg.put (ns := ["kind", "faces"]) t5 rfl (by decide +kernel)
                  · rintro σ H6 ⟨rfl, t6⟩
                    refine ⟨fun σ H' => σ = σ0 ∧ Stg K x dx H H' [("kind", .str z), ("faces", .int n), ("turn", .int (turnOf z)), ("full", .int (fullOf z))], ?_, ?_⟩
                    · refine ⟨_, rfl, _, .str, rfl, True.intro, fun z' e' _ => ?_, fun g1 => absurd g (by rw [g1]; decide)⟩
                      cases e'
                      refine ⟨_, rfl, x, _, dx, _, rfl, t6.ins, Tx.cl_Skin, Tx.no_Skin_full, (show 3 < 1000 by decide), rfl, ?_⟩
                      exact Stg.put (ns := ["kind", "faces", "turn"]) t6 rfl (by decide +kernel)
                    · rintro σ H7 ⟨rfl, t7⟩
                      refine ⟨fun σ H' => σ = σ0 ∧ Stg K x dx H H' [("kind", .str z), ("faces", .int n), ("turn", .int (turnOf z)), ("full", .int (fullOf z)), ("sides", .int (n * turnOf z))], ?_, ?_⟩
                      · refine ⟨_, rfl, _, rfl, _, _, rfl, rfl, .inr ⟨by omega, by omega⟩, _, rfl, x, _, dx, _, rfl, t7.ins, Tx.cl_Skin, Tx.no_Skin_sides, (show 4 < 1000 by decide), rfl, ?_⟩
                        exact Stg.put (ns := ["kind", "faces", "turn", "full"]) t7 rfl (by decide +kernel)
                      · rintro σ H8 ⟨rfl, t8⟩
                        have hs8 : Seams H8 ts ps := seams_kp hx hs t8.kp
                        refine ⟨fun σ H' => σ = σ0 ∧ ∃ (st : Addr) (us : List Addr) (qs : List (Int × Int)), Stg K x dx H H' [("kind", .str z), ("faces", .int n), ("turn", .int (turnOf z)), ("full", .int (fullOf z)), ("sides", .int (n * turnOf z)), ("seams", .ref st)] ∧ H' st = some (.tup (us.map V.ref)) ∧ Seams H' us qs ∧ qs.Perm (ps.map srt), ?_, ?_⟩
                        · refine ⟨_, rfl, a, rfl, ⟨_, sq t8.kp⟩, fun D nD => ?_⟩
                          refine lc_it (walk_tup (K := K) (a := a) (xs := ts.map V.ref)) (fun i H' => ∃ us : List Addr, Same H8 H' ∧ H' D = some (.lst (us.map V.ref)) ∧ Seams H' us ((ps.take i).map srt)) ⟨[], same_new nD, upd_same, ⟨rfl, fun i t p h => by simp at h⟩⟩ (fun i H' _ p => by obtain ⟨_, s8, _⟩ := p; exact sq (t8.kp.trans (Kp.same s8))) (fun i v H' H'' hi p y => ?_) (fun H' p => ?_)
                          · obtain ⟨us, s8, hD, hus⟩ := p
                            obtain ⟨rfl, hv⟩ := y
                            obtain ⟨t, p, rfl, htt, hp, htup⟩ := hs8.get hv
                            refine ⟨rfl, ?_⟩
                            refine ⟨_, rfl, t, p.1, p.2, rfl, SqT.of (s8 _ _ htup), _, rfl, t, p.1, p.2, rfl, SqT.of (s8 _ _ htup), le_line (n := 2) (by decide), fun T nT => ?_⟩
                            have sT : Same H'' (upd H'' T (.tup [.int (srt p).1, .int (srt p).2])) := same_new nT
                            have D8 : H8 D = none := nD
                            refine ⟨_, sT _ _ hD, ?_, us ++ [T], Same.mut (s8.trans sT) D8, by rw [upd_same, List.map_append]; rfl, ?_⟩
                            · rw [List.length_map, hus.len, List.length_map, List.length_take]
                              exact small_line (by omega)
                            · have hTD : T ≠ D := (ne_of_none hD nT).symm
                              have ep : (ps.take (i + 1)).map srt = (ps.take i).map srt ++ [srt p] := by
                                rw [List.take_add_one, hp, Option.toList_some, List.map_append]
                                rfl
                              rw [ep]
                              exact hus.push (p := srt p) (ys := us.map V.ref ++ [V.ref T]) nT hD
                          · obtain ⟨us, s8, hD, hus⟩ := p
                            have el : (ps.take (ts.map V.ref).length).map srt = ps.map srt := by rw [List.length_map, hs.len, List.take_length]
                            rw [el] at hus
                            refine ⟨D, _, rfl, SqL.of hD, fun v hv => ?_, fun ys p hperm np => ?_⟩
                            · obtain ⟨i, hi, e⟩ := List.mem_iff_getElem.mp hv
                              obtain ⟨t, pr, rfl, _, _, htup⟩ := hus.get (by rw [List.getElem?_eq_getElem hi, e])
                              exact ⟨t, _, _, rfl, htup⟩
                            · obtain ⟨vs, qs, rfl, hvs, hq⟩ := perm_seams hus hperm
                              refine ⟨p, _, rfl, .inl ⟨SqL.of upd_same, fun st nst => ?_⟩⟩
                              have s9 : Same H8 _ := s8.trans ((same_new np).trans (same_new (o := .tup (vs.map V.ref)) nst))
                              have t9 : Stg K x dx H _ _ := ⟨s9 _ _ t8.ins, t8.kp.trans (Kp.same s9)⟩
                              refine ⟨_, rfl, x, _, dx, _, rfl, t9.ins, Tx.cl_Skin, Tx.no_Skin_seams, (show 5 < 1000 by decide), rfl, st, vs, qs, ?_, ?_, ?_, hq⟩
                              · exact Stg.put (ns := ["kind", "faces", "turn", "full", "sides"]) t9 rfl (by decide +kernel)
                              · rw [upd_ne (fun e => ?_), upd_same]
                                rw [e] at nst
                                have := ((s8.trans (same_new np)) _ _ t8.ins).symm.trans nst
                                cases this
                              · have h9 : Seams _ vs qs := (hvs.same (same_new np)).same (same_new (o := .tup (vs.map V.ref)) nst)
                                exact h9.upd t9.ins
                        · rintro σ H9 ⟨rfl, st, us, qs, t9, h9, hus, hq⟩
                          refine ⟨fun σ H' => σ = σ0 ∧ ∃ (mt : Addr), Stg K x dx H H' [("kind", .str z), ("faces", .int n), ("turn", .int (turnOf z)), ("full", .int (fullOf z)), ("sides", .int (n * turnOf z)), ("seams", .ref st), ("mates", .ref mt)] ∧ H' st = some (.tup (us.map V.ref)) ∧ Seams H' us qs ∧ H' mt = some (.tup (msL ps (n * turnOf z).toNat)), ?_, ?_⟩
                          · refine ⟨_, rfl, _, rfl, x, _, dx, _, _, rfl, t9.ins, Tx.cl_Skin, Tx.no_Skin_sides, rfl, a, ts, ps, _, rfl, box_kp hx (hb.box Tx) t9.kp, seams_kp hx hs t9.kp, hok, hN0, by omega, fun H10 mt s10 nmt hmt => ?_⟩
                            have t10 : Stg K x dx H H10 _ := ⟨s10 _ _ t9.ins, t9.kp.trans (Kp.same s10)⟩
                            refine ⟨_, rfl, x, _, dx, _, rfl, t10.ins, Tx.cl_Skin, Tx.no_Skin_mates, (show 6 < 1000 by decide), rfl, mt, ?_, ?_, ?_, ?_⟩
                            · exact Stg.put (ns := ["kind", "faces", "turn", "full", "sides", "seams"]) t10 rfl (by decide +kernel)
                            · exact tup_upd t10.ins (s10 _ _ h9)
                            · exact (hus.same s10).upd t10.ins
                            · exact tup_upd t10.ins hmt
                          · rintro σ H11 ⟨rfl, mt, t11, h11, hus11, hmt⟩
                            refine ⟨fun σ H' => σ = σ0 ∧ ∃ (nt : Addr), Stg K x dx H H' [("kind", .str z), ("faces", .int n), ("turn", .int (turnOf z)), ("full", .int (fullOf z)), ("sides", .int (n * turnOf z)), ("seams", .ref st), ("mates", .ref mt), ("nexts", .ref nt)] ∧ H' st = some (.tup (us.map V.ref)) ∧ Seams H' us qs ∧ H' mt = some (.tup (msL ps (n * turnOf z).toNat)) ∧ H' nt = some (.tup (tnL (n * turnOf z).toNat (turnOf z) 1)), ?_, ?_⟩
                            · refine ⟨_, rfl, x, _, dx, _, _, rfl, t11.ins, Tx.cl_Skin, Tx.no_Skin_sides, rfl, _, rfl, n * turnOf z, turnOf z, 1, rfl, hN0, by omega, by omega, by omega, fun H12 nt s12 nnt hnt => ?_⟩
                              have t12 : Stg K x dx H H12 _ := ⟨s12 _ _ t11.ins, t11.kp.trans (Kp.same s12)⟩
                              refine ⟨_, rfl, x, _, dx, _, rfl, t12.ins, Tx.cl_Skin, Tx.no_Skin_nexts, (show 7 < 1000 by decide), rfl, nt, ?_, ?_, ?_, ?_, ?_⟩
                              · exact Stg.put (ns := ["kind", "faces", "turn", "full", "sides", "seams", "mates"]) t12 rfl (by decide +kernel)
                              · exact tup_upd t12.ins (s12 _ _ h11)
                              · exact (hus11.same s12).upd t12.ins
                              · exact tup_upd t12.ins (s12 _ _ hmt)
                              · exact tup_upd t12.ins hnt
                            rintro σ H11 ⟨rfl, nt, t11, h11, hus11, hmt, hnt⟩
                            refine ⟨fun σ H' => σ = σ0 ∧ ∃ (bt : Addr), Stg K x dx H H' [("kind", .str z), ("faces", .int n), ("turn", .int (turnOf z)), ("full", .int (fullOf z)), ("sides", .int (n * turnOf z)), ("seams", .ref st), ("mates", .ref mt), ("nexts", .ref nt), ("backs", .ref bt)] ∧ H' st = some (.tup (us.map V.ref)) ∧ Seams H' us qs ∧ H' mt = some (.tup (msL ps (n * turnOf z).toNat)) ∧ H' nt = some (.tup (tnL (n * turnOf z).toNat (turnOf z) 1)) ∧ H' bt = some (.tup (tnL (n * turnOf z).toNat (turnOf z) (turnOf z - 1))), ?_, ?_⟩
                            · refine ⟨_, rfl, x, _, dx, _, _, rfl, t11.ins, Tx.cl_Skin, Tx.no_Skin_sides, rfl, _, rfl, _, rfl, _, _, rfl, rfl, n * turnOf z, turnOf z, turnOf z - 1, rfl, hN0, by omega, by omega, by omega, fun H12 bt s12 nbt hbk => ?_⟩
                              have t12 : Stg K x dx H H12 _ := ⟨s12 _ _ t11.ins, t11.kp.trans (Kp.same s12)⟩
                              refine ⟨_, rfl, x, _, dx, _, rfl, t12.ins, Tx.cl_Skin, Tx.no_Skin_backs, (show 8 < 1000 by decide), rfl, bt, ?_, ?_, ?_, ?_, ?_, ?_⟩
                              · exact Stg.put (ns := ["kind", "faces", "turn", "full", "sides", "seams", "mates", "nexts"]) t12 rfl (by decide +kernel)
                              · exact tup_upd t12.ins (s12 _ _ h11)
                              · exact (hus11.same s12).upd t12.ins
                              · exact tup_upd t12.ins (s12 _ _ hmt)
                              · exact tup_upd t12.ins (s12 _ _ hnt)
                              · exact tup_upd t12.ins hbk
                            · rintro σ H11 ⟨rfl, bt, t11, h11, hus11, hmt, hnt, hbk⟩
                              obtain ⟨N, hN⟩ := Int.eq_ofNat_of_zero_le hN0
                              rw [hN] at hmt t11 hnt hbk
                              have hmt' : H11 mt = some (.tup (msL ps N)) := hmt
                              refine ⟨_, rfl, x, _, dx, _, _, rfl, t11.ins, Tx.cl_Skin, Tx.no_Skin_sides, rfl, _, rfl, by omega, by omega, fun D nD => ?_⟩
                              refine lc_pure ((walk_range (lo := 0) (n := (N : Int).toNat)).mono (Y' := fun i H x H' => H' = H ∧ (rgL N)[i]? = some x) (fun _ h => h) (fun i H x H' hi _ y => ⟨y.1, by rw [y.2]; exact rgL_at hi⟩)) (rgL N) (by rw [rgL_len]; rfl) (by rw [rgL_len]; omega) (fun i H x H' y => ⟨same_of_eq y.1, y.2⟩) (fun x => x) (keepF (msL ps N)) nD (fun _ _ => True.intro) (fun i v H2 Q1 Q0 hi s2 q1 q0 => ?_) (fun H2 s2 hD => ?_)
                              · refine ⟨rfl, ?_⟩
                                obtain ⟨iN, rfl⟩ := rgL_get hi
                                have hlt : i < (msL ps N).length := by rw [msL_len]; exact iN
                                refine ⟨_, rfl, x, _, dx, _, _, rfl, s2 _ _ t11.ins, Tx.cl_Skin, Tx.no_Skin_mates, rfl, _, rfl, mt, _, _, (msL ps N)[i], rfl, rfl, SqT.of (s2 _ _ hmt'), atI_nat (List.getElem?_eq_getElem hlt), rfl, _, rfl, ?_⟩
                                have ek := keepF_at (List.getElem?_eq_getElem hlt)
                                refine ite2 (fun e => ?_) (fun e => ?_)
                                · exact ⟨_, rfl, q1 (ek.trans e) _ (Same.refl _)⟩
                                · exact q0 (ek.trans (Bool.eq_false_iff.mpr e)) _ (Same.refl _)
                              · rw [List.map_id', rgL_keep] at hD
                                refine ⟨D, _, rfl, .inl ⟨SqL.of hD, fun ft nft => ?_⟩⟩
                                have s12 : Same H11 _ := s2.trans (same_new (o := .tup ((frL ps N).map V.int)) nft)
                                have t12 : Stg K x dx H _ _ := ⟨s12 _ _ t11.ins, t11.kp.trans (Kp.same s12)⟩
                                refine ⟨_, rfl, x, _, dx, _, rfl, t12.ins, Tx.cl_Skin, Tx.no_Skin_free, (show 9 < 1000 by decide), ?_⟩
                                have t13 := Stg.put (f := "free") (v := .ref ft) (ns := ["kind", "faces", "turn", "full", "sides", "seams", "mates", "nexts", "backs"]) t12 rfl (by decide +kernel)
                                refine q ht n24 _ t13.kp ⟨dx, st, mt, ft, us, qs, ⟨(nt, bt), ?_, ?_, ?_⟩, ?_, ?_, hq, ?_, ?_⟩
                                · rw [t13.ins, ← hN]
                                  rfl
                                · rw [hN]
                                  exact tup_upd t12.ins (s12 _ _ hnt)
                                · rw [hN]
                                  exact tup_upd t12.ins (s12 _ _ hbk)
                                · exact tup_upd t12.ins (s12 _ _ h11)
                                · exact (hus11.same s12).upd t12.ins
                                · rw [hN]
                                  exact tup_upd t12.ins (s12 _ _ hmt')
                                · rw [hN]
                                  exact tup_upd t12.ins upd_same
        · cases c.symm.trans (show ((ts.map V.ref).all fun _ => true) = true from List.all_eq_true.mpr fun _ _ => rfl)
theorem has_Skin_init (Tx : Txt K mg) (c : He.SaysX fa fn [] tf ex w hh K) (X : K.In hh) (GG : hh.Ns mainGlobals mg) (h_need_kind : HasX P w K mg base "need_kind" 3 ["kind"] (sp_need_kind K)) (h_is_within : Has P w K mg base "is_within" 2 ["value", "least", "most"] (sp_is_within K)) (h_BadSkin_init : HasM P w K mg base CX0 "BadSkin" "__init__" 1 ["self", "part"] (sp_BadSkin_init K)) (h_sides_of : HasX P w K mg base "sides_of" 4 ["kind"] (sp_sides_of K)) (h_need_seams : HasX P w K mg base "need_seams" 4 ["seams", "sides"] (sp_need_seams K)) (h_first_twice : Has P w K mg base "first_twice" 1 ["values"] (sp_first_twice K)) (h_sides_in : Has P w K mg base "sides_in" 1 ["seams"] (sp_sides_in K)) (h_Twice_init : HasM P w K mg base CX0 "Twice" "__init__" 1 ["self", "value"] (sp_Twice_init K)) (h_TooMany_init : HasM P w K mg base CX0 "TooMany" "__init__" 1 ["self", "what", "most"] (sp_TooMany_init K)) (h_full_of : HasX P w K mg base "full_of" 4 ["kind"] (sp_full_of K)) (h_mates_of : Has P w K mg base "mates_of" 1 ["seams", "sides"] (sp_mates_of K)) (h_turned_sides : Has P w K mg base "turned_sides" 1 ["sides", "turn", "by"] (sp_turned_sides K))  : HasI P w K mg base 5 (sp_Skin_init K) := by
  obtain ⟨fd, F⟩ := c.t.d.def_ 26 (d := d_Skin_init) rfl
  exact ⟨fd, ok_Skin_init F Tx h_need_kind h_is_within h_BadSkin_init h_sides_of h_need_seams h_first_twice h_sides_in h_Twice_init h_TooMany_init h_full_of h_mates_of h_turned_sides, bindsI F⟩

end
end K05

namespace K05
open PySem PySem.Spec PyProof.Rows L2 Vf LamX
section
variable {hh : Heap} {P : Program} {w : World} {K : PySem.W.Frag} {mg : Str → Option Value} {base : Heap}
/-! ### a skin's methods -/
def sp_Skin_need_side (K : PySem.W.Frag) : Sp := fun vs H Q _ => ∃ (x : Addr) (z : Str) (n i : Int) (ps : List (Int × Int)), vs = [.ref x, .int i] ∧ SkinAt K H x z n ps ∧ 0 ≤ i ∧ i < n * turnOf z ∧ Q .non H
theorem sc_Skin_need_side : FnScope ["self", "side"] ["self", "side"] (defScope s_Skin_need_side) := ⟨rfl, rfl, rfl, by decide +kernel, rfl, by decide +kernel, by decide +kernel⟩
theorem ok_Skin_need_side {f : Addr} {fd : FuncData} (F : FunD K "need_side" "Skin.need_side" (defArgs s_Skin_need_side) (defBody s_Skin_need_side) (defScope s_Skin_need_side) [] [] f fd) (Tx : Txt K mg) (h_is_within : Has P w K mg base "is_within" 2 ["value", "least", "most"] (sp_is_within K))  : FnOk P w K mg base CX0 3 f fd ["self", "side"] (sp_Skin_need_side K) := by
  obtain ⟨f_is_within, fd_is_within, G_is_within, g_is_within, k_is_within, b_is_within⟩ := h_is_within
  refine FunD.ok F sc_Skin_need_side (fun vs H Q E h => ?_) (fun cdv A outer s H vs Q E hr h => ?_)
  · obtain ⟨x, z, n, i, ps, rfl, _⟩ := h
    rfl
  · obtain ⟨x, z, n, i, ps, rfl, ⟨dx, st, mt, ft, us, qs, hx⟩, i0, i1, q⟩ := h
    refine ⟨_, PSs.nox (pss_one (ps_if (pt_not (pt_val (pe_call G_is_within (hr.mono (by decide)) (by rfl) g_is_within k_is_within b_is_within .nil pass0 (pa_cons (pv 1) (pa_cons pe_int (pa_cons (pe_op op_sub (pe_fld (pv 0) rfl) pe_int) pa_nil)))))) (pss_one ps_never) pss_nil)), ?_⟩
    refine ⟨_, rfl, _, rfl, x, _, dx, _, _, rfl, hx.ins, Tx.cl_Skin, Tx.no_Skin_sides, rfl, _, _, rfl, rfl, _, .int 0, _, .int, rfl, True.intro, rfl, rfl, _, rfl, ?_⟩
    have e : bnd (.int i) (.int 0) (.int (n * turnOf z - 1)) = true := by
      show (decide (0 ≤ i) && decide (i ≤ n * turnOf z - 1)) = true
      rw [decide_eq_true i0, decide_eq_true (by omega)] <;> rfl
    rw [e]
    exact iteF q
theorem has_Skin_need_side (Tx : Txt K mg) (c : He.SaysX fa fn [] tf ex w hh K) (X : K.In hh) (GG : hh.Ns mainGlobals mg) (h_is_within : Has P w K mg base "is_within" 2 ["value", "least", "most"] (sp_is_within K))  : HasM P w K mg base CX0 "Skin" "need_side" 3 ["self", "side"] (sp_Skin_need_side K) := by
  obtain ⟨fd, F⟩ := c.t.d.def_ 27 (d := d_Skin_need_side) rfl
  exact ⟨fd, ok_Skin_need_side F Tx h_is_within, F.bindsN fun _ _ _ _ _ _ us hl => match us, hl with | [_, _], _ => rfl⟩
def sp_Skin_mate (K : PySem.W.Frag) : Sp := fun vs H Q _ => ∃ (x : Addr) (z : Str) (n i : Int) (ps : List (Int × Int)) (v : V), vs = [.ref x, .int i] ∧ SkinAt K H x z n ps ∧ 0 ≤ i ∧ i < n * turnOf z ∧ (msL ps (n * turnOf z).toNat)[i.toNat]? = some v ∧ Q v H
theorem sc_Skin_mate : FnScope ["self", "side"] ["self", "side"] (defScope s_Skin_mate) := ⟨rfl, rfl, rfl, by decide +kernel, rfl, by decide +kernel, by decide +kernel⟩
theorem ok_Skin_mate {f : Addr} {fd : FuncData} (F : FunD K "mate" "Skin.mate" (defArgs s_Skin_mate) (defBody s_Skin_mate) (defScope s_Skin_mate) [] [] f fd) (Tx : Txt K mg) (h_Skin_need_side : HasM P w K mg base CX0 "Skin" "need_side" 3 ["self", "side"] (sp_Skin_need_side K))  : FnOk P w K mg base CX0 4 f fd ["self", "side"] (sp_Skin_mate K) := by
  obtain ⟨fd_Skin_need_side, G_Skin_need_side, b_Skin_need_side⟩ := h_Skin_need_side
  refine FunD.ok F sc_Skin_mate (fun vs H Q E h => ?_) (fun cdv A outer s H vs Q E hr h => ?_)
  · obtain ⟨x, z, n, i, ps, v, rfl, _⟩ := h
    rfl
  · obtain ⟨x, z, n, i, ps, v, rfl, hs, i0, i1, hv, q⟩ := h
    obtain ⟨dx, st, mt, ft, us, qs, hx⟩ := id hs
    refine ⟨_, PSs.nox (pss_cons (ps_expr (pe_meth (pv 0) Tx.cl_Skin Tx.me_Skin_need_side G_Skin_need_side (hr.mono (by decide)) b_Skin_need_side .nil pass0 (pa_cons (pv 1) pa_nil)))
        (pss_one (ps_ret (pe_ix ix_tup (pe_fld (pv 0) rfl) (pv 1) (fun _ _ => rfl))))), ?_⟩
    refine ⟨_, rfl, x, dx, _, rfl, hx.ins, rfl, _, rfl, x, z, n, i, ps, rfl, hs, i0, i1, ?_⟩
    obtain ⟨j, rfl⟩ := Int.eq_ofNat_of_zero_le i0
    exact ⟨_, rfl, x, _, dx, _, _, rfl, hx.ins, Tx.cl_Skin, Tx.no_Skin_mates, rfl, _, rfl, mt, _, _, v, rfl, rfl, SqT.of hx.mates, atI_nat hv, q⟩
theorem has_Skin_mate (Tx : Txt K mg) (c : He.SaysX fa fn [] tf ex w hh K) (X : K.In hh) (GG : hh.Ns mainGlobals mg) (h_Skin_need_side : HasM P w K mg base CX0 "Skin" "need_side" 3 ["self", "side"] (sp_Skin_need_side K))  : HasM P w K mg base CX0 "Skin" "mate" 4 ["self", "side"] (sp_Skin_mate K) := by
  obtain ⟨fd, F⟩ := c.t.d.def_ 28 (d := d_Skin_mate) rfl
  exact ⟨fd, ok_Skin_mate F Tx h_Skin_need_side, F.bindsN fun _ _ _ _ _ _ us hl => match us, hl with | [_, _], _ => rfl⟩
/-! ### texts -/
def smT (p : Int × Int) : Str := ((Str.empty ++ Str.ofString (toString p.1)) ++ (" " : Str)) ++ Str.ofString (toString p.2)
def skW (z : Str) (n : Int) (qs : List (Int × Int)) : List Str := [z, Str.ofString (toString n), ":"] ++ (if qs = [] then [] else [Txt.join " / " (qs.map smT)])
def skT (z : Str) (n : Int) (qs : List (Int × Int)) : Str := Txt.join " " (skW z n qs)
def Small (i : Int) : Prop := 0 ≤ i ∧ i ≤ 100
theorem small_log {i : Int} (h : Small i) : i.natAbs.log2 < 1920 := by
  have h1 := Nat.log2_le_self i.natAbs
  have := h.1
  have := h.2
  omega
theorem small_txt {i : Int} (h : Small i) : (Str.ofString (toString i)).length ≤ 102 := by
  have h1 := len_str_of_int i
  have := h.1
  have := h.2
  omega
theorem smT_len {p : Int × Int} (h : Small p.1) (g : Small p.2) : (smT p).length ≤ 205 := by
  unfold smT
  rw [app_len, app_len, app_len]
  have h1 := small_txt h
  have h2 := small_txt g
  have h3 : (" " : Str).length = 1 := by decide +kernel
  have h4 : Str.empty.length = 0 := by decide +kernel
  omega
theorem sum_le {α : Type} {f : α → Nat} {b : Nat} : ∀ {xs : List α}, (∀ x ∈ xs, f x ≤ b) → (xs.map f).sum ≤ xs.length * b
  | [], _ => Nat.zero_le _
  | x :: r, h => by
    have h1 := h x (List.mem_cons_self ..)
    have h2 := sum_le (xs := r) fun y hy => h y (List.mem_cons_of_mem _ hy)
    rw [List.map_cons, List.sum_cons, List.length_cons, Nat.succ_mul]
    omega
def sp_skin_words (K : PySem.W.Frag) : Sp := fun vs H Q _ => ∃ (x dx st mt ft : Addr) (us : List Addr) (z : Str) (n : Int) (ps qs : List (Int × Int)), vs = [.ref x] ∧ SkinIs K H x z n ps dx st mt ft us qs ∧ Small n ∧ (∀ q ∈ qs, Small q.1 ∧ Small q.2) ∧ qs.length ≤ 400 ∧
  ∀ H' r, Same H H' → H' r = some (.lst ((skW z n qs).map V.str)) → Q (.ref r) H'
theorem sc_skin_words : FnScope ["skin", "head", "one", "other"] ["skin"] (defScope s_skin_words) := ⟨rfl, rfl, rfl, by decide +kernel, rfl, by decide +kernel, by decide +kernel⟩
theorem ok_skin_words {f : Addr} {fd : FuncData} (F : FunD K "skin_words" "skin_words" (defArgs s_skin_words) (defBody s_skin_words) (defScope s_skin_words) [] [] f fd) (Tx : Txt K mg)   : FnOk P w K mg base CX0 1 f fd ["skin"] (sp_skin_words K) := by
  refine FunD.ok F sc_skin_words (fun vs H Q E h => ?_) (fun cdv A outer s H vs Q E hr h => ?_)
  · obtain ⟨x, dx, st, mt, ft, us, z, n, ps, qs, rfl, _⟩ := h
    rfl
  · obtain ⟨x, dx, st, mt, ft, us, z, n, ps, qs, rfl, hx, hn, hq, hl, q⟩ := h
    refine ⟨_, PSs.nox (pss_cons (ps_set (i := 1) sc_skin_words.nd rfl (Or.inl rfl) (pe_lst (pa_cons (pe_fld (pv 0) rfl) (pa_cons (pe_callTy call_str_int (by rfl) Tx.n_str (by decide +kernel) (pa_cons (pe_fld (pv 0) rfl) pa_nil)) (pa_cons pe_str pa_nil)))))
        (pss_cons (ps_if (pt_not (pt_truth (pe_fld (pv 0) rfl) (by intro _; rfl))) (pss_one (ps_ret (pv 1))) pss_nil)
        (pss_one (ps_ret (pe_op op_cat (pv 1) (pe_lst (pa_cons (pe_join pe_str (pe_lc (own := [("one", 2), ("other", 3)]) (g := _) (tt := tYes) rfl sc_skin_words.nd (pi_tup (pe_fld (pv 0) rfl)) (blkOk_by (own := [("one", 2), ("other", 3)]) (N := ["skin", "head", "one", "other"]) (sc := defScope s_skin_words) (by decide +kernel)) (fun _ _ _ _ _ => (pg_tupK (K := K) (n := 2) rfl rfl (pgs_cons (pg_name (i := 2) sc_skin_words.nd rfl (Or.inl rfl)) (pgs_cons (pg_name (i := 3) sc_skin_words.nd rfl (Or.inl rfl)) pgs_nil)))) (fun _ _ _ _ _ => pts_nil) (fun _ _ _ _ _ => (pe_joined (.cons (pe_fmt (pv 2)) (.cons pe_str (.cons (pe_fmt (pv 3)) .nil))))))) pa_nil))))))), ?_⟩
    refine ⟨_, rfl, x, _, dx, _, _, rfl, hx.ins, Tx.cl_Skin, Tx.no_Skin_kind, rfl, _, rfl, x, _, dx, _, _, rfl, hx.ins, Tx.cl_Skin, Tx.no_Skin_faces, rfl, n, rfl, small_log hn, le_line (n := 3) (by decide), fun h nh => ?_⟩
    have s1 : Same H (upd H h (.lst [.str z, .str (Str.ofString (toString n)), .str ":"])) := same_new nh
    refine ⟨_, rfl, x, _, dx, _, _, rfl, s1 _ _ hx.ins, Tx.cl_Skin, Tx.no_Skin_seams, rfl, _, .inr (.inl ⟨_, SqT.of (s1 _ _ hx.seams), rfl⟩), ?_⟩
    cases us with
    | nil =>
      have e : qs = [] := List.length_eq_zero_iff.mp hx.sts.len.symm
      subst e
      exact ⟨_, rfl, q _ _ s1 upd_same⟩
    | cons u us =>
      have ne : qs ≠ [] := fun e => by
        have := hx.sts.len
        rw [e] at this
        cases this
      have hq' : (qs.map smT).length = qs.length := List.length_map ..
      refine ⟨_, rfl, ⟨_, rfl⟩, _, rfl, x, _, dx, _, _, rfl, s1 _ _ hx.ins, Tx.cl_Skin, Tx.no_Skin_seams, rfl, st, rfl, ⟨_, SqT.of (s1 _ _ hx.seams)⟩, fun D nD => ?_⟩
      have nD0 : H D = none := s1.free nD
      refine run_it (walk_tup (K := K) (a := st) (xs := (u :: us).map V.ref)) (fun i H' => Same (upd H h (.lst [.str z, .str (Str.ofString (toString n)), .str ":"])) H' ∧ H' D = some (.lst (((qs.take i).map smT).map V.str))) ⟨same_new nD, upd_same⟩ (fun i H' _ p => SqT.of (p.1 _ _ (s1 _ _ hx.seams))) (fun i v H' H'' hi p y => ?_) (fun H' p => ?_)
      · obtain ⟨rfl, hv⟩ := y
        obtain ⟨t, pr, rfl, htt, hp, htup⟩ := hx.sts.get hv
        obtain ⟨m1, m2⟩ := hq pr (List.mem_of_getElem? hp)
        refine ⟨t, _, rfl, SqT.of (p.1 _ _ (s1 _ _ htup)), rfl, _, _, rfl, _, _, rfl, rfl, rfl, ?_⟩
        have l1 := small_txt m1
        have l2 := smT_len m1 m2
        have l4 : Str.empty.length = 0 := by decide +kernel
        have l3 : (" " : Str).length = 1 := by decide +kernel
        refine ⟨_, rfl, .inr ⟨_, rfl, small_log m1, _, rfl, le_line (by rw [app_len]; omega), _, rfl, le_line (by rw [app_len, app_len]; omega), _, rfl, .inr ⟨_, rfl, small_log m2, _, rfl, le_line (Nat.le_trans l2 (by decide)), ?_⟩⟩⟩
        refine ⟨_, p.2, ?_, Same.mut p.1 nD, ?_⟩
        · rw [List.length_map, List.length_map, List.length_take]
          exact small_line (by omega)
        · rw [upd_same, List.take_add_one, hp, Option.toList_some, List.map_append, List.map_append]
          rfl
      · have el : qs.take ((u :: us).map V.ref).length = qs := by rw [List.length_map, hx.sts.len, List.take_length]
        have p2 := p.2
        rw [el] at p2
        have bound : ((qs.map smT).map (·.length)).sum + (qs.map smT).length * (" / " : Str).length ≤ 16777216 := by
          have h1 : ((qs.map smT).map (·.length)).sum ≤ (qs.map smT).length * 205 := sum_le fun y hy => by
            obtain ⟨pr, hpr, rfl⟩ := List.mem_map.mp hy
            exact smT_len (hq pr hpr).1 (hq pr hpr).2
          have h2 : (" / " : Str).length = 3 := by decide +kernel
          rw [hq'] at h1 ⊢
          rw [h2]
          omega
        refine ⟨_, D, qs.map smT, rfl, rfl, .inl (SqL.of p2), bound, le_line (n := 1) (by decide), fun l nl => ?_⟩
        have s3 := p.1.trans (same_new (o := .lst [.str (Txt.join " / " (qs.map smT))]) nl)
        refine ⟨h, l, _, _, rfl, rfl, s3 _ _ upd_same, upd_same, le_line (n := 4) (by decide), fun r nr => ?_⟩
        refine q _ _ ((s1.trans s3).trans (same_new nr)) ?_
        rw [upd_same]
        unfold skW
        rw [if_neg ne]
        rfl
theorem has_skin_words (Tx : Txt K mg) (c : He.SaysX fa fn [] tf ex w hh K) (X : K.In hh) (GG : hh.Ns mainGlobals mg)   : Has P w K mg base "skin_words" 1 ["skin"] (sp_skin_words K) := by
  obtain ⟨fd, F⟩ := c.t.d.def_ 37 (d := d_skin_words) rfl
  exact ⟨_, fd, ok_skin_words F Tx , He.glo_ok X GG (c.t.d.fact 29 (f := .glo "skin_words") rfl), F.kp, F.bindsN fun _ _ _ _ _ _ us hl => match us, hl with | [_], _ => rfl⟩
def sp_Skin_str (K : PySem.W.Frag) : Sp := fun vs H Q _ => ∃ (x dx st mt ft : Addr) (us : List Addr) (z : Str) (n : Int) (ps qs : List (Int × Int)), vs = [.ref x] ∧ SkinIs K H x z n ps dx st mt ft us qs ∧ Small n ∧ z.length ≤ 100 ∧ (∀ q ∈ qs, Small q.1 ∧ Small q.2) ∧ qs.length ≤ 400 ∧
  ∀ H', Same H H' → Q (.str (skT z n qs)) H'
theorem skW_size {z : Str} {n : Int} {qs : List (Int × Int)} (hz : z.length ≤ 100) (hn : Small n) (hq : ∀ q ∈ qs, Small q.1 ∧ Small q.2) (hl : qs.length ≤ 400) : ((skW z n qs).map (·.length)).sum + (skW z n qs).length * (" " : Str).length ≤ 16777216 := by
  have l1 : (" " : Str).length = 1 := by decide +kernel
  have l2 : (":" : Str).length = 1 := by decide +kernel
  have l3 := small_txt hn
  unfold skW
  by_cases h : qs = []
  · rw [if_pos h, l1]
    simp only [List.append_nil, List.map_cons, List.map_nil, List.sum_cons, List.sum_nil, List.length_cons, List.length_nil]
    omega
  · rw [if_neg h, l1]
    simp only [List.cons_append, List.nil_append, List.map_cons, List.map_nil, List.sum_cons, List.sum_nil, List.length_cons, List.length_nil]
    have l4 : (Txt.join " / " (qs.map smT)).length ≤ 200000 := by
      have h0 : (Txt.join " / " (qs.map smT)).length = ((qs.map smT).map (·.length)).sum + ((qs.map smT).length - 1) * (" / " : Str).length := size_glued _ _
      have h1 : ((qs.map smT).map (·.length)).sum ≤ (qs.map smT).length * 205 := sum_le fun y hy => by
        obtain ⟨pr, hpr, rfl⟩ := List.mem_map.mp hy
        exact smT_len (hq pr hpr).1 (hq pr hpr).2
      have h2 : (" / " : Str).length = 3 := by decide +kernel
      rw [List.length_map] at h0 h1
      rw [h0, h2]
      omega
    omega
theorem sc_Skin_str : FnScope ["self"] ["self"] (defScope s_Skin_str) := ⟨rfl, rfl, rfl, by decide +kernel, rfl, by decide +kernel, by decide +kernel⟩
theorem ok_Skin_str {f : Addr} {fd : FuncData} (F : FunD K "__str__" "Skin.__str__" (defArgs s_Skin_str) (defBody s_Skin_str) (defScope s_Skin_str) [] [] f fd) (Tx : Txt K mg) (h_skin_words : Has P w K mg base "skin_words" 1 ["skin"] (sp_skin_words K))  : FnOk P w K mg base CX0 2 f fd ["self"] (sp_Skin_str K) := by
  obtain ⟨f_skin_words, fd_skin_words, G_skin_words, g_skin_words, k_skin_words, b_skin_words⟩ := h_skin_words
  refine FunD.ok F sc_Skin_str (fun vs H Q E h => ?_) (fun cdv A outer s H vs Q E hr h => ?_)
  · obtain ⟨x, dx, st, mt, ft, us, z, n, ps, qs, rfl, _⟩ := h
    rfl
  · obtain ⟨x, dx, st, mt, ft, us, z, n, ps, qs, rfl, hx, hn, hz, hq, hl, q⟩ := h
    refine ⟨_, PSs.nox (pss_one (ps_ret (pe_join pe_str (pe_call G_skin_words (hr.mono (by decide)) (by rfl) g_skin_words k_skin_words b_skin_words .nil pass0 (pa_cons (pv 0) pa_nil))))), ?_⟩
    refine ⟨⟨_, rfl⟩, _, rfl, x, dx, st, mt, ft, us, z, n, ps, qs, rfl, hx, hn, hq, hl, fun H' r s1 hr => ?_⟩
    exact ⟨_, r, skW z n qs, rfl, rfl, .inl (SqL.of hr), skW_size hz hn hq hl, q _ s1⟩
theorem has_Skin_str (Tx : Txt K mg) (c : He.SaysX fa fn [] tf ex w hh K) (X : K.In hh) (GG : hh.Ns mainGlobals mg) (h_skin_words : Has P w K mg base "skin_words" 1 ["skin"] (sp_skin_words K))  : HasM P w K mg base CX0 "Skin" "__str__" 2 ["self"] (sp_Skin_str K) := by
  obtain ⟨fd, F⟩ := c.t.d.def_ 36 (d := d_Skin_str) rfl
  exact ⟨fd, ok_Skin_str F Tx h_skin_words, F.bindsN fun _ _ _ _ _ _ us hl => match us, hl with | [_], _ => rfl⟩

end
end K05

namespace K05
open PySem PySem.Spec PyProof.Rows L2 Vf LamX
section
variable {hh : Heap} {P : Program} {w : World} {K : PySem.W.Frag} {mg : Str → Option Value} {base : Heap}
/-! ### with_seams -/
theorem Seams.append {H : Hp} {us ts : List Addr} {qs rs : List (Int × Int)} (h : Seams H us qs) (g : Seams H ts rs) : Seams H (us ++ ts) (qs ++ rs) := by
  refine ⟨by rw [List.length_append, List.length_append, h.len, g.len], fun i t p h1 h2 => ?_⟩
  by_cases hi : i < us.length
  · rw [List.getElem?_append_left hi] at h1
    rw [List.getElem?_append_left (by rw [← h.len]; exact hi)] at h2
    exact h.at_ i t p h1 h2
  · rw [List.getElem?_append_right (by omega)] at h1
    rw [List.getElem?_append_right (by rw [← h.len]; omega), ← h.len] at h2
    exact g.at_ _ t p h1 h2
theorem SkinIs.same {H H' : Hp} {x dx st mt ft : Addr} {us : List Addr} {z : Str} {n : Int} {ps qs : List (Int × Int)} (h : SkinIs K H x z n ps dx st mt ft us qs) (s : Same H H') : SkinIs K H' x z n ps dx st mt ft us qs :=
  ⟨⟨h.nb, s _ _ h.ins, s _ _ h.nexts, s _ _ h.backs⟩, s _ _ h.seams, h.sts.same s, h.perm, s _ _ h.mates, s _ _ h.free⟩
/-- seams that need_seams refuses -/
def BadSeams (K : PySem.W.Frag) (H : Hp) (sv : V) (k : Kd) (n : Int) : Prop := k.seq = false ∨ (k.seq = true ∧ ∃ (a : Addr) (xs : List V) (f : V → Bool), sv = .ref a ∧ Box K H a xs ∧ xs.length ≤ 1000 ∧ (∀ x ∈ xs, ∃ kx, KdV K H x kx ∧ SeamSays K H x kx n (f x)) ∧ xs.all f = false)
def sp_Skin_with_seams (K : PySem.W.Frag) : Sp := fun vs H Q E => ∃ (x dx st mt ft : Addr) (us : List Addr) (z : Str) (n : Int) (ps qs : List (Int × Int)) (sv : V) (k : Kd), vs = [.ref x, sv] ∧ SkinIs K H x z n ps dx st mt ft us qs ∧ isGrid (.str z) = true ∧ 1 ≤ n ∧ n ≤ 24 ∧ KdV K H sv k ∧
  ((BadSeams K H sv k (n * turnOf z) ∧ smErr K E H) ∨ ∃ (a : Addr) (ts : List Addr) (rs : List (Int × Int)), sv = .ref a ∧ H a = some (.lst (ts.map V.ref)) ∧ ts ≠ [] ∧ Seams H ts rs ∧ (∀ p ∈ qs ++ rs, Pok (n * turnOf z) p) ∧ (qs ++ rs).length ≤ 400 ∧ qs ≠ [] ∧
    (∀ t, tw (flat2 (qs ++ rs)) = some t → twErr K E H t) ∧ (tw (flat2 (qs ++ rs)) = none → ∀ H' y, Same H H' → H y = none → SkinAt K H' y z n (qs ++ rs) → Q (.ref y) H'))
theorem same_made {H H1 : Hp} {y dy C : Addr} (ny : H y = none) (nd : H dy = none) (ne : dy ≠ y) (k : Kp y (upd (upd H dy (.own y)) y (.ins C dy [])) H1) : Same H H1 := fun b o e => by
  have h1 := ne_of_none e ny
  refine k b o h1 ?_
  rw [upd_ne h1, upd_ne (ne_of_none e nd)]
  exact e
theorem sc_Skin_with_seams : FnScope ["self", "seams"] ["self", "seams"] (defScope s_Skin_with_seams) := ⟨rfl, rfl, rfl, by decide +kernel, rfl, by decide +kernel, by decide +kernel⟩
theorem ok_Skin_with_seams {f : Addr} {fd : FuncData} (F : FunD K "with_seams" "Skin.with_seams" (defArgs s_Skin_with_seams) (defBody s_Skin_with_seams) (defScope s_Skin_with_seams) [] [] f fd) (Tx : Txt K mg) (h_need_seams : HasX P w K mg base "need_seams" 4 ["seams", "sides"] (sp_need_seams K)) (h_Skin_init : HasI P w K mg base 5 (sp_Skin_init K))  : FnOk P w K mg base (L2.CX P w) 7 f fd ["self", "seams"] (sp_Skin_with_seams K) := by
  obtain ⟨f_need_seams, fd_need_seams, G_need_seams, g_need_seams, k_need_seams, b_need_seams⟩ := h_need_seams
  obtain ⟨fd_Skin_init, G_Skin_init, b_Skin_init, ⟨ds2_Skin_init, v2_Skin_init, b2_Skin_init⟩, ⟨ds1_Skin_init, kg_Skin_init, kb_Skin_init_faces_kind⟩⟩ := h_Skin_init
  refine FunD.ok F sc_Skin_with_seams (fun vs H Q E h => ?_) (fun cdv A outer s H vs Q E hr h => ?_)
  · obtain ⟨x, dx, st, mt, ft, us, z, n, ps, qs, sv, k, rfl, _⟩ := h
    rfl
  · obtain ⟨x, dx, st, mt, ft, us, z, n, ps, qs, sv, k, rfl, hx, hg, n1, n24, hk, h⟩ := h
    rcases h with ⟨hb, e⟩ | ⟨a, ts, rs, rfl, ha, hne, hts, hok, hl, hq, e1, q⟩
    · refine ⟨_, (pss_cons (ps_expr (pe_call G_need_seams (hr.mono (by decide)) (by rfl) g_need_seams k_need_seams b_need_seams .nil (passE rfl rfl rfl rfl) (pa_cons (pv 1) (pa_cons (pe_fld (pv 0) rfl) pa_nil))))
        (pss_one (ps_ret (pe_make Tx.mk_Skin G_Skin_init (hr.mono (by decide)) (by rfl) Tx.g_Skin b_Skin_init .nil (passE rfl rfl rfl rfl) (pa_cons (pe_fld (pv 0) rfl) (pa_cons (pe_fld (pv 0) rfl) (pa_cons (pe_op op_catT (pe_fld (pv 0) rfl) (pe_callTy call_tuple_of (by rfl) Tx.n_tuple (by decide +kernel) (pa_cons (pv 1) pa_nil))) pa_nil))))))), ?_⟩
      refine ⟨_, rfl, _, rfl, x, _, dx, _, _, rfl, hx.ins, Tx.cl_Skin, Tx.no_Skin_sides, rfl, sv, k, _, rfl, hk, ?_⟩
      rcases hb with h1 | ⟨h1, a, xs, f, es, hbx, hl, hi, hf⟩
      · exact .inl ⟨h1, e⟩
      · exact .inr ⟨h1, a, xs, f, es, hbx, hl, hi, fun c => absurd hf (by rw [c]; decide), fun _ => e⟩
    · have hlt : ts.length ≤ 400 := by
        rw [hts.len]
        rw [List.length_append] at hl
        omega
      have hu : us.length + ts.length ≤ 400 := by
        rw [hts.len, hx.sts.len]
        rw [List.length_append] at hl
        omega
      have une : us ≠ [] := fun e => hq (by
        have := hx.sts.len
        rw [e] at this
        exact List.length_eq_zero_iff.mp this.symm)
      refine ⟨_, (pss_cons (ps_expr (pe_call G_need_seams (hr.mono (by decide)) (by rfl) g_need_seams k_need_seams b_need_seams .nil (passE rfl rfl rfl rfl) (pa_cons (pv 1) (pa_cons (pe_fld (pv 0) rfl) pa_nil))))
        (pss_one (ps_ret (pe_make Tx.mk_Skin G_Skin_init (hr.mono (by decide)) (by rfl) Tx.g_Skin b_Skin_init .nil (passE rfl rfl rfl rfl) (pa_cons (pe_fld (pv 0) rfl) (pa_cons (pe_fld (pv 0) rfl) (pa_cons (pe_op op_catT (pe_fld (pv 0) rfl) (pe_callTy call_tuple_of (by rfl) Tx.n_tuple (by decide +kernel) (pa_cons (pv 1) pa_nil))) pa_nil))))))), ?_⟩
      refine ⟨_, rfl, _, rfl, x, _, dx, _, _, rfl, hx.ins, Tx.cl_Skin, Tx.no_Skin_sides, rfl, _, k, _, rfl, hk, .inr ⟨?_, a, ts.map V.ref, fun _ => true, rfl, .inl ha, by rw [List.length_map]; omega, items_ok hts (fun p hp => hok p (List.mem_append_right _ hp)), fun _ H1 s1 => ?_, fun c => ?_⟩⟩
      · cases k with
        | list => rfl
        | tuple => rfl
        | dict =>
          obtain ⟨kvs, h⟩ := hk
          rw [ha] at h
          cases h
        | _ => exact hk.elim
      · have hx1 := hx.same s1
        refine ⟨_, rfl, x, _, dx, _, _, rfl, hx1.ins, Tx.cl_Skin, Tx.no_Skin_kind, rfl, _, rfl, x, _, dx, _, _, rfl, hx1.ins, Tx.cl_Skin, Tx.no_Skin_faces, rfl, _, rfl, x, _, dx, _, _, rfl, hx1.ins, Tx.cl_Skin, Tx.no_Skin_seams, rfl, _, rfl, a, _, rfl, .inl ⟨SqL.of (s1 _ _ ha), fun T nT => ?_⟩⟩
        have sT : Same H1 (upd H1 T (.tup (ts.map V.ref))) := same_new nT
        refine ⟨st, T, _, _, rfl, rfl, SqT.of (sT _ _ hx1.seams), SqT.of upd_same, fun e => une (List.map_eq_nil_iff.mp e), le_line (by rw [List.length_map, List.length_map]; omega), fun e => absurd (List.map_eq_nil_iff.mp e) hne, fun _ U nU => ?_⟩
        have sU := s1.trans (sT.trans (same_new (o := .tup (us.map V.ref ++ ts.map V.ref)) nU))
        intro y dy ny ndy ney
        have sY : Same _ (upd (upd (upd (upd H1 T (.tup (ts.map V.ref))) U (.tup (us.map V.ref ++ ts.map V.ref))) dy (.own y)) y (.ins (He.ga K "Skin") dy [])) := (same_new (o := .own y) ndy).trans (same_new (o := .ins (He.ga K "Skin") dy []) (by rw [upd_ne ney.symm]; exact ny))
        have hU : upd (upd (upd (upd H1 T (.tup (ts.map V.ref))) U (.tup (us.map V.ref ++ ts.map V.ref))) dy (.own y)) y (.ins (He.ga K "Skin") dy []) U = some (.tup ((us ++ ts).map V.ref)) := by
          rw [List.map_append]
          exact sY _ _ upd_same
        have sUY := sU.trans sY
        refine ⟨y, dy, _, _, _, .str, .int, rfl, upd_same, True.intro, True.intro, ?_⟩
        refine .made z n U (us ++ ts) (qs ++ rs) rfl hg rfl n1 rfl (.inr (.inl hU)) (((hx.sts.append hts).same sUY)) hl hok (fun t ht => (e1 t ht).same sUY) (fun _ c => absurd c (by omega)) (fun ht _ H' k' hy => ⟨rfl, ?_⟩)
        exact q ht H' y (sU.trans (same_made ny ndy ney k')) (sU.free ny) hy
      · cases c.symm.trans (show ((ts.map V.ref).all fun _ => true) = true from List.all_eq_true.mpr fun _ _ => rfl)
theorem has_Skin_with_seams (Tx : Txt K mg) (c : He.SaysX fa fn [] tf ex w hh K) (X : K.In hh) (GG : hh.Ns mainGlobals mg) (h_need_seams : HasX P w K mg base "need_seams" 4 ["seams", "sides"] (sp_need_seams K)) (h_Skin_init : HasI P w K mg base 5 (sp_Skin_init K))  : HasM P w K mg base (L2.CX P w) "Skin" "with_seams" 7 ["self", "seams"] (sp_Skin_with_seams K) := by
  obtain ⟨fd, F⟩ := c.t.d.def_ 32 (d := d_Skin_with_seams) rfl
  exact ⟨fd, ok_Skin_with_seams F Tx h_need_seams h_Skin_init, F.bindsN fun _ _ _ _ _ _ us hl => match us, hl with | [_, _], _ => rfl⟩

end
end K05

namespace K05
open PySem PySem.Spec PyProof.Rows L2 Vf LamX
section
variable {hh : Heap} {P : Program} {w : World} {K : PySem.W.Frag} {mg : Str → Option Value} {base : Heap}
/-! ### what is heard -/
/-- what _law_heard makes of an error -/
inductive Hears (K : PySem.W.Frag) (H : Hp) : Value → Option Addr → List V → Prop where
  | kind (d : Addr) (v : V) (e : H d = some (.xd [("part", v)])) : Hears K H (.ref (He.ga K "BadKind")) (some d) [.str "kind", v]
  | skin (d : Addr) (v : V) (e : H d = some (.xd [("part", v)])) : Hears K H (.ref (He.ga K "BadSkin")) (some d) [.str "skin", v]
  | twice (d : Addr) (v : V) (e : H d = some (.xd [("value", v)])) : Hears K H (.ref (He.ga K "Twice")) (some d) [.str "twice", v]
  | many (d : Addr) (v u : V) (e : H d = some (.xd [("most", u), ("what", v)])) : Hears K H (.ref (He.ga K "TooMany")) (some d) [.str "many", v, u]
/-- the answer told: a new tuple of hs -/
def Told (Q : VK) (H : Hp) (hs : List V) : Prop := ∀ H' t, Same H H' → H t = none → H' t = some (.tup hs) → Q (.ref t) H'
theorem Told.same {Q : VK} {H H1 : Hp} {hs : List V} (h : Told Q H hs) (s : Same H H1) : Told Q H1 hs := fun H' t s2 n e => h H' t (s.trans s2) (s.free n) e
def EH (K : PySem.W.Frag) (Q : VK) : XK := fun cls d H => ∃ hs, Hears K H cls d hs ∧ Told Q H hs
theorem eh_kind {Q : VK} {H : Hp} {v : V} (h : Told Q H [.str "kind", v]) : Rz (EH K Q) (He.ga K "BadKind") [("part", v)] H := fun H' d s _ e => ⟨_, .kind d v e, h.same s⟩
theorem eh_skin {Q : VK} {H : Hp} {v : V} (h : Told Q H [.str "skin", v]) : Rz (EH K Q) (He.ga K "BadSkin") [("part", v)] H := fun H' d s _ e => ⟨_, .skin d v e, h.same s⟩
theorem eh_twice {Q : VK} {H : Hp} {v : V} (h : Told Q H [.str "twice", v]) : Rz (EH K Q) (He.ga K "Twice") [("value", v)] H := fun H' d s _ e => ⟨_, .twice d v e, h.same s⟩
theorem eh_many {Q : VK} {H : Hp} {v u : V} (h : Told Q H [.str "many", v, u]) : Rz (EH K Q) (He.ga K "TooMany") [("most", u), ("what", v)] H := fun H' d s _ e => ⟨_, .many d v u e, h.same s⟩
/-- the def that hears: () where nothing is raised -/
def TTh (K : PySem.W.Frag) : (XK → Hp → VK → Prop) → Hp → VK → Prop := fun tl H Q => ∀ t0, H t0 = none → tl (EH K Q) (upd H t0 (.tup [])) fun _ H' => Q (.ref t0) H'
theorem kit3 {t a b c : Value} (h1 : PySem.W.kitOne K t a = some false) (h2 : PySem.W.kitOne K t b = some false) (h3 : PySem.W.kitOne K t c = some false) : PySem.W.kitAny K t [a, b, c] = some false :=
  kitAny_cons h1 (fun _ => kitAny_cons h2 (fun _ => kitAny_cons h3 (fun _ => kitAny_nil) fun e => by cases e) fun e => by cases e) fun e => by cases e
theorem takes_len {X : Cx} {W : WX} (tk : Takes X W) : Takes X (fun cls d σ H => σ.length = X.N.length → W cls d σ H) := fun u s' x => by
  obtain ⟨a, B, sI, pins, σ, H, cls, d, h1, I, h2, h3, h4, h5, h6, h7, h8⟩ := x
  exact tk u s' ⟨a, B, sI, pins, σ, H, cls, d, h1, I, h2, h3, h4, h5, h6, h7, h8 I.len⟩
theorem sc_law_heard : FnScope ["_law_ask", "_law_found", "error"] ["_law_ask"] (defScope s_law_heard) := ⟨rfl, rfl, rfl, by decide +kernel, rfl, by decide +kernel, by decide +kernel⟩
theorem heard_gives {X : Cx} {g : Addr} {cdg : Value} {qA : Str} (hK : K = X.K) (hmg : mg = X.mg) (Tx : Txt K mg) : GivesTo X ["_law_ask", "_law_found", "error"] "_law_heard" (defScope s_law_heard) g cdg (defBody s_law_heard) "_law_ask" qA (TTh K) := by
  obtain ⟨prog0, w0, K0, mg0, base0, A0, N0, s00, H00, env0, outer0, stack0, ex0, fn0, calm0, pn0, xe0⟩ := X
  have hK' : K = K0 := hK
  have hmg' : mg = mg0 := hmg
  subst hK' hmg'
  intro fA cA s H Q tl act hc h
  refine ⟨_, (pss_cons (ps_set (i := 1) sc_law_heard.nd rfl (Or.inl rfl) (pe_tup pa_nil))
        (pss_cons (ps_try_as (i := 2) (c := .ref (He.ga K "SewError")) (tb := fun W D σ H => ∃ Ech : XK, (∀ cls d σ' H', σ'.length = 3 → Ech cls d H' → W cls d σ' H') ∧ σ[0]? = some (some (.ref fA)) ∧ H cA = some (CodeO cA qA) ∧ tl Ech H fun _ H' => D.nx σ H') rfl rfl sc_law_heard.nd rfl rfl ⟨rfl, by decide, .inl Tx.g_SewError⟩ takes_no (fun W pn xe tk _ => by
        refine pss_one ⟨fun pins s' σ H' D I h' => ?_⟩
        obtain ⟨Ech, hW, h1, h2, h3⟩ := h'
        exact (ps_expr (act _ pn xe Ech _ _ (takes_len tk) fun cls d σ' H' e hl => hW cls d σ' H' hl e)).run pins s' σ H' D I ⟨h1, h2, h3⟩) (fun a oe cls d pn hz hf => (pss_cons (ps_set (i := 1) sc_law_heard.nd rfl (Or.inl rfl) (pe_tup (pa_cons pe_str pa_nil)))
        (pss_cons (ps_if (pt_val (pe_callB (call_isZT hz hf) (by rfl) Tx.n_isinstance (by decide +kernel) (pa_cons (pv 2) (pa_cons (pe_tup (pa_cons (pe_glob (v := .ref (He.ga K "BadNumber")) (by rfl) Tx.g_BadNumber rfl) (pa_cons (pe_glob (v := .ref (He.ga K "BadSheet")) (by rfl) Tx.g_BadSheet rfl) (pa_cons (pe_glob (v := .ref (He.ga K "NoSide")) (by rfl) Tx.g_NoSide rfl) pa_nil)))) pa_nil)))) (pss_one (ps_set (i := 1) sc_law_heard.nd rfl (Or.inl rfl) (pe_tup (pa_cons pe_str pa_nil)))) (pss_one (ps_if (PW.pt (pw_and (pt_val (pe_callB (call_isZ hz hf) (by rfl) Tx.n_isinstance (by decide +kernel) (pa_cons (pv 2) (pa_cons (pe_glob (v := .ref (He.ga K "BadKind")) (by rfl) Tx.g_BadKind rfl) pa_nil)))) (pw_and1 (pt_not (pt_val (pe_callB (call_isZT hz hf) (by rfl) Tx.n_isinstance (by decide +kernel) (pa_cons (pv 2) (pa_cons (pe_tup (pa_cons (pe_glob (v := .ref (He.ga K "BadSkin")) (by rfl) Tx.g_BadSkin rfl) (pa_cons (pe_glob (v := .ref (He.ga K "Twice")) (by rfl) Tx.g_Twice rfl) (pa_cons (pe_glob (v := .ref (He.ga K "TooMany")) (by rfl) Tx.g_TooMany rfl) pa_nil)))) pa_nil)))))))) (pss_one (ps_set (i := 1) sc_law_heard.nd rfl (Or.inl rfl) (pe_tup (pa_cons pe_str (pa_cons (pe_xf Tx.er_BadKind.xf (Tx.er_BadKind.no "part" (by simp)) hz hf (pv 2) rfl) pa_nil))))) (pss_one (ps_if (PW.pt (pw_and (pt_val (pe_callB (call_isZ hz hf) (by rfl) Tx.n_isinstance (by decide +kernel) (pa_cons (pv 2) (pa_cons (pe_glob (v := .ref (He.ga K "BadSkin")) (by rfl) Tx.g_BadSkin rfl) pa_nil)))) (pw_and1 (pt_not (pt_val (pe_callB (call_isZT hz hf) (by rfl) Tx.n_isinstance (by decide +kernel) (pa_cons (pv 2) (pa_cons (pe_tup (pa_cons (pe_glob (v := .ref (He.ga K "BadKind")) (by rfl) Tx.g_BadKind rfl) (pa_cons (pe_glob (v := .ref (He.ga K "Twice")) (by rfl) Tx.g_Twice rfl) (pa_cons (pe_glob (v := .ref (He.ga K "TooMany")) (by rfl) Tx.g_TooMany rfl) pa_nil)))) pa_nil)))))))) (pss_one (ps_set (i := 1) sc_law_heard.nd rfl (Or.inl rfl) (pe_tup (pa_cons pe_str (pa_cons (pe_xf Tx.er_BadSkin.xf (Tx.er_BadSkin.no "part" (by simp)) hz hf (pv 2) rfl) pa_nil))))) (pss_one (ps_if (PW.pt (pw_and (pt_val (pe_callB (call_isZ hz hf) (by rfl) Tx.n_isinstance (by decide +kernel) (pa_cons (pv 2) (pa_cons (pe_glob (v := .ref (He.ga K "Twice")) (by rfl) Tx.g_Twice rfl) pa_nil)))) (pw_and1 (pt_not (pt_val (pe_callB (call_isZT hz hf) (by rfl) Tx.n_isinstance (by decide +kernel) (pa_cons (pv 2) (pa_cons (pe_tup (pa_cons (pe_glob (v := .ref (He.ga K "BadKind")) (by rfl) Tx.g_BadKind rfl) (pa_cons (pe_glob (v := .ref (He.ga K "BadSkin")) (by rfl) Tx.g_BadSkin rfl) (pa_cons (pe_glob (v := .ref (He.ga K "TooMany")) (by rfl) Tx.g_TooMany rfl) pa_nil)))) pa_nil)))))))) (pss_one (ps_set (i := 1) sc_law_heard.nd rfl (Or.inl rfl) (pe_tup (pa_cons pe_str (pa_cons (pe_xf Tx.er_Twice.xf (Tx.er_Twice.no "value" (by simp)) hz hf (pv 2) rfl) pa_nil))))) (pss_one (ps_if (PW.pt (pw_and (pt_val (pe_callB (call_isZ hz hf) (by rfl) Tx.n_isinstance (by decide +kernel) (pa_cons (pv 2) (pa_cons (pe_glob (v := .ref (He.ga K "TooMany")) (by rfl) Tx.g_TooMany rfl) pa_nil)))) (pw_and1 (pt_not (pt_val (pe_callB (call_isZT hz hf) (by rfl) Tx.n_isinstance (by decide +kernel) (pa_cons (pv 2) (pa_cons (pe_tup (pa_cons (pe_glob (v := .ref (He.ga K "BadKind")) (by rfl) Tx.g_BadKind rfl) (pa_cons (pe_glob (v := .ref (He.ga K "BadSkin")) (by rfl) Tx.g_BadSkin rfl) (pa_cons (pe_glob (v := .ref (He.ga K "Twice")) (by rfl) Tx.g_Twice rfl) pa_nil)))) pa_nil)))))))) (pss_one (ps_set (i := 1) sc_law_heard.nd rfl (Or.inl rfl) (pe_tup (pa_cons pe_str (pa_cons (pe_xf Tx.er_TooMany.xf (Tx.er_TooMany.no "what" (by simp)) hz hf (pv 2) rfl) (pa_cons (pe_xf Tx.er_TooMany.xf (Tx.er_TooMany.no "most" (by simp)) hz hf (pv 2) rfl) pa_nil)))))) pss_nil)))))))))
        (pss_one (ps_if (pt_not (pt_val (pe_callB (call_isZ hz hf) (by rfl) Tx.n_isinstance (by decide +kernel) (pa_cons (pv 2) (pa_cons (pe_bltn (v := .ty "ValueError") (by rfl) Tx.n_ValueError (by decide +kernel) rfl) pa_nil))))) (pss_one (ps_set (i := 1) sc_law_heard.nd rfl (Or.inl rfl) (pe_tup (pa_cons pe_str pa_nil)))) pss_nil))))))
        (pss_one (ps_ret (pv 1))))), ?_⟩
  refine ⟨Nat.zero_le _, fun t0 n0 => ⟨EH K Q, fun cls d σ' H' hl e => ?_, rfl, same_new n0 _ _ hc, ?_⟩⟩
  · obtain ⟨hs, hh, ht⟩ := e
    match σ', hl with
    | [x0, x1, x2], _ =>
      cases hh with
      | kind dd v hd =>
        refine ⟨true, Tx.ex_BadKind, fun _ a na => ?_, fun z => Bool.noConfusion z⟩
        refine ⟨le_line (n := 1) (by decide), fun t1 n1 => ?_⟩
        have s1 : Same H' (upd H' t1 (.tup [.str "other"])) := same_new n1
        refine ⟨_, rfl, le_line (n := 3) (by decide), fun t2 n2 => ?_⟩
        have s2 := s1.trans (same_new (o := .tup [.ref (He.ga K "BadNumber"), .ref (He.ga K "BadSheet"), .ref (He.ga K "NoSide")]) n2)
        refine ⟨t2, _, _, _, dd, _, false, rfl, upd_same, .cons (.own _) (.cons (.own _) (.cons (.own _) .nil)), rfl, rfl, s2 _ _ hd, Tx.er_BadKind.exc, kit3 (Tx.ki_BadKind.own ("BadNumber", false) (by simp)) (Tx.ki_BadKind.own ("BadSheet", false) (by simp)) (Tx.ki_BadKind.own ("NoSide", false) (by simp)), _, rfl, iteF ?_⟩
        refine ⟨_, rfl, _, _, _, dd, _, true, rfl, .own _, rfl, rfl, s2 _ _ hd, Tx.er_BadKind.exc, (Tx.ki_BadKind.own ("BadKind", true) (by simp)), _, rfl, iteT ?_⟩
        refine ⟨_, rfl, le_line (n := 3) (by decide), fun t3 n3 => ?_⟩
        have s3 := s2.trans (same_new (o := .tup [.ref (He.ga K "BadSkin"), .ref (He.ga K "Twice"), .ref (He.ga K "TooMany")]) n3)
        refine ⟨t3, _, _, _, dd, _, false, rfl, upd_same, .cons (.own _) (.cons (.own _) (.cons (.own _) .nil)), rfl, rfl, s3 _ _ hd, Tx.er_BadKind.exc, kit3 (Tx.ki_BadKind.own ("BadSkin", false) (by simp)) (Tx.ki_BadKind.own ("Twice", false) (by simp)) (Tx.ki_BadKind.own ("TooMany", false) (by simp)), _, rfl, iteT ?_⟩
        refine ⟨_, rfl, rfl, rfl, dd, _, v, rfl, s3 _ _ hd, rfl, le_line (n := 2) (by decide), fun t4 n4 => ?_⟩
        have s4 := s3.trans (same_new (o := .tup [.str "kind", v]) n4)
        refine ⟨_, rfl, _, _, _, dd, _, true, rfl, .ty _, rfl, rfl, s4 _ _ hd, Tx.er_BadKind.exc, Tx.ki_BadKind.ve, _, rfl, iteF ?_⟩
        exact ⟨_, rfl, ht _ t4 s4 (s3.free n4) upd_same⟩
      | skin dd v hd =>
        refine ⟨true, Tx.ex_BadSkin, fun _ a na => ?_, fun z => Bool.noConfusion z⟩
        refine ⟨le_line (n := 1) (by decide), fun t1 n1 => ?_⟩
        have s1 : Same H' (upd H' t1 (.tup [.str "other"])) := same_new n1
        refine ⟨_, rfl, le_line (n := 3) (by decide), fun t2 n2 => ?_⟩
        have s2 := s1.trans (same_new (o := .tup [.ref (He.ga K "BadNumber"), .ref (He.ga K "BadSheet"), .ref (He.ga K "NoSide")]) n2)
        refine ⟨t2, _, _, _, dd, _, false, rfl, upd_same, .cons (.own _) (.cons (.own _) (.cons (.own _) .nil)), rfl, rfl, s2 _ _ hd, Tx.er_BadSkin.exc, kit3 (Tx.ki_BadSkin.own ("BadNumber", false) (by simp)) (Tx.ki_BadSkin.own ("BadSheet", false) (by simp)) (Tx.ki_BadSkin.own ("NoSide", false) (by simp)), _, rfl, iteF ?_⟩
        refine ⟨_, rfl, _, _, _, dd, _, false, rfl, .own _, rfl, rfl, s2 _ _ hd, Tx.er_BadSkin.exc, (Tx.ki_BadSkin.own ("BadKind", false) (by simp)), _, rfl, iteF ?_⟩
        refine ⟨_, rfl, _, _, _, dd, _, true, rfl, .own _, rfl, rfl, s2 _ _ hd, Tx.er_BadSkin.exc, (Tx.ki_BadSkin.own ("BadSkin", true) (by simp)), _, rfl, iteT ?_⟩
        refine ⟨_, rfl, le_line (n := 3) (by decide), fun t3 n3 => ?_⟩
        have s3 := s2.trans (same_new (o := .tup [.ref (He.ga K "BadKind"), .ref (He.ga K "Twice"), .ref (He.ga K "TooMany")]) n3)
        refine ⟨t3, _, _, _, dd, _, false, rfl, upd_same, .cons (.own _) (.cons (.own _) (.cons (.own _) .nil)), rfl, rfl, s3 _ _ hd, Tx.er_BadSkin.exc, kit3 (Tx.ki_BadSkin.own ("BadKind", false) (by simp)) (Tx.ki_BadSkin.own ("Twice", false) (by simp)) (Tx.ki_BadSkin.own ("TooMany", false) (by simp)), _, rfl, iteT ?_⟩
        refine ⟨_, rfl, rfl, rfl, dd, _, v, rfl, s3 _ _ hd, rfl, le_line (n := 2) (by decide), fun t4 n4 => ?_⟩
        have s4 := s3.trans (same_new (o := .tup [.str "skin", v]) n4)
        refine ⟨_, rfl, _, _, _, dd, _, true, rfl, .ty _, rfl, rfl, s4 _ _ hd, Tx.er_BadSkin.exc, Tx.ki_BadSkin.ve, _, rfl, iteF ?_⟩
        exact ⟨_, rfl, ht _ t4 s4 (s3.free n4) upd_same⟩
      | twice dd v hd =>
        refine ⟨true, Tx.ex_Twice, fun _ a na => ?_, fun z => Bool.noConfusion z⟩
        refine ⟨le_line (n := 1) (by decide), fun t1 n1 => ?_⟩
        have s1 : Same H' (upd H' t1 (.tup [.str "other"])) := same_new n1
        refine ⟨_, rfl, le_line (n := 3) (by decide), fun t2 n2 => ?_⟩
        have s2 := s1.trans (same_new (o := .tup [.ref (He.ga K "BadNumber"), .ref (He.ga K "BadSheet"), .ref (He.ga K "NoSide")]) n2)
        refine ⟨t2, _, _, _, dd, _, false, rfl, upd_same, .cons (.own _) (.cons (.own _) (.cons (.own _) .nil)), rfl, rfl, s2 _ _ hd, Tx.er_Twice.exc, kit3 (Tx.ki_Twice.own ("BadNumber", false) (by simp)) (Tx.ki_Twice.own ("BadSheet", false) (by simp)) (Tx.ki_Twice.own ("NoSide", false) (by simp)), _, rfl, iteF ?_⟩
        refine ⟨_, rfl, _, _, _, dd, _, false, rfl, .own _, rfl, rfl, s2 _ _ hd, Tx.er_Twice.exc, (Tx.ki_Twice.own ("BadKind", false) (by simp)), _, rfl, iteF ?_⟩
        refine ⟨_, rfl, _, _, _, dd, _, false, rfl, .own _, rfl, rfl, s2 _ _ hd, Tx.er_Twice.exc, (Tx.ki_Twice.own ("BadSkin", false) (by simp)), _, rfl, iteF ?_⟩
        refine ⟨_, rfl, _, _, _, dd, _, true, rfl, .own _, rfl, rfl, s2 _ _ hd, Tx.er_Twice.exc, (Tx.ki_Twice.own ("Twice", true) (by simp)), _, rfl, iteT ?_⟩
        refine ⟨_, rfl, le_line (n := 3) (by decide), fun t3 n3 => ?_⟩
        have s3 := s2.trans (same_new (o := .tup [.ref (He.ga K "BadKind"), .ref (He.ga K "BadSkin"), .ref (He.ga K "TooMany")]) n3)
        refine ⟨t3, _, _, _, dd, _, false, rfl, upd_same, .cons (.own _) (.cons (.own _) (.cons (.own _) .nil)), rfl, rfl, s3 _ _ hd, Tx.er_Twice.exc, kit3 (Tx.ki_Twice.own ("BadKind", false) (by simp)) (Tx.ki_Twice.own ("BadSkin", false) (by simp)) (Tx.ki_Twice.own ("TooMany", false) (by simp)), _, rfl, iteT ?_⟩
        refine ⟨_, rfl, rfl, rfl, dd, _, v, rfl, s3 _ _ hd, rfl, le_line (n := 2) (by decide), fun t4 n4 => ?_⟩
        have s4 := s3.trans (same_new (o := .tup [.str "twice", v]) n4)
        refine ⟨_, rfl, _, _, _, dd, _, true, rfl, .ty _, rfl, rfl, s4 _ _ hd, Tx.er_Twice.exc, Tx.ki_Twice.ve, _, rfl, iteF ?_⟩
        exact ⟨_, rfl, ht _ t4 s4 (s3.free n4) upd_same⟩
      | many dd v u hd =>
        refine ⟨true, Tx.ex_TooMany, fun _ a na => ?_, fun z => Bool.noConfusion z⟩
        refine ⟨le_line (n := 1) (by decide), fun t1 n1 => ?_⟩
        have s1 : Same H' (upd H' t1 (.tup [.str "other"])) := same_new n1
        refine ⟨_, rfl, le_line (n := 3) (by decide), fun t2 n2 => ?_⟩
        have s2 := s1.trans (same_new (o := .tup [.ref (He.ga K "BadNumber"), .ref (He.ga K "BadSheet"), .ref (He.ga K "NoSide")]) n2)
        refine ⟨t2, _, _, _, dd, _, false, rfl, upd_same, .cons (.own _) (.cons (.own _) (.cons (.own _) .nil)), rfl, rfl, s2 _ _ hd, Tx.er_TooMany.exc, kit3 (Tx.ki_TooMany.own ("BadNumber", false) (by simp)) (Tx.ki_TooMany.own ("BadSheet", false) (by simp)) (Tx.ki_TooMany.own ("NoSide", false) (by simp)), _, rfl, iteF ?_⟩
        refine ⟨_, rfl, _, _, _, dd, _, false, rfl, .own _, rfl, rfl, s2 _ _ hd, Tx.er_TooMany.exc, (Tx.ki_TooMany.own ("BadKind", false) (by simp)), _, rfl, iteF ?_⟩
        refine ⟨_, rfl, _, _, _, dd, _, false, rfl, .own _, rfl, rfl, s2 _ _ hd, Tx.er_TooMany.exc, (Tx.ki_TooMany.own ("BadSkin", false) (by simp)), _, rfl, iteF ?_⟩
        refine ⟨_, rfl, _, _, _, dd, _, false, rfl, .own _, rfl, rfl, s2 _ _ hd, Tx.er_TooMany.exc, (Tx.ki_TooMany.own ("Twice", false) (by simp)), _, rfl, iteF ?_⟩
        refine ⟨_, rfl, _, _, _, dd, _, true, rfl, .own _, rfl, rfl, s2 _ _ hd, Tx.er_TooMany.exc, (Tx.ki_TooMany.own ("TooMany", true) (by simp)), _, rfl, iteT ?_⟩
        refine ⟨_, rfl, le_line (n := 3) (by decide), fun t3 n3 => ?_⟩
        have s3 := s2.trans (same_new (o := .tup [.ref (He.ga K "BadKind"), .ref (He.ga K "BadSkin"), .ref (He.ga K "Twice")]) n3)
        refine ⟨t3, _, _, _, dd, _, false, rfl, upd_same, .cons (.own _) (.cons (.own _) (.cons (.own _) .nil)), rfl, rfl, s3 _ _ hd, Tx.er_TooMany.exc, kit3 (Tx.ki_TooMany.own ("BadKind", false) (by simp)) (Tx.ki_TooMany.own ("BadSkin", false) (by simp)) (Tx.ki_TooMany.own ("Twice", false) (by simp)), _, rfl, iteT ?_⟩
        refine ⟨_, rfl, rfl, rfl, dd, _, v, rfl, s3 _ _ hd, rfl, _, rfl, rfl, rfl, dd, _, u, rfl, s3 _ _ hd, rfl, le_line (n := 3) (by decide), fun t4 n4 => ?_⟩
        have s4 := s3.trans (same_new (o := .tup [.str "many", v, u]) n4)
        refine ⟨_, rfl, _, _, _, dd, _, true, rfl, .ty _, rfl, rfl, s4 _ _ hd, Tx.er_TooMany.exc, Tx.ki_TooMany.ve, _, rfl, iteF ?_⟩
        exact ⟨_, rfl, ht _ t4 s4 (s3.free n4) upd_same⟩
  · have h2 := h t0 n0
    have e : (fun (_ : V) (H' : Hp) => Q (.ref t0) H') = fun (_ : V) (H' : Hp) => ∃ v, (some (some (V.ref t0)) : Option (Option V)) = some (some v) ∧ Q v H' := by
      funext _ H'
      exact propext ⟨fun q => ⟨_, rfl, q⟩, fun ⟨v, e, q⟩ => by
        cases e
        exact q⟩
    rw [e] at h2
    exact h2

end
end K05

namespace K05
open PySem PySem.Spec PyProof.Rows L2 Vf LamX
section
variable {hh : Heap} {P : Program} {w : World} {K : PySem.W.Frag} {mg : Str → Option Value} {base : Heap}
abbrev sp_law_draw : Sp := spDraw
theorem cpow18 : CPow 10 18 := ⟨by decide, by decide, by decide⟩
theorem mix_small {n x : Int} (h0 : 0 ≤ n) (h1 : n ≤ 1000000) (x0 : 0 ≤ x) (x1 : x < 2147483629) : 0 ≤ x * (2 * n + 2129) + 60127 * n * n + 73043 ∧ x * (2 * n + 2129) + 60127 * n * n + 73043 ≤ 100000000000000000 := by
  have a1 : 0 ≤ x * (2 * n + 2129) := Int.mul_nonneg x0 (by omega)
  have a2 : x * (2 * n + 2129) ≤ 2147483647 * 2002129 := Int.mul_le_mul (by omega) (by omega) (by omega) (by decide)
  have a3 : 0 ≤ 60127 * n * n := Int.mul_nonneg (by omega) h0
  have a4 : 60127 * n * n ≤ 60127000000 * 1000000 := Int.mul_le_mul (by omega) h1 h0 (by decide)
  omega
theorem cdiv64 {i : Int} : CDiv i 64 := ⟨by decide, by decide⟩
theorem sc_law_draw : FnScope ["_law_pen_here", "_law_many", "_law_digit", "_law_at", "_law_cell", "_law_great", "_law_mixed"] ["_law_pen_here", "_law_many"] (defScope s_law_draw) := ⟨rfl, rfl, rfl, by decide +kernel, rfl, by decide +kernel, by decide +kernel⟩
theorem ok_law_draw {f : Addr} {fd : FuncData} (F : FunD K "_law_draw" "_law_draw" (defArgs s_law_draw) (defBody s_law_draw) (defScope s_law_draw) [] [] f fd) (Tx : Txt K mg)   : FnOk P w K mg base CX0 1 f fd ["_law_pen_here", "_law_many"] sp_law_draw := by
  refine FunD.ok F sc_law_draw (fun vs H Q E h => ?_) (fun cdv A outer s H vs Q E hr h => ?_)
  · obtain ⟨p, c, many, b, rfl, _⟩ := h
    rfl
  · obtain ⟨p, c, m, b, rfl, ⟨ns, n, g, hp, hc, n0, nb⟩, m0, m2, k⟩ := h
    have cp : c ≠ p := fun e => by
      rw [e, hp] at hc
      injection hc with z
      injection z with z
      exact ref_ints z
    refine ⟨_, PSs.nox (pss_cons (ps_if (pt_cmpR op_gt (pe_ix ix_list (pv 0) pe_int (fun _ _ => rfl)) pe_int (nomark _)) (pss_cons (ps_set (i := 2) sc_law_draw.nd rfl (Or.inl rfl) (pe_op op_mod (pe_callTy call_int1 (by rfl) Tx.n_int (by decide +kernel) (pa_cons (pe_ix ix_list (pv 0) pe_int (fun _ _ => rfl)) pa_nil)) (pv 1)))
        (pss_cons (ps_asg (pe_op op_fdivW (pe_callTy call_int1 (by rfl) Tx.n_int (by decide +kernel) (pa_cons (pe_ix ix_list (pv 0) pe_int (fun _ _ => rfl)) pa_nil)) (pv 1)) (pg_sub (pv 0) pe_int set_list))
        (pss_one (ps_ret (pv 2))))) pss_nil)
        (pss_cons (ps_set (i := 3) sc_law_draw.nd rfl (Or.inl rfl) (pe_ix ix_list (pv 0) pe_int (fun _ _ => rfl)))
        (pss_cons (ps_asg (pe_op op_add (pv 3) pe_int) (pg_sub (pv 0) pe_int set_list))
        (pss_cons (ps_set (i := 4) sc_law_draw.nd rfl (Or.inl rfl) (pe_op op_add (pe_op op_mul pe_int (pv 3)) pe_int))
        (C8.pss_cut (ps_if (pt_cmpR (op_neD hr.units) (pe_ix ix_list (pv 0) pe_int (fun _ _ => rfl)) (pe_lst pa_nil) (nomark _)) (pss_one (ps_set (i := 4) sc_law_draw.nd rfl (Or.inl rfl) (pe_ix ix_list (pe_ix ix_list (pv 0) pe_int (fun _ _ => rfl)) (pe_op op_mod (pe_callTy call_int1 (by rfl) Tx.n_int (by decide +kernel) (pa_cons (pv 3) pa_nil)) (pe_callB call_len_seq (by rfl) Tx.n_len (by decide +kernel) (pa_cons (pe_ix ix_list (pv 0) pe_int (fun _ _ => rfl)) pa_nil))) (fun _ _ => rfl)))) pss_nil)
        (C8.pss_cut (ps_if (PW.pt (pw_and (pt_cmpR op_lt (pv 3) (pe_callB call_len_seq (by rfl) Tx.n_len (by decide +kernel) (pa_cons (pe_ix ix_list (pv 0) pe_int (fun _ _ => rfl)) pa_nil)) (nomark _)) (pw_and1 (pt_cmpR op_ge (pe_callB call_abs (by rfl) Tx.n_abs (by decide +kernel) (pa_cons (pv 4) pa_nil)) (pe_op op_pow pe_int pe_int) (nomark _))))) (pss_cons (ps_set (i := 5) sc_law_draw.nd rfl (Or.inl rfl) (pe_op op_sub (pe_callB call_abs (by rfl) Tx.n_abs (by decide +kernel) (pa_cons (pv 4) pa_nil)) (pe_op op_pow pe_int pe_int)))
        (pss_cons (ps_asg (pe_op op_fdivW (pe_callTy call_int1 (by rfl) Tx.n_int (by decide +kernel) (pa_cons (pv 5) pa_nil)) (pv 1)) (pg_sub (pv 0) pe_int set_list))
        (pss_one (ps_ret (pe_op op_mod (pe_callTy call_int1 (by rfl) Tx.n_int (by decide +kernel) (pa_cons (pv 5) pa_nil)) (pv 1)))))) pss_nil)
        (C8.pss_cut (ps_set (i := 6) sc_law_draw.nd rfl (Or.inl rfl) (pe_op op_mod (pe_callTy call_int1 (by rfl) Tx.n_int (by decide +kernel) (pa_cons (pe_op op_pow (pe_op op_add (pe_op op_add (pe_op op_mod (pe_callTy call_int1 (by rfl) Tx.n_int (by decide +kernel) (pa_cons (pv 4) pa_nil)) pe_int) (pe_op op_mul pe_int (pv 3))) pe_int) pe_int) pa_nil)) pe_int))
        (pss_cons (ps_set (i := 6) sc_law_draw.nd rfl (Or.inl rfl) (pe_op op_mod (pe_callTy call_int1 (by rfl) Tx.n_int (by decide +kernel) (pa_cons (pe_op op_pow (pe_op op_add (pe_op op_add (pe_op op_mul (pv 6) (pe_op op_add (pe_op op_mul pe_int (pv 3)) pe_int)) (pe_op op_mul (pe_op op_mul pe_int (pv 3)) (pv 3))) pe_int) pe_int) pa_nil)) pe_int))
        (pss_one (ps_ret (pe_op op_mod (pe_callTy call_int1 (by rfl) Tx.n_int (by decide +kernel) (pa_cons (pe_op op_fdiv (pv 6) pe_int) pa_nil)) (pv 1)))))))))))), ?_⟩
    -- if pen[2] > 0
    refine ⟨_, rfl, p, _, 2, .int g, rfl, rfl, SqL.of hp, rfl, _, _, rfl, rfl, _, rfl, ite2 (fun hg => ?_) (fun hg => ?_)⟩
    · refine ⟨_, rfl, p, _, 2, .int g, rfl, rfl, SqL.of hp, rfl, .inl ⟨_, rfl, ?_⟩⟩
      refine ⟨_, rfl, _, _, rfl, rfl, m0, ?_⟩
      refine ⟨_, rfl, p, _, 2, .int g, rfl, rfl, SqL.of hp, rfl, .inl ⟨_, rfl, ?_⟩⟩
      refine ⟨_, rfl, _, _, rfl, rfl, many_div m0 m2, ?_⟩
      refine ⟨_, rfl, p, _, 2, 2, rfl, rfl, hp, rfl, ?_⟩
      refine ⟨_, rfl, ?_⟩
      refine k _ _ ⟨ns, n, g / m, upd_same, by rw [upd_ne cp]; exact hc, n0, by omega⟩ (Kp.refl _ _).set (Int.emod_nonneg _ (by omega)) (Int.emod_lt_of_pos _ m0)
    · -- at = pen[1]; pen[1] = at + 1
      refine ⟨_, rfl, p, _, 1, .int n, rfl, rfl, SqL.of hp, rfl, ?_⟩
      refine ⟨_, rfl, _, _, rfl, rfl, _, rfl, p, _, 1, 1, rfl, rfl, hp, rfl, ?_⟩
      have hp1 : upd H p (.lst ([V.ref c, V.int n, V.int g].set 1 (.int (n + 1)))) p = some (.lst [V.ref c, V.int (n + 1), V.int g]) := upd_same
      have hc1 : upd H p (.lst ([V.ref c, V.int n, V.int g].set 1 (.int (n + 1)))) c = some (.lst (ns.map V.int)) := by rw [upd_ne cp]; exact hc
      have k1 : Kp p H (upd H p (.lst ([V.ref c, V.int n, V.int g].set 1 (.int (n + 1))))) := (Kp.refl _ _).set
      revert hp1 hc1 k1
      generalize upd H p (.lst ([V.ref c, V.int n, V.int g].set 1 (.int (n + 1)))) = H1
      intro hp1 hc1 k1
      -- cell = 41719 * at + 1327
      refine ⟨_, rfl, _, _, rfl, rfl, .inl ⟨by decide, by decide⟩, _, _, rfl, rfl, ?_⟩
      -- if pen[0] != []: cell = pen[0][..]
      refine ⟨fun σ H2 => ∃ z : Int, σ = [some (.ref p), some (.int m), none, some (.int n), some (.int z), none, none] ∧ Same H1 H2, ?_, ?_⟩
      · refine ⟨_, rfl, p, _, 0, .ref c, rfl, rfl, SqL.of hp1, rfl, Nat.zero_le _, fun q nq => ?_⟩
        have s2 : Same H1 (upd H1 q (.lst [])) := same_new nq
        refine ⟨_, _, .lst (SqL.of (s2 _ _ hc1)) (dpAll_flat (flat_ints ns)), .lst (SqL.of upd_same) .nil, shaped_list (flat_ints ns), rfl, _, rfl, ite2 (fun e => ?_) (fun e => ?_)⟩
        · rw [eqv_nil] at e
          have ne : ns.map V.int ≠ [] := fun z => by
            rw [z] at e
            cases e
          obtain ⟨x, hx, hat⟩ := at_mod (n := n) ne
          obtain ⟨z, _, rfl⟩ := List.mem_map.mp hx
          refine ⟨_, rfl, p, _, 0, .ref c, rfl, rfl, SqL.of (s2 _ _ hp1), rfl, _, rfl, .inl ⟨_, rfl, _, rfl, p, _, 0, .ref c, rfl, rfl, SqL.of (s2 _ _ hp1), rfl, c, _, rfl, .inl (SqL.of (s2 _ _ hc1)), _, _, rfl, rfl, ?_, c, _, _, .int z, rfl, rfl, SqL.of (s2 _ _ hc1), hat, z, rfl, s2⟩⟩
          have := List.length_pos_iff.mpr ne
          omega
        · exact ⟨_, rfl, s2⟩
      · rintro σ H2 ⟨z, rfl, s2⟩
        have hc2 := s2 _ _ hc1
        have hp2 := s2 _ _ hp1
        have k2 : Kp p H H2 := k1.trans (Kp.same s2)
        -- if at < len(pen[0]) and abs(cell) >= 10 ** 18
        refine ⟨fun σ H3 => σ = [some (.ref p), some (.int m), none, some (.int n), some (.int z), none, none] ∧ H3 = H2, ?_, ?_⟩
        · refine ⟨_, rfl, _, rfl, p, _, 0, .ref c, rfl, rfl, SqL.of hp2, rfl, c, _, rfl, .inl (SqL.of hc2), _, _, rfl, rfl, _, rfl, ite2 (fun _ => ?_) (fun _ => iteF ⟨rfl, rfl⟩)⟩
          refine ⟨_, rfl, z, rfl, _, _, rfl, rfl, cpow18, _, _, rfl, rfl, _, rfl, ite2 (fun _ => ?_) (fun _ => ⟨rfl, rfl⟩)⟩
          refine ⟨_, rfl, z, rfl, _, _, rfl, rfl, cpow18, _, _, rfl, rfl, ?_⟩
          refine ⟨_, rfl, .inl ⟨_, rfl, _, rfl, _, _, rfl, rfl, many_div m0 m2, _, rfl, p, _, 2, 2, rfl, rfl, hp2, rfl, ?_⟩⟩
          refine ⟨_, rfl, .inl ⟨_, rfl, _, rfl, _, _, rfl, rfl, m0, ?_⟩⟩
          refine k _ _ ⟨ns, n + 1, _, upd_same, by rw [upd_ne cp]; exact hc2, by omega, by omega⟩ k2.set (Int.emod_nonneg _ (by omega)) (Int.emod_lt_of_pos _ m0)
        · rintro σ H3 ⟨rfl, rfl⟩
          have z0 := Int.emod_nonneg z (b := 2147483587) (by decide)
          have z1 := Int.emod_lt_of_pos z (b := 2147483587) (by decide)
          refine ⟨fun σ H4 => ∃ x : Int, 0 ≤ x ∧ x < 2147483629 ∧ σ = [some (.ref p), some (.int m), none, some (.int n), some (.int z), none, some (.int x)] ∧ H4 = H3, ?_, ?_⟩
          · refine ⟨_, rfl, .inl ⟨_, rfl, _, _, rfl, rfl, (show (0 : Int) < 2147483587 by decide), _, rfl, _, _, rfl, rfl, .inl ⟨by decide, by decide⟩, _, _, rfl, rfl, _, _, rfl, rfl, _, _, rfl, rfl, ⟨by decide, by decide, by omega⟩, .inl ⟨_, rfl, _, _, rfl, rfl, (show (0 : Int) < 2147483629 by decide), ?_⟩⟩⟩
            exact ⟨_, Int.emod_nonneg _ (by decide), Int.emod_lt_of_pos _ (by decide), rfl, rfl⟩
          · rintro σ H4 ⟨x, x0, x1, rfl, rfl⟩
            obtain ⟨y0, y1⟩ := mix_small n0 (show n ≤ 1000000 by omega) x0 x1
            refine ⟨_, rfl, _, rfl, _, _, rfl, rfl, .inl ⟨by decide, by decide⟩, _, _, rfl, rfl, _, _, rfl, rfl, .inl ⟨by omega, by omega⟩, _, rfl, _, _, rfl, rfl, .inl ⟨by decide, by decide⟩, _, rfl, _, _, rfl, rfl, .inr ⟨by omega, by omega⟩, _, _, rfl, rfl, _, _, rfl, rfl, _, _, rfl, rfl, ⟨by decide, by decide, by omega⟩, .inl ⟨_, rfl, _, _, rfl, rfl, (show (0 : Int) < 2147483563 by decide), ?_⟩⟩
            refine ⟨_, rfl, _, _, rfl, rfl, cdiv64, .inl ⟨_, rfl, _, rfl, _, _, rfl, rfl, m0, ?_⟩⟩
            exact k _ _ ⟨ns, n + 1, g, hp2, hc2, by omega, by omega⟩ k2 (Int.emod_nonneg _ (by omega)) (Int.emod_lt_of_pos _ m0)
theorem has_law_draw (Tx : Txt K mg) (c : He.SaysX fa fn [] tf ex w hh K) (X : K.In hh) (GG : hh.Ns mainGlobals mg)   : Has P w K mg base "_law_draw" 1 ["_law_pen_here", "_law_many"] sp_law_draw := by
  obtain ⟨fd, F⟩ := c.t.d.def_ 40 (d := d_law_draw) rfl
  exact ⟨_, fd, ok_law_draw F Tx , He.glo_ok X GG (c.t.d.fact 32 (f := .glo "_law_draw") rfl), F.kp, F.bindsN fun _ _ _ _ _ _ us hl => match us, hl with | [_, _], _ => rfl⟩
/-! ### the law's draws -/
theorem cut_ints (ns : List Int) (lo hi : Option Int) : ∃ ms : List Int, cutV (ns.map V.int) lo hi = ms.map V.int ∧ ms.length ≤ ns.length := by
  unfold cutV
  rw [← List.map_drop, ← List.map_take]
  refine ⟨_, rfl, ?_⟩
  rw [List.length_take, List.length_drop]
  omega
def sp_law_pen (K : PySem.W.Frag) : Sp := fun vs H Q _ => ∃ (a : Addr) (ns : List Int), vs = [.ref a] ∧ SqL K H a (ns.map V.int) ∧ ns.length ≤ 63 ∧ ∀ H' p c, Same H H' → H p = none → H c = none → PenAt H' p c 900000 → Q (.ref p) H'
theorem sc_law_pen : FnScope ["_law_script", "_law_cell"] ["_law_script"] (defScope s_law_pen) := ⟨rfl, rfl, rfl, by decide +kernel, rfl, by decide +kernel, by decide +kernel⟩
theorem ok_law_pen {f : Addr} {fd : FuncData} (F : FunD K "_law_pen" "_law_pen" (defArgs s_law_pen) (defBody s_law_pen) (defScope s_law_pen) [] [] f fd) (Tx : Txt K mg)   : FnOk P w K mg base CX0 1 f fd ["_law_script"] (sp_law_pen K) := by
  refine FunD.ok F sc_law_pen (fun vs H Q E h => ?_) (fun cdv A outer s H vs Q E hr h => ?_)
  · obtain ⟨a, ns, rfl, _⟩ := h
    rfl
  · obtain ⟨a, ns, rfl, ha, hl, q⟩ := h
    refine ⟨_, PSs.nox (pss_one (ps_ret (pe_lst (pa_cons (pe_lc (own := [("_law_cell", 1)]) (g := gName 1) (tt := tYes) rfl sc_law_pen.nd (pi_list (pe_slice sl_list (pv 0) po_none (po_some pe_int))) (blkOk_by (own := [("_law_cell", 1)]) (N := ["_law_script", "_law_cell"]) (sc := defScope s_law_pen) (by decide +kernel)) (fun _ _ _ _ _ => (pg_name (i := 1) sc_law_pen.nd rfl (Or.inl rfl))) (fun _ _ _ _ _ => pts_nil) (fun _ _ _ _ _ => (pe_callTy call_int1 (by rfl) Tx.n_int (by decide +kernel) (pa_cons (pv 1) pa_nil)))) (pa_cons pe_int (pa_cons pe_int pa_nil)))))), ?_⟩
    refine ⟨_, rfl, _, rfl, a, _, rfl, ha, fun c nc => ?_⟩
    obtain ⟨ms, em, lm⟩ := cut_ints ns none (some 60)
    have s1 : Same H (upd H c (.lst (cutV (ns.map V.int) none (some 60)))) := same_new nc
    refine ⟨c, rfl, ⟨_, SqL.of upd_same⟩, fun D nD => ?_⟩
    refine lc_pure (walk_list (K := K) (a := c) (xs := ms.map V.int)) (ms.map V.int) rfl (by rw [List.length_map]; omega) (fun i H x H' y => ⟨same_of_eq y.1, y.2⟩) (fun x => x) (fun _ => true) nD (fun H2 s => SqL.of (s _ _ (by rw [upd_same, em]))) (fun i x H2 Q1 Q0 hi s2 q1 q0 => ?_) (fun H2 s2 hD => ?_)
    · refine ⟨rfl, ?_⟩
      obtain ⟨z, _, rfl⟩ := List.mem_map.mp (List.mem_of_getElem? hi)
      exact ⟨_, rfl, .inl ⟨_, rfl, q1 rfl _ (Same.refl _)⟩⟩
    · rw [List.filter_eq_self.mpr fun _ _ => rfl, List.map_id'] at hD
      refine ⟨le_line (n := 3) (by decide), fun p np => ?_⟩
      have hp : H p = none := s1.free (s2.free np)
      have ne : D ≠ p := ne_of_none hD np
      refine q _ p D ((s1.trans s2).trans (same_new np)) hp (s1.free nD) ⟨ms, 0, 0, upd_same, ?_, by decide, by decide⟩
      rw [upd_ne ne]
      exact hD
theorem has_law_pen (Tx : Txt K mg) (c : He.SaysX fa fn [] tf ex w hh K) (X : K.In hh) (GG : hh.Ns mainGlobals mg)   : Has P w K mg base "_law_pen" 1 ["_law_script"] (sp_law_pen K) := by
  obtain ⟨fd, F⟩ := c.t.d.def_ 39 (d := d_law_pen) rfl
  exact ⟨_, fd, ok_law_pen F Tx , He.glo_ok X GG (c.t.d.fact 31 (f := .glo "_law_pen") rfl), F.kp, F.bindsN fun _ _ _ _ _ _ us hl => match us, hl with | [_], _ => rfl⟩

end
end K05

namespace K05
open PySem PySem.Spec PyProof.Rows L2 Vf LamX
section
variable {hh : Heap} {P : Program} {w : World} {K : PySem.W.Frag} {mg : Str → Option Value} {base : Heap}
/-! ### picking and pairing -/
def sp_law_pick (K : PySem.W.Frag) : Sp := fun vs H Q _ => ∃ (p c a : Addr) (b : Nat) (xs : List V), vs = [.ref p, .ref a] ∧ PenAt H p c (b + 1) ∧ (H a = some (.lst xs) ∨ H a = some (.tup xs)) ∧ a ≠ p ∧ xs ≠ [] ∧ xs.length ≤ 1000 ∧
  ∀ H' x, x ∈ xs → PenAt H' p c b → Kp p H H' → Q x H'
theorem lt200 {n : Nat} (h : n ≤ 1000) : (n : Int) < 2 ^ 200 := by
  have : (1000 : Int) < 2 ^ 200 := by decide
  omega
theorem sc_law_pick : FnScope ["_law_pen_here", "_law_some"] ["_law_pen_here", "_law_some"] (defScope s_law_pick) := ⟨rfl, rfl, rfl, by decide +kernel, rfl, by decide +kernel, by decide +kernel⟩
theorem ok_law_pick {f : Addr} {fd : FuncData} (F : FunD K "_law_pick" "_law_pick" (defArgs s_law_pick) (defBody s_law_pick) (defScope s_law_pick) [] [] f fd) (Tx : Txt K mg) (h_law_draw : Has P w K mg base "_law_draw" 1 ["_law_pen_here", "_law_many"] sp_law_draw)  : FnOk P w K mg base CX0 2 f fd ["_law_pen_here", "_law_some"] (sp_law_pick K) := by
  obtain ⟨f_law_draw, fd_law_draw, G_law_draw, g_law_draw, k_law_draw, b_law_draw⟩ := h_law_draw
  refine FunD.ok F sc_law_pick (fun vs H Q E h => ?_) (fun cdv A outer s H vs Q E hr h => ?_)
  · obtain ⟨p, c, a, b, xs, rfl, _⟩ := h
    rfl
  · obtain ⟨p, c, a, b, xs, rfl, hp, ha, nap, hne, hl, q⟩ := h
    have lp : 0 < xs.length := List.length_pos_iff.mpr hne
    rcases ha with ha | ha
    · refine ⟨_, PSs.nox (pss_one (ps_ret (pe_ix ix_list (pv 1) (pe_call G_law_draw (hr.mono (by decide)) (by rfl) g_law_draw k_law_draw b_law_draw .nil pass0 (pa_cons (pv 0) (pa_cons (pe_callB call_len_seq (by rfl) Tx.n_len (by decide +kernel) (pa_cons (pv 1) pa_nil)) pa_nil))) (fun _ _ => rfl)))), ?_⟩
      refine ⟨_, rfl, _, rfl, _, rfl, a, _, rfl, .inl (SqL.of ha), p, c, _, b, rfl, hp, by omega, lt200 hl, fun H1 d h1 k1 d0 d1 => ?_⟩
      obtain ⟨x, hx, hat⟩ := at_in d0 d1
      exact ⟨a, _, d, x, rfl, rfl, SqL.of (k1 _ _ nap ha), hat, q _ x hx h1 k1⟩
    · refine ⟨_, PSs.nox (pss_one (ps_ret (pe_ix ix_tup (pv 1) (pe_call G_law_draw (hr.mono (by decide)) (by rfl) g_law_draw k_law_draw b_law_draw .nil pass0 (pa_cons (pv 0) (pa_cons (pe_callB call_len_seq (by rfl) Tx.n_len (by decide +kernel) (pa_cons (pv 1) pa_nil)) pa_nil))) (fun _ _ => rfl)))), ?_⟩
      refine ⟨_, rfl, _, rfl, _, rfl, a, _, rfl, .inr (SqT.of ha), p, c, _, b, rfl, hp, by omega, lt200 hl, fun H1 d h1 k1 d0 d1 => ?_⟩
      obtain ⟨x, hx, hat⟩ := at_in d0 d1
      exact ⟨a, _, d, x, rfl, rfl, SqT.of (k1 _ _ nap ha), hat, q _ x hx h1 k1⟩
theorem has_law_pick (Tx : Txt K mg) (c : He.SaysX fa fn [] tf ex w hh K) (X : K.In hh) (GG : hh.Ns mainGlobals mg) (h_law_draw : Has P w K mg base "_law_draw" 1 ["_law_pen_here", "_law_many"] sp_law_draw)  : Has P w K mg base "_law_pick" 2 ["_law_pen_here", "_law_some"] (sp_law_pick K) := by
  obtain ⟨fd, F⟩ := c.t.d.def_ 41 (d := d_law_pick) rfl
  exact ⟨_, fd, ok_law_pick F Tx h_law_draw, He.glo_ok X GG (c.t.d.fact 33 (f := .glo "_law_pick") rfl), F.kp, F.bindsN fun _ _ _ _ _ _ us hl => match us, hl with | [_, _], _ => rfl⟩
def rgI (n : Int) : List Int := (List.range n.toNat).map Int.ofNat
theorem rgI_mem {n i : Int} (h : i ∈ rgI n) : 0 ≤ i ∧ i < n := by
  obtain ⟨j, hj, rfl⟩ := List.mem_map.mp h
  have := List.mem_range.mp hj
  show 0 ≤ (j : Int) ∧ (j : Int) < n
  omega
theorem rgI_nodup (n : Int) : (rgI n).Nodup := by
  exact List.pairwise_map.mpr (List.Pairwise.imp (fun h e => h (Int.ofNat.inj e)) List.nodup_range)
theorem rgI_len {n : Int} : (rgI n).length = n.toNat := by unfold rgI; simp
theorem rgV_eq {n : Int} : rgV 0 n = (rgI n).map V.int := by
  unfold rgV rgI
  rw [List.map_map, Int.sub_zero]
  refine List.map_congr_left fun i _ => ?_
  show V.int ((0 : Int) + (i : Nat)) = V.int (Int.ofNat i)
  rw [Int.zero_add]
  rfl
/-- pairs of different sides, no side twice -/
structure Apart (n : Int) (ps : List (Int × Int)) : Prop where
  nd : (flat2 ps).Nodup
  ok : ∀ p ∈ ps, Pok n p
theorem flat2_snoc (ps : List (Int × Int)) (p : Int × Int) : flat2 (ps ++ [p]) = flat2 ps ++ [p.1, p.2] := by
  unfold flat2
  rw [List.flatMap_append]
  rfl
theorem flat2_mem {ps : List (Int × Int)} {p : Int × Int} (h : p ∈ ps) : p.1 ∈ flat2 ps ∧ p.2 ∈ flat2 ps := by
  unfold flat2
  exact ⟨List.mem_flatMap.mpr ⟨p, h, List.mem_cons_self ..⟩, List.mem_flatMap.mpr ⟨p, h, List.mem_cons_of_mem _ (List.mem_cons_self ..)⟩⟩
theorem flat2_ne : ∀ {ps : List (Int × Int)} {p : Int × Int}, p ∈ ps → (flat2 ps).Nodup → p.1 ≠ p.2
  | q :: r, p, h, hn => by
    have e : flat2 (q :: r) = q.1 :: q.2 :: flat2 r := rfl
    rw [e] at hn
    rcases List.mem_cons.mp h with rfl | h
    · exact fun z => (List.nodup_cons.mp hn).1 (by rw [z]; exact List.mem_cons_self ..)
    · exact flat2_ne h (List.nodup_cons.mp (List.nodup_cons.mp hn).2).2
theorem apart_of {n : Int} {ns : List Int} {ps : List (Int × Int)} (h : (ns ++ flat2 ps).Perm (rgI n)) : Apart n ps := by
  have hn : (flat2 ps).Nodup := (List.nodup_append.mp (h.nodup_iff.mpr (rgI_nodup n))).2.1
  refine ⟨hn, fun p hp => ?_⟩
  obtain ⟨h1, h2⟩ := flat2_mem hp
  obtain ⟨a1, a2⟩ := rgI_mem (h.mem_iff.mp (List.mem_append_right _ h1))
  obtain ⟨b1, b2⟩ := rgI_mem (h.mem_iff.mp (List.mem_append_right _ h2))
  exact ⟨a1, a2, b1, b2, flat2_ne hp hn⟩
theorem erase_map (f : Int → V) : ∀ (ms : List Int) (i : Nat), (ms.map f).eraseIdx i = (ms.eraseIdx i).map f
  | [], _ => rfl
  | _ :: _, 0 => rfl
  | a :: r, i + 1 => by
    show f a :: (r.map f).eraseIdx i = f a :: (r.eraseIdx i).map f
    rw [erase_map f r i]
theorem erase_perm : ∀ {ms : List Int} {i : Nat} (h : i < ms.length), (ms[i] :: ms.eraseIdx i).Perm ms
  | [], _, h => absurd h (Nat.not_lt_zero _)
  | a :: r, 0, _ => .refl _
  | a :: r, i + 1, h => by
    show (r[i]'(Nat.lt_of_succ_lt_succ h) :: a :: r.eraseIdx i).Perm (a :: r)
    exact (List.Perm.swap ..).trans ((erase_perm (Nat.lt_of_succ_lt_succ h)).cons a)
def sp_law_pairs (K : PySem.W.Frag) : Sp := fun vs H Q _ => ∃ (p c : Addr) (b m : Nat) (n : Int), vs = [.ref p, .int n, .int (m : Nat)] ∧ 2 * (m : Int) ≤ n ∧ n ≤ 100 ∧ PenAt H p c (b + 2 * m) ∧
  ∀ H' l ts ps, Kp p H H' → PenAt H' p c b → H l = none → H' l = some (.lst (ts.map V.ref)) → Seams H' ts ps → ps.length = m → Apart n ps → (∀ t ∈ ts, H t = none) → Q (.ref l) H'
theorem sc_law_pairs : FnScope ["_law_pen_here", "_law_sides", "_law_many", "_law_left", "_law_found", "_law_one"] ["_law_pen_here", "_law_sides", "_law_many"] (defScope s_law_pairs) := ⟨rfl, rfl, rfl, by decide +kernel, rfl, by decide +kernel, by decide +kernel⟩
theorem ok_law_pairs {f : Addr} {fd : FuncData} (F : FunD K "_law_pairs" "_law_pairs" (defArgs s_law_pairs) (defBody s_law_pairs) (defScope s_law_pairs) [] [] f fd) (Tx : Txt K mg) (h_law_draw : Has P w K mg base "_law_draw" 1 ["_law_pen_here", "_law_many"] sp_law_draw)  : FnOk P w K mg base CX0 2 f fd ["_law_pen_here", "_law_sides", "_law_many"] (sp_law_pairs K) := by
  obtain ⟨f_law_draw, fd_law_draw, G_law_draw, g_law_draw, k_law_draw, b_law_draw⟩ := h_law_draw
  refine FunD.ok F sc_law_pairs (fun vs H Q E h => ?_) (fun cdv A outer s H vs Q E hr h => ?_)
  · obtain ⟨p, c, b, m, n, rfl, _⟩ := h
    rfl
  · obtain ⟨p, c, b, m, n, rfl, hmn, hn, hp, q⟩ := h
    refine ⟨_, PSs.nox (pss_cons (ps_par (i := 3) (j := 4) (by rfl) sc_law_pairs.nd rfl rfl (by decide) rfl rfl (pa_cons (pe_listRg rfl (by rfl) Tx.n_list (prg_1 (by rfl) Tx.n_range (pv 1))) (pa_cons (pe_lst pa_nil) pa_nil)) (by rfl))
        (pss_cons (ps_while PassesOwn.never (pt_cmpR op_lt (pe_callB call_len_seq (by rfl) Tx.n_len (by decide +kernel) (pa_cons (pv 4) pa_nil)) (pv 2) (nomark _)) (pss_cons (ps_set (i := 5) sc_law_pairs.nd rfl (Or.inl rfl) (pe_bm PySem.F.plainAttrs_list PySem.F.slot_list_pop PySem.F.type_list_pop mt_popAt (pv 3) (pa_cons (pe_call G_law_draw (hr.mono (by decide)) (by rfl) g_law_draw k_law_draw b_law_draw .nil pass0 (pa_cons (pv 0) (pa_cons (pe_callB call_len_seq (by rfl) Tx.n_len (by decide +kernel) (pa_cons (pv 3) pa_nil)) pa_nil))) pa_nil)))
        (pss_one (ps_expr (pe_bm PySem.F.plainAttrs_list PySem.F.slot_list_append PySem.F.type_list_append mt_append (pv 4) (pa_cons (pe_tup (pa_cons (pv 5) (pa_cons (pe_bm PySem.F.plainAttrs_list PySem.F.slot_list_pop PySem.F.type_list_pop mt_popAt (pv 3) (pa_cons (pe_call G_law_draw (hr.mono (by decide)) (by rfl) g_law_draw k_law_draw b_law_draw .nil pass0 (pa_cons (pv 0) (pa_cons (pe_callB call_len_seq (by rfl) Tx.n_len (by decide +kernel) (pa_cons (pv 3) pa_nil)) pa_nil))) pa_nil)) pa_nil))) pa_nil))))))
        (pss_one (ps_ret (pv 4))))), ?_⟩
    refine ⟨_, rfl, _, rfl, ⟨by omega, by omega, by omega, by omega, by omega⟩, fun L nL => ?_⟩
    obtain ⟨Lp, Lc⟩ := hp.new nL
    have s1 : Same H (upd H L (.lst (rgV 0 n))) := same_new nL
    refine ⟨Nat.zero_le _, fun F nF => ?_⟩
    have nF0 : H F = none := s1.free nF
    have FL : F ≠ L := fun e => by
      rw [e, upd_same] at nF
      cases nF
    obtain ⟨Fp, Fc⟩ := hp.new nF0
    let Pv : Nat → L2.St → Hp → Prop := fun k σ H' => ∃ (o : Option V) (ns : List Int) (ts : List Addr) (ps : List (Int × Int)), σ = [some (.ref p), some (.int n), some (.int (m : Nat)), some (.ref L), some (.ref F), o] ∧ Kp p H H' ∧ PenAt H' p c (b + 2 * k) ∧
      H' L = some (.lst (ns.map V.int)) ∧ H' F = some (.lst (ts.map V.ref)) ∧ Seams H' ts ps ∧ ps.length + k = m ∧ (ns ++ flat2 ps).Perm (rgI n) ∧ (∀ t ∈ ts, H t = none)
    refine ⟨_, _, rfl, Pv, ⟨m, none, rgI n, [], [], rfl, ?_, ?_, ?_, upd_same, ⟨rfl, fun i t p h => by simp at h⟩, Nat.zero_add m, by rw [show flat2 [] = [] from rfl, List.append_nil], fun t h => by cases h⟩, ?_⟩
    · exact ((Kp.refl p H).new nL).new nF
    · exact (hp.mut Lp Lc).mut Fp Fc
    · rw [upd_ne FL.symm, upd_same, rgV_eq]
    · rintro k σ H1 ⟨o, ns, ts, ps, rfl, k1, hp1, hL, hF, hs, hk, hperm, hfr⟩
      have hlen : ns.length + 2 * ps.length = n.toNat := by
        have := hperm.length_eq
        rw [List.length_append, flat2_len, rgI_len] at this
        exact this
      refine ⟨_, rfl, F, _, rfl, .inl (SqL.of hF), _, rfl, _, _, rfl, rfl, _, rfl, ite2 (fun e => ?_) (fun e => ?_)⟩
      · have e1 := of_decide_eq_true e
        rw [List.length_map, hs.len] at e1
        obtain ⟨j, rfl⟩ : ∃ j, k = j + 1 := ⟨k - 1, by omega⟩
        have hb : b + 2 * (j + 1) = (b + 2 * j + 1) + 1 := by omega
        rw [hb] at hp1
        refine ⟨Pv j, fun σ' H' h => ⟨j, by omega, h⟩, ?_⟩
        refine ⟨_, rfl, .inl ⟨rfl, _, SqL.of hL⟩, _, rfl, _, rfl, L, _, rfl, .inl (SqL.of hL), p, c, _, _, rfl, hp1, by rw [List.length_map]; omega, lt200 (by rw [List.length_map]; omega), fun H2 d h2 k2 d0 d1 => ?_⟩
        have hL2 := k2 _ _ Lp hL
        obtain ⟨i, rfl⟩ := Int.eq_ofNat_of_zero_le d0
        rw [List.length_map] at d1
        have hi : i < ns.length := by omega
        have er : ∀ (ms : List Int) (i : Nat), (ms.map V.int).eraseIdx i = (ms.eraseIdx i).map V.int := fun ms i => erase_map V.int ms i
        refine ⟨L, _, _, i, .int ns[i], rfl, rfl, hL2, by omega, by omega, PySem.seqIndex_of (by omega) (by rw [List.length_map]; omega), by rw [List.getElem?_map, List.getElem?_eq_getElem hi]; rfl, ?_⟩
        have hL3 : upd H2 L (.lst ((ns.map V.int).eraseIdx i)) L = some (.lst ((ns.eraseIdx i).map V.int)) := by rw [upd_same, er]
        have hF3 : upd H2 L (.lst ((ns.map V.int).eraseIdx i)) F = some (.lst (ts.map V.ref)) := by rw [upd_ne FL]; exact k2 _ _ Fp hF
        have hp3 := h2.mut Lp Lc (o := .lst ((ns.map V.int).eraseIdx i))
        have k3 := (k1.trans k2).mut (o := .lst ((ns.map V.int).eraseIdx i)) nL
        have hs3 : Seams (upd H2 L (.lst ((ns.map V.int).eraseIdx i))) ts ps := ⟨hs.len, fun i t q h1 h2 => by
          have h := hs.at_ i t q h1 h2
          have tp : t ≠ p := fun e => by
            obtain ⟨xs, hx⟩ := hp1.at
            rw [e, hx] at h
            cases h
          have tL : t ≠ L := fun e => by
            rw [e, hL] at h
            cases h
          rw [upd_ne tL]
          exact k2 _ _ tp h⟩
        revert hL3 hF3 hp3 k3 hs3
        generalize upd H2 L (.lst ((ns.map V.int).eraseIdx i)) = H3
        intro hL3 hF3 hp3 k3 hs3
        have hi2 : (ns.eraseIdx i).length = ns.length - 1 := List.length_eraseIdx_of_lt hi
        refine ⟨_, rfl, .inl ⟨rfl, _, SqL.of hF3⟩, _, rfl, _, rfl, .inl ⟨rfl, _, SqL.of hL3⟩, _, rfl, _, rfl, L, _, rfl, .inl (SqL.of hL3), p, c, _, _, rfl, hp3, by rw [List.length_map, hi2]; omega, lt200 (by rw [List.length_map, hi2]; omega), fun H4 d h4 k4 d0 d1 => ?_⟩
        have hL4 := k4 _ _ Lp hL3
        have hF4 := k4 _ _ Fp hF3
        obtain ⟨l, rfl⟩ := Int.eq_ofNat_of_zero_le d0
        rw [List.length_map] at d1
        have hl : l < (ns.eraseIdx i).length := by omega
        refine ⟨L, _, _, l, .int (ns.eraseIdx i)[l], rfl, rfl, hL4, by omega, by omega, PySem.seqIndex_of (by omega) (by rw [List.length_map]; omega), by rw [List.getElem?_map, List.getElem?_eq_getElem hl]; rfl, ?_⟩
        have hp5 := h4.mut Lp Lc (o := .lst (((ns.eraseIdx i).map V.int).eraseIdx l))
        have k5 := (k3.trans k4).mut (o := .lst (((ns.eraseIdx i).map V.int).eraseIdx l)) nL
        have hL5 : upd H4 L (.lst (((ns.eraseIdx i).map V.int).eraseIdx l)) L = some (.lst (((ns.eraseIdx i).eraseIdx l).map V.int)) := by rw [upd_same, er]
        have hF5 : upd H4 L (.lst (((ns.eraseIdx i).map V.int).eraseIdx l)) F = some (.lst (ts.map V.ref)) := by rw [upd_ne FL]; exact hF4
        have hs5 : Seams (upd H4 L (.lst (((ns.eraseIdx i).map V.int).eraseIdx l))) ts ps := ⟨hs3.len, fun i t q h1 h2 => by
          have h := hs3.at_ i t q h1 h2
          have tp : t ≠ p := fun e => by
            obtain ⟨xs, hx⟩ := hp3.at
            rw [e, hx] at h
            cases h
          have tL : t ≠ L := fun e => by
            rw [e, hL3] at h
            cases h
          rw [upd_ne tL]
          exact k4 _ _ tp h⟩
        revert hp5 k5 hL5 hF5 hs5
        generalize upd H4 L (.lst (((ns.eraseIdx i).map V.int).eraseIdx l)) = H5
        intro hp5 k5 hL5 hF5 hs5
        refine ⟨le_line (n := 2) (by decide), fun T nT => ?_⟩
        have sT : Same H5 (upd H5 T (.tup [.int ns[i], .int (ns.eraseIdx i)[l]])) := same_new nT
        refine ⟨F, _, _, rfl, rfl, sT _ _ hF5, small_line (by rw [List.length_map, hs.len]; omega), ?_⟩
        have nT0 : H T = none := by
          cases e : H T with
          | none => rfl
          | some o =>
            have Tp : T ≠ p := fun e2 => by
              obtain ⟨xs, hx⟩ := hp5.at
              rw [e2, hx] at nT
              cases nT
            rw [k5 T o Tp e] at nT
            cases nT
        refine ⟨_, (ns.eraseIdx i).eraseIdx l, ts ++ [T], ps ++ [(ns[i], (ns.eraseIdx i)[l])], rfl, (k5.new nT).mut nF0, ((hp5.same sT).mut Fp Fc), ?_, ?_, ?_, by rw [List.length_append]; show ps.length + 1 + j = m; omega, ?_, fun t ht => ?_⟩
        · rw [upd_ne FL.symm]
          exact sT _ _ hL5
        · rw [upd_same, List.map_append]
          rfl
        · exact hs5.push (p := (ns[i], (ns.eraseIdx i)[l])) nT hF5
        · rw [flat2_snoc]
          refine List.Perm.trans ?_ hperm
          have p1 : (ns[i] :: ns.eraseIdx i).Perm ns := erase_perm hi
          have p2 : ((ns.eraseIdx i)[l] :: (ns.eraseIdx i).eraseIdx l).Perm (ns.eraseIdx i) := erase_perm hl
          have p3 : ((ns.eraseIdx i).eraseIdx l ++ [ns[i], (ns.eraseIdx i)[l]]).Perm ns := by
            refine List.perm_append_comm.trans ?_
            exact ((p2.cons ns[i])).trans p1
          refine List.Perm.trans ?_ (p3.append_right (flat2 ps))
          rw [List.append_assoc]
          exact List.perm_append_comm.append_left _
        · rcases List.mem_append.mp ht with h | h
          · exact hfr t h
          · rw [List.mem_singleton.mp h]
            exact nT0
      · have e1 : ¬ ((ts.map V.ref).length : Int) < (m : Int) := fun c => e (decide_eq_true c)
        rw [List.length_map, hs.len] at e1
        have hk0 : k = 0 := by omega
        subst hk0
        exact ⟨_, rfl, q _ _ ts ps k1 hp1 nF0 hF hs (by omega) (apart_of hperm) hfr⟩
theorem has_law_pairs (Tx : Txt K mg) (c : He.SaysX fa fn [] tf ex w hh K) (X : K.In hh) (GG : hh.Ns mainGlobals mg) (h_law_draw : Has P w K mg base "_law_draw" 1 ["_law_pen_here", "_law_many"] sp_law_draw)  : Has P w K mg base "_law_pairs" 2 ["_law_pen_here", "_law_sides", "_law_many"] (sp_law_pairs K) := by
  obtain ⟨fd, F⟩ := c.t.d.def_ 42 (d := d_law_pairs) rfl
  exact ⟨_, fd, ok_law_pairs F Tx h_law_draw, He.glo_ok X GG (c.t.d.fact 34 (f := .glo "_law_pairs") rfl), F.kp, F.bindsN fun _ _ _ _ _ _ us hl => match us, hl with | [_, _, _], _ => rfl⟩
def sp_law_twice (K : PySem.W.Frag) : Sp := fun vs H Q _ => ∃ (a : Addr) (ts : List Addr) (ps : List (Int × Int)), vs = [.ref a] ∧ H a = some (.lst (ts.map V.ref)) ∧ Seams H ts ps ∧ ps.length ≤ 400 ∧ ∀ H', Same H H' → Q (optV (tw (flat2 ps))) H'
theorem inV_int {i : Int} {ns : List Int} : inV (.int i) (ns.map V.int) = decide (i ∈ ns) := by
  unfold inV
  rw [List.any_map]
  induction ns with
  | nil => rfl
  | cons a r ih =>
    rw [List.any_cons, ih]
    show (eqV (.int a) (.int i) || decide (i ∈ r)) = _
    have e : eqV (.int a) (.int i) = decide (a = i) := rfl
    rw [e]
    by_cases h : a = i
    · subst h
      simp
    · have h2 : ¬ i = a := fun z => h z.symm
      simp [h, h2]
theorem sc_law_twice : FnScope ["_law_pairs_here", "_law_seen", "_law_one", "_law_other", "_law_side"] ["_law_pairs_here"] (defScope s_law_twice) := ⟨rfl, rfl, rfl, by decide +kernel, rfl, by decide +kernel, by decide +kernel⟩
theorem ok_law_twice {f : Addr} {fd : FuncData} (F : FunD K "_law_twice" "_law_twice" (defArgs s_law_twice) (defBody s_law_twice) (defScope s_law_twice) [] [] f fd) (Tx : Txt K mg)   : FnOk P w K mg base CX0 1 f fd ["_law_pairs_here"] (sp_law_twice K) := by
  refine FunD.ok F sc_law_twice (fun vs H Q E h => ?_) (fun cdv A outer s H vs Q E hr h => ?_)
  · obtain ⟨a, ts, ps, rfl, _⟩ := h
    rfl
  · obtain ⟨a, ts, ps, rfl, ha, hs, hl, q⟩ := h
    refine ⟨_, PSs.nox (pss_cons (ps_set (i := 1) sc_law_twice.nd rfl (Or.inl rfl) (pe_lst pa_nil))
        (pss_cons (ps_for PassesOwn.never rfl (pi_list (pv 0)) (pg_tup (by rfl) (pgs_cons (pg_name (i := 2) sc_law_twice.nd rfl (Or.inl rfl)) (pgs_cons (pg_name (i := 3) sc_law_twice.nd rfl (Or.inl rfl)) pgs_nil))) (pss_one (ps_for PassesOwn.never rfl (pi_tup (pe_tup (pa_cons (pv 2) (pa_cons (pv 3) pa_nil)))) (pg_name (i := 4) sc_law_twice.nd rfl (Or.inl rfl)) (pss_cons (ps_if (pt_cmpR op_in_seq (pv 4) (pv 1) rfl) (pss_one (ps_ret (pv 4))) pss_nil)
        (pss_one (ps_expr (pe_bm PySem.F.plainAttrs_list PySem.F.slot_list_append PySem.F.type_list_append mt_append (pv 1) (pa_cons (pv 4) pa_nil))))))))
        (pss_one (ps_ret pe_non)))), ?_⟩
    refine ⟨Nat.zero_le _, fun S nS => ?_⟩
    have s1 : Same H (upd H S (.lst [])) := same_new nS
    refine ⟨_, rfl, a, rfl, ⟨_, SqL.of (s1 _ _ ha)⟩, ?_⟩
    refine for_it (walk_list (K := K) (a := a) (xs := ts.map V.ref)) (fun i σ H2 => ∃ (x y v : Option V) (seen : List Int), σ = [some (.ref a), some (.ref S), x, y, v] ∧ Same H H2 ∧ H2 S = some (.lst (seen.map V.int)) ∧ seen.length = 2 * i ∧ ∃ sn : List Int, (∀ k, k ∈ sn ↔ k ∈ seen) ∧ tw (flat2 ps) = twF sn (flat2 (ps.drop i)))
      ⟨none, none, none, [], rfl, s1, upd_same, rfl, [], fun k => Iff.rfl, rfl⟩ (fun i σ H2 _ p => ?_) (fun i x σ H2 H3 hi p y => ?_) (fun σ H2 p => ?_)
    · obtain ⟨_, _, _, _, _, s2, _⟩ := p
      exact SqL.of (s2 _ _ ha)
    · obtain ⟨x0, y0, v0, seen, rfl, s2, hS, hln, sn, hsn, ht⟩ := p
      obtain ⟨rfl, hx⟩ := y
      obtain ⟨t, pr, rfl, htt, hp, htup⟩ := hs.get hx
      have hd : flat2 (ps.drop i) = pr.1 :: pr.2 :: flat2 (ps.drop (i + 1)) := by
        obtain ⟨hlt, e⟩ := List.getElem?_eq_some_iff.mp hp
        rw [List.drop_eq_getElem_cons hlt, e]
        rfl
      rw [hd] at ht
      have hi4 : i < 400 := by
        obtain ⟨hlt, e⟩ := List.getElem?_eq_some_iff.mp hp
        omega
      refine ⟨t, _, rfl, SqT.of (s2 _ _ htup), rfl, _, _, rfl, _, _, rfl, rfl, ?_⟩
      refine ⟨_, rfl, _, rfl, le_line (n := 2) (by decide), fun U nU => ⟨U, rfl, ⟨_, SqT.of upd_same⟩, ?_⟩⟩
      have sU : Same H3 (upd H3 U (.tup [.int pr.1, .int pr.2])) := same_new nU
      refine for_it (walk_tup (K := K) (a := U) (xs := [.int pr.1, .int pr.2])) (fun j σ H4 => ∃ (v : Option V) (seen : List Int), σ = [some (.ref a), some (.ref S), some (.int pr.1), some (.int pr.2), v] ∧ Same H H4 ∧ H4 U = some (.tup [.int pr.1, .int pr.2]) ∧ H4 S = some (.lst (seen.map V.int)) ∧ seen.length = 2 * i + j ∧ ∃ sn : List Int, (∀ k, k ∈ sn ↔ k ∈ seen) ∧ tw (flat2 ps) = twF sn ([pr.1, pr.2].drop j ++ flat2 (ps.drop (i + 1))))
        ⟨_, seen, rfl, s2.trans sU, upd_same, sU _ _ hS, hln, sn, hsn, ht⟩ (fun j σ H4 _ p => ?_) (fun j x σ H4 H5 hj p y => ?_) (fun σ H4 p => ?_)
      · obtain ⟨_, _, _, _, hU, _⟩ := p
        exact SqT.of hU
      · obtain ⟨v1, seen, rfl, s4, hU, hS4, hln4, sn4, hsn4, ht4⟩ := p
        obtain ⟨rfl, hx2⟩ := y
        obtain ⟨k, rfl, hdk⟩ : ∃ k, x = .int k ∧ [pr.1, pr.2].drop j = k :: [pr.1, pr.2].drop (j + 1) := by
          match j, hx2 with
          | 0, h => exact ⟨pr.1, (Option.some.inj h).symm, rfl⟩
          | 1, h => exact ⟨pr.2, (Option.some.inj h).symm, rfl⟩
          | j + 2, h => simp at h
        rw [hdk] at ht4
        have ht5 : tw (flat2 ps) = if k ∈ sn4 then some k else twF (k :: sn4) ([pr.1, pr.2].drop (j + 1) ++ flat2 (ps.drop (i + 1))) := ht4
        refine ⟨_, rfl, _, rfl, S, _, rfl, .inl (SqL.of hS4), rfl, List.all_eq_true.mpr (fun v hv => by obtain ⟨z, _, rfl⟩ := List.mem_map.mp hv; rfl), _, rfl, ?_⟩
        show if inV (.int k) (seen.map V.int) = true then _ else _
        rw [inV_int]
        refine ite2 (fun e => ?_) (fun e => ?_)
        · rw [if_pos ((hsn4 k).mpr (of_decide_eq_true e))] at ht5
          rw [ht5] at q
          exact ⟨_, rfl, q _ s4⟩
        · rw [if_neg fun c => e (decide_eq_true ((hsn4 k).mp c))] at ht5
          refine ⟨_, rfl, .inl ⟨rfl, _, SqL.of hS4⟩, _, rfl, S, _, _, rfl, rfl, hS4, small_line (by rw [List.length_map, hln4]; have : [V.int pr.1, V.int pr.2].length = 2 := rfl; omega), ?_⟩
          have US : U ≠ S := fun e2 => by
            rw [e2, hS4] at hU
            cases hU
          refine ⟨_, seen ++ [k], rfl, Same.mut s4 nS, by rw [upd_ne US]; exact hU, by rw [upd_same, List.map_append]; rfl, by rw [List.length_append, hln4]; rfl, k :: sn4, fun z => ?_, ht5⟩
          rw [List.mem_cons, List.mem_append, List.mem_singleton, hsn4 z, Or.comm]
      · obtain ⟨v1, seen, rfl, s4, hU, hS4, hln4, sn4, hsn4, ht4⟩ := p
        exact ⟨_, _, _, seen, rfl, s4, hS4, hln4, sn4, hsn4, ht4⟩
    · obtain ⟨x0, y0, v0, seen, rfl, s2, hS, hln, sn, hsn, ht⟩ := p
      rw [List.length_map, hs.len, List.drop_length] at ht
      have ht2 : tw (flat2 ps) = none := ht
      rw [ht2] at q
      exact q _ s2
theorem has_law_twice (Tx : Txt K mg) (c : He.SaysX fa fn [] tf ex w hh K) (X : K.In hh) (GG : hh.Ns mainGlobals mg)   : Has P w K mg base "_law_twice" 1 ["_law_pairs_here"] (sp_law_twice K) := by
  obtain ⟨fd, F⟩ := c.t.d.def_ 44 (d := d_law_twice) rfl
  exact ⟨_, fd, ok_law_twice F Tx , He.glo_ok X GG (c.t.d.fact 36 (f := .glo "_law_twice") rfl), F.kp, F.bindsN fun _ _ _ _ _ _ us hl => match us, hl with | [_], _ => rfl⟩

end
end K05

namespace K05
open PySem PySem.Spec PyProof.Rows L2 Vf LamX
section
variable {hh : Heap} {P : Program} {w : World} {K : PySem.W.Frag} {mg : Str → Option Value} {base : Heap}
/-! ### frames of the law's own defs: the pen and the tables of code change -/
/-- all but the object at p and the tables stays -/
def Fr (p : Addr) (H H' : Hp) : Prop := ∀ a o, a ≠ p → H a = some o → (∀ ps, o ≠ .tbl ps) → H' a = some o
theorem Fr.refl (p : Addr) (H : Hp) : Fr p H H := fun _ _ _ h _ => h
theorem Fr.trans {p : Addr} {H H1 H2 : Hp} (a : Fr p H H1) (b : Fr p H1 H2) : Fr p H H2 := fun c o n h t => b c o n (a c o n h t) t
theorem Fr.kp {p : Addr} {H H1 : Hp} (k : Kp p H H1) : Fr p H H1 := fun c o n h _ => k c o n h
theorem Fr.same {p : Addr} {H H1 : Hp} (s : Same H H1) : Fr p H H1 := fun c o _ h _ => s c o h
theorem Fr.ext {p : Addr} {H H1 : Hp} (e : ExtN H H1) : Fr p H H1 := fun c o _ h t => e c o h t
theorem penExt {H H1 : Hp} {p c : Addr} {b : Nat} (h : PenAt H p c b) (e : ExtN H H1) : PenAt H1 p c b := by
  obtain ⟨ns, n, g, h1, h2, h3, h4⟩ := h
  exact ⟨ns, n, g, e _ _ h1 (fun _ z => nomatch z), e _ _ h2 (fun _ z => nomatch z), h3, h4⟩
theorem codeO_lst {H : Hp} {c : Addr} {q : Str} {xs : List V} (h : H c = some (CodeO c q)) : H c ≠ some (.lst xs) := fun e => by
  rw [h] at e
  unfold CodeO at e
  cases e
theorem tabs_kp {T : List (Addr × Str)} {H H1 : Hp} {p : Addr} {xs : List V} (t : LamX.Tabs T H) (hp : H p = some (.lst xs)) (k : Kp p H H1) : LamX.Tabs T H1 := fun z hz => by
  obtain ⟨ps, h1, h2, h3⟩ := t z hz
  refine ⟨ps, k _ _ (fun e => ?_) h1, h2, fun pos cv hc => ?_⟩
  · rw [e, hp] at h1
    cases h1
  · obtain ⟨c, e1, e2⟩ := h3 pos cv hc
    exact ⟨c, e1, k _ _ (fun e => codeO_lst e2 (by rw [e]; exact hp)) e2⟩
theorem tabs_same {T : List (Addr × Str)} {H H1 : Hp} (t : LamX.Tabs T H) (s : Same H H1) : LamX.Tabs T H1 := t.ext s
def isFl : V → Bool
  | .int _ => true
  | .str _ => true
  | .bl _ => true
  | .non => true
  | _ => false
/-- a value that is written in the law: no pen, no table -/
inductive AnyV (p : Addr) (H : Hp) : V → Prop where
  | flat (x : V) (h : isFl x = true) : AnyV p H x
  | lst (a : Addr) (xs : List V) (h : H a = some (.lst xs)) (ap : a ≠ p) : AnyV p H (.ref a)
  | tup (a : Addr) (xs : List V) (h : H a = some (.tup xs)) : AnyV p H (.ref a)
  | dict (a : Addr) (kvs : List (Key × V)) (h : H a = some (.dK kvs)) : AnyV p H (.ref a)
theorem apart_pen {p c a : Addr} {H : Hp} {b : Nat} {o : HO} (hp : PenAt H p c b) (h : H a = some o) (n : ∀ xs, o ≠ .lst xs) : a ≠ p := fun e => by
  obtain ⟨xs, hx⟩ := hp.at
  rw [e, hx] at h
  exact n xs (Option.some.inj h).symm
theorem AnyV.fr {p c : Addr} {H H' : Hp} {x : V} {b : Nat} (h : AnyV p H x) (f : Fr p H H') (hp : PenAt H p c b) : AnyV p H' x := by
  cases h with
  | flat x h => exact .flat x h
  | lst a xs h ap => exact .lst a xs (f _ _ ap h fun _ z => nomatch z) ap
  | tup a xs h => exact .tup a xs (f _ _ (apart_pen hp h fun _ z => nomatch z) h fun _ z => nomatch z)
  | dict a kvs h => exact .dict a kvs (f _ _ (apart_pen hp h fun _ z => nomatch z) h fun _ z => nomatch z)
theorem AnyV.kd {p : Addr} {H : Hp} {x : V} (h : AnyV p H x) : ∃ k, KdV K H x k := by
  cases h with
  | flat x h =>
    cases x with
    | int i => exact ⟨.int, True.intro⟩
    | str i => exact ⟨.str, True.intro⟩
    | bl i => exact ⟨.bool, True.intro⟩
    | non => exact ⟨.none, True.intro⟩
    | _ => cases h
  | lst a xs h ap => exact ⟨.list, xs, h⟩
  | tup a xs h => exact ⟨.tuple, .inl ⟨xs, h⟩⟩
  | dict a kvs h => exact ⟨.dict, kvs, h⟩
/-- a value that is no seam -/
inductive BadIt (p : Addr) (n : Int) (H : Hp) : V → Prop where
  | flat (x : V) (h : isFl x = true) : BadIt p n H x
  | dict (a : Addr) (kvs : List (Key × V)) (h : H a = some (.dK kvs)) : BadIt p n H (.ref a)
  | lst (a : Addr) (xs : List V) (h : H a = some (.lst xs)) (ap : a ≠ p) (hl : xs.length ≠ 2) : BadIt p n H (.ref a)
  | tup (a : Addr) (xs : List V) (h : H a = some (.tup xs)) (hl : xs.length ≠ 2) : BadIt p n H (.ref a)
  | lst2 (a : Addr) (x y : V) (h : H a = some (.lst [x, y])) (ap : a ≠ p) (fx : isFl x = true) (fy : isFl y = true) (hb : (bnd x (.int 0) (.int (n - 1)) && (bnd y (.int 0) (.int (n - 1)) && !decide (x = y))) = false) : BadIt p n H (.ref a)
  | tup2 (a : Addr) (x y : V) (h : H a = some (.tup [x, y])) (fx : isFl x = true) (fy : isFl y = true) (hb : (bnd x (.int 0) (.int (n - 1)) && (bnd y (.int 0) (.int (n - 1)) && !decide (x = y))) = false) : BadIt p n H (.ref a)
theorem BadIt.fr {p c : Addr} {n : Int} {H H' : Hp} {x : V} {b : Nat} (h : BadIt p n H x) (f : Fr p H H') (hp : PenAt H p c b) : BadIt p n H' x := by
  cases h with
  | flat x h => exact .flat x h
  | dict a kvs h => exact .dict a kvs (f _ _ (apart_pen hp h fun _ z => nomatch z) h fun _ z => nomatch z)
  | lst a xs h ap hl => exact .lst a xs (f _ _ ap h fun _ z => nomatch z) ap hl
  | tup a xs h hl => exact .tup a xs (f _ _ (apart_pen hp h fun _ z => nomatch z) h fun _ z => nomatch z) hl
  | lst2 a x y h ap fx fy hb => exact .lst2 a x y (f _ _ ap h fun _ z => nomatch z) ap fx fy hb
  | tup2 a x y h fx fy hb => exact .tup2 a x y (f _ _ (apart_pen hp h fun _ z => nomatch z) h fun _ z => nomatch z) fx fy hb
theorem BadIt.same {p : Addr} {n : Int} {H H' : Hp} {x : V} (h : BadIt p n H x) (s : Same H H') : BadIt p n H' x := by
  cases h with
  | flat x h => exact .flat x h
  | dict a kvs h => exact .dict a kvs (s _ _ h)
  | lst a xs h ap hl => exact .lst a xs (s _ _ h) ap hl
  | tup a xs h hl => exact .tup a xs (s _ _ h) hl
  | lst2 a x y h ap fx fy hb => exact .lst2 a x y (s _ _ h) ap fx fy hb
  | tup2 a x y h fx fy hb => exact .tup2 a x y (s _ _ h) fx fy hb
theorem fl_kd {H : Hp} {x : V} (h : isFl x = true) : ∃ k : Kd, KdV K H x k ∧ k.seq = false := by
  cases x with
  | int i => exact ⟨.int, True.intro, rfl⟩
  | str i => exact ⟨.str, True.intro, rfl⟩
  | bl i => exact ⟨.bool, True.intro, rfl⟩
  | non => exact ⟨.none, True.intro, rfl⟩
  | _ => cases h
theorem BadIt.says {p : Addr} {n : Int} {H : Hp} {x : V} (h : BadIt p n H x) : ∃ k, KdV K H x k ∧ SeamSays K H x k n false := by
  cases h with
  | flat x h =>
    obtain ⟨k, h1, h2⟩ := fl_kd (K := K) (H := H) h
    exact ⟨k, h1, .inl ⟨h2, rfl⟩⟩
  | dict a kvs h => exact ⟨.dict, ⟨kvs, h⟩, .inl ⟨rfl, rfl⟩⟩
  | lst a xs h ap hl => exact ⟨.list, ⟨xs, h⟩, .inr ⟨rfl, a, xs, rfl, .inl h, .inl ⟨hl, rfl⟩⟩⟩
  | tup a xs h hl => exact ⟨.tuple, .inl ⟨xs, h⟩, .inr ⟨rfl, a, xs, rfl, .inr h, .inl ⟨hl, rfl⟩⟩⟩
  | lst2 a x y h ap fx fy hb =>
    obtain ⟨kx, h1, _⟩ := fl_kd (K := K) (H := H) fx
    obtain ⟨ky, h2, _⟩ := fl_kd (K := K) (H := H) fy
    exact ⟨.list, ⟨_, h⟩, .inr ⟨rfl, a, _, rfl, .inl h, .inr ⟨x, y, kx, ky, rfl, h1, h2, hb.symm⟩⟩⟩
  | tup2 a x y h fx fy hb =>
    obtain ⟨kx, h1, _⟩ := fl_kd (K := K) (H := H) fx
    obtain ⟨ky, h2, _⟩ := fl_kd (K := K) (H := H) fy
    exact ⟨.tuple, .inl ⟨_, h⟩, .inr ⟨rfl, a, _, rfl, .inr h, .inr ⟨x, y, kx, ky, rfl, h1, h2, hb.symm⟩⟩⟩
/-- a value that no skin of n sides takes for its seams -/
inductive BadSm (p : Addr) (n : Int) (H : Hp) : V → Prop where
  | flat (x : V) (h : isFl x = true) : BadSm p n H x
  | dict (a : Addr) (kvs : List (Key × V)) (h : H a = some (.dK kvs)) : BadSm p n H (.ref a)
  | rows (a : Addr) (i j : Nat) (T U : Addr) (x : V) (h : H a = some (.lst (List.replicate i (.ref T) ++ [x] ++ List.replicate j (.ref U)))) (ap : a ≠ p) (hi : i ≤ 5) (hj : j ≤ 5) (hT : H T = some (.tup [.int 0, .int 1])) (hU : H U = some (.tup [.int 0, .int 1])) (hx : BadIt p n H x) (nT : x ≠ .ref T) (nU : x ≠ .ref U) : BadSm p n H (.ref a)
theorem BadSm.fr {p c : Addr} {n : Int} {H H' : Hp} {x : V} {b : Nat} (h : BadSm p n H x) (f : Fr p H H') (hp : PenAt H p c b) : BadSm p n H' x := by
  cases h with
  | flat x h => exact .flat x h
  | dict a kvs h => exact .dict a kvs (f _ _ (apart_pen hp h fun _ z => nomatch z) h fun _ z => nomatch z)
  | rows a i j T U x h ap hi hj hT hU hx nT nU => exact .rows a i j T U x (f _ _ ap h fun _ z => nomatch z) ap hi hj (f _ _ (apart_pen hp hT fun _ z => nomatch z) hT fun _ z => nomatch z) (f _ _ (apart_pen hp hU fun _ z => nomatch z) hU fun _ z => nomatch z) (hx.fr f hp) nT nU
theorem BadSm.bad {p : Addr} {n : Int} {H : Hp} {x : V} (hn : 2 ≤ n) (h : BadSm p n H x) : ∃ k, KdV K H x k ∧ BadSeams K H x k n := by
  cases h with
  | flat x h =>
    obtain ⟨k, h1, h2⟩ := fl_kd (K := K) (H := H) h
    exact ⟨k, h1, .inl h2⟩
  | dict a kvs h => exact ⟨.dict, ⟨kvs, h⟩, .inl rfl⟩
  | rows a i j T U x h ap hi hj hT hU hx nT nU =>
    have good : ∀ {T : Addr}, H T = some (.tup [.int 0, .int 1]) → x ≠ .ref T → ∃ kx, KdV K H (.ref T) kx ∧ SeamSays K H (.ref T) kx n (!decide (V.ref T = x)) := fun {T} hT nT => by
      rw [decide_eq_false fun e => nT e.symm]
      exact ⟨.tuple, says_ok (p := (0, 1)) hT ⟨by decide, by show (0 : Int) < n; omega, by decide, by show (1 : Int) < n; omega, by decide⟩⟩
    refine ⟨.list, ⟨_, h⟩, .inr ⟨rfl, a, _, fun y => !decide (y = x), rfl, .inl h, ?_, fun y hy => ?_, ?_⟩⟩
    · rw [List.length_append, List.length_append, List.length_replicate, List.length_replicate]
      show i + 1 + j ≤ 1000
      omega
    · rcases List.mem_append.mp hy with hy | hy
      · rcases List.mem_append.mp hy with hy | hy
        · rw [List.eq_of_mem_replicate hy]
          exact good hT nT
        · rw [List.mem_singleton.mp hy]
          show ∃ kx, KdV K H x kx ∧ SeamSays K H x kx n (!decide (x = x))
          rw [decide_eq_true rfl]
          exact hx.says
      · rw [List.eq_of_mem_replicate hy]
        exact good hU nU
    · rw [List.all_append, List.all_append]
      have e : ([x].all fun y => !decide (y = x)) = false := by
        rw [List.all_cons, decide_eq_true rfl]
        rfl
      rw [e, Bool.and_false, Bool.false_and]
theorem BadIt.ne_new {p : Addr} {n : Int} {H : Hp} {x : V} {T : Addr} (h : BadIt p n H x) (nT : H T = none) : x ≠ .ref T := fun e => by
  subst e
  cases h with
  | flat x h => cases h
  | _ => simp_all
theorem rep_ref (n : Nat) (v : V) : (List.replicate n [v]).flatten = List.replicate n v := by
  induction n with
  | zero => rfl
  | succ n ih => rw [List.replicate_succ, List.flatten_cons, ih, List.replicate_succ]; rfl
def sp_law_odd_seams (K : PySem.W.Frag) : Sp := fun vs H Q _ => ∃ (p c : Addr) (b : Nat) (n : Int), vs = [.ref p, .int n] ∧ 2 ≤ n ∧ PenAt H p c (b + 5) ∧ ∀ H' x, PenAt H' p c b → Kp p H H' → BadSm p n H' x → Q x H'
theorem sc_law_odd_seams : FnScope ["_law_pen_here", "_law_sides", "_law_pair", "_law_rows"] ["_law_pen_here", "_law_sides"] (defScope s_law_odd_seams) := ⟨rfl, rfl, rfl, by decide +kernel, rfl, by decide +kernel, by decide +kernel⟩
theorem ok_law_odd_seams {f : Addr} {fd : FuncData} (F : FunD K "_law_odd_seams" "_law_odd_seams" (defArgs s_law_odd_seams) (defBody s_law_odd_seams) (defScope s_law_odd_seams) [] [] f fd) (Tx : Txt K mg) (h_law_pick : Has P w K mg base "_law_pick" 2 ["_law_pen_here", "_law_some"] (sp_law_pick K)) (h_law_draw : Has P w K mg base "_law_draw" 1 ["_law_pen_here", "_law_many"] sp_law_draw)  : FnOk P w K mg base CX0 3 f fd ["_law_pen_here", "_law_sides"] (sp_law_odd_seams K) := by
  obtain ⟨f_law_pick, fd_law_pick, G_law_pick, g_law_pick, k_law_pick, b_law_pick⟩ := h_law_pick
  obtain ⟨f_law_draw, fd_law_draw, G_law_draw, g_law_draw, k_law_draw, b_law_draw⟩ := h_law_draw
  refine FunD.ok F sc_law_odd_seams (fun vs H Q E h => ?_) (fun cdv A outer s H vs Q E hr h => ?_)
  · obtain ⟨p, c, b, n, rfl, _⟩ := h
    rfl
  · obtain ⟨p, c, b, n, rfl, hn, hp, q⟩ := h
    have S : Same H H := Same.refl H
    have np : ∀ {H' : Hp} {a : Addr} {b : Nat}, PenAt H' p c b → H' a = none → a ≠ p := fun h1 h2 => (h1.new h2).1
    refine ⟨_, PSs.nox (pss_cons (ps_set (i := 2) sc_law_odd_seams.nd rfl (Or.inl rfl) (pe_call G_law_pick (hr.mono (by decide)) (by rfl) g_law_pick k_law_pick b_law_pick .nil pass0 (pa_cons (pv 0) (pa_cons (pe_lst (pa_cons pe_int (pa_cons pe_non (pa_cons pe_str (pa_cons (pe_tup (pa_cons pe_int pa_nil)) (pa_cons (pe_lst pa_nil) (pa_cons (pe_tup (pa_cons pe_int (pa_cons pe_int (pa_cons pe_int pa_nil)))) (pa_cons (pe_lst (pa_cons pe_int (pa_cons pe_int pa_nil))) (pa_cons (pe_tup (pa_cons pe_int (pa_cons (pv 1) pa_nil))) (pa_cons (pe_lst (pa_cons (pe_un un_neg pe_int) (pa_cons pe_int pa_nil))) (pa_cons (pe_tup (pa_cons pe_int (pa_cons pe_bl pa_nil))) (pa_cons (pe_tup (pa_cons pe_bl (pa_cons pe_int pa_nil))) (pa_cons pe_str (pa_cons (pe_tup (pa_cons pe_int (pa_cons pe_non pa_nil))) (pa_cons (pe_lst (pa_cons pe_str (pa_cons pe_int pa_nil))) (pa_cons (pe_disp (pps_cons pe_int pe_int (pps_cons pe_int pe_int pps_nil)) (by rfl) (by rfl) (fun z => by cases z) (by decide)) (pa_cons (pe_lst (pa_cons pe_int (pa_cons (pe_un un_neg (pv 1)) pa_nil))) pa_nil))))))))))))))))) pa_nil))))
        (pss_cons (ps_if (pt_cmpR op_eq (pe_call G_law_draw (hr.mono (by decide)) (by rfl) g_law_draw k_law_draw b_law_draw .nil pass0 (pa_cons (pv 0) (pa_cons pe_int pa_nil))) pe_int (nomark _)) (pss_one (ps_ret (pe_call G_law_pick (hr.mono (by decide)) (by rfl) g_law_pick k_law_pick b_law_pick .nil pass0 (pa_cons (pv 0) (pa_cons (pe_lst (pa_cons pe_non (pa_cons pe_int (pa_cons pe_str (pa_cons pe_dnewK (pa_cons (pe_disp (pps_cons pe_int pe_int pps_nil) (by rfl) (by rfl) (fun z => by cases z) (by decide)) (pa_cons pe_bl (pa_cons pe_int (pa_cons pe_str pa_nil))))))))) pa_nil))))) pss_nil)
        (pss_cons (ps_set (i := 3) sc_law_odd_seams.nd rfl (Or.inl rfl) (pe_op op_rep (pe_lst (pa_cons (pe_tup (pa_cons pe_int (pa_cons pe_int pa_nil))) pa_nil)) (pe_call G_law_draw (hr.mono (by decide)) (by rfl) g_law_draw k_law_draw b_law_draw .nil pass0 (pa_cons (pv 0) (pa_cons pe_int pa_nil)))))
        (pss_one (ps_ret (pe_op op_cat (pe_op op_cat (pv 3) (pe_lst (pa_cons (pv 2) pa_nil))) (pe_op op_rep (pe_lst (pa_cons (pe_tup (pa_cons pe_int (pa_cons pe_int pa_nil))) pa_nil)) (pe_call G_law_draw (hr.mono (by decide)) (by rfl) g_law_draw k_law_draw b_law_draw .nil pass0 (pa_cons (pv 0) (pa_cons pe_int pa_nil)))))))))), ?_⟩
    refine ⟨_, rfl, ?_⟩
    refine ⟨le_line (n := 1) (by decide), fun a1 n1 => ?_⟩
    have hp0 := hp
    have s1 : Same H (upd H a1 (.tup [.int 0])) := same_new n1
    replace hp := PenAt.same hp s1
    replace S := S.trans s1
    have f1 : BadIt p n (upd H a1 (.tup [.int 0])) (.ref a1) := .tup a1 _ upd_same (by decide)
    clear s1
    revert hp S f1
    generalize upd H a1 (.tup [.int 0]) = H1
    intro hp S f1
    clear hp0
    refine ⟨Nat.zero_le _, fun a2 n2 => ?_⟩
    have hp0 := hp
    have s2 : Same H1 (upd H1 a2 (.lst [])) := same_new n2
    replace f1 := BadIt.same f1 s2
    replace hp := PenAt.same hp s2
    replace S := S.trans s2
    have f2 : BadIt p n (upd H1 a2 (.lst [])) (.ref a2) := .lst a2 _ upd_same (np hp0 n2) (by decide)
    clear s2
    revert f1 hp S f2
    generalize upd H1 a2 (.lst []) = H2
    intro f1 hp S f2
    clear hp0
    refine ⟨le_line (n := 3) (by decide), fun a3 n3 => ?_⟩
    have hp0 := hp
    have s3 : Same H2 (upd H2 a3 (.tup [.int 0, .int 1, .int 2])) := same_new n3
    replace f1 := BadIt.same f1 s3
    replace f2 := BadIt.same f2 s3
    replace hp := PenAt.same hp s3
    replace S := S.trans s3
    have f3 : BadIt p n (upd H2 a3 (.tup [.int 0, .int 1, .int 2])) (.ref a3) := .tup a3 _ upd_same (by decide)
    clear s3
    revert f1 f2 hp S f3
    generalize upd H2 a3 (.tup [.int 0, .int 1, .int 2]) = H3
    intro f1 f2 hp S f3
    clear hp0
    refine ⟨le_line (n := 2) (by decide), fun a4 n4 => ?_⟩
    have hp0 := hp
    have s4 : Same H3 (upd H3 a4 (.lst [.int 1, .int 1])) := same_new n4
    replace f1 := BadIt.same f1 s4
    replace f2 := BadIt.same f2 s4
    replace f3 := BadIt.same f3 s4
    replace hp := PenAt.same hp s4
    replace S := S.trans s4
    have f4 : BadIt p n (upd H3 a4 (.lst [.int 1, .int 1])) (.ref a4) := .lst2 a4 _ _ upd_same (np hp0 n4) rfl rfl (by first | rfl | (simp [bnd, lo1, hi1]; done) | (simp [bnd, lo1, hi1]; omega))
    clear s4
    revert f1 f2 f3 hp S f4
    generalize upd H3 a4 (.lst [.int 1, .int 1]) = H4
    intro f1 f2 f3 hp S f4
    clear hp0
    refine ⟨_, rfl, le_line (n := 2) (by decide), fun a5 n5 => ?_⟩
    have hp0 := hp
    have s5 : Same H4 (upd H4 a5 (.tup [.int 0, .int n])) := same_new n5
    replace f1 := BadIt.same f1 s5
    replace f2 := BadIt.same f2 s5
    replace f3 := BadIt.same f3 s5
    replace f4 := BadIt.same f4 s5
    replace hp := PenAt.same hp s5
    replace S := S.trans s5
    have f5 : BadIt p n (upd H4 a5 (.tup [.int 0, .int n])) (.ref a5) := .tup2 a5 _ _ upd_same rfl rfl (by first | rfl | (simp [bnd, lo1, hi1]; done) | (simp [bnd, lo1, hi1]; omega))
    clear s5
    revert f1 f2 f3 f4 hp S f5
    generalize upd H4 a5 (.tup [.int 0, .int n]) = H5
    intro f1 f2 f3 f4 hp S f5
    clear hp0
    refine ⟨_, rfl, le_line (n := 2) (by decide), fun a6 n6 => ?_⟩
    have hp0 := hp
    have s6 : Same H5 (upd H5 a6 (.lst [.int (-1), .int 0])) := same_new n6
    replace f1 := BadIt.same f1 s6
    replace f2 := BadIt.same f2 s6
    replace f3 := BadIt.same f3 s6
    replace f4 := BadIt.same f4 s6
    replace f5 := BadIt.same f5 s6
    replace hp := PenAt.same hp s6
    replace S := S.trans s6
    have f6 : BadIt p n (upd H5 a6 (.lst [.int (-1), .int 0])) (.ref a6) := .lst2 a6 _ _ upd_same (np hp0 n6) rfl rfl (by first | rfl | (simp [bnd, lo1, hi1]; done) | (simp [bnd, lo1, hi1]; omega))
    clear s6
    revert f1 f2 f3 f4 f5 hp S f6
    generalize upd H5 a6 (.lst [.int (-1), .int 0]) = H6
    intro f1 f2 f3 f4 f5 hp S f6
    clear hp0
    refine ⟨le_line (n := 2) (by decide), fun a7 n7 => ?_⟩
    have hp0 := hp
    have s7 : Same H6 (upd H6 a7 (.tup [.int 0, .bl true])) := same_new n7
    replace f1 := BadIt.same f1 s7
    replace f2 := BadIt.same f2 s7
    replace f3 := BadIt.same f3 s7
    replace f4 := BadIt.same f4 s7
    replace f5 := BadIt.same f5 s7
    replace f6 := BadIt.same f6 s7
    replace hp := PenAt.same hp s7
    replace S := S.trans s7
    have f7 : BadIt p n (upd H6 a7 (.tup [.int 0, .bl true])) (.ref a7) := .tup2 a7 _ _ upd_same rfl rfl (by first | rfl | (simp [bnd, lo1, hi1]; done) | (simp [bnd, lo1, hi1]; omega))
    clear s7
    revert f1 f2 f3 f4 f5 f6 hp S f7
    generalize upd H6 a7 (.tup [.int 0, .bl true]) = H7
    intro f1 f2 f3 f4 f5 f6 hp S f7
    clear hp0
    refine ⟨le_line (n := 2) (by decide), fun a8 n8 => ?_⟩
    have hp0 := hp
    have s8 : Same H7 (upd H7 a8 (.tup [.bl false, .int 1])) := same_new n8
    replace f1 := BadIt.same f1 s8
    replace f2 := BadIt.same f2 s8
    replace f3 := BadIt.same f3 s8
    replace f4 := BadIt.same f4 s8
    replace f5 := BadIt.same f5 s8
    replace f6 := BadIt.same f6 s8
    replace f7 := BadIt.same f7 s8
    replace hp := PenAt.same hp s8
    replace S := S.trans s8
    have f8 : BadIt p n (upd H7 a8 (.tup [.bl false, .int 1])) (.ref a8) := .tup2 a8 _ _ upd_same rfl rfl (by first | rfl | (simp [bnd, lo1, hi1]; done) | (simp [bnd, lo1, hi1]; omega))
    clear s8
    revert f1 f2 f3 f4 f5 f6 f7 hp S f8
    generalize upd H7 a8 (.tup [.bl false, .int 1]) = H8
    intro f1 f2 f3 f4 f5 f6 f7 hp S f8
    clear hp0
    refine ⟨le_line (n := 2) (by decide), fun a9 n9 => ?_⟩
    have hp0 := hp
    have s9 : Same H8 (upd H8 a9 (.tup [.int 0, .non])) := same_new n9
    replace f1 := BadIt.same f1 s9
    replace f2 := BadIt.same f2 s9
    replace f3 := BadIt.same f3 s9
    replace f4 := BadIt.same f4 s9
    replace f5 := BadIt.same f5 s9
    replace f6 := BadIt.same f6 s9
    replace f7 := BadIt.same f7 s9
    replace f8 := BadIt.same f8 s9
    replace hp := PenAt.same hp s9
    replace S := S.trans s9
    have f9 : BadIt p n (upd H8 a9 (.tup [.int 0, .non])) (.ref a9) := .tup2 a9 _ _ upd_same rfl rfl (by first | rfl | (simp [bnd, lo1, hi1]; done) | (simp [bnd, lo1, hi1]; omega))
    clear s9
    revert f1 f2 f3 f4 f5 f6 f7 f8 hp S f9
    generalize upd H8 a9 (.tup [.int 0, .non]) = H9
    intro f1 f2 f3 f4 f5 f6 f7 f8 hp S f9
    clear hp0
    refine ⟨le_line (n := 2) (by decide), fun a10 n10 => ?_⟩
    have hp0 := hp
    have s10 : Same H9 (upd H9 a10 (.lst [.str "0", .int 1])) := same_new n10
    replace f1 := BadIt.same f1 s10
    replace f2 := BadIt.same f2 s10
    replace f3 := BadIt.same f3 s10
    replace f4 := BadIt.same f4 s10
    replace f5 := BadIt.same f5 s10
    replace f6 := BadIt.same f6 s10
    replace f7 := BadIt.same f7 s10
    replace f8 := BadIt.same f8 s10
    replace f9 := BadIt.same f9 s10
    replace hp := PenAt.same hp s10
    replace S := S.trans s10
    have f10 : BadIt p n (upd H9 a10 (.lst [.str "0", .int 1])) (.ref a10) := .lst2 a10 _ _ upd_same (np hp0 n10) rfl rfl (by first | rfl | (simp [bnd, lo1, hi1]; done) | (simp [bnd, lo1, hi1]; omega))
    clear s10
    revert f1 f2 f3 f4 f5 f6 f7 f8 f9 hp S f10
    generalize upd H9 a10 (.lst [.str "0", .int 1]) = H10
    intro f1 f2 f3 f4 f5 f6 f7 f8 f9 hp S f10
    clear hp0
    refine fun a11 n11 => ⟨upd_same, [(.inl 0, .int 1), (.inl 1, .int 0)], rfl, by decide, ?_⟩
    have s11 : Same H10 (upd (upd H10 a11 (.dK [])) a11 (.dK (mergeK [] [(.inl 0, .int 1), (.inl 1, .int 0)]))) := Same.mut (same_new n11) n11
    replace f1 := BadIt.same f1 s11
    replace f2 := BadIt.same f2 s11
    replace f3 := BadIt.same f3 s11
    replace f4 := BadIt.same f4 s11
    replace f5 := BadIt.same f5 s11
    replace f6 := BadIt.same f6 s11
    replace f7 := BadIt.same f7 s11
    replace f8 := BadIt.same f8 s11
    replace f9 := BadIt.same f9 s11
    replace f10 := BadIt.same f10 s11
    replace hp := PenAt.same hp s11
    replace S := S.trans s11
    have f11 : BadIt p n (upd (upd H10 a11 (.dK [])) a11 (.dK (mergeK [] [(.inl 0, .int 1), (.inl 1, .int 0)]))) (.ref a11) := .dict a11 _ upd_same
    clear s11
    revert f1 f2 f3 f4 f5 f6 f7 f8 f9 f10 hp S f11
    generalize upd (upd H10 a11 (.dK [])) a11 (.dK (mergeK [] [(.inl 0, .int 1), (.inl 1, .int 0)])) = H11
    intro f1 f2 f3 f4 f5 f6 f7 f8 f9 f10 hp S f11
    refine ⟨_, rfl, _, rfl, le_line (n := 2) (by decide), fun a12 n12 => ?_⟩
    have hp0 := hp
    have s12 : Same H11 (upd H11 a12 (.lst [.int 0, .int (-n)])) := same_new n12
    replace f1 := BadIt.same f1 s12
    replace f2 := BadIt.same f2 s12
    replace f3 := BadIt.same f3 s12
    replace f4 := BadIt.same f4 s12
    replace f5 := BadIt.same f5 s12
    replace f6 := BadIt.same f6 s12
    replace f7 := BadIt.same f7 s12
    replace f8 := BadIt.same f8 s12
    replace f9 := BadIt.same f9 s12
    replace f10 := BadIt.same f10 s12
    replace f11 := BadIt.same f11 s12
    replace hp := PenAt.same hp s12
    replace S := S.trans s12
    have f12 : BadIt p n (upd H11 a12 (.lst [.int 0, .int (-n)])) (.ref a12) := .lst2 a12 _ _ upd_same (np hp0 n12) rfl rfl (by first | rfl | (simp [bnd, lo1, hi1]; done) | (simp [bnd, lo1, hi1]; omega))
    clear s12
    revert f1 f2 f3 f4 f5 f6 f7 f8 f9 f10 f11 hp S f12
    generalize upd H11 a12 (.lst [.int 0, .int (-n)]) = H12
    intro f1 f2 f3 f4 f5 f6 f7 f8 f9 f10 f11 hp S f12
    clear hp0
    refine ⟨le_line (n := 16) (by decide), fun l nl => ?_⟩
    have ap := np hp nl
    have s90 : Same H12 (upd H12 l (.lst [.int 5, .non, .str "01", .ref a1, .ref a2, .ref a3, .ref a4, .ref a5, .ref a6, .ref a7, .ref a8, .str "ab", .ref a9, .ref a10, .ref a11, .ref a12])) := same_new nl
    replace f1 := BadIt.same f1 s90
    replace f2 := BadIt.same f2 s90
    replace f3 := BadIt.same f3 s90
    replace f4 := BadIt.same f4 s90
    replace f5 := BadIt.same f5 s90
    replace f6 := BadIt.same f6 s90
    replace f7 := BadIt.same f7 s90
    replace f8 := BadIt.same f8 s90
    replace f9 := BadIt.same f9 s90
    replace f10 := BadIt.same f10 s90
    replace f11 := BadIt.same f11 s90
    replace f12 := BadIt.same f12 s90
    replace hp := PenAt.same hp s90
    replace S := S.trans s90
    have hl : (upd H12 l (.lst [.int 5, .non, .str "01", .ref a1, .ref a2, .ref a3, .ref a4, .ref a5, .ref a6, .ref a7, .ref a8, .str "ab", .ref a9, .ref a10, .ref a11, .ref a12])) l = some (.lst [.int 5, .non, .str "01", .ref a1, .ref a2, .ref a3, .ref a4, .ref a5, .ref a6, .ref a7, .ref a8, .str "ab", .ref a9, .ref a10, .ref a11, .ref a12]) := upd_same
    clear s90
    revert f1 f2 f3 f4 f5 f6 f7 f8 f9 f10 f11 f12 hp S hl
    generalize upd H12 l (.lst [.int 5, .non, .str "01", .ref a1, .ref a2, .ref a3, .ref a4, .ref a5, .ref a6, .ref a7, .ref a8, .str "ab", .ref a9, .ref a10, .ref a11, .ref a12]) = H90
    intro f1 f2 f3 f4 f5 f6 f7 f8 f9 f10 f11 f12 hp S hl
    have all : ∀ x ∈ [.int 5, .non, .str "01", .ref a1, .ref a2, .ref a3, .ref a4, .ref a5, .ref a6, .ref a7, .ref a8, .str "ab", .ref a9, .ref a10, .ref a11, .ref a12], BadIt p n H90 x := fun x hx => by
      simp only [List.mem_cons, List.not_mem_nil, or_false] at hx
      rcases hx with rfl | rfl | rfl | rfl | rfl | rfl | rfl | rfl | rfl | rfl | rfl | rfl | rfl | rfl | rfl | rfl
      · exact .flat _ rfl
      · exact .flat _ rfl
      · exact .flat _ rfl
      · exact f1
      · exact f2
      · exact f3
      · exact f4
      · exact f5
      · exact f6
      · exact f7
      · exact f8
      · exact .flat _ rfl
      · exact f9
      · exact f10
      · exact f11
      · exact f12
    clear f1 f2 f3 f4 f5 f6 f7 f8 f9 f10 f11 f12
    refine ⟨p, c, l, b + 4, _, rfl, hp, .inl hl, ap, List.cons_ne_nil _ _, (show 16 ≤ 1000 by decide), fun J1 x hx hp1 k1 => ?_⟩
    have fx : BadIt p n J1 x := (all x hx).fr (Fr.kp k1) hp
    replace k1 : Kp p H J1 := (Kp.same S).trans k1
    clear all hl hx ap
    -- no rows at all
    refine ⟨_, rfl, p, c, 4, b + 3, rfl, hp1, by decide, by decide, fun J2 d hp2 k2 d0 d1 => ?_⟩
    replace fx := fx.fr (Fr.kp k2) hp1
    replace k2 := k1.trans k2
    refine ⟨rfl, _, rfl, ite2 (fun _ => ?_) (fun _ => ?_)⟩
    · refine ⟨_, rfl, fun u nu => ?_⟩
      have su : Same J2 (upd J2 u (.dK [])) := same_new nu
      refine fun v nv => ⟨upd_same, [(.inl 0, .int 1)], rfl, by decide, ?_⟩
      have sv : Same (upd J2 u (.dK [])) (upd (upd (upd J2 u (.dK [])) v (.dK [])) v (.dK (mergeK [] [(.inl 0, .int 1)]))) := Same.mut (same_new nv) nv
      have g1 := sv _ _ (upd_same (H := J2) (a := u) (o := .dK []))
      have g2 := upd_same (H := upd (upd J2 u (.dK [])) v (.dK [])) (a := v) (o := .dK (mergeK [] [(.inl 0, .int 1)]))
      have hp3 := (hp2.same su).same sv
      have k3 := k2.trans (Kp.same (su.trans sv))
      revert g1 g2 hp3 k3
      generalize upd (upd (upd J2 u (.dK [])) v (.dK [])) v (.dK (mergeK [] [(.inl 0, .int 1)])) = J3
      intro g1 g2 hp3 k3
      refine ⟨le_line (n := 8) (by decide), fun l nl => ?_⟩
      have ap := np hp3 nl
      have sl : Same J3 (upd J3 l (.lst [.non, .int 5, .str "0 1", .ref u, .ref v, .bl true, .int 0, .str ""])) := same_new nl
      refine ⟨p, c, l, b + 2, _, rfl, hp3.same sl, .inl upd_same, ap, List.cons_ne_nil _ _, (show 8 ≤ 1000 by decide), fun J4 x hx hp4 k4 => ?_⟩
      have k5 := (k3.trans (Kp.same sl)).trans k4
      refine q J4 x (hp4.less (by omega)) k5 ?_
      simp only [List.mem_cons, List.not_mem_nil, or_false] at hx
      rcases hx with rfl | rfl | rfl | rfl | rfl | rfl | rfl | rfl
      · exact .flat _ rfl
      · exact .flat _ rfl
      · exact .flat _ rfl
      · exact .dict u _ (k4 _ _ (apart_pen (hp3.same sl) (sl _ _ g1) fun _ z => nomatch z) (sl _ _ g1))
      · exact .dict v _ (k4 _ _ (apart_pen (hp3.same sl) (sl _ _ g2) fun _ z => nomatch z) (sl _ _ g2))
      · exact .flat _ rfl
      · exact .flat _ rfl
      · exact .flat _ rfl
    · refine ⟨le_line (n := 2) (by decide), fun T nT => ?_⟩
      have nxT := fx.ne_new nT
      have sT : Same J2 (upd J2 T (.tup [.int 0, .int 1])) := same_new nT
      refine ⟨le_line (n := 1) (by decide), fun lT nlT => ?_⟩
      have sL := sT.trans (same_new (o := .lst [.ref T]) nlT)
      have hT : upd (upd J2 T (.tup [.int 0, .int 1])) lT (.lst [.ref T]) T = some (.tup [.int 0, .int 1]) := same_new nlT _ _ upd_same
      have hlT : upd (upd J2 T (.tup [.int 0, .int 1])) lT (.lst [.ref T]) lT = some (.lst [.ref T]) := upd_same
      have apl : lT ≠ p := np (hp2.same sT) nlT
      have hp3 := hp2.same sL
      replace fx := fx.same sL
      have k3 := k2.trans (Kp.same sL)
      clear sT sL
      revert hT hlT hp3 fx k3
      generalize upd (upd J2 T (.tup [.int 0, .int 1])) lT (.lst [.ref T]) = J3
      intro hT hlT hp3 fx k3
      refine ⟨_, rfl, p, c, 3, b + 2, rfl, hp3, by decide, by decide, fun J4 d hp4 k4 d0 d1 => ?_⟩
      replace fx := fx.fr (Fr.kp k4) hp3
      have hT4 := k4 _ _ (apart_pen hp3 hT fun _ z => nomatch z) hT
      have hlT4 := k4 _ _ apl hlT
      replace k4 := k3.trans k4
      refine ⟨lT, d, _, rfl, rfl, hlT4, by omega, by omega, le_line (by show 1 * d.toNat ≤ 100000; omega), fun R nR => ?_⟩
      rw [rep_ref]
      have apR : R ≠ p := np hp4 nR
      have sR : Same J4 (upd J4 R (.lst (List.replicate d.toNat (.ref T)))) := same_new nR
      have hR : upd J4 R (.lst (List.replicate d.toNat (.ref T))) R = some (.lst (List.replicate d.toNat (.ref T))) := upd_same
      have hT5 := sR _ _ hT4
      have hp5 := hp4.same sR
      replace fx := fx.same sR
      have k5 := k4.trans (Kp.same sR)
      clear sR
      revert hR hT5 hp5 fx k5
      generalize upd J4 R (.lst (List.replicate d.toNat (.ref T))) = J5
      intro hR hT5 hp5 fx k5
      refine ⟨_, rfl, _, rfl, le_line (n := 1) (by decide), fun l1 nl1 => ?_⟩
      have s1 : Same J5 (upd J5 l1 (.lst [x])) := same_new nl1
      refine ⟨R, l1, _, _, rfl, rfl, s1 _ _ hR, upd_same, le_line (by rw [List.length_replicate]; show d.toNat + 1 ≤ 100000; omega), fun R2 nR2 => ?_⟩
      have s2 := s1.trans (same_new (o := .lst (List.replicate d.toNat (.ref T) ++ [x])) nR2)
      have apR2 : R2 ≠ p := np (hp5.same s1) nR2
      have hR2 : upd (upd J5 l1 (.lst [x])) R2 (.lst (List.replicate d.toNat (.ref T) ++ [x])) R2 = some (.lst (List.replicate d.toNat (.ref T) ++ [x])) := upd_same
      have hT6 := s2 _ _ hT5
      have hp6 := hp5.same s2
      replace fx := fx.same s2
      have k6 := k5.trans (Kp.same s2)
      clear s1 s2
      revert hR2 hT6 hp6 fx k6
      generalize upd (upd J5 l1 (.lst [x])) R2 (.lst (List.replicate d.toNat (.ref T) ++ [x])) = J6
      intro hR2 hT6 hp6 fx k6
      refine ⟨le_line (n := 2) (by decide), fun U nU => ?_⟩
      have nxU := fx.ne_new nU
      have sU : Same J6 (upd J6 U (.tup [.int 0, .int 1])) := same_new nU
      refine ⟨le_line (n := 1) (by decide), fun lU nlU => ?_⟩
      have sL := sU.trans (same_new (o := .lst [.ref U]) nlU)
      have hU : upd (upd J6 U (.tup [.int 0, .int 1])) lU (.lst [.ref U]) U = some (.tup [.int 0, .int 1]) := same_new nlU _ _ upd_same
      have hlU : upd (upd J6 U (.tup [.int 0, .int 1])) lU (.lst [.ref U]) lU = some (.lst [.ref U]) := upd_same
      have apu : lU ≠ p := np (hp6.same sU) nlU
      have hT7 := sL _ _ hT6
      have hR7 := sL _ _ hR2
      have hp7 := hp6.same sL
      replace fx := fx.same sL
      have k7 := k6.trans (Kp.same sL)
      clear sU sL
      revert hU hlU hT7 hR7 hp7 fx k7
      generalize upd (upd J6 U (.tup [.int 0, .int 1])) lU (.lst [.ref U]) = J7
      intro hU hlU hT7 hR7 hp7 fx k7
      refine ⟨_, rfl, p, c, 2, b + 1, rfl, hp7, by decide, by decide, fun J8 e hp8 k8 e0 e1 => ?_⟩
      replace fx := fx.fr (Fr.kp k8) hp7
      have hT8 := k8 _ _ (apart_pen hp7 hT7 fun _ z => nomatch z) hT7
      have hU8 := k8 _ _ (apart_pen hp7 hU fun _ z => nomatch z) hU
      have hlU8 := k8 _ _ apu hlU
      have hR8 := k8 _ _ apR2 hR7
      replace k8 := k7.trans k8
      refine ⟨lU, e, _, rfl, rfl, hlU8, by omega, by omega, le_line (by show 1 * e.toNat ≤ 100000; omega), fun W nW => ?_⟩
      rw [rep_ref]
      have sW : Same J8 (upd J8 W (.lst (List.replicate e.toNat (.ref U)))) := same_new nW
      refine ⟨R2, W, _, _, rfl, rfl, sW _ _ hR8, upd_same, le_line (by rw [List.length_append, List.length_replicate, List.length_replicate]; show d.toNat + 1 + e.toNat ≤ 100000; omega), fun Z nZ => ?_⟩
      have sZ := sW.trans (same_new (o := .lst (List.replicate d.toNat (.ref T) ++ [x] ++ List.replicate e.toNat (.ref U))) nZ)
      exact q _ _ ((hp8.same sZ).less (by omega)) (k8.trans (Kp.same sZ)) (.rows Z d.toNat e.toNat T U x upd_same (np (hp8.same sW) nZ) (by omega) (by omega) (sZ _ _ hT8) (sZ _ _ hU8) (fx.same sZ) nxT nxU)
theorem has_law_odd_seams (Tx : Txt K mg) (c : He.SaysX fa fn [] tf ex w hh K) (X : K.In hh) (GG : hh.Ns mainGlobals mg) (h_law_pick : Has P w K mg base "_law_pick" 2 ["_law_pen_here", "_law_some"] (sp_law_pick K)) (h_law_draw : Has P w K mg base "_law_draw" 1 ["_law_pen_here", "_law_many"] sp_law_draw)  : Has P w K mg base "_law_odd_seams" 3 ["_law_pen_here", "_law_sides"] (sp_law_odd_seams K) := by
  obtain ⟨fd, F⟩ := c.t.d.def_ 45 (d := d_law_odd_seams) rfl
  exact ⟨_, fd, ok_law_odd_seams F Tx h_law_pick h_law_draw, He.glo_ok X GG (c.t.d.fact 37 (f := .glo "_law_odd_seams") rfl), F.kp, F.bindsN fun _ _ _ _ _ _ us hl => match us, hl with | [_, _], _ => rfl⟩

end
end K05

namespace K05
open PySem PySem.Spec PyProof.Rows L2 Vf LamX
section
variable {hh : Heap} {P : Program} {w : World} {K : PySem.W.Frag} {mg : Str → Option Value} {base : Heap}
/-! ### code objects and their tables -/
def HasKX (P : Program) (w : World) (K : PySem.W.Frag) (mg : Str → Option Value) (base : Heap) (x : Str) (k : Nat) (ps ks : List Str) (gV : List V → List V → List V) (sp : Sp) : Prop :=
  ∃ (f : Addr) (fd : FuncData) (g : List Value → List Value → List Value), FnOk P w K mg base (L2.CX P w) k f fd ps sp ∧ mg x = some (.ref f) ∧ PySem.W.keepIn K (.ref f) = true ∧ KBn K fd ps 0 ks g gV
/-- the def that hears -/
def HasH (K : PySem.W.Frag) (mg : Str → Option Value) : Prop := ∃ (g : Addr) (oc : Value) (od : Option Addr) (dV kV doc pm : Value) (an : Option Addr) (cdv ct : Value) (osl : Array (Option Value)), mg "_law_heard" = some (.ref g) ∧ PySem.W.keepIn K (.ref g) = true ∧
  K.lookup g = some ⟨oc, od, .func (PySem.W.fnOf "_law_heard" "_law_heard" (defArgs s_law_heard) (defBody s_law_heard) (defScope s_law_heard) dV kV doc pm an cdv ct), osl⟩ ∧ PySem.W.codeIn K cdv "_law_heard" = true ∧
  L2.Binds K (PySem.W.fnOf "_law_heard" "_law_heard" (defArgs s_law_heard) (defBody s_law_heard) (defScope s_law_heard) dV kV doc pm an cdv ct) ["_law_ask"] []
theorem has_heard (c : He.SaysX fa fn [] tf ex w hh K) (X : K.In hh) (GG : hh.Ns mainGlobals mg) : HasH K mg := by
  obtain ⟨fd, F⟩ := c.t.d.def_ 43 (d := d_law_heard) rfl
  have hb : Binds K fd ["_law_ask"] [] := F.bindsN fun _ _ _ _ _ _ us hl => match us, hl with | [_], _ => rfl
  obtain ⟨oc, od, dV, kV, doc, pm, an, cdv, ct, osl, rfl, lk, hcd, hD, hK⟩ := F.ex
  exact ⟨_, oc, od, dV, kV, doc, pm, an, cdv, ct, osl, He.glo_ok X GG (c.t.d.fact 35 (f := .glo "_law_heard") rfl), F.kp, lk, hcd, hb⟩
theorem okC {CX : CXT} {x : Str} {params : Arguments} {body : List Stmt} {scope : Scope} {fd : FuncData} {N ps : List Str} {k : Nat} {sp : Sp} (F : FunD K x x params body scope [] [] (He.fAd K (x, none)) fd) (S : FnScope N ps scope) (len : ∀ vs H Q E, sp vs H Q E → vs.length = ps.length)
    (walk : ∀ (A : Around) (outer : List Env) (s : Shared) (H : Hp) (vs : List V) (Q : VK) (E : XK), Room k (A.deeper (envOfC x scope s.heap.objs.size (He.fAd K (x, none)) (.ref (He.codeOf K (x, none))))) → sp vs H Q E →
      ∃ t, PSs (cxOf CX P w K mg base N x scope (He.fAd K (x, none)) (.ref (He.codeOf K (x, none))) A outer s H E) body t ∧ t { nx := fun _ H' => Q .non H', rt := Q } (L2.start N vs) H) : FnOk P w K mg base CX (k + 1) (He.fAd K (x, none)) fd ps sp := by
  obtain ⟨oc, od, dV, kV, doc, pm, an, cdv, ct, osl, rfl, lk, hcd, hD, hK⟩ := F.ex
  obtain ⟨cc, rfl⟩ := He.codeIn_ref hcd
  have e := He.codeOf_eq lk rfl
  rw [e] at walk
  exact fn_of lk hcd S len walk
def lq (x : Str) (sc : Scope) : Str := (envOfC x sc 0 0 .none).qual ++ "<lambda>"
abbrev TT0 (K : PySem.W.Frag) : List (Addr × Str) := [(tabT K "_law_told_right", lq "_law_told_right" (defScope s_law_told_right)), (tabT K "_law_twice_right", lq "_law_twice_right" (defScope s_law_twice_right)), (tabT K "_law_many_right", lq "_law_many_right" (defScope s_law_many_right))]
theorem tabs_ne (h : tabsNe K = true) : tabT K "_law_told_right" ≠ tabT K "_law_twice_right" ∧ tabT K "_law_told_right" ≠ tabT K "_law_many_right" ∧ tabT K "_law_twice_right" ≠ tabT K "_law_many_right" := by
  obtain ⟨h1, h⟩ := He.ba h
  obtain ⟨h2, h3⟩ := He.ba h
  exact ⟨of_decide_eq_true h1, of_decide_eq_true h2, of_decide_eq_true h3⟩
theorem mem_law_told_right (K : PySem.W.Frag) : (tabT K "_law_told_right", lq "_law_told_right" (defScope s_law_told_right)) ∈ TT0 K := List.mem_cons_self ..
theorem mem_law_twice_right (K : PySem.W.Frag) : (tabT K "_law_twice_right", lq "_law_twice_right" (defScope s_law_twice_right)) ∈ TT0 K := List.mem_cons_of_mem _ (List.mem_cons_self ..)
theorem mem_law_many_right (K : PySem.W.Frag) : (tabT K "_law_many_right", lq "_law_many_right" (defScope s_law_many_right)) ∈ TT0 K := List.mem_cons_of_mem _ (List.mem_cons_of_mem _ (List.mem_cons_self ..))
theorem hu_law_told_right (h : tabsNe K = true) : ∀ p ∈ TT0 K, p.1 = tabT K "_law_told_right" → p.2 = lq "_law_told_right" (defScope s_law_told_right) := fun p hp e => by
  obtain ⟨h1, h2, h3⟩ := tabs_ne h
  simp only [TT0, List.mem_cons, List.not_mem_nil, or_false] at hp
  rcases hp with rfl | rfl | rfl
  · rfl
  · exact absurd e.symm h1
  · exact absurd e.symm h2
theorem hu_law_twice_right (h : tabsNe K = true) : ∀ p ∈ TT0 K, p.1 = tabT K "_law_twice_right" → p.2 = lq "_law_twice_right" (defScope s_law_twice_right) := fun p hp e => by
  obtain ⟨h1, h2, h3⟩ := tabs_ne h
  simp only [TT0, List.mem_cons, List.not_mem_nil, or_false] at hp
  rcases hp with rfl | rfl | rfl
  · exact absurd e h1
  · rfl
  · exact absurd e.symm h3
theorem hu_law_many_right (h : tabsNe K = true) : ∀ p ∈ TT0 K, p.1 = tabT K "_law_many_right" → p.2 = lq "_law_many_right" (defScope s_law_many_right) := fun p hp e => by
  obtain ⟨h1, h2, h3⟩ := tabs_ne h
  simp only [TT0, List.mem_cons, List.not_mem_nil, or_false] at hp
  rcases hp with rfl | rfl | rfl
  · exact absurd e h2
  · exact absurd e h3
  · rfl
theorem has_full_of_kw (Tx : Txt K mg) (c : He.SaysX fa fn [] tf ex w hh K) (X : K.In hh) (GG : hh.Ns mainGlobals mg) (h_need_kind : HasX P w K mg base "need_kind" 3 ["kind"] (sp_need_kind K)) : HasKX P w K mg base "full_of" 4 ["kind"] ["kind"] gv1 (sp_full_of K) := by
  obtain ⟨fd, F⟩ := c.t.d.def_ 12 (d := d_full_of) rfl
  exact ⟨_, fd, (fun _ zs => zs), ok_full_of F Tx h_need_kind, He.glo_ok X GG (c.t.d.fact 14 (f := .glo "full_of") rfl), F.kp, kbn_of F (fun _ _ _ _ _ _ ws hl => match ws, hl with | [_], _ => rfl) (fun _ h => h)⟩
/-! ### lambdas heard -/
theorem lam_skin {H1 : Hp} {t0 : Addr} {C : VK} {kv fv sv : V} (n0 : H1 t0 = none) (hk1 : ∃ k, KdV K H1 kv k) (hk2 : ∃ k, KdV K H1 fv k)
    (h : ∀ H', Same H1 H' → SkDo K (EH K C) H' kv fv sv fun _ _ _ => ∀ H'', Same H1 H'' → H'' t0 = some (.tup []) → C (.ref t0) H'') :
    ∀ x dx, upd H1 t0 (.tup []) x = none → upd H1 t0 (.tup []) dx = none → dx ≠ x → sp_Skin_init K [.ref x, kv, fv, sv] (upd (upd (upd H1 t0 (.tup [])) dx (.own x)) x (.ins (He.ga K "Skin") dx [])) (fun v H2 => v = .non ∧ (fun (_ : V) H' => C (.ref t0) H') (.ref x) H2) (EH K C) := by
  intro x dx nx nd ne
  obtain ⟨k1, h1⟩ := hk1
  obtain ⟨k2, h2⟩ := hk2
  have s0 : Same H1 (upd H1 t0 (.tup [])) := same_new n0
  have s1 : Same (upd H1 t0 (.tup [])) (upd (upd (upd H1 t0 (.tup [])) dx (.own x)) x (.ins (He.ga K "Skin") dx [])) := (same_new (o := .own x) nd).trans (same_new (o := .ins (He.ga K "Skin") dx []) (by rw [upd_ne ne.symm]; exact nx))
  refine ⟨x, dx, kv, fv, sv, k1, k2, rfl, upd_same, h1.same (s0.trans s1), h2.same (s0.trans s1), ?_⟩
  have key : ∀ H', Kp x (upd (upd (upd H1 t0 (.tup [])) dx (.own x)) x (.ins (He.ga K "Skin") dx [])) H' → Same H1 H' ∧ H' t0 = some (.tup []) := fun H' k => by
    have s2 := same_made nx nd ne k
    exact ⟨s0.trans s2, s2 _ _ upd_same⟩
  cases h _ (s0.trans s1) with
  | kind g e => exact .kind g e
  | faces g b e => exact .faces g b e
  | seams z n k ez g en b hk e hh => exact .seams z n k ez g en b hk e hh
  | made z n a ts ps ez g en b es hb hs hl hok e1 e2 q => exact .made z n a ts ps ez g en b es hb hs hl hok e1 e2 fun ht h24 H' k _ => ⟨rfl, q ht h24 H' (key H' k).1 (key H' k).2⟩
theorem lam_sides {H1 : Hp} {t0 : Addr} {C : VK} {Q : VK} {v : V} (n0 : H1 t0 = none) (hk : ∃ k, KdV K H1 v k) (g : isGrid v = false) (T : Told C H1 [.str "kind", .str "kind"]) : sp_sides_of K [v] (upd H1 t0 (.tup [])) Q (EH K C) := by
  obtain ⟨k, h⟩ := hk
  exact ⟨v, k, rfl, h.same (same_new n0), fun _ _ c => absurd g (by rw [c]; decide), fun _ => eh_kind (T.same (same_new n0))⟩
theorem lam_full {H1 : Hp} {t0 : Addr} {C : VK} {Q : VK} {v : V} (n0 : H1 t0 = none) (hk : ∃ k, KdV K H1 v k) (g : isGrid v = false) (T : Told C H1 [.str "kind", .str "kind"]) : sp_full_of K [v] (upd H1 t0 (.tup [])) Q (EH K C) := by
  obtain ⟨k, h⟩ := hk
  exact ⟨v, k, rfl, h.same (same_new n0), fun _ _ c => absurd g (by rw [c]; decide), fun _ => eh_kind (T.same (same_new n0))⟩
theorem seams_nil {H : Hp} : Seams H [] [] := ⟨rfl, fun i t p h => by simp at h⟩
/-- Skin(kind, faces) in a lambda: made -/
theorem lam_make0 {H1 : Hp} {t0 : Addr} {E : XK} {z : Str} {n : Int} {R : Addr → Hp → Prop} (n0 : H1 t0 = none) (g : isGrid (.str z) = true) (n1 : 1 ≤ n) (n24 : n ≤ 24) (h : ∀ x H2, Same H1 H2 → H2 t0 = some (.tup []) → SkinAt K H2 x z n [] → R x H2) :
    ∀ x dx, upd H1 t0 (.tup []) x = none → upd H1 t0 (.tup []) dx = none → dx ≠ x → sp_Skin_init K [.ref x, .str z, .int n, .ref (dflA K)] (upd (upd (upd H1 t0 (.tup [])) dx (.own x)) x (.ins (He.ga K "Skin") dx [])) (fun v H2 => v = .non ∧ R x H2) E := by
  intro x dx nx nd ne
  have s0 : Same H1 (upd H1 t0 (.tup [])) := same_new n0
  refine ⟨x, dx, _, _, _, .str, .int, rfl, upd_same, True.intro, True.intro, .made z n (dflA K) [] [] rfl g rfl n1 rfl (.inr (.inr ⟨rfl, rfl⟩)) seams_nil (Nat.zero_le _) (fun p hp => by cases hp) (fun t c => by cases c) (fun _ c => absurd c (by omega)) fun _ _ H' k hs => ⟨rfl, ?_⟩⟩
  have s2 := same_made nx nd ne k
  exact h x H' (s0.trans s2) (s2 _ _ upd_same) hs
/-! ### what is told -/
structure Wd (K : PySem.W.Frag) (p c : Addr) (b : Nat) (n : Int) (ok fv sv : V) (H0 H : Hp) : Prop where
  pen : PenAt H p c b
  tabs : LamX.Tabs (TT0 K) H
  fr : Fr p H0 H
  ok : AnyV p H ok
  fv : AnyV p H fv
  sv : BadSm p n H sv
theorem Wd.ext {p c : Addr} {b : Nat} {n : Int} {ok fv sv : V} {H0 H H1 : Hp} (w : Wd K p c b n ok fv sv H0 H) (e : ExtN H H1) (t : LamX.Tabs (TT0 K) H1) : Wd K p c b n ok fv sv H0 H1 :=
  ⟨penExt w.pen e, t, w.fr.trans (Fr.ext e), w.ok.fr (Fr.ext e) w.pen, w.fv.fr (Fr.ext e) w.pen, w.sv.fr (Fr.ext e) w.pen⟩
theorem Wd.same {p c : Addr} {b : Nat} {n : Int} {ok fv sv : V} {H0 H H1 : Hp} (w : Wd K p c b n ok fv sv H0 H) (s : Same H H1) : Wd K p c b n ok fv sv H0 H1 :=
  ⟨w.pen.same s, tabs_same w.tabs s, w.fr.trans (Fr.same s), w.ok.fr (Fr.same s) w.pen, w.fv.fr (Fr.same s) w.pen, w.sv.fr (Fr.same s) w.pen⟩
theorem dp2 {H : Hp} {t : Addr} {x y : Str} (h : H t = some (.tup [.str x, .str y])) : Dp K H (.ref t) (.tuple [.str x, .str y]) := .tup (SqT.of h) (.cons (.str _) (.cons (.str _) .nil))
def sp_law_told_right (K : PySem.W.Frag) : Sp := fun vs H Q _ => ∃ (p c : Addr) (b : Nat) (z : Str) (n : Int), vs = [.ref p, .str z, .int n, .int (n * turnOf z)] ∧ isGrid (.str z) = true ∧ 2 ≤ n ∧ n ≤ 5 ∧ PenAt H p c (b + 20) ∧ LamX.Tabs (TT0 K) H ∧
  ∀ H', Fr p H H' → PenAt H' p c b → LamX.Tabs (TT0 K) H' → Q (.bl true) H'
theorem bad_made {E : XK} {H : Hp} {z : Str} {n : Int} {sv : V} {ok : Str → Int → List (Int × Int) → Prop} (g : isGrid (.str z) = true) (n1 : 1 ≤ n) (h : ∃ k, KdV K H sv k ∧ BadSeams K H sv k (n * turnOf z)) (e : smErr K E H) : SkDo K E H (.str z) (.int n) sv ok := by
  obtain ⟨k, h1, h2⟩ := h
  exact .seams z n k rfl g rfl n1 h1 e h2
theorem sc_law_told_right : FnScope ["_law_pen_here", "_law_kind", "_law_faces", "_law_sides", "_law_odd_kind", "_law_odd_faces", "_law_odd_seams_here", "_law_heard_here", "_law_due"] ["_law_pen_here", "_law_kind", "_law_faces", "_law_sides"] (defScope s_law_told_right) := ⟨rfl, rfl, rfl, by decide +kernel, rfl, by decide +kernel, by decide +kernel⟩
theorem ok_law_told_right {fd : FuncData} (F : FunD K "_law_told_right" "_law_told_right" (defArgs s_law_told_right) (defBody s_law_told_right) (defScope s_law_told_right) [] [] (He.fAd K ("_law_told_right", none)) fd) (Tx : Txt K mg) (tb : LamX.TabB base mg (He.codeOf K ("_law_told_right", none)) (tabT K "_law_told_right")) (h_heard : HasH K mg) (h_law_pick : Has P w K mg base "_law_pick" 2 ["_law_pen_here", "_law_some"] (sp_law_pick K)) (h_law_odd_seams : Has P w K mg base "_law_odd_seams" 3 ["_law_pen_here", "_law_sides"] (sp_law_odd_seams K)) (h_Skin_init : HasI P w K mg base 5 (sp_Skin_init K)) (h_sides_of : HasX P w K mg base "sides_of" 4 ["kind"] (sp_sides_of K)) (h_full_of : HasX P w K mg base "full_of" 4 ["kind"] (sp_full_of K)) (h_Skin_with_seams : HasM P w K mg base (L2.CX P w) "Skin" "with_seams" 7 ["self", "seams"] (sp_Skin_with_seams K)) (h_full_of_kw : HasKX P w K mg base "full_of" 4 ["kind"] ["kind"] gv1 (sp_full_of K)) : FnOk P w K mg base CX0 10 (He.fAd K ("_law_told_right", none)) fd ["_law_pen_here", "_law_kind", "_law_faces", "_law_sides"] (sp_law_told_right K) := by
  obtain ⟨gH, ocH, odH, dVH, kVH, docH, pmH, anH, cdvH, ctH, oslH, g_heard, k_heard, lk_heard, hc_heard, b_heard⟩ := h_heard
  obtain ⟨f_law_pick, fd_law_pick, G_law_pick, g_law_pick, k_law_pick, b_law_pick⟩ := h_law_pick
  obtain ⟨f_law_odd_seams, fd_law_odd_seams, G_law_odd_seams, g_law_odd_seams, k_law_odd_seams, b_law_odd_seams⟩ := h_law_odd_seams
  obtain ⟨fd_Skin_init, G_Skin_init, b_Skin_init, ⟨ds2_Skin_init, v2_Skin_init, b2_Skin_init⟩, ⟨ds1_Skin_init, kg_Skin_init, kb_Skin_init_faces_kind⟩⟩ := h_Skin_init
  obtain ⟨f_sides_of, fd_sides_of, G_sides_of, g_sides_of, k_sides_of, b_sides_of⟩ := h_sides_of
  obtain ⟨f_full_of, fd_full_of, G_full_of, g_full_of, k_full_of, b_full_of⟩ := h_full_of
  obtain ⟨fd_Skin_with_seams, G_Skin_with_seams, b_Skin_with_seams⟩ := h_Skin_with_seams
  obtain ⟨f_full_of_kw, fd_full_of_kw, gg_full_of_kw, G_full_of_kw, g_full_of_kw, k_full_of_kw, b_full_of_kw⟩ := h_full_of_kw
  refine okC F sc_law_told_right (fun vs H Q E h => ?_) (fun A outer s H vs Q E hr h => ?_)
  · obtain ⟨p, c, b, z, n, rfl, _⟩ := h
    rfl
  · obtain ⟨p, c, b, z, n, rfl, hg, n2, n5, hp, ht, q⟩ := h
    have np : ∀ {H' : Hp} {a : Addr} {b : Nat}, PenAt H' p c b → H' a = none → a ≠ p := fun h1 h2 => (h1.new h2).1
    have turn := turn_in z
    have hN : 2 ≤ n * turnOf z := by rcases turn with e | e <;> rw [e] <;> omega
    obtain ⟨ps0, hps0⟩ := hp.at
    refine ⟨_, PSs.nox (pss_cons (ps_set (i := 4) sc_law_told_right.nd rfl (Or.inr rfl) (pe_call G_law_pick (hr.mono (by decide)) (by rfl) g_law_pick k_law_pick b_law_pick .nil pass0 (pa_cons (pv 0) (pa_cons (pe_lst (pa_cons pe_non (pa_cons pe_int (pa_cons pe_str (pa_cons pe_str (pa_cons pe_str (pa_cons (pe_lst (pa_cons pe_str pa_nil)) (pa_cons pe_bl (pa_cons pe_str (pa_cons (pe_tup (pa_cons pe_str pa_nil)) (pa_cons (pe_disp (pps_cons pe_str pe_int pps_nil) (by rfl) (by rfl) (fun z => by cases z) (by decide)) pa_nil))))))))))) pa_nil))))
        (pss_cons (ps_set (i := 5) sc_law_told_right.nd rfl (Or.inr rfl) (pe_call G_law_pick (hr.mono (by decide)) (by rfl) g_law_pick k_law_pick b_law_pick .nil pass0 (pa_cons (pv 0) (pa_cons (pe_lst (pa_cons pe_int (pa_cons (pe_un un_neg pe_int) (pa_cons pe_non (pa_cons pe_str (pa_cons pe_bl (pa_cons (pe_lst (pa_cons pe_int pa_nil)) (pa_cons pe_bl (pa_cons pe_str (pa_cons (pe_un un_neg (pe_op op_pow pe_int pe_int)) pa_nil)))))))))) pa_nil))))
        (pss_cons (ps_set (i := 6) sc_law_told_right.nd rfl (Or.inr rfl) (pe_call G_law_odd_seams (hr.mono (by decide)) (by rfl) g_law_odd_seams k_law_odd_seams b_law_odd_seams .nil pass0 (pa_cons (pv 0) (pa_cons (pv 3) pa_nil))))
        (pss_cons (ps_set (i := 7) sc_law_told_right.nd rfl (Or.inl rfl) (pe_lst (pa_cons (pe_lamcall (T := TT0 K) (TT := TTh K) (k := 6) (by rfl) g_heard k_heard lk_heard hc_heard b_heard sc_law_heard rfl (.inl rfl) (heard_gives rfl rfl Tx) tb rfl (mem_law_told_right K) (hu_law_told_right Tx.tabs) (hr.mono (by decide)) (LamX.lamS_by (sc := defScope s_law_told_right) (by decide +kernel)) rfl (fun _ _ _ _ _ => rfl) (fun A outer s H E f c hr => (pe_make Tx.mk_Skin G_Skin_init (hr.mono (by decide)) (by rfl) Tx.g_Skin b_Skin_init .nil (passE rfl rfl rfl rfl) (pa_cons (pv 4) (pa_cons (pv 5) (pa_cons (pv 6) pa_nil)))))) (pa_cons (pe_lamcall (T := TT0 K) (TT := TTh K) (k := 6) (by rfl) g_heard k_heard lk_heard hc_heard b_heard sc_law_heard rfl (.inl rfl) (heard_gives rfl rfl Tx) tb rfl (mem_law_told_right K) (hu_law_told_right Tx.tabs) (hr.mono (by decide)) (LamX.lamS_by (sc := defScope s_law_told_right) (by decide +kernel)) rfl (fun _ _ _ _ _ => rfl) (fun A outer s H E f c hr => (pe_make Tx.mk_Skin G_Skin_init (hr.mono (by decide)) (by rfl) Tx.g_Skin b2_Skin_init v2_Skin_init (passE rfl rfl rfl rfl) (pa_cons (pv 4) (pa_cons (pv 2) pa_nil))))) pa_nil))))
        (pss_cons (ps_set (i := 7) sc_law_told_right.nd rfl (Or.inl rfl) (pe_op op_cat (pv 7) (pe_lst (pa_cons (pe_lamcall (T := TT0 K) (TT := TTh K) (k := 4) (by rfl) g_heard k_heard lk_heard hc_heard b_heard sc_law_heard rfl (.inl rfl) (heard_gives rfl rfl Tx) tb rfl (mem_law_told_right K) (hu_law_told_right Tx.tabs) (hr.mono (by decide)) (LamX.lamS_by (sc := defScope s_law_told_right) (by decide +kernel)) rfl (fun _ _ _ _ _ => rfl) (fun A outer s H E f c hr => (pe_call G_sides_of (hr.mono (by decide)) (by rfl) g_sides_of k_sides_of b_sides_of .nil (passE rfl rfl rfl rfl) (pa_cons (pv 4) pa_nil)))) (pa_cons (pe_lamcall (T := TT0 K) (TT := TTh K) (k := 4) (by rfl) g_heard k_heard lk_heard hc_heard b_heard sc_law_heard rfl (.inl rfl) (heard_gives rfl rfl Tx) tb rfl (mem_law_told_right K) (hu_law_told_right Tx.tabs) (hr.mono (by decide)) (LamX.lamS_by (sc := defScope s_law_told_right) (by decide +kernel)) rfl (fun _ _ _ _ _ => rfl) (fun A outer s H E f c hr => (pe_callK0 G_full_of_kw (hr.mono (by decide)) (by rfl) g_full_of_kw k_full_of_kw b_full_of_kw (passE rfl rfl rfl rfl) (pk_cons (pv 4) pk_nil)))) pa_nil)))))
        (pss_cons (ps_set (i := 7) sc_law_told_right.nd rfl (Or.inl rfl) (pe_op op_cat (pv 7) (pe_lst (pa_cons (pe_lamcall (T := TT0 K) (TT := TTh K) (k := 6) (by rfl) g_heard k_heard lk_heard hc_heard b_heard sc_law_heard rfl (.inl rfl) (heard_gives rfl rfl Tx) tb rfl (mem_law_told_right K) (hu_law_told_right Tx.tabs) (hr.mono (by decide)) (LamX.lamS_by (sc := defScope s_law_told_right) (by decide +kernel)) rfl (fun _ _ _ _ _ => rfl) (fun A outer s H E f c hr => (pe_make Tx.mk_Skin G_Skin_init (hr.mono (by decide)) (by rfl) Tx.g_Skin b_Skin_init .nil (passE rfl rfl rfl rfl) (pa_cons (pv 1) (pa_cons (pv 5) (pa_cons (pv 6) pa_nil)))))) (pa_cons (pe_lamcall (T := TT0 K) (TT := TTh K) (k := 6) (by rfl) g_heard k_heard lk_heard hc_heard b_heard sc_law_heard rfl (.inl rfl) (heard_gives rfl rfl Tx) tb rfl (mem_law_told_right K) (hu_law_told_right Tx.tabs) (hr.mono (by decide)) (LamX.lamS_by (sc := defScope s_law_told_right) (by decide +kernel)) rfl (fun _ _ _ _ _ => rfl) (fun A outer s H E f c hr => (pe_makeK0 Tx.mk_Skin G_Skin_init (hr.mono (by decide)) (by rfl) Tx.g_Skin kb_Skin_init_faces_kind (passE rfl rfl rfl rfl) (pk_cons (pv 5) (pk_cons (pv 1) pk_nil))))) pa_nil)))))
        (pss_cons (ps_set (i := 7) sc_law_told_right.nd rfl (Or.inl rfl) (pe_op op_cat (pv 7) (pe_lst (pa_cons (pe_lamcall (T := TT0 K) (TT := TTh K) (k := 6) (by rfl) g_heard k_heard lk_heard hc_heard b_heard sc_law_heard rfl (.inl rfl) (heard_gives rfl rfl Tx) tb rfl (mem_law_told_right K) (hu_law_told_right Tx.tabs) (hr.mono (by decide)) (LamX.lamS_by (sc := defScope s_law_told_right) (by decide +kernel)) rfl (fun _ _ _ _ _ => rfl) (fun A outer s H E f c hr => (pe_make Tx.mk_Skin G_Skin_init (hr.mono (by decide)) (by rfl) Tx.g_Skin b_Skin_init .nil (passE rfl rfl rfl rfl) (pa_cons (pv 1) (pa_cons (pv 2) (pa_cons (pv 6) pa_nil)))))) (pa_cons (pe_lamcall (T := TT0 K) (TT := TTh K) (k := 7) (by rfl) g_heard k_heard lk_heard hc_heard b_heard sc_law_heard rfl (.inl rfl) (heard_gives rfl rfl Tx) tb rfl (mem_law_told_right K) (hu_law_told_right Tx.tabs) (hr.mono (by decide)) (LamX.lamS_by (sc := defScope s_law_told_right) (by decide +kernel)) rfl (fun _ _ _ _ _ => rfl) (fun A outer s H E f c hr => (pe_meth (pe_make Tx.mk_Skin G_Skin_init (hr.mono (by decide)) (by rfl) Tx.g_Skin b2_Skin_init v2_Skin_init (passE rfl rfl rfl rfl) (pa_cons (pv 1) (pa_cons (pv 2) pa_nil))) Tx.cl_Skin Tx.me_Skin_with_seams G_Skin_with_seams (hr.mono (by decide)) b_Skin_with_seams .nil (passE rfl rfl rfl rfl) (pa_cons (pv 6) pa_nil)))) pa_nil)))))
        (pss_cons (ps_set (i := 8) sc_law_told_right.nd rfl (Or.inl rfl) (pe_op op_cat (pe_op op_cat (pe_op op_rep (pe_lst (pa_cons (pe_tup (pa_cons pe_str (pa_cons pe_str pa_nil))) pa_nil)) pe_int) (pe_op op_rep (pe_lst (pa_cons (pe_tup (pa_cons pe_str (pa_cons pe_str pa_nil))) pa_nil)) pe_int)) (pe_op op_rep (pe_lst (pa_cons (pe_tup (pa_cons pe_str (pa_cons pe_str pa_nil))) pa_nil)) pe_int)))
        (pss_cons (ps_if (PW.pt (pw_or (pt_cmpR (op_neD hr.units) (pe_glob (v := .ref (He.ga K "KINDS")) (by rfl) Tx.g_KINDS rfl) (pe_tup (pa_cons pe_str (pa_cons pe_str pa_nil))) (nomark _)) (pw_or1 (pt_not (pt_val (pe_callB call_isi (by rfl) Tx.n_isinstance (by decide +kernel) (pa_cons (pe_glob (v := .ref (He.ga K "KINDS")) (by rfl) Tx.g_KINDS rfl) (pa_cons (pe_bltn (v := .ty "tuple") (by rfl) Tx.n_tuple (by decide +kernel) rfl) pa_nil)))))))) (pss_one (ps_ret pe_bl)) pss_nil)
        (pss_one (ps_ret (pe_and (pe_cmpR (op_eqD hr.units) (pv 7) (pv 8) (nomark _)) (pe_and (pe_cmpR op_eq (pe_call G_sides_of (hr.mono (by decide)) (by rfl) g_sides_of k_sides_of b_sides_of .nil passN (pa_cons (pv 1) pa_nil)) (pe_op op_fdivN (pv 3) (pv 2)) (nomark _)) (pe_one (pe_cmpR op_eq (pe_call G_full_of (hr.mono (by decide)) (by rfl) g_full_of k_full_of b_full_of .nil passN (pa_cons (pv 1) pa_nil)) (pe_ifExp (pt_cmpR op_eq (pv 1) pe_str (nomark _)) pe_int pe_int) (nomark _)))))))))))))))), ?_⟩
    -- an odd kind
    refine ⟨_, rfl, le_line (n := 1) (by decide), fun a1 n1 => ⟨le_line (n := 1) (by decide), fun a2 n2' => ?_⟩⟩
    have sa : Same H (upd (upd H a1 (.lst [.str "square"])) a2 (.tup [.str "triangle"])) := (same_new n1).trans (same_new n2')
    have f1 : upd (upd H a1 (.lst [.str "square"])) a2 (.tup [.str "triangle"]) a1 = some (.lst [.str "square"]) := same_new n2' _ _ upd_same
    have f2 : upd (upd H a1 (.lst [.str "square"])) a2 (.tup [.str "triangle"]) a2 = some (.tup [.str "triangle"]) := upd_same
    have ap1 := np hp n1
    have hp1 := hp.same sa
    revert sa f1 f2 hp1
    generalize upd (upd H a1 (.lst [.str "square"])) a2 (.tup [.str "triangle"]) = G1
    intro sa f1 f2 hp1
    refine fun a3 n3 => ⟨upd_same, [(.inr "square", .int 1)], rfl, by decide, ?_⟩
    have sb : Same G1 (upd (upd G1 a3 (.dK [])) a3 (.dK (mergeK [] [(.inr "square", .int 1)]))) := Same.mut (same_new n3) n3
    have f3 : upd (upd G1 a3 (.dK [])) a3 (.dK (mergeK [] [(.inr "square", .int 1)])) a3 = some (.dK (mergeK [] [(.inr "square", .int 1)])) := upd_same
    replace f1 := sb _ _ f1
    replace f2 := sb _ _ f2
    replace hp1 := hp1.same sb
    replace sa := sa.trans sb
    clear sb
    revert f3 f1 f2 hp1 sa
    generalize upd (upd G1 a3 (.dK [])) a3 (.dK (mergeK [] [(.inr "square", .int 1)])) = G2
    intro f3 f1 f2 hp1 sa
    refine ⟨le_line (n := 10) (by decide), fun l nl => ?_⟩
    have sl : Same G2 (upd G2 l (.lst [.non, .int 5, .str "cube", .str "Square", .str "", .ref a1, .bl true, .str "triangles", .ref a2, .ref a3])) := same_new nl
    refine ⟨p, c, l, b + 19, _, rfl, hp1.same sl, .inl upd_same, np hp1 nl, List.cons_ne_nil _ _, (show 10 ≤ 1000 by decide), fun J1 ok hok hq1 k1 => ?_⟩
    have wok : AnyV p J1 ok ∧ isGrid ok = false := by
      have all : ∀ x ∈ [V.non, .int 5, .str "cube", .str "Square", .str "", .ref a1, .bl true, .str "triangles", .ref a2, .ref a3], AnyV p (upd G2 l (.lst [.non, .int 5, .str "cube", .str "Square", .str "", .ref a1, .bl true, .str "triangles", .ref a2, .ref a3])) x ∧ isGrid x = false := fun x hx => by
        simp only [List.mem_cons, List.not_mem_nil, or_false] at hx
        rcases hx with rfl | rfl | rfl | rfl | rfl | rfl | rfl | rfl | rfl | rfl
        · exact ⟨.flat _ rfl, rfl⟩
        · exact ⟨.flat _ rfl, rfl⟩
        · exact ⟨.flat _ rfl, by decide +kernel⟩
        · exact ⟨.flat _ rfl, by decide +kernel⟩
        · exact ⟨.flat _ rfl, by decide +kernel⟩
        · exact ⟨.lst _ _ (sl _ _ f1) ap1, rfl⟩
        · exact ⟨.flat _ rfl, rfl⟩
        · exact ⟨.flat _ rfl, by decide +kernel⟩
        · exact ⟨.tup _ _ (sl _ _ f2), rfl⟩
        · exact ⟨.dict _ _ (sl _ _ f3), rfl⟩
      exact ⟨(all ok hok).1.fr (Fr.kp k1) (hp1.same sl), (all ok hok).2⟩
    obtain ⟨wok, gok⟩ := wok
    have fr1 : Fr p H J1 := (Fr.same (sa.trans sl)).trans (Fr.kp k1)
    have ht1 : LamX.Tabs (TT0 K) J1 := tabs_kp (tabs_same ht (sa.trans sl)) ((sa.trans sl) _ _ hps0) k1
    clear hok sa f1 f2 f3 hp1 sl k1
    -- an odd number of faces
    obtain ⟨ps1, hps1⟩ := hq1.at
    refine ⟨_, rfl, _, rfl, le_line (n := 1) (by decide), fun a4 n4 => ⟨_, _, rfl, rfl, ⟨by decide, by decide, by decide⟩, _, rfl, le_line (n := 9) (by decide), fun l2 nl2 => ?_⟩⟩
    have sl : Same J1 (upd (upd J1 a4 (.lst [.int 1])) l2 (.lst [.int 0, .int (-3), .non, .str "2", .bl true, .ref a4, .bl false, .str "", .int (-(10 ^ Int.toNat 20))])) := (same_new n4).trans (same_new nl2)
    refine ⟨p, c, l2, b + 18, _, rfl, hq1.same sl, .inl upd_same, np (hq1.same (same_new n4)) nl2, List.cons_ne_nil _ _, (show 9 ≤ 1000 by decide), fun J2 fv hfv hq2 k2 => ?_⟩
    have wfv : AnyV p J2 fv ∧ bnd fv (.int 1) .non = false := by
      have all : ∀ x ∈ [V.int 0, .int (-3), .non, .str "2", .bl true, .ref a4, .bl false, .str "", .int (-(10 ^ Int.toNat 20))], AnyV p (upd (upd J1 a4 (.lst [.int 1])) l2 (.lst [.int 0, .int (-3), .non, .str "2", .bl true, .ref a4, .bl false, .str "", .int (-(10 ^ Int.toNat 20))])) x ∧ bnd x (.int 1) .non = false := fun x hx => by
        simp only [List.mem_cons, List.not_mem_nil, or_false] at hx
        rcases hx with rfl | rfl | rfl | rfl | rfl | rfl | rfl | rfl | rfl
        · exact ⟨.flat _ rfl, by decide +kernel⟩
        · exact ⟨.flat _ rfl, by decide +kernel⟩
        · exact ⟨.flat _ rfl, rfl⟩
        · exact ⟨.flat _ rfl, rfl⟩
        · exact ⟨.flat _ rfl, rfl⟩
        · exact ⟨.lst _ _ (same_new nl2 _ _ upd_same) (np hq1 n4), rfl⟩
        · exact ⟨.flat _ rfl, rfl⟩
        · exact ⟨.flat _ rfl, rfl⟩
        · exact ⟨.flat _ rfl, by decide +kernel⟩
      exact ⟨(all fv hfv).1.fr (Fr.kp k2) (hq1.same sl), (all fv hfv).2⟩
    obtain ⟨wfv, bfv⟩ := wfv
    have fr2 : Fr p H J2 := fr1.trans ((Fr.same sl).trans (Fr.kp k2))
    have ht2 : LamX.Tabs (TT0 K) J2 := tabs_kp (tabs_same ht1 sl) (sl _ _ hps1) k2
    replace wok : AnyV p J2 ok := wok.fr ((Fr.same sl).trans (Fr.kp k2)) hq1
    clear hfv sl k2
    -- odd seams
    obtain ⟨ps2, hps2⟩ := hq2.at
    refine ⟨_, rfl, _, rfl, p, c, b + 13, _, rfl, hN, hq2, fun J3 sv hq3 k3 wsv => ?_⟩
    have W : Wd K p c (b + 13) (n * turnOf z) ok fv sv H J3 := ⟨hq3, tabs_kp ht2 hps2 k3, fr2.trans (Fr.kp k3), wok.fr (Fr.kp k3) hq2, wfv.fr (Fr.kp k3) hq2, wsv⟩
    clear wok wfv wsv fr1 fr2 ht1 ht2 hq1 hq2 hq3 k3 hps1 hps2
    have kz : ∀ H', ∃ k, KdV K H' (.str z) k := fun H' => ⟨.str, True.intro⟩
    have kn : ∀ H', ∃ k, KdV K H' (.int n) k := fun H' => ⟨.int, True.intro⟩
    refine ⟨W.tabs, fun A1 e1 u1 t1 m1 => ⟨_, rfl, _, rfl, _, rfl, lam_skin m1 ((W.ext e1 u1).ok.kd) ((W.ext e1 u1).fv.kd) fun H' s => .kind gok (eh_kind (Told.same (fun B1 r1 s1 o1 w1 => ?_) s))⟩⟩
    have w1' : B1 r1 = some (.tup [.str "kind", .str "kind"]) := w1
    replace W := (W.ext e1 u1).same s1
    refine ⟨W.tabs, fun A2 e2 u2 t2 m2 => ⟨_, rfl, _, rfl, lam_skin m2 ((W.ext e2 u2).ok.kd) (kn _) fun H' s => .kind gok (eh_kind (Told.same (fun B2 r2 s2 o2 w2 => ?_) s))⟩⟩
    have w2' : B2 r2 = some (.tup [.str "kind", .str "kind"]) := w2
    replace w1' := s2 _ _ (e2 _ _ w1' fun _ z => nomatch z)
    replace W := (W.ext e2 u2).same s2
    refine ⟨le_line (n := 2) (by decide), fun l102 nl102 => ?_⟩
    have apl102 := np W.pen nl102
    have sx : Same B2 (upd B2 l102 (.lst [.ref r1, .ref r2])) := same_new nl102
    replace w1' := sx _ _ w1'
    replace w2' := sx _ _ w2'
    replace W := W.same sx
    have fl102 : (upd B2 l102 (.lst [.ref r1, .ref r2])) l102 = some (.lst [.ref r1, .ref r2]) := upd_same
    clear sx
    revert w1' w2' W fl102
    generalize upd B2 l102 (.lst [.ref r1, .ref r2]) = Xl102
    intro w1' w2' W fl102
    obtain ⟨kk3, hkk3⟩ := W.ok.kd
    refine ⟨_, rfl, W.tabs, fun A3 e3 u3 t3 m3 => ⟨_, rfl, ok, kk3, rfl, KdV.same (KdV.ext hkk3 fun a o _ h t => e3 a o h t) (same_new m3), fun _ _ c => absurd gok (by rw [c]; decide), fun _ => eh_kind (Told.same (fun B3 r3 s3 o3 w3 => ?_) (same_new m3))⟩⟩
    have w3' : B3 r3 = some (.tup [.str "kind", .str "kind"]) := w3
    replace w1' := s3 _ _ (e3 _ _ w1' fun _ z => nomatch z)
    replace w2' := s3 _ _ (e3 _ _ w2' fun _ z => nomatch z)
    replace fl102 := s3 _ _ (e3 _ _ fl102 fun _ z => nomatch z)
    replace W := (W.ext e3 u3).same s3
    obtain ⟨kk4, hkk4⟩ := W.ok.kd
    refine ⟨W.tabs, fun A4 e4 u4 t4 m4 => ⟨_, rfl, rfl, rfl, ok, kk4, rfl, KdV.same (KdV.ext hkk4 fun a o _ h t => e4 a o h t) (same_new m4), fun _ _ c => absurd gok (by rw [c]; decide), fun _ => eh_kind (Told.same (fun B4 r4 s4 o4 w4 => ?_) (same_new m4))⟩⟩
    have w4' : B4 r4 = some (.tup [.str "kind", .str "kind"]) := w4
    replace w1' := s4 _ _ (e4 _ _ w1' fun _ z => nomatch z)
    replace w2' := s4 _ _ (e4 _ _ w2' fun _ z => nomatch z)
    replace fl102 := s4 _ _ (e4 _ _ fl102 fun _ z => nomatch z)
    replace w3' := s4 _ _ (e4 _ _ w3' fun _ z => nomatch z)
    replace W := (W.ext e4 u4).same s4
    refine ⟨le_line (n := 2) (by decide), fun l104 nl104 => ?_⟩
    have apl104 := np W.pen nl104
    have sx : Same B4 (upd B4 l104 (.lst [.ref r3, .ref r4])) := same_new nl104
    replace w1' := sx _ _ w1'
    replace w2' := sx _ _ w2'
    replace fl102 := sx _ _ fl102
    replace w3' := sx _ _ w3'
    replace w4' := sx _ _ w4'
    replace W := W.same sx
    have fl104 : (upd B4 l104 (.lst [.ref r3, .ref r4])) l104 = some (.lst [.ref r3, .ref r4]) := upd_same
    clear sx
    revert w1' w2' fl102 w3' w4' W fl104
    generalize upd B4 l104 (.lst [.ref r3, .ref r4]) = Xl104
    intro w1' w2' fl102 w3' w4' W fl104
    refine ⟨l102, l104, _, _, rfl, rfl, fl102, fl104, le_line (n := 4) (by decide), fun Sl104 nSl104 => ?_⟩
    have apSl104 := np W.pen nSl104
    have sx : Same Xl104 (upd Xl104 Sl104 (.lst ([.ref r1, .ref r2] ++ [.ref r3, .ref r4]))) := same_new nSl104
    replace w1' := sx _ _ w1'
    replace w2' := sx _ _ w2'
    replace fl102 := sx _ _ fl102
    replace w3' := sx _ _ w3'
    replace w4' := sx _ _ w4'
    replace fl104 := sx _ _ fl104
    replace W := W.same sx
    have fSl104 : (upd Xl104 Sl104 (.lst ([.ref r1, .ref r2] ++ [.ref r3, .ref r4]))) Sl104 = some (.lst [.ref r1, .ref r2, .ref r3, .ref r4]) := upd_same
    clear sx
    revert w1' w2' fl102 w3' w4' fl104 W fSl104
    generalize upd Xl104 Sl104 (.lst ([.ref r1, .ref r2] ++ [.ref r3, .ref r4])) = XSl104
    intro w1' w2' fl102 w3' w4' fl104 W fSl104
    refine ⟨_, rfl, W.tabs, fun A5 e5 u5 t5 m5 => ⟨_, rfl, _, rfl, _, rfl, lam_skin m5 (kz _) ((W.ext e5 u5).fv.kd) fun H' s => .faces hg bfv (eh_skin (Told.same (fun B5 r5 s5 o5 w5 => ?_) s))⟩⟩
    have w5' : B5 r5 = some (.tup [.str "skin", .str "faces"]) := w5
    replace w1' := s5 _ _ (e5 _ _ w1' fun _ z => nomatch z)
    replace w2' := s5 _ _ (e5 _ _ w2' fun _ z => nomatch z)
    replace fl102 := s5 _ _ (e5 _ _ fl102 fun _ z => nomatch z)
    replace w3' := s5 _ _ (e5 _ _ w3' fun _ z => nomatch z)
    replace w4' := s5 _ _ (e5 _ _ w4' fun _ z => nomatch z)
    replace fl104 := s5 _ _ (e5 _ _ fl104 fun _ z => nomatch z)
    replace fSl104 := s5 _ _ (e5 _ _ fSl104 fun _ z => nomatch z)
    replace W := (W.ext e5 u5).same s5
    refine ⟨W.tabs, fun A6 e6 u6 t6 m6 => ⟨_, rfl, _, rfl, rfl, rfl, lam_skin m6 (kz _) ((W.ext e6 u6).fv.kd) fun H' s => .faces hg bfv (eh_skin (Told.same (fun B6 r6 s6 o6 w6 => ?_) s))⟩⟩
    have w6' : B6 r6 = some (.tup [.str "skin", .str "faces"]) := w6
    replace w1' := s6 _ _ (e6 _ _ w1' fun _ z => nomatch z)
    replace w2' := s6 _ _ (e6 _ _ w2' fun _ z => nomatch z)
    replace fl102 := s6 _ _ (e6 _ _ fl102 fun _ z => nomatch z)
    replace w3' := s6 _ _ (e6 _ _ w3' fun _ z => nomatch z)
    replace w4' := s6 _ _ (e6 _ _ w4' fun _ z => nomatch z)
    replace fl104 := s6 _ _ (e6 _ _ fl104 fun _ z => nomatch z)
    replace fSl104 := s6 _ _ (e6 _ _ fSl104 fun _ z => nomatch z)
    replace w5' := s6 _ _ (e6 _ _ w5' fun _ z => nomatch z)
    replace W := (W.ext e6 u6).same s6
    refine ⟨le_line (n := 2) (by decide), fun l106 nl106 => ?_⟩
    have apl106 := np W.pen nl106
    have sx : Same B6 (upd B6 l106 (.lst [.ref r5, .ref r6])) := same_new nl106
    replace w1' := sx _ _ w1'
    replace w2' := sx _ _ w2'
    replace fl102 := sx _ _ fl102
    replace w3' := sx _ _ w3'
    replace w4' := sx _ _ w4'
    replace fl104 := sx _ _ fl104
    replace fSl104 := sx _ _ fSl104
    replace w5' := sx _ _ w5'
    replace w6' := sx _ _ w6'
    replace W := W.same sx
    have fl106 : (upd B6 l106 (.lst [.ref r5, .ref r6])) l106 = some (.lst [.ref r5, .ref r6]) := upd_same
    clear sx
    revert w1' w2' fl102 w3' w4' fl104 fSl104 w5' w6' W fl106
    generalize upd B6 l106 (.lst [.ref r5, .ref r6]) = Xl106
    intro w1' w2' fl102 w3' w4' fl104 fSl104 w5' w6' W fl106
    refine ⟨Sl104, l106, _, _, rfl, rfl, fSl104, fl106, le_line (n := 6) (by decide), fun Sl106 nSl106 => ?_⟩
    have apSl106 := np W.pen nSl106
    have sx : Same Xl106 (upd Xl106 Sl106 (.lst ([.ref r1, .ref r2, .ref r3, .ref r4] ++ [.ref r5, .ref r6]))) := same_new nSl106
    replace w1' := sx _ _ w1'
    replace w2' := sx _ _ w2'
    replace fl102 := sx _ _ fl102
    replace w3' := sx _ _ w3'
    replace w4' := sx _ _ w4'
    replace fl104 := sx _ _ fl104
    replace fSl104 := sx _ _ fSl104
    replace w5' := sx _ _ w5'
    replace w6' := sx _ _ w6'
    replace fl106 := sx _ _ fl106
    replace W := W.same sx
    have fSl106 : (upd Xl106 Sl106 (.lst ([.ref r1, .ref r2, .ref r3, .ref r4] ++ [.ref r5, .ref r6]))) Sl106 = some (.lst [.ref r1, .ref r2, .ref r3, .ref r4, .ref r5, .ref r6]) := upd_same
    clear sx
    revert w1' w2' fl102 w3' w4' fl104 fSl104 w5' w6' fl106 W fSl106
    generalize upd Xl106 Sl106 (.lst ([.ref r1, .ref r2, .ref r3, .ref r4] ++ [.ref r5, .ref r6])) = XSl106
    intro w1' w2' fl102 w3' w4' fl104 fSl104 w5' w6' fl106 W fSl106
    refine ⟨_, rfl, W.tabs, fun A7 e7 u7 t7 m7 => ⟨_, rfl, _, rfl, _, rfl, lam_skin m7 (kz _) (kn _) fun H' s => bad_made hg (by omega) (BadSm.bad hN ((W.ext e7 u7).same s).sv) (eh_skin (Told.same (fun B7 r7 s7 o7 w7 => ?_) s))⟩⟩
    have w7' : B7 r7 = some (.tup [.str "skin", .str "seams"]) := w7
    replace w1' := s7 _ _ (e7 _ _ w1' fun _ z => nomatch z)
    replace w2' := s7 _ _ (e7 _ _ w2' fun _ z => nomatch z)
    replace fl102 := s7 _ _ (e7 _ _ fl102 fun _ z => nomatch z)
    replace w3' := s7 _ _ (e7 _ _ w3' fun _ z => nomatch z)
    replace w4' := s7 _ _ (e7 _ _ w4' fun _ z => nomatch z)
    replace fl104 := s7 _ _ (e7 _ _ fl104 fun _ z => nomatch z)
    replace fSl104 := s7 _ _ (e7 _ _ fSl104 fun _ z => nomatch z)
    replace w5' := s7 _ _ (e7 _ _ w5' fun _ z => nomatch z)
    replace w6' := s7 _ _ (e7 _ _ w6' fun _ z => nomatch z)
    replace fl106 := s7 _ _ (e7 _ _ fl106 fun _ z => nomatch z)
    replace fSl106 := s7 _ _ (e7 _ _ fSl106 fun _ z => nomatch z)
    replace W := (W.ext e7 u7).same s7
    refine ⟨W.tabs, fun A8 e8 u8 t8 m8 => ⟨_, rfl, _, rfl, ?_⟩⟩
    intro x0 dx0 nx0 nd0 ne0
    refine ⟨x0, dx0, _, _, _, .str, .int, rfl, upd_same, True.intro, True.intro, .made z n (dflA K) [] [] rfl hg rfl (by omega) rfl (.inr (.inr ⟨rfl, rfl⟩)) seams_nil (Nat.zero_le _) (fun p hp => by cases hp) (fun t c => by cases c) (fun _ c => absurd c (by omega)) fun _ _ G kk hs => ⟨rfl, ?_⟩⟩
    have s : Same A8 G := (same_new m8).trans (same_made nx0 nd0 ne0 kk)
    obtain ⟨dx, st, mt, ft, us, qs, hx⟩ := hs
    obtain ⟨kk, hk1, hk2⟩ := BadSm.bad hN ((W.ext e8 u8).same s).sv
    refine ⟨x0, dx, _, rfl, hx.ins, rfl, _, rfl, x0, dx, st, mt, ft, us, z, n, [], qs, sv, kk, rfl, hx, hg, by omega, by omega, hk1, .inl ⟨hk2, eh_skin (Told.same (fun B8 r8 s8 o8 w8 => ?_) s)⟩⟩
    have w8' : B8 r8 = some (.tup [.str "skin", .str "seams"]) := w8
    replace w1' := s8 _ _ (e8 _ _ w1' fun _ z => nomatch z)
    replace w2' := s8 _ _ (e8 _ _ w2' fun _ z => nomatch z)
    replace fl102 := s8 _ _ (e8 _ _ fl102 fun _ z => nomatch z)
    replace w3' := s8 _ _ (e8 _ _ w3' fun _ z => nomatch z)
    replace w4' := s8 _ _ (e8 _ _ w4' fun _ z => nomatch z)
    replace fl104 := s8 _ _ (e8 _ _ fl104 fun _ z => nomatch z)
    replace fSl104 := s8 _ _ (e8 _ _ fSl104 fun _ z => nomatch z)
    replace w5' := s8 _ _ (e8 _ _ w5' fun _ z => nomatch z)
    replace w6' := s8 _ _ (e8 _ _ w6' fun _ z => nomatch z)
    replace fl106 := s8 _ _ (e8 _ _ fl106 fun _ z => nomatch z)
    replace fSl106 := s8 _ _ (e8 _ _ fSl106 fun _ z => nomatch z)
    replace w7' := s8 _ _ (e8 _ _ w7' fun _ z => nomatch z)
    replace W := (W.ext e8 u8).same s8
    refine ⟨le_line (n := 2) (by decide), fun l108 nl108 => ?_⟩
    have apl108 := np W.pen nl108
    have sx : Same B8 (upd B8 l108 (.lst [.ref r7, .ref r8])) := same_new nl108
    replace w1' := sx _ _ w1'
    replace w2' := sx _ _ w2'
    replace fl102 := sx _ _ fl102
    replace w3' := sx _ _ w3'
    replace w4' := sx _ _ w4'
    replace fl104 := sx _ _ fl104
    replace fSl104 := sx _ _ fSl104
    replace w5' := sx _ _ w5'
    replace w6' := sx _ _ w6'
    replace fl106 := sx _ _ fl106
    replace fSl106 := sx _ _ fSl106
    replace w7' := sx _ _ w7'
    replace w8' := sx _ _ w8'
    replace W := W.same sx
    have fl108 : (upd B8 l108 (.lst [.ref r7, .ref r8])) l108 = some (.lst [.ref r7, .ref r8]) := upd_same
    clear sx
    revert w1' w2' fl102 w3' w4' fl104 fSl104 w5' w6' fl106 fSl106 w7' w8' W fl108
    generalize upd B8 l108 (.lst [.ref r7, .ref r8]) = Xl108
    intro w1' w2' fl102 w3' w4' fl104 fSl104 w5' w6' fl106 fSl106 w7' w8' W fl108
    refine ⟨Sl106, l108, _, _, rfl, rfl, fSl106, fl108, le_line (n := 8) (by decide), fun Sl108 nSl108 => ?_⟩
    have apSl108 := np W.pen nSl108
    have sx : Same Xl108 (upd Xl108 Sl108 (.lst ([.ref r1, .ref r2, .ref r3, .ref r4, .ref r5, .ref r6] ++ [.ref r7, .ref r8]))) := same_new nSl108
    replace w1' := sx _ _ w1'
    replace w2' := sx _ _ w2'
    replace fl102 := sx _ _ fl102
    replace w3' := sx _ _ w3'
    replace w4' := sx _ _ w4'
    replace fl104 := sx _ _ fl104
    replace fSl104 := sx _ _ fSl104
    replace w5' := sx _ _ w5'
    replace w6' := sx _ _ w6'
    replace fl106 := sx _ _ fl106
    replace fSl106 := sx _ _ fSl106
    replace w7' := sx _ _ w7'
    replace w8' := sx _ _ w8'
    replace fl108 := sx _ _ fl108
    replace W := W.same sx
    have fSl108 : (upd Xl108 Sl108 (.lst ([.ref r1, .ref r2, .ref r3, .ref r4, .ref r5, .ref r6] ++ [.ref r7, .ref r8]))) Sl108 = some (.lst [.ref r1, .ref r2, .ref r3, .ref r4, .ref r5, .ref r6, .ref r7, .ref r8]) := upd_same
    clear sx
    revert w1' w2' fl102 w3' w4' fl104 fSl104 w5' w6' fl106 fSl106 w7' w8' fl108 W fSl108
    generalize upd Xl108 Sl108 (.lst ([.ref r1, .ref r2, .ref r3, .ref r4, .ref r5, .ref r6] ++ [.ref r7, .ref r8])) = XSl108
    intro w1' w2' fl102 w3' w4' fl104 fSl104 w5' w6' fl106 fSl106 w7' w8' fl108 W fSl108
    refine ⟨le_line (n := 2) (by decide), fun d1 nd1 => ?_⟩
    have sx : Same XSl108 (upd XSl108 d1 (.tup [.str "kind", .str "kind"])) := same_new nd1
    replace w1' := sx _ _ w1'
    replace w2' := sx _ _ w2'
    replace fl102 := sx _ _ fl102
    replace w3' := sx _ _ w3'
    replace w4' := sx _ _ w4'
    replace fl104 := sx _ _ fl104
    replace fSl104 := sx _ _ fSl104
    replace w5' := sx _ _ w5'
    replace w6' := sx _ _ w6'
    replace fl106 := sx _ _ fl106
    replace fSl106 := sx _ _ fSl106
    replace w7' := sx _ _ w7'
    replace w8' := sx _ _ w8'
    replace fl108 := sx _ _ fl108
    replace fSl108 := sx _ _ fSl108
    replace W := W.same sx
    have fd1 : (upd XSl108 d1 (.tup [.str "kind", .str "kind"])) d1 = some (.tup [.str "kind", .str "kind"]) := upd_same
    clear sx
    revert w1' w2' fl102 w3' w4' fl104 fSl104 w5' w6' fl106 fSl106 w7' w8' fl108 fSl108 W fd1
    generalize upd XSl108 d1 (.tup [.str "kind", .str "kind"]) = Xd1
    intro w1' w2' fl102 w3' w4' fl104 fSl104 w5' w6' fl106 fSl106 w7' w8' fl108 fSl108 W fd1
    refine ⟨le_line (n := 1) (by decide), fun e1 ne1 => ?_⟩
    have sx : Same Xd1 (upd Xd1 e1 (.lst [.ref d1])) := same_new ne1
    replace w1' := sx _ _ w1'
    replace w2' := sx _ _ w2'
    replace fl102 := sx _ _ fl102
    replace w3' := sx _ _ w3'
    replace w4' := sx _ _ w4'
    replace fl104 := sx _ _ fl104
    replace fSl104 := sx _ _ fSl104
    replace w5' := sx _ _ w5'
    replace w6' := sx _ _ w6'
    replace fl106 := sx _ _ fl106
    replace fSl106 := sx _ _ fSl106
    replace w7' := sx _ _ w7'
    replace w8' := sx _ _ w8'
    replace fl108 := sx _ _ fl108
    replace fSl108 := sx _ _ fSl108
    replace fd1 := sx _ _ fd1
    replace W := W.same sx
    have fe1 : (upd Xd1 e1 (.lst [.ref d1])) e1 = some (.lst [.ref d1]) := upd_same
    clear sx
    revert w1' w2' fl102 w3' w4' fl104 fSl104 w5' w6' fl106 fSl106 w7' w8' fl108 fSl108 fd1 W fe1
    generalize upd Xd1 e1 (.lst [.ref d1]) = Xe1
    intro w1' w2' fl102 w3' w4' fl104 fSl104 w5' w6' fl106 fSl106 w7' w8' fl108 fSl108 fd1 W fe1
    refine ⟨e1, 4, _, rfl, rfl, fe1, by decide, by decide, le_line (n := 4) (by decide), fun g1 ng1 => ?_⟩
    have sx : Same Xe1 (upd Xe1 g1 (.lst (List.replicate (Int.toNat 4) [.ref d1]).flatten)) := same_new ng1
    replace w1' := sx _ _ w1'
    replace w2' := sx _ _ w2'
    replace fl102 := sx _ _ fl102
    replace w3' := sx _ _ w3'
    replace w4' := sx _ _ w4'
    replace fl104 := sx _ _ fl104
    replace fSl104 := sx _ _ fSl104
    replace w5' := sx _ _ w5'
    replace w6' := sx _ _ w6'
    replace fl106 := sx _ _ fl106
    replace fSl106 := sx _ _ fSl106
    replace w7' := sx _ _ w7'
    replace w8' := sx _ _ w8'
    replace fl108 := sx _ _ fl108
    replace fSl108 := sx _ _ fSl108
    replace fd1 := sx _ _ fd1
    replace fe1 := sx _ _ fe1
    replace W := W.same sx
    have fg1 : (upd Xe1 g1 (.lst (List.replicate (Int.toNat 4) [.ref d1]).flatten)) g1 = some (.lst [.ref d1, .ref d1, .ref d1, .ref d1]) := upd_same
    clear sx
    revert w1' w2' fl102 w3' w4' fl104 fSl104 w5' w6' fl106 fSl106 w7' w8' fl108 fSl108 fd1 fe1 W fg1
    generalize upd Xe1 g1 (.lst (List.replicate (Int.toNat 4) [.ref d1]).flatten) = Xg1
    intro w1' w2' fl102 w3' w4' fl104 fSl104 w5' w6' fl106 fSl106 w7' w8' fl108 fSl108 fd1 fe1 W fg1
    refine ⟨le_line (n := 2) (by decide), fun d2 nd2 => ?_⟩
    have sx : Same Xg1 (upd Xg1 d2 (.tup [.str "skin", .str "faces"])) := same_new nd2
    replace w1' := sx _ _ w1'
    replace w2' := sx _ _ w2'
    replace fl102 := sx _ _ fl102
    replace w3' := sx _ _ w3'
    replace w4' := sx _ _ w4'
    replace fl104 := sx _ _ fl104
    replace fSl104 := sx _ _ fSl104
    replace w5' := sx _ _ w5'
    replace w6' := sx _ _ w6'
    replace fl106 := sx _ _ fl106
    replace fSl106 := sx _ _ fSl106
    replace w7' := sx _ _ w7'
    replace w8' := sx _ _ w8'
    replace fl108 := sx _ _ fl108
    replace fSl108 := sx _ _ fSl108
    replace fd1 := sx _ _ fd1
    replace fe1 := sx _ _ fe1
    replace fg1 := sx _ _ fg1
    replace W := W.same sx
    have fd2 : (upd Xg1 d2 (.tup [.str "skin", .str "faces"])) d2 = some (.tup [.str "skin", .str "faces"]) := upd_same
    clear sx
    revert w1' w2' fl102 w3' w4' fl104 fSl104 w5' w6' fl106 fSl106 w7' w8' fl108 fSl108 fd1 fe1 fg1 W fd2
    generalize upd Xg1 d2 (.tup [.str "skin", .str "faces"]) = Xd2
    intro w1' w2' fl102 w3' w4' fl104 fSl104 w5' w6' fl106 fSl106 w7' w8' fl108 fSl108 fd1 fe1 fg1 W fd2
    refine ⟨le_line (n := 1) (by decide), fun e2 ne2 => ?_⟩
    have sx : Same Xd2 (upd Xd2 e2 (.lst [.ref d2])) := same_new ne2
    replace w1' := sx _ _ w1'
    replace w2' := sx _ _ w2'
    replace fl102 := sx _ _ fl102
    replace w3' := sx _ _ w3'
    replace w4' := sx _ _ w4'
    replace fl104 := sx _ _ fl104
    replace fSl104 := sx _ _ fSl104
    replace w5' := sx _ _ w5'
    replace w6' := sx _ _ w6'
    replace fl106 := sx _ _ fl106
    replace fSl106 := sx _ _ fSl106
    replace w7' := sx _ _ w7'
    replace w8' := sx _ _ w8'
    replace fl108 := sx _ _ fl108
    replace fSl108 := sx _ _ fSl108
    replace fd1 := sx _ _ fd1
    replace fe1 := sx _ _ fe1
    replace fg1 := sx _ _ fg1
    replace fd2 := sx _ _ fd2
    replace W := W.same sx
    have fe2 : (upd Xd2 e2 (.lst [.ref d2])) e2 = some (.lst [.ref d2]) := upd_same
    clear sx
    revert w1' w2' fl102 w3' w4' fl104 fSl104 w5' w6' fl106 fSl106 w7' w8' fl108 fSl108 fd1 fe1 fg1 fd2 W fe2
    generalize upd Xd2 e2 (.lst [.ref d2]) = Xe2
    intro w1' w2' fl102 w3' w4' fl104 fSl104 w5' w6' fl106 fSl106 w7' w8' fl108 fSl108 fd1 fe1 fg1 fd2 W fe2
    refine ⟨e2, 2, _, rfl, rfl, fe2, by decide, by decide, le_line (n := 2) (by decide), fun g2 ng2 => ?_⟩
    have sx : Same Xe2 (upd Xe2 g2 (.lst (List.replicate (Int.toNat 2) [.ref d2]).flatten)) := same_new ng2
    replace w1' := sx _ _ w1'
    replace w2' := sx _ _ w2'
    replace fl102 := sx _ _ fl102
    replace w3' := sx _ _ w3'
    replace w4' := sx _ _ w4'
    replace fl104 := sx _ _ fl104
    replace fSl104 := sx _ _ fSl104
    replace w5' := sx _ _ w5'
    replace w6' := sx _ _ w6'
    replace fl106 := sx _ _ fl106
    replace fSl106 := sx _ _ fSl106
    replace w7' := sx _ _ w7'
    replace w8' := sx _ _ w8'
    replace fl108 := sx _ _ fl108
    replace fSl108 := sx _ _ fSl108
    replace fd1 := sx _ _ fd1
    replace fe1 := sx _ _ fe1
    replace fg1 := sx _ _ fg1
    replace fd2 := sx _ _ fd2
    replace fe2 := sx _ _ fe2
    replace W := W.same sx
    have fg2 : (upd Xe2 g2 (.lst (List.replicate (Int.toNat 2) [.ref d2]).flatten)) g2 = some (.lst [.ref d2, .ref d2]) := upd_same
    clear sx
    revert w1' w2' fl102 w3' w4' fl104 fSl104 w5' w6' fl106 fSl106 w7' w8' fl108 fSl108 fd1 fe1 fg1 fd2 fe2 W fg2
    generalize upd Xe2 g2 (.lst (List.replicate (Int.toNat 2) [.ref d2]).flatten) = Xg2
    intro w1' w2' fl102 w3' w4' fl104 fSl104 w5' w6' fl106 fSl106 w7' w8' fl108 fSl108 fd1 fe1 fg1 fd2 fe2 W fg2
    refine ⟨g1, g2, _, _, rfl, rfl, fg1, fg2, le_line (n := 6) (by decide), fun h1 nh1 => ?_⟩
    have sx : Same Xg2 (upd Xg2 h1 (.lst ([.ref d1, .ref d1, .ref d1, .ref d1] ++ [.ref d2, .ref d2]))) := same_new nh1
    replace w1' := sx _ _ w1'
    replace w2' := sx _ _ w2'
    replace fl102 := sx _ _ fl102
    replace w3' := sx _ _ w3'
    replace w4' := sx _ _ w4'
    replace fl104 := sx _ _ fl104
    replace fSl104 := sx _ _ fSl104
    replace w5' := sx _ _ w5'
    replace w6' := sx _ _ w6'
    replace fl106 := sx _ _ fl106
    replace fSl106 := sx _ _ fSl106
    replace w7' := sx _ _ w7'
    replace w8' := sx _ _ w8'
    replace fl108 := sx _ _ fl108
    replace fSl108 := sx _ _ fSl108
    replace fd1 := sx _ _ fd1
    replace fe1 := sx _ _ fe1
    replace fg1 := sx _ _ fg1
    replace fd2 := sx _ _ fd2
    replace fe2 := sx _ _ fe2
    replace fg2 := sx _ _ fg2
    replace W := W.same sx
    have fh1 : (upd Xg2 h1 (.lst ([.ref d1, .ref d1, .ref d1, .ref d1] ++ [.ref d2, .ref d2]))) h1 = some (.lst [.ref d1, .ref d1, .ref d1, .ref d1, .ref d2, .ref d2]) := upd_same
    clear sx
    revert w1' w2' fl102 w3' w4' fl104 fSl104 w5' w6' fl106 fSl106 w7' w8' fl108 fSl108 fd1 fe1 fg1 fd2 fe2 fg2 W fh1
    generalize upd Xg2 h1 (.lst ([.ref d1, .ref d1, .ref d1, .ref d1] ++ [.ref d2, .ref d2])) = Xh1
    intro w1' w2' fl102 w3' w4' fl104 fSl104 w5' w6' fl106 fSl106 w7' w8' fl108 fSl108 fd1 fe1 fg1 fd2 fe2 fg2 W fh1
    refine ⟨le_line (n := 2) (by decide), fun d3 nd3 => ?_⟩
    have sx : Same Xh1 (upd Xh1 d3 (.tup [.str "skin", .str "seams"])) := same_new nd3
    replace w1' := sx _ _ w1'
    replace w2' := sx _ _ w2'
    replace fl102 := sx _ _ fl102
    replace w3' := sx _ _ w3'
    replace w4' := sx _ _ w4'
    replace fl104 := sx _ _ fl104
    replace fSl104 := sx _ _ fSl104
    replace w5' := sx _ _ w5'
    replace w6' := sx _ _ w6'
    replace fl106 := sx _ _ fl106
    replace fSl106 := sx _ _ fSl106
    replace w7' := sx _ _ w7'
    replace w8' := sx _ _ w8'
    replace fl108 := sx _ _ fl108
    replace fSl108 := sx _ _ fSl108
    replace fd1 := sx _ _ fd1
    replace fe1 := sx _ _ fe1
    replace fg1 := sx _ _ fg1
    replace fd2 := sx _ _ fd2
    replace fe2 := sx _ _ fe2
    replace fg2 := sx _ _ fg2
    replace fh1 := sx _ _ fh1
    replace W := W.same sx
    have fd3 : (upd Xh1 d3 (.tup [.str "skin", .str "seams"])) d3 = some (.tup [.str "skin", .str "seams"]) := upd_same
    clear sx
    revert w1' w2' fl102 w3' w4' fl104 fSl104 w5' w6' fl106 fSl106 w7' w8' fl108 fSl108 fd1 fe1 fg1 fd2 fe2 fg2 fh1 W fd3
    generalize upd Xh1 d3 (.tup [.str "skin", .str "seams"]) = Xd3
    intro w1' w2' fl102 w3' w4' fl104 fSl104 w5' w6' fl106 fSl106 w7' w8' fl108 fSl108 fd1 fe1 fg1 fd2 fe2 fg2 fh1 W fd3
    refine ⟨le_line (n := 1) (by decide), fun e3 ne3 => ?_⟩
    have sx : Same Xd3 (upd Xd3 e3 (.lst [.ref d3])) := same_new ne3
    replace w1' := sx _ _ w1'
    replace w2' := sx _ _ w2'
    replace fl102 := sx _ _ fl102
    replace w3' := sx _ _ w3'
    replace w4' := sx _ _ w4'
    replace fl104 := sx _ _ fl104
    replace fSl104 := sx _ _ fSl104
    replace w5' := sx _ _ w5'
    replace w6' := sx _ _ w6'
    replace fl106 := sx _ _ fl106
    replace fSl106 := sx _ _ fSl106
    replace w7' := sx _ _ w7'
    replace w8' := sx _ _ w8'
    replace fl108 := sx _ _ fl108
    replace fSl108 := sx _ _ fSl108
    replace fd1 := sx _ _ fd1
    replace fe1 := sx _ _ fe1
    replace fg1 := sx _ _ fg1
    replace fd2 := sx _ _ fd2
    replace fe2 := sx _ _ fe2
    replace fg2 := sx _ _ fg2
    replace fh1 := sx _ _ fh1
    replace fd3 := sx _ _ fd3
    replace W := W.same sx
    have fe3 : (upd Xd3 e3 (.lst [.ref d3])) e3 = some (.lst [.ref d3]) := upd_same
    clear sx
    revert w1' w2' fl102 w3' w4' fl104 fSl104 w5' w6' fl106 fSl106 w7' w8' fl108 fSl108 fd1 fe1 fg1 fd2 fe2 fg2 fh1 fd3 W fe3
    generalize upd Xd3 e3 (.lst [.ref d3]) = Xe3
    intro w1' w2' fl102 w3' w4' fl104 fSl104 w5' w6' fl106 fSl106 w7' w8' fl108 fSl108 fd1 fe1 fg1 fd2 fe2 fg2 fh1 fd3 W fe3
    refine ⟨e3, 2, _, rfl, rfl, fe3, by decide, by decide, le_line (n := 2) (by decide), fun g3 ng3 => ?_⟩
    have sx : Same Xe3 (upd Xe3 g3 (.lst (List.replicate (Int.toNat 2) [.ref d3]).flatten)) := same_new ng3
    replace w1' := sx _ _ w1'
    replace w2' := sx _ _ w2'
    replace fl102 := sx _ _ fl102
    replace w3' := sx _ _ w3'
    replace w4' := sx _ _ w4'
    replace fl104 := sx _ _ fl104
    replace fSl104 := sx _ _ fSl104
    replace w5' := sx _ _ w5'
    replace w6' := sx _ _ w6'
    replace fl106 := sx _ _ fl106
    replace fSl106 := sx _ _ fSl106
    replace w7' := sx _ _ w7'
    replace w8' := sx _ _ w8'
    replace fl108 := sx _ _ fl108
    replace fSl108 := sx _ _ fSl108
    replace fd1 := sx _ _ fd1
    replace fe1 := sx _ _ fe1
    replace fg1 := sx _ _ fg1
    replace fd2 := sx _ _ fd2
    replace fe2 := sx _ _ fe2
    replace fg2 := sx _ _ fg2
    replace fh1 := sx _ _ fh1
    replace fd3 := sx _ _ fd3
    replace fe3 := sx _ _ fe3
    replace W := W.same sx
    have fg3 : (upd Xe3 g3 (.lst (List.replicate (Int.toNat 2) [.ref d3]).flatten)) g3 = some (.lst [.ref d3, .ref d3]) := upd_same
    clear sx
    revert w1' w2' fl102 w3' w4' fl104 fSl104 w5' w6' fl106 fSl106 w7' w8' fl108 fSl108 fd1 fe1 fg1 fd2 fe2 fg2 fh1 fd3 fe3 W fg3
    generalize upd Xe3 g3 (.lst (List.replicate (Int.toNat 2) [.ref d3]).flatten) = Xg3
    intro w1' w2' fl102 w3' w4' fl104 fSl104 w5' w6' fl106 fSl106 w7' w8' fl108 fSl108 fd1 fe1 fg1 fd2 fe2 fg2 fh1 fd3 fe3 W fg3
    refine ⟨h1, g3, _, _, rfl, rfl, fh1, fg3, le_line (n := 8) (by decide), fun h2 nh2 => ?_⟩
    have sx : Same Xg3 (upd Xg3 h2 (.lst ([.ref d1, .ref d1, .ref d1, .ref d1, .ref d2, .ref d2] ++ [.ref d3, .ref d3]))) := same_new nh2
    replace w1' := sx _ _ w1'
    replace w2' := sx _ _ w2'
    replace fl102 := sx _ _ fl102
    replace w3' := sx _ _ w3'
    replace w4' := sx _ _ w4'
    replace fl104 := sx _ _ fl104
    replace fSl104 := sx _ _ fSl104
    replace w5' := sx _ _ w5'
    replace w6' := sx _ _ w6'
    replace fl106 := sx _ _ fl106
    replace fSl106 := sx _ _ fSl106
    replace w7' := sx _ _ w7'
    replace w8' := sx _ _ w8'
    replace fl108 := sx _ _ fl108
    replace fSl108 := sx _ _ fSl108
    replace fd1 := sx _ _ fd1
    replace fe1 := sx _ _ fe1
    replace fg1 := sx _ _ fg1
    replace fd2 := sx _ _ fd2
    replace fe2 := sx _ _ fe2
    replace fg2 := sx _ _ fg2
    replace fh1 := sx _ _ fh1
    replace fd3 := sx _ _ fd3
    replace fe3 := sx _ _ fe3
    replace fg3 := sx _ _ fg3
    replace W := W.same sx
    have fh2 : (upd Xg3 h2 (.lst ([.ref d1, .ref d1, .ref d1, .ref d1, .ref d2, .ref d2] ++ [.ref d3, .ref d3]))) h2 = some (.lst [.ref d1, .ref d1, .ref d1, .ref d1, .ref d2, .ref d2, .ref d3, .ref d3]) := upd_same
    clear sx
    revert w1' w2' fl102 w3' w4' fl104 fSl104 w5' w6' fl106 fSl106 w7' w8' fl108 fSl108 fd1 fe1 fg1 fd2 fe2 fg2 fh1 fd3 fe3 fg3 W fh2
    generalize upd Xg3 h2 (.lst ([.ref d1, .ref d1, .ref d1, .ref d1, .ref d2, .ref d2] ++ [.ref d3, .ref d3])) = Xh2
    intro w1' w2' fl102 w3' w4' fl104 fSl104 w5' w6' fl106 fSl106 w7' w8' fl108 fSl108 fd1 fe1 fg1 fd2 fe2 fg2 fh1 fd3 fe3 fg3 W fh2
    -- KINDS
    refine ⟨le_line (n := 2) (by decide), fun kt nkt => ?_⟩
    have sx : Same Xh2 (upd Xh2 kt (.tup [.str "square", .str "triangle"])) := same_new nkt
    replace w1' := sx _ _ w1'
    replace w2' := sx _ _ w2'
    replace fl102 := sx _ _ fl102
    replace w3' := sx _ _ w3'
    replace w4' := sx _ _ w4'
    replace fl104 := sx _ _ fl104
    replace fSl104 := sx _ _ fSl104
    replace w5' := sx _ _ w5'
    replace w6' := sx _ _ w6'
    replace fl106 := sx _ _ fl106
    replace fSl106 := sx _ _ fSl106
    replace w7' := sx _ _ w7'
    replace w8' := sx _ _ w8'
    replace fl108 := sx _ _ fl108
    replace fSl108 := sx _ _ fSl108
    replace fd1 := sx _ _ fd1
    replace fe1 := sx _ _ fe1
    replace fg1 := sx _ _ fg1
    replace fd2 := sx _ _ fd2
    replace fe2 := sx _ _ fe2
    replace fg2 := sx _ _ fg2
    replace fh1 := sx _ _ fh1
    replace fd3 := sx _ _ fd3
    replace fe3 := sx _ _ fe3
    replace fg3 := sx _ _ fg3
    replace fh2 := sx _ _ fh2
    replace W := W.same sx
    have fkt : (upd Xh2 kt (.tup [.str "square", .str "triangle"])) kt = some (.tup [.str "square", .str "triangle"]) := upd_same
    clear sx
    revert w1' w2' fl102 w3' w4' fl104 fSl104 w5' w6' fl106 fSl106 w7' w8' fl108 fSl108 fd1 fe1 fg1 fd2 fe2 fg2 fh1 fd3 fe3 fg3 fh2 W fkt
    generalize upd Xh2 kt (.tup [.str "square", .str "triangle"]) = Xkt
    intro w1' w2' fl102 w3' w4' fl104 fSl104 w5' w6' fl106 fSl106 w7' w8' fl108 fSl108 fd1 fe1 fg1 fd2 fe2 fg2 fh1 fd3 fe3 fg3 fh2 W fkt
    refine ⟨.tuple [.str "square", .str "triangle"], .tuple [.str "square", .str "triangle"], .tup (Tx.kinds _) (.cons (.str _) (.cons (.str _) .nil)), dp2 fkt, by decide +kernel, by decide +kernel, _, rfl, ?_⟩
    rw [show (!PyData.eqv (.tuple [.str "square", .str "triangle"]) (.tuple [.str "square", .str "triangle"])) = false by decide +kernel]
    refine iteF ?_
    have kty : TyX K Xkt (.ref (He.ga K "KINDS")) (.type "tuple") := by
      rcases Tx.kinds (fun _ => none) with (c | ⟨o, c⟩) | ⟨o, its, m, c, d, _⟩
      · cases c
      · cases c
      · exact .kTuple c d
    refine ⟨_, _, _, _, true, rfl, .ty "tuple", kty, kit_ty (by decide +kernel), _, rfl, ?_⟩
    refine iteF ?_
    refine ⟨_, rfl, _, rfl, .list [.tuple [.str "kind", .str "kind"], .tuple [.str "kind", .str "kind"], .tuple [.str "kind", .str "kind"], .tuple [.str "kind", .str "kind"], .tuple [.str "skin", .str "faces"], .tuple [.str "skin", .str "faces"], .tuple [.str "skin", .str "seams"], .tuple [.str "skin", .str "seams"]], .list [.tuple [.str "kind", .str "kind"], .tuple [.str "kind", .str "kind"], .tuple [.str "kind", .str "kind"], .tuple [.str "kind", .str "kind"], .tuple [.str "skin", .str "faces"], .tuple [.str "skin", .str "faces"], .tuple [.str "skin", .str "seams"], .tuple [.str "skin", .str "seams"]],
      .lst (SqL.of fSl108) (.cons (dp2 w1') (.cons (dp2 w2') (.cons (dp2 w3') (.cons (dp2 w4') (.cons (dp2 w5') (.cons (dp2 w6') (.cons (dp2 w7') (.cons (dp2 w8') .nil)))))))), .lst (SqL.of fh2) (.cons (dp2 fd1) (.cons (dp2 fd1) (.cons (dp2 fd1) (.cons (dp2 fd1) (.cons (dp2 fd2) (.cons (dp2 fd2) (.cons (dp2 fd3) (.cons (dp2 fd3) .nil)))))))), by decide +kernel, by decide +kernel, _, rfl, ?_⟩
    refine ite2 (fun _ => ?_) (fun e => absurd (by decide +kernel) e)
    refine ⟨_, rfl, _, .str, rfl, True.intro, fun z' e' _ => ?_, fun c => absurd c (by rw [hg]; decide)⟩
    cases e'
    refine ⟨_, rfl, _, rfl, _, _, rfl, rfl, ⟨by omega, by omega⟩, rfl, _, rfl, ?_⟩
    have ediv : (n * turnOf z).fdiv n = turnOf z := by
      rw [Int.mul_comm]
      exact Int.mul_fdiv_cancel _ (by omega)
    refine ite2 (fun _ => ?_) (fun e => absurd (decide_eq_true (by show V.int (turnOf z) = V.int ((n * turnOf z).fdiv n); rw [ediv])) e)
    refine ⟨_, rfl, _, .str, rfl, True.intro, fun z' e' _ => ?_, fun c => absurd c (by rw [hg]; decide)⟩
    cases e'
    have fin : Q (.bl true) Xkt := q _ W.fr (W.pen.less (by omega)) W.tabs
    refine ⟨_, rfl, rfl, _, rfl, ?_⟩
    rw [str_sq]
    unfold fullOf
    refine ite2 (fun e => ?_) (fun e => ?_)
    · rw [if_pos (of_decide_eq_true e)]
      exact ⟨rfl, fin⟩
    · rw [if_neg fun c => e (decide_eq_true c)]
      exact ⟨rfl, fin⟩
theorem has_law_told_right (Tx : Txt K mg) (c : He.SaysX fa fn [] tf ex w hh K) (X : K.In hh) (GG : hh.Ns mainGlobals mg) (tb : LamX.TabB base mg (He.codeOf K ("_law_told_right", none)) (tabT K "_law_told_right")) (h_heard : HasH K mg) (h_law_pick : Has P w K mg base "_law_pick" 2 ["_law_pen_here", "_law_some"] (sp_law_pick K)) (h_law_odd_seams : Has P w K mg base "_law_odd_seams" 3 ["_law_pen_here", "_law_sides"] (sp_law_odd_seams K)) (h_Skin_init : HasI P w K mg base 5 (sp_Skin_init K)) (h_sides_of : HasX P w K mg base "sides_of" 4 ["kind"] (sp_sides_of K)) (h_full_of : HasX P w K mg base "full_of" 4 ["kind"] (sp_full_of K)) (h_Skin_with_seams : HasM P w K mg base (L2.CX P w) "Skin" "with_seams" 7 ["self", "seams"] (sp_Skin_with_seams K)) (h_full_of_kw : HasKX P w K mg base "full_of" 4 ["kind"] ["kind"] gv1 (sp_full_of K)) : Has P w K mg base "_law_told_right" 10 ["_law_pen_here", "_law_kind", "_law_faces", "_law_sides"] (sp_law_told_right K) := by
  obtain ⟨fd, F⟩ := c.t.d.def_ 46 (d := d_law_told_right) rfl
  exact ⟨_, fd, ok_law_told_right F Tx tb h_heard h_law_pick h_law_odd_seams h_Skin_init h_sides_of h_full_of h_Skin_with_seams h_full_of_kw, He.glo_ok X GG (c.t.d.fact 38 (f := .glo "_law_told_right") rfl), F.kp, F.bindsN fun _ _ _ _ _ _ us hl => match us, hl with | [_, _, _, _], _ => rfl⟩

end
end K05

namespace K05
open PySem PySem.Spec PyProof.Rows L2 Vf LamX
section
variable {hh : Heap} {P : Program} {w : World} {K : PySem.W.Frag} {mg : Str → Option Value} {base : Heap}
/-! ### too many -/
theorem Seams.ext {H H' : Hp} {ts : List Addr} {ps : List (Int × Int)} (h : Seams H ts ps) (e : ExtN H H') : Seams H' ts ps := ⟨h.len, fun i t p h1 h2 => e _ _ (h.at_ i t p h1 h2) fun _ z => nomatch z⟩
theorem SkinIs.ext {H H' : Hp} {x dx st mt ft : Addr} {us : List Addr} {z : Str} {n : Int} {ps qs : List (Int × Int)} (h : SkinIs K H x z n ps dx st mt ft us qs) (e : ExtN H H') : SkinIs K H' x z n ps dx st mt ft us qs :=
  ⟨⟨h.nb, e _ _ h.ins (fun _ z => nomatch z), e _ _ h.nexts (fun _ z => nomatch z), e _ _ h.backs (fun _ z => nomatch z)⟩, e _ _ h.seams (fun _ z => nomatch z), h.sts.ext e, h.perm, e _ _ h.mates (fun _ z => nomatch z), e _ _ h.free (fun _ z => nomatch z)⟩
structure Wb (K : PySem.W.Frag) (p c : Addr) (b : Nat) (H0 H : Hp) : Prop where
  pen : PenAt H p c b
  tabs : LamX.Tabs (TT0 K) H
  fr : Fr p H0 H
theorem Wb.ext {p c : Addr} {b : Nat} {H0 H H1 : Hp} (w : Wb K p c b H0 H) (e : ExtN H H1) (t : LamX.Tabs (TT0 K) H1) : Wb K p c b H0 H1 := ⟨penExt w.pen e, t, w.fr.trans (Fr.ext e)⟩
theorem Wb.same {p c : Addr} {b : Nat} {H0 H H1 : Hp} (w : Wb K p c b H0 H) (s : Same H H1) : Wb K p c b H0 H1 := ⟨w.pen.same s, tabs_same w.tabs s, w.fr.trans (Fr.same s)⟩
theorem Wb.kp {p c : Addr} {b d : Nat} {H0 H H1 : Hp} (w : Wb K p c b H0 H) (h : PenAt H1 p c d) (k : Kp p H H1) : Wb K p c d H0 H1 := by
  obtain ⟨xs, hx⟩ := w.pen.at
  exact ⟨h, tabs_kp w.tabs hx k, w.fr.trans (Fr.kp k)⟩
theorem seams_one {H : Hp} {T : Addr} {p : Int × Int} (h : H T = some (.tup [.int p.1, .int p.2])) : Seams H [T] [p] := ⟨rfl, fun i t q h1 h2 => by
  match i, h1, h2 with
  | 0, h1, h2 =>
    cases h1
    cases h2
    exact h
  | i + 1, h1, h2 => simp at h1⟩
theorem seams_two {H : Hp} {T U : Addr} {p r : Int × Int} (h : H T = some (.tup [.int p.1, .int p.2])) (g : H U = some (.tup [.int r.1, .int r.2])) : Seams H [T, U] [p, r] := ⟨rfl, fun i t q h1 h2 => by
  match i, h1, h2 with
  | 0, h1, h2 =>
    cases h1
    cases h2
    exact h
  | 1, h1, h2 =>
    cases h1
    cases h2
    exact g
  | i + 2, h1, h2 => simp at h1⟩
/-- Skin(kv, fv, sv) in a lambda, behind what is made for it -/
theorem lam_skinB {Ha Hb : Hp} {t0 : Addr} {C : VK} {kv fv sv : V} (s : Same Ha Hb) (ht : Hb t0 = some (.tup [])) (hk1 : ∃ k, KdV K Ha kv k) (hk2 : ∃ k, KdV K Ha fv k)
    (h : ∀ H', Same Hb H' → SkDo K (EH K C) H' kv fv sv fun _ _ _ => ∀ H'', Same Ha H'' → H'' t0 = some (.tup []) → C (.ref t0) H'') :
    ∀ x dx, Hb x = none → Hb dx = none → dx ≠ x → sp_Skin_init K [.ref x, kv, fv, sv] (upd (upd Hb dx (.own x)) x (.ins (He.ga K "Skin") dx [])) (fun v H2 => v = .non ∧ (fun (_ : V) H' => C (.ref t0) H') (.ref x) H2) (EH K C) := by
  intro x dx nx nd ne
  obtain ⟨k1, h1⟩ := hk1
  obtain ⟨k2, h2⟩ := hk2
  have s1 : Same Hb (upd (upd Hb dx (.own x)) x (.ins (He.ga K "Skin") dx [])) := (same_new (o := .own x) nd).trans (same_new (o := .ins (He.ga K "Skin") dx []) (by rw [upd_ne ne.symm]; exact nx))
  refine ⟨x, dx, kv, fv, sv, k1, k2, rfl, upd_same, h1.same (s.trans s1), h2.same (s.trans s1), ?_⟩
  have key : ∀ H', Kp x (upd (upd Hb dx (.own x)) x (.ins (He.ga K "Skin") dx [])) H' → Same Ha H' ∧ H' t0 = some (.tup []) := fun H' k => by
    have s2 := same_made nx nd ne k
    exact ⟨s.trans s2, s2 _ _ ht⟩
  cases h _ s1 with
  | kind g e => exact .kind g e
  | faces g b e => exact .faces g b e
  | seams z n k ez g en b hk e hh => exact .seams z n k ez g en b hk e hh
  | made z n a ts ps ez g en b es hb hs hl hok e1 e2 q => exact .made z n a ts ps ez g en b es hb hs hl hok e1 e2 fun ht h24 H' k _ => ⟨rfl, q ht h24 H' (key H' k).1 (key H' k).2⟩
/-- .. sv = [(i, j)], just made -/
theorem lam_row1 {Ha : Hp} {t0 T L : Addr} {C : VK} {kv fv : V} (p : Int × Int) (m0 : Ha t0 = none) (nT : upd Ha t0 (.tup []) T = none) (nL : upd (upd Ha t0 (.tup [])) T (.tup [.int p.1, .int p.2]) L = none) (hk1 : ∃ k, KdV K Ha kv k) (hk2 : ∃ k, KdV K Ha fv k)
    (h : ∀ H', Same Ha H' → H' L = some (.lst [.ref T]) → H' T = some (.tup [.int p.1, .int p.2]) → SkDo K (EH K C) H' kv fv (.ref L) fun _ _ _ => ∀ H'', Same Ha H'' → H'' t0 = some (.tup []) → C (.ref t0) H'') :
    ∀ x dx, upd (upd (upd Ha t0 (.tup [])) T (.tup [.int p.1, .int p.2])) L (.lst [.ref T]) x = none → upd (upd (upd Ha t0 (.tup [])) T (.tup [.int p.1, .int p.2])) L (.lst [.ref T]) dx = none → dx ≠ x →
      sp_Skin_init K [.ref x, kv, fv, .ref L] (upd (upd (upd (upd (upd Ha t0 (.tup [])) T (.tup [.int p.1, .int p.2])) L (.lst [.ref T])) dx (.own x)) x (.ins (He.ga K "Skin") dx [])) (fun v H2 => v = .non ∧ (fun (_ : V) H' => C (.ref t0) H') (.ref x) H2) (EH K C) := by
  have s2 : Same (upd Ha t0 (.tup [])) (upd (upd Ha t0 (.tup [])) T (.tup [.int p.1, .int p.2])) := same_new nT
  have s3 : Same (upd (upd Ha t0 (.tup [])) T (.tup [.int p.1, .int p.2])) (upd (upd (upd Ha t0 (.tup [])) T (.tup [.int p.1, .int p.2])) L (.lst [.ref T])) := same_new nL
  have s1 : Same Ha (upd Ha t0 (.tup [])) := same_new m0
  exact lam_skinB ((s1.trans s2).trans s3) (s3 _ _ (s2 _ _ upd_same)) hk1 hk2 fun H' s => h H' (((s1.trans s2).trans s3).trans s) (s _ _ upd_same) (s _ _ (s3 _ _ upd_same))
/-- .. of two pairs -/
theorem lam_row2 {Ha : Hp} {t0 T U L : Addr} {C : VK} {kv fv : V} (p r : Int × Int) (m0 : Ha t0 = none) (nT : upd Ha t0 (.tup []) T = none) (nU : upd (upd Ha t0 (.tup [])) T (.tup [.int p.1, .int p.2]) U = none)
    (nL : upd (upd (upd Ha t0 (.tup [])) T (.tup [.int p.1, .int p.2])) U (.tup [.int r.1, .int r.2]) L = none) (hk1 : ∃ k, KdV K Ha kv k) (hk2 : ∃ k, KdV K Ha fv k)
    (h : ∀ H', Same Ha H' → H' L = some (.lst [.ref T, .ref U]) → H' T = some (.tup [.int p.1, .int p.2]) → H' U = some (.tup [.int r.1, .int r.2]) → SkDo K (EH K C) H' kv fv (.ref L) fun _ _ _ => ∀ H'', Same Ha H'' → H'' t0 = some (.tup []) → C (.ref t0) H'') :
    ∀ x dx, upd (upd (upd (upd Ha t0 (.tup [])) T (.tup [.int p.1, .int p.2])) U (.tup [.int r.1, .int r.2])) L (.lst [.ref T, .ref U]) x = none → upd (upd (upd (upd Ha t0 (.tup [])) T (.tup [.int p.1, .int p.2])) U (.tup [.int r.1, .int r.2])) L (.lst [.ref T, .ref U]) dx = none → dx ≠ x →
      sp_Skin_init K [.ref x, kv, fv, .ref L] (upd (upd (upd (upd (upd (upd Ha t0 (.tup [])) T (.tup [.int p.1, .int p.2])) U (.tup [.int r.1, .int r.2])) L (.lst [.ref T, .ref U])) dx (.own x)) x (.ins (He.ga K "Skin") dx [])) (fun v H2 => v = .non ∧ (fun (_ : V) H' => C (.ref t0) H') (.ref x) H2) (EH K C) := by
  have s1 : Same Ha (upd Ha t0 (.tup [])) := same_new m0
  have s2 : Same (upd Ha t0 (.tup [])) (upd (upd Ha t0 (.tup [])) T (.tup [.int p.1, .int p.2])) := same_new nT
  have s3 : Same (upd (upd Ha t0 (.tup [])) T (.tup [.int p.1, .int p.2])) (upd (upd (upd Ha t0 (.tup [])) T (.tup [.int p.1, .int p.2])) U (.tup [.int r.1, .int r.2])) := same_new nU
  have s4 : Same (upd (upd (upd Ha t0 (.tup [])) T (.tup [.int p.1, .int p.2])) U (.tup [.int r.1, .int r.2])) (upd (upd (upd (upd Ha t0 (.tup [])) T (.tup [.int p.1, .int p.2])) U (.tup [.int r.1, .int r.2])) L (.lst [.ref T, .ref U])) := same_new nL
  exact lam_skinB (((s1.trans s2).trans s3).trans s4) (s4 _ _ (s3 _ _ (s2 _ _ upd_same))) hk1 hk2 fun H' s => h H' ((((s1.trans s2).trans s3).trans s4).trans s) (s _ _ upd_same) (s _ _ (s4 _ _ (s3 _ _ upd_same))) (s _ _ (s4 _ _ upd_same))
theorem mn_told {Q : VK} {H : Hp} (h : Told Q H [.str "many", .str "faces", .int 24]) : mnErr K (EH K Q) H := eh_many h
theorem tw_is {E : XK} {H : Hp} {l : List Int} {t t' : Int} (h : tw l = some t) (c : tw l = some t') (e : twErr K E H t) : twErr K E H t' := by
  rw [h] at c
  cases c
  exact e
theorem tw_two {i j : Int} (h : i ≠ j) : tw (flat2 [(i, j)]) = none := by
  show (if i ∈ ([] : List Int) then some i else if j ∈ [i] then some j else none) = none
  rw [if_neg (by simp), if_neg (by simp; exact fun e => h e.symm)]
theorem one_ms {N l d : Nat} (hl : l < N) (hd : d < N) (h : l ≠ d) : (msL [((l : Nat), (d : Nat))] N)[l]? = some (.int (d : Nat)) ∧ (msL [((l : Nat), (d : Nat))] N)[d]? = some (.int (l : Nat)) := by
  unfold msL
  show (msF (List.replicate N V.non) ((l : Nat), (d : Nat)))[l]? = _ ∧ (msF (List.replicate N V.non) ((l : Nat), (d : Nat)))[d]? = _
  unfold msF
  simp only [Int.toNat_natCast]
  constructor
  · rw [List.getElem?_set_ne (fun e => h e.symm), List.getElem?_set_self (by simpa using hl)]
  · rw [List.getElem?_set_self (by simpa using hd)]
theorem fr96 : ∀ d < 95, (frL [((95 : Nat), (d : Nat))] 96).length = 94 := by decide +kernel
theorem fr72 : ∀ d < 71, (frL [((71 : Nat), (d : Nat))] 72).length = 70 := by decide +kernel
def sp_law_many_right (K : PySem.W.Frag) : Sp := fun vs H Q _ => ∃ (p c : Addr) (b : Nat) (z : Str), vs = [.ref p, .str z] ∧ isGrid (.str z) = true ∧ PenAt H p c (b + 1) ∧ LamX.Tabs (TT0 K) H ∧ ∀ H', Fr p H H' → PenAt H' p c b → LamX.Tabs (TT0 K) H' → Q (.bl true) H'
theorem dp3 {H : Hp} {t : Addr} {x y : Str} {i : Int} (h : H t = some (.tup [.str x, .str y, .int i])) : Dp K H (.ref t) (.tuple [.str x, .str y, .int i]) := .tup (SqT.of h) (.cons (.str _) (.cons (.str _) (.cons (.int _) .nil)))
theorem dpi {H : Hp} {t : Addr} {x : Str} {i : Int} (h : H t = some (.tup [.str x, .int i])) : Dp K H (.ref t) (.tuple [.str x, .int i]) := .tup (SqT.of h) (.cons (.str _) (.cons (.int _) .nil))
theorem sc_law_many_right : FnScope ["_law_pen_here", "_law_kind", "_law_turn", "_law_last", "_law_most", "_law_heard_here"] ["_law_pen_here", "_law_kind"] (defScope s_law_many_right) := ⟨rfl, rfl, rfl, by decide +kernel, rfl, by decide +kernel, by decide +kernel⟩
theorem ok_law_many_right {fd : FuncData} (F : FunD K "_law_many_right" "_law_many_right" (defArgs s_law_many_right) (defBody s_law_many_right) (defScope s_law_many_right) [] [] (He.fAd K ("_law_many_right", none)) fd) (Tx : Txt K mg) (tb : LamX.TabB base mg (He.codeOf K ("_law_many_right", none)) (tabT K "_law_many_right")) (h_heard : HasH K mg) (h_Skin_init : HasI P w K mg base 5 (sp_Skin_init K)) (h_law_draw : Has P w K mg base "_law_draw" 1 ["_law_pen_here", "_law_many"] sp_law_draw) (h_Skin_mate : HasM P w K mg base CX0 "Skin" "mate" 4 ["self", "side"] (sp_Skin_mate K))  : FnOk P w K mg base CX0 9 (He.fAd K ("_law_many_right", none)) fd ["_law_pen_here", "_law_kind"] (sp_law_many_right K) := by
  obtain ⟨gH, ocH, odH, dVH, kVH, docH, pmH, anH, cdvH, ctH, oslH, g_heard, k_heard, lk_heard, hc_heard, b_heard⟩ := h_heard
  obtain ⟨fd_Skin_init, G_Skin_init, b_Skin_init, ⟨ds2_Skin_init, v2_Skin_init, b2_Skin_init⟩, ⟨ds1_Skin_init, kg_Skin_init, kb_Skin_init_faces_kind⟩⟩ := h_Skin_init
  obtain ⟨f_law_draw, fd_law_draw, G_law_draw, g_law_draw, k_law_draw, b_law_draw⟩ := h_law_draw
  obtain ⟨fd_Skin_mate, G_Skin_mate, b_Skin_mate⟩ := h_Skin_mate
  refine okC F sc_law_many_right (fun vs H Q E h => ?_) (fun A outer s H vs Q E hr h => ?_)
  · obtain ⟨p, c, b, z, rfl, _⟩ := h
    rfl
  · obtain ⟨p, c, b, z, rfl, hg, hp, ht, q⟩ := h
    have np : ∀ {H' : Hp} {a : Addr} {b : Nat}, PenAt H' p c b → H' a = none → a ≠ p := fun h1 h2 => (h1.new h2).1
    have turn := turn_in z
    refine ⟨_, PSs.nox (C8.pss_cut (ps_set (i := 2) sc_law_many_right.nd rfl (Or.inr rfl) (pe_ifExp (pt_cmpR op_eq (pv 1) pe_str (nomark _)) pe_int pe_int))
        (pss_cons (ps_set (i := 3) sc_law_many_right.nd rfl (Or.inr rfl) (pe_op op_sub (pe_op op_mul pe_int (pv 2)) pe_int))
        (pss_cons (ps_set (i := 4) sc_law_many_right.nd rfl (Or.inl rfl) (pe_make Tx.mk_Skin G_Skin_init (hr.mono (by decide)) (by rfl) Tx.g_Skin b_Skin_init .nil passN (pa_cons (pv 1) (pa_cons pe_int (pa_cons (pe_lst (pa_cons (pe_tup (pa_cons (pv 3) (pa_cons (pe_call G_law_draw (hr.mono (by decide)) (by rfl) g_law_draw k_law_draw b_law_draw .nil pass0 (pa_cons (pv 0) (pa_cons (pv 3) pa_nil))) pa_nil))) pa_nil)) pa_nil)))))
        (pss_cons (ps_set (i := 5) sc_law_many_right.nd rfl (Or.inl rfl) (pe_lst (pa_cons (pe_lamcall (T := TT0 K) (TT := TTh K) (k := 6) (by rfl) g_heard k_heard lk_heard hc_heard b_heard sc_law_heard rfl (.inl rfl) (heard_gives rfl rfl Tx) tb rfl (mem_law_many_right K) (hu_law_many_right Tx.tabs) (hr.mono (by decide)) (LamX.lamS_by (sc := defScope s_law_many_right) (by decide +kernel)) rfl (fun _ _ _ _ _ => rfl) (fun A outer s H E f c hr => (pe_make Tx.mk_Skin G_Skin_init (hr.mono (by decide)) (by rfl) Tx.g_Skin b2_Skin_init v2_Skin_init (passE rfl rfl rfl rfl) (pa_cons (pv 1) (pa_cons pe_int pa_nil))))) (pa_cons (pe_lamcall (T := TT0 K) (TT := TTh K) (k := 6) (by rfl) g_heard k_heard lk_heard hc_heard b_heard sc_law_heard rfl (.inl rfl) (heard_gives rfl rfl Tx) tb rfl (mem_law_many_right K) (hu_law_many_right Tx.tabs) (hr.mono (by decide)) (LamX.lamS_by (sc := defScope s_law_many_right) (by decide +kernel)) rfl (fun _ _ _ _ _ => rfl) (fun A outer s H E f c hr => (pe_make Tx.mk_Skin G_Skin_init (hr.mono (by decide)) (by rfl) Tx.g_Skin b2_Skin_init v2_Skin_init (passE rfl rfl rfl rfl) (pa_cons (pv 1) (pa_cons (pe_op op_pow pe_int pe_int) pa_nil))))) (pa_cons (pe_lamcall (T := TT0 K) (TT := TTh K) (k := 6) (by rfl) g_heard k_heard lk_heard hc_heard b_heard sc_law_heard rfl (.inl rfl) (heard_gives rfl rfl Tx) tb rfl (mem_law_many_right K) (hu_law_many_right Tx.tabs) (hr.mono (by decide)) (LamX.lamS_by (sc := defScope s_law_many_right) (by decide +kernel)) rfl (fun _ _ _ _ _ => rfl) (fun A outer s H E f c hr => (pe_make Tx.mk_Skin G_Skin_init (hr.mono (by decide)) (by rfl) Tx.g_Skin b_Skin_init .nil (passE rfl rfl rfl rfl) (pa_cons (pv 1) (pa_cons pe_int (pa_cons (pe_lst (pa_cons (pe_tup (pa_cons pe_int (pa_cons (pe_op op_add (pv 3) (pv 2)) pa_nil))) pa_nil)) pa_nil)))))) pa_nil)))))
        (pss_cons (ps_set (i := 5) sc_law_many_right.nd rfl (Or.inl rfl) (pe_op op_cat (pv 5) (pe_lst (pa_cons (pe_lamcall (T := TT0 K) (TT := TTh K) (k := 6) (by rfl) g_heard k_heard lk_heard hc_heard b_heard sc_law_heard rfl (.inl rfl) (heard_gives rfl rfl Tx) tb rfl (mem_law_many_right K) (hu_law_many_right Tx.tabs) (hr.mono (by decide)) (LamX.lamS_by (sc := defScope s_law_many_right) (by decide +kernel)) rfl (fun _ _ _ _ _ => rfl) (fun A outer s H E f c hr => (pe_make Tx.mk_Skin G_Skin_init (hr.mono (by decide)) (by rfl) Tx.g_Skin b_Skin_init .nil (passE rfl rfl rfl rfl) (pa_cons (pv 1) (pa_cons pe_int (pa_cons (pe_lst (pa_cons (pe_tup (pa_cons pe_int (pa_cons (pe_op op_add (pe_op op_add (pv 3) (pv 2)) pe_int) pa_nil))) pa_nil)) pa_nil)))))) (pa_cons (pe_lamcall (T := TT0 K) (TT := TTh K) (k := 6) (by rfl) g_heard k_heard lk_heard hc_heard b_heard sc_law_heard rfl (.inl rfl) (heard_gives rfl rfl Tx) tb rfl (mem_law_many_right K) (hu_law_many_right Tx.tabs) (hr.mono (by decide)) (LamX.lamS_by (sc := defScope s_law_many_right) (by decide +kernel)) rfl (fun _ _ _ _ _ => rfl) (fun A outer s H E f c hr => (pe_make Tx.mk_Skin G_Skin_init (hr.mono (by decide)) (by rfl) Tx.g_Skin b_Skin_init .nil (passE rfl rfl rfl rfl) (pa_cons (pv 1) (pa_cons pe_int (pa_cons (pe_lst (pa_cons (pe_tup (pa_cons pe_int (pa_cons pe_int pa_nil))) (pa_cons (pe_tup (pa_cons pe_int (pa_cons pe_int pa_nil))) pa_nil))) pa_nil)))))) pa_nil)))))
        (pss_cons (ps_if (pt_cmpR (op_neD hr.units) (pv 5) (pe_op op_cat (pe_op op_rep (pe_lst (pa_cons (pe_tup (pa_cons pe_str (pa_cons pe_str (pa_cons pe_int pa_nil)))) pa_nil)) pe_int) (pe_lst (pa_cons (pe_tup (pa_cons pe_str (pa_cons pe_str pa_nil))) (pa_cons (pe_tup (pa_cons pe_str (pa_cons pe_int pa_nil))) pa_nil)))) (nomark _)) (pss_one (ps_ret pe_bl)) pss_nil)
        (pss_one (ps_ret (pe_and (pe_cmpR op_eq (pe_fld (pv 4) rfl) (pe_op op_add (pv 3) pe_int) (nomark _)) (pe_and (pe_cmpR op_eq (pe_callB call_len_seq (by rfl) Tx.n_len (by decide +kernel) (pa_cons (pe_fld (pv 4) rfl) pa_nil)) (pe_op op_sub (pv 3) pe_int) (nomark _)) (pe_one (pe_cmpR op_eq (pe_meth (pv 4) Tx.cl_Skin Tx.me_Skin_mate G_Skin_mate (hr.mono (by decide)) b_Skin_mate .nil pass0 (pa_cons (pe_meth (pv 4) Tx.cl_Skin Tx.me_Skin_mate G_Skin_mate (hr.mono (by decide)) b_Skin_mate .nil pass0 (pa_cons (pv 3) pa_nil)) pa_nil)) (pv 3) (nomark _))))))))))))), ?_⟩
    refine ⟨fun σ H' => σ = [some (.ref p), some (.str z), some (.int (turnOf z)), none, none, none] ∧ H' = H, ?_, ?_⟩
    · refine ⟨_, rfl, rfl, _, rfl, ?_⟩
      rw [str_sq]
      unfold turnOf
      refine ite2 (fun e => ?_) (fun e => ?_)
      · rw [if_pos (of_decide_eq_true e)]
        exact ⟨rfl, rfl⟩
      · rw [if_neg fun c => e (decide_eq_true c)]
        exact ⟨rfl, rfl⟩
    rintro σ H' ⟨rfl, rfl⟩
    refine ⟨_, rfl, _, _, rfl, rfl, .inl ⟨by decide, by decide⟩, _, _, rfl, rfl, ?_⟩
    have hl1 : 24 * turnOf z - 1 = 95 ∨ 24 * turnOf z - 1 = 71 := by rcases turn with e | e <;> rw [e] <;> omega
    have hl0 : 0 < 24 * turnOf z - 1 := by omega
    have hl2 : 24 * turnOf z - 1 < 2 ^ 200 := by
      have : (100 : Int) < 2 ^ 200 := by decide
      omega
    refine ⟨_, rfl, _, rfl, _, rfl, _, rfl, p, c, _, b, rfl, hp, hl0, hl2, fun J d hq kj d0 d1 => ?_⟩
    have W : Wb K p c b H' J := Wb.kp (b := b + 1) ⟨hp, ht, Fr.refl p H'⟩ hq kj
    refine ⟨le_line (n := 2) (by decide), fun T nT => ⟨le_line (n := 1) (by decide), fun L nL => ?_⟩⟩
    intro x dx nx nd ne
    have sT : Same J (upd J T (.tup [.int (24 * turnOf z - 1), .int d])) := same_new nT
    have sL : Same (upd J T (.tup [.int (24 * turnOf z - 1), .int d])) (upd (upd J T (.tup [.int (24 * turnOf z - 1), .int d])) L (.lst [.ref T])) := same_new nL
    have sx : Same (upd (upd J T (.tup [.int (24 * turnOf z - 1), .int d])) L (.lst [.ref T])) (upd (upd (upd (upd J T (.tup [.int (24 * turnOf z - 1), .int d])) L (.lst [.ref T])) dx (.own x)) x (.ins (He.ga K "Skin") dx [])) := (same_new (o := .own x) nd).trans (same_new (o := .ins (He.ga K "Skin") dx []) (by rw [upd_ne ne.symm]; exact nx))
    refine ⟨x, dx, _, _, _, .str, .int, rfl, upd_same, True.intro, True.intro, .made z 24 L [T] [(24 * turnOf z - 1, d)] rfl hg rfl (by decide) rfl (.inl (sx _ _ upd_same)) (seams_one (sx _ _ (sL _ _ upd_same))) (show 1 ≤ 400 by decide) (fun q hq => ?_) (fun t c => ?_) (fun _ c => absurd c (by decide)) fun _ _ G kk hs => ⟨rfl, ?_⟩⟩
    · rw [List.mem_singleton.mp hq]
      exact ⟨by show 0 ≤ 24 * turnOf z - 1; omega, by show 24 * turnOf z - 1 < 24 * turnOf z; omega, d0, by show d < 24 * turnOf z; omega, by show 24 * turnOf z - 1 ≠ d; omega⟩
    · rw [tw_two (by omega)] at c
      cases c
    replace W := W.same ((sT.trans sL).trans (same_made nx nd ne kk))
    obtain ⟨dx2, st, mt, ft, us, qs, hx⟩ := hs
    clear sT sL sx kk nx nd ne
    refine ⟨W.tabs, fun A1 e1 u1 t1 m1 => ?_⟩
    replace hx := hx.ext e1
    replace W := W.ext e1 u1
    refine ⟨_, rfl, lam_skin m1 ⟨.str, True.intro⟩ ⟨.int, True.intro⟩ fun H' s => .made z (25) (dflA K) [] [] rfl hg rfl (by decide) rfl (.inr (.inr ⟨rfl, rfl⟩)) seams_nil (Nat.zero_le _) (fun p hp => by cases hp) (fun t c => by cases c) (fun _ _ => mn_told (Told.same (fun B1 r1 s1 o1 w1 => ?_) s)) (fun _ c => absurd c (by decide))⟩
    replace hx := hx.same s1
    replace W := W.same s1
    have w1' : B1 r1 = some (.tup [.str "many", .str "faces", .int 24]) := w1
    refine ⟨W.tabs, fun A2 e2 u2 t2 m2 => ?_⟩
    replace hx := hx.ext e2
    replace w1' := e2 _ _ w1' fun _ z => nomatch z
    replace W := W.ext e2 u2
    refine ⟨_, rfl, _, _, rfl, rfl, ⟨by decide, by decide, by decide⟩, lam_skin m2 ⟨.str, True.intro⟩ ⟨.int, True.intro⟩ fun H' s => .made z (10 ^ Int.toNat 40) (dflA K) [] [] rfl hg rfl (by decide) rfl (.inr (.inr ⟨rfl, rfl⟩)) seams_nil (Nat.zero_le _) (fun p hp => by cases hp) (fun t c => by cases c) (fun _ _ => mn_told (Told.same (fun B2 r2 s2 o2 w2 => ?_) s)) (fun _ c => absurd c (by decide))⟩
    replace hx := hx.same s2
    replace w1' := s2 _ _ w1'
    replace W := W.same s2
    have w2' : B2 r2 = some (.tup [.str "many", .str "faces", .int 24]) := w2
    refine ⟨W.tabs, fun A3 e3 u3 t3 m3 => ?_⟩
    replace hx := hx.ext e3
    replace w1' := e3 _ _ w1' fun _ z => nomatch z
    replace w2' := e3 _ _ w2' fun _ z => nomatch z
    replace W := W.ext e3 u3
    refine ⟨_, rfl, _, rfl, _, rfl, _, _, rfl, rfl, le_line (n := 2) (by decide), fun T1 nT1 => ⟨le_line (n := 1) (by decide), fun L1 nL1 => lam_row1 (0, 24 * turnOf z - 1 + turnOf z) m3 nT1 nL1 ⟨.str, True.intro⟩ ⟨.int, True.intro⟩ fun H' s hL hT => .made z 25 L1 [T1] [(0, 24 * turnOf z - 1 + turnOf z)] rfl hg rfl (by decide) rfl (.inl hL) (seams_one hT) (show 1 ≤ 400 by decide) (fun q hq => by rw [List.mem_singleton.mp hq]; exact ⟨(show (0 : Int) ≤ 0 by decide), by show (0 : Int) < 25 * turnOf z; omega, by show 0 ≤ 24 * turnOf z - 1 + turnOf z; omega, by show 24 * turnOf z - 1 + turnOf z < 25 * turnOf z; omega, by show (0 : Int) ≠ 24 * turnOf z - 1 + turnOf z; omega⟩) (fun t c => by rw [tw_two (by omega)] at c; cases c) (fun _ _ => mn_told (Told.same (fun B3 r3 s3 o3 w3 => ?_) s)) (fun _ c => absurd c (by decide))⟩⟩
    replace hx := hx.same s3
    replace w1' := s3 _ _ w1'
    replace w2' := s3 _ _ w2'
    replace W := W.same s3
    have w3' : B3 r3 = some (.tup [.str "many", .str "faces", .int 24]) := w3
    refine ⟨le_line (n := 3) (by decide), fun la nla => ?_⟩
    have sx : Same B3 (upd B3 la (.lst [.ref r1, .ref r2, .ref r3])) := same_new nla
    replace hx := hx.same sx
    replace w1' := sx _ _ w1'
    replace w2' := sx _ _ w2'
    replace w3' := sx _ _ w3'
    replace W := W.same sx
    have fla : (upd B3 la (.lst [.ref r1, .ref r2, .ref r3])) la = some (.lst [.ref r1, .ref r2, .ref r3]) := upd_same
    clear sx
    revert hx w1' w2' w3' W fla
    generalize upd B3 la (.lst [.ref r1, .ref r2, .ref r3]) = Xla
    intro hx w1' w2' w3' W fla
    refine ⟨_, rfl, W.tabs, fun A4 e4 u4 t4 m4 => ?_⟩
    replace hx := hx.ext e4
    replace w1' := e4 _ _ w1' fun _ z => nomatch z
    replace w2' := e4 _ _ w2' fun _ z => nomatch z
    replace w3' := e4 _ _ w3' fun _ z => nomatch z
    replace fla := e4 _ _ fla fun _ z => nomatch z
    replace W := W.ext e4 u4
    refine ⟨_, rfl, _, rfl, _, rfl, _, _, rfl, rfl, _, _, rfl, rfl, le_line (n := 2) (by decide), fun T1 nT1 => ⟨le_line (n := 1) (by decide), fun L1 nL1 => lam_row1 (0, 24 * turnOf z - 1 + turnOf z + 1) m4 nT1 nL1 ⟨.str, True.intro⟩ ⟨.int, True.intro⟩ fun H' s hL hT => bad_made hg (by decide) ⟨.list, ⟨_, hL⟩, .inr ⟨rfl, L1, _, fun _ => false, rfl, .inl hL, (show 1 ≤ 1000 by decide), fun x hx => by rw [List.mem_singleton.mp hx]; exact BadIt.says (p := p) (.tup2 T1 _ _ hT rfl rfl (by simp [bnd, lo1, hi1]; omega)), rfl⟩⟩ (eh_skin (Told.same (fun B4 r4 s4 o4 w4 => ?_) s))⟩⟩
    replace hx := hx.same s4
    replace w1' := s4 _ _ w1'
    replace w2' := s4 _ _ w2'
    replace w3' := s4 _ _ w3'
    replace fla := s4 _ _ fla
    replace W := W.same s4
    have w4' : B4 r4 = some (.tup [.str "skin", .str "seams"]) := w4
    refine ⟨W.tabs, fun A5 e5 u5 t5 m5 => ?_⟩
    replace hx := hx.ext e5
    replace w1' := e5 _ _ w1' fun _ z => nomatch z
    replace w2' := e5 _ _ w2' fun _ z => nomatch z
    replace w3' := e5 _ _ w3' fun _ z => nomatch z
    replace fla := e5 _ _ fla fun _ z => nomatch z
    replace w4' := e5 _ _ w4' fun _ z => nomatch z
    replace W := W.ext e5 u5
    refine ⟨_, rfl, le_line (n := 2) (by decide), fun T1 nT1 => ⟨le_line (n := 2) (by decide), fun U1 nU1 => ⟨le_line (n := 2) (by decide), fun L1 nL1 => lam_row2 (1, 0) (1, 2) m5 nT1 nU1 nL1 ⟨.str, True.intro⟩ ⟨.int, True.intro⟩ fun H' s hL hT hU => .made z 25 L1 [T1, U1] [(1, 0), (1, 2)] rfl hg rfl (by decide) rfl (.inl hL) (seams_two hT hU) (show 2 ≤ 400 by decide) (fun q hq => by simp only [List.mem_cons, List.not_mem_nil, or_false] at hq; rcases hq with rfl | rfl <;> exact ⟨by decide, by show (1 : Int) < 25 * turnOf z; omega, by decide, by first | (show (0 : Int) < 25 * turnOf z; omega) | (show (2 : Int) < 25 * turnOf z; omega), by decide⟩) (fun t c => tw_is (t := 1) (by decide +kernel) c (eh_twice (Told.same (fun B5 r5 s5 o5 w5 => ?_) s))) (fun c _ => by rw [show tw (flat2 [(1, 0), (1, 2)]) = some 1 by decide +kernel] at c; cases c) (fun _ c => absurd c (by decide))⟩⟩⟩
    replace hx := hx.same s5
    replace w1' := s5 _ _ w1'
    replace w2' := s5 _ _ w2'
    replace w3' := s5 _ _ w3'
    replace fla := s5 _ _ fla
    replace w4' := s5 _ _ w4'
    replace W := W.same s5
    have w5' : B5 r5 = some (.tup [.str "twice", .int 1]) := w5
    refine ⟨le_line (n := 2) (by decide), fun lb nlb => ?_⟩
    have sx : Same B5 (upd B5 lb (.lst [.ref r4, .ref r5])) := same_new nlb
    replace hx := hx.same sx
    replace w1' := sx _ _ w1'
    replace w2' := sx _ _ w2'
    replace w3' := sx _ _ w3'
    replace fla := sx _ _ fla
    replace w4' := sx _ _ w4'
    replace w5' := sx _ _ w5'
    replace W := W.same sx
    have flb : (upd B5 lb (.lst [.ref r4, .ref r5])) lb = some (.lst [.ref r4, .ref r5]) := upd_same
    clear sx
    revert hx w1' w2' w3' fla w4' w5' W flb
    generalize upd B5 lb (.lst [.ref r4, .ref r5]) = Xlb
    intro hx w1' w2' w3' fla w4' w5' W flb
    refine ⟨la, lb, _, _, rfl, rfl, fla, flb, le_line (n := 5) (by decide), fun lc nlc => ?_⟩
    have sx : Same Xlb (upd Xlb lc (.lst ([.ref r1, .ref r2, .ref r3] ++ [.ref r4, .ref r5]))) := same_new nlc
    replace hx := hx.same sx
    replace w1' := sx _ _ w1'
    replace w2' := sx _ _ w2'
    replace w3' := sx _ _ w3'
    replace fla := sx _ _ fla
    replace w4' := sx _ _ w4'
    replace w5' := sx _ _ w5'
    replace flb := sx _ _ flb
    replace W := W.same sx
    have flc : (upd Xlb lc (.lst ([.ref r1, .ref r2, .ref r3] ++ [.ref r4, .ref r5]))) lc = some (.lst [.ref r1, .ref r2, .ref r3, .ref r4, .ref r5]) := upd_same
    clear sx
    revert hx w1' w2' w3' fla w4' w5' flb W flc
    generalize upd Xlb lc (.lst ([.ref r1, .ref r2, .ref r3] ++ [.ref r4, .ref r5])) = Xlc
    intro hx w1' w2' w3' fla w4' w5' flb W flc
    -- what is due
    refine ⟨_, rfl, ?_⟩
    refine ⟨le_line (n := 3) (by decide), fun d1 nd1 => ?_⟩
    have sx : Same Xlc (upd Xlc d1 (.tup [.str "many", .str "faces", .int 24])) := same_new nd1
    replace hx := hx.same sx
    replace w1' := sx _ _ w1'
    replace w2' := sx _ _ w2'
    replace w3' := sx _ _ w3'
    replace fla := sx _ _ fla
    replace w4' := sx _ _ w4'
    replace w5' := sx _ _ w5'
    replace flb := sx _ _ flb
    replace flc := sx _ _ flc
    replace W := W.same sx
    have fd1 : (upd Xlc d1 (.tup [.str "many", .str "faces", .int 24])) d1 = some (.tup [.str "many", .str "faces", .int 24]) := upd_same
    clear sx
    revert hx w1' w2' w3' fla w4' w5' flb flc W fd1
    generalize upd Xlc d1 (.tup [.str "many", .str "faces", .int 24]) = Xd1
    intro hx w1' w2' w3' fla w4' w5' flb flc W fd1
    refine ⟨le_line (n := 1) (by decide), fun g1 ng1 => ?_⟩
    have sx : Same Xd1 (upd Xd1 g1 (.lst [.ref d1])) := same_new ng1
    replace hx := hx.same sx
    replace w1' := sx _ _ w1'
    replace w2' := sx _ _ w2'
    replace w3' := sx _ _ w3'
    replace fla := sx _ _ fla
    replace w4' := sx _ _ w4'
    replace w5' := sx _ _ w5'
    replace flb := sx _ _ flb
    replace flc := sx _ _ flc
    replace fd1 := sx _ _ fd1
    replace W := W.same sx
    have fg1 : (upd Xd1 g1 (.lst [.ref d1])) g1 = some (.lst [.ref d1]) := upd_same
    clear sx
    revert hx w1' w2' w3' fla w4' w5' flb flc fd1 W fg1
    generalize upd Xd1 g1 (.lst [.ref d1]) = Xg1
    intro hx w1' w2' w3' fla w4' w5' flb flc fd1 W fg1
    refine ⟨g1, 3, _, rfl, rfl, fg1, by decide, by decide, le_line (n := 3) (by decide), fun g2 ng2 => ?_⟩
    have sx : Same Xg1 (upd Xg1 g2 (.lst (List.replicate (Int.toNat 3) [.ref d1]).flatten)) := same_new ng2
    replace hx := hx.same sx
    replace w1' := sx _ _ w1'
    replace w2' := sx _ _ w2'
    replace w3' := sx _ _ w3'
    replace fla := sx _ _ fla
    replace w4' := sx _ _ w4'
    replace w5' := sx _ _ w5'
    replace flb := sx _ _ flb
    replace flc := sx _ _ flc
    replace fd1 := sx _ _ fd1
    replace fg1 := sx _ _ fg1
    replace W := W.same sx
    have fg2 : (upd Xg1 g2 (.lst (List.replicate (Int.toNat 3) [.ref d1]).flatten)) g2 = some (.lst [.ref d1, .ref d1, .ref d1]) := upd_same
    clear sx
    revert hx w1' w2' w3' fla w4' w5' flb flc fd1 fg1 W fg2
    generalize upd Xg1 g2 (.lst (List.replicate (Int.toNat 3) [.ref d1]).flatten) = Xg2
    intro hx w1' w2' w3' fla w4' w5' flb flc fd1 fg1 W fg2
    refine ⟨le_line (n := 2) (by decide), fun d2 nd2 => ?_⟩
    have sx : Same Xg2 (upd Xg2 d2 (.tup [.str "skin", .str "seams"])) := same_new nd2
    replace hx := hx.same sx
    replace w1' := sx _ _ w1'
    replace w2' := sx _ _ w2'
    replace w3' := sx _ _ w3'
    replace fla := sx _ _ fla
    replace w4' := sx _ _ w4'
    replace w5' := sx _ _ w5'
    replace flb := sx _ _ flb
    replace flc := sx _ _ flc
    replace fd1 := sx _ _ fd1
    replace fg1 := sx _ _ fg1
    replace fg2 := sx _ _ fg2
    replace W := W.same sx
    have fd2 : (upd Xg2 d2 (.tup [.str "skin", .str "seams"])) d2 = some (.tup [.str "skin", .str "seams"]) := upd_same
    clear sx
    revert hx w1' w2' w3' fla w4' w5' flb flc fd1 fg1 fg2 W fd2
    generalize upd Xg2 d2 (.tup [.str "skin", .str "seams"]) = Xd2
    intro hx w1' w2' w3' fla w4' w5' flb flc fd1 fg1 fg2 W fd2
    refine ⟨le_line (n := 2) (by decide), fun d3 nd3 => ?_⟩
    have sx : Same Xd2 (upd Xd2 d3 (.tup [.str "twice", .int 1])) := same_new nd3
    replace hx := hx.same sx
    replace w1' := sx _ _ w1'
    replace w2' := sx _ _ w2'
    replace w3' := sx _ _ w3'
    replace fla := sx _ _ fla
    replace w4' := sx _ _ w4'
    replace w5' := sx _ _ w5'
    replace flb := sx _ _ flb
    replace flc := sx _ _ flc
    replace fd1 := sx _ _ fd1
    replace fg1 := sx _ _ fg1
    replace fg2 := sx _ _ fg2
    replace fd2 := sx _ _ fd2
    replace W := W.same sx
    have fd3 : (upd Xd2 d3 (.tup [.str "twice", .int 1])) d3 = some (.tup [.str "twice", .int 1]) := upd_same
    clear sx
    revert hx w1' w2' w3' fla w4' w5' flb flc fd1 fg1 fg2 fd2 W fd3
    generalize upd Xd2 d3 (.tup [.str "twice", .int 1]) = Xd3
    intro hx w1' w2' w3' fla w4' w5' flb flc fd1 fg1 fg2 fd2 W fd3
    refine ⟨le_line (n := 2) (by decide), fun g3 ng3 => ?_⟩
    have sx : Same Xd3 (upd Xd3 g3 (.lst [.ref d2, .ref d3])) := same_new ng3
    replace hx := hx.same sx
    replace w1' := sx _ _ w1'
    replace w2' := sx _ _ w2'
    replace w3' := sx _ _ w3'
    replace fla := sx _ _ fla
    replace w4' := sx _ _ w4'
    replace w5' := sx _ _ w5'
    replace flb := sx _ _ flb
    replace flc := sx _ _ flc
    replace fd1 := sx _ _ fd1
    replace fg1 := sx _ _ fg1
    replace fg2 := sx _ _ fg2
    replace fd2 := sx _ _ fd2
    replace fd3 := sx _ _ fd3
    replace W := W.same sx
    have fg3 : (upd Xd3 g3 (.lst [.ref d2, .ref d3])) g3 = some (.lst [.ref d2, .ref d3]) := upd_same
    clear sx
    revert hx w1' w2' w3' fla w4' w5' flb flc fd1 fg1 fg2 fd2 fd3 W fg3
    generalize upd Xd3 g3 (.lst [.ref d2, .ref d3]) = Xg3
    intro hx w1' w2' w3' fla w4' w5' flb flc fd1 fg1 fg2 fd2 fd3 W fg3
    refine ⟨g2, g3, _, _, rfl, rfl, fg2, fg3, le_line (n := 5) (by decide), fun g4 ng4 => ?_⟩
    have sx : Same Xg3 (upd Xg3 g4 (.lst ([.ref d1, .ref d1, .ref d1] ++ [.ref d2, .ref d3]))) := same_new ng4
    replace hx := hx.same sx
    replace w1' := sx _ _ w1'
    replace w2' := sx _ _ w2'
    replace w3' := sx _ _ w3'
    replace fla := sx _ _ fla
    replace w4' := sx _ _ w4'
    replace w5' := sx _ _ w5'
    replace flb := sx _ _ flb
    replace flc := sx _ _ flc
    replace fd1 := sx _ _ fd1
    replace fg1 := sx _ _ fg1
    replace fg2 := sx _ _ fg2
    replace fd2 := sx _ _ fd2
    replace fd3 := sx _ _ fd3
    replace fg3 := sx _ _ fg3
    replace W := W.same sx
    have fg4 : (upd Xg3 g4 (.lst ([.ref d1, .ref d1, .ref d1] ++ [.ref d2, .ref d3]))) g4 = some (.lst [.ref d1, .ref d1, .ref d1, .ref d2, .ref d3]) := upd_same
    clear sx
    revert hx w1' w2' w3' fla w4' w5' flb flc fd1 fg1 fg2 fd2 fd3 fg3 W fg4
    generalize upd Xg3 g4 (.lst ([.ref d1, .ref d1, .ref d1] ++ [.ref d2, .ref d3])) = Xg4
    intro hx w1' w2' w3' fla w4' w5' flb flc fd1 fg1 fg2 fd2 fd3 fg3 W fg4
    refine ⟨.list [.tuple [.str "many", .str "faces", .int 24], .tuple [.str "many", .str "faces", .int 24], .tuple [.str "many", .str "faces", .int 24], .tuple [.str "skin", .str "seams"], .tuple [.str "twice", .int 1]], .list [.tuple [.str "many", .str "faces", .int 24], .tuple [.str "many", .str "faces", .int 24], .tuple [.str "many", .str "faces", .int 24], .tuple [.str "skin", .str "seams"], .tuple [.str "twice", .int 1]], .lst (SqL.of flc) (.cons (dp3 w1') (.cons (dp3 w2') (.cons (dp3 w3') (.cons (dp2 w4') (.cons (dpi w5') .nil))))), .lst (SqL.of fg4) (.cons (dp3 fd1) (.cons (dp3 fd1) (.cons (dp3 fd1) (.cons (dp2 fd2) (.cons (dpi fd3) .nil))))), by decide +kernel, by decide +kernel, _, rfl, ?_⟩
    refine ite2 (fun e => absurd e (by decide +kernel)) (fun _ => ?_)
    have sk : SkinAt K Xg4 x z 24 [(24 * turnOf z - 1, d)] := ⟨dx2, st, mt, ft, us, qs, hx⟩
    refine ⟨_, rfl, x, _, dx2, _, _, rfl, hx.ins, Tx.cl_Skin, Tx.no_Skin_sides, rfl, _, rfl, _, _, rfl, rfl, rfl, _, rfl, ite2 (fun _ => ?_) (fun e => absurd (decide_eq_true (by show V.int (24 * turnOf z) = V.int (24 * turnOf z - 1 + 1); congr 1; omega)) e)⟩
    obtain ⟨d, rfl⟩ := Int.eq_ofNat_of_zero_le d0
    obtain ⟨l, hl⟩ : ∃ l : Nat, 24 * turnOf z - 1 = (l : Int) := ⟨(24 * turnOf z - 1).toNat, by omega⟩
    have hN : 24 * turnOf z = ((l + 1 : Nat) : Int) := by omega
    have lens : (frL [(24 * turnOf z - 1, (d : Int))] (24 * turnOf z).toNat).length = l - 1 := by
      rw [hl, hN, Int.toNat_natCast]
      rcases hl1 with e | e
      · have e2 : l = 95 := by omega
        subst e2
        exact fr96 d (by omega)
      · have e2 : l = 71 := by omega
        subst e2
        exact fr72 d (by omega)
    refine ⟨_, rfl, x, _, dx2, _, _, rfl, hx.ins, Tx.cl_Skin, Tx.no_Skin_free, rfl, ft, _, rfl, .inr (SqT.of hx.free), _, rfl, _, _, rfl, rfl, rfl, _, rfl, ite2 (fun _ => ?_) (fun e => absurd (decide_eq_true (by rw [List.length_map, lens]; congr 1; omega)) e)⟩
    have m1 := one_ms (N := l + 1) (l := l) (d := d) (by omega) (by omega) (by omega)
    have m2 : (msL [(24 * turnOf z - 1, (d : Int))] (24 * turnOf z).toNat)[l]? = some (.int (d : Nat)) ∧ (msL [(24 * turnOf z - 1, (d : Int))] (24 * turnOf z).toNat)[d]? = some (.int (l : Nat)) := by
      rw [hl, hN, Int.toNat_natCast]
      exact m1
    have fin : Q (.bl true) Xg4 := q _ W.fr W.pen W.tabs
    refine ⟨_, rfl, x, dx2, _, rfl, hx.ins, rfl, _, rfl, x, dx2, _, rfl, hx.ins, rfl, _, rfl, x, z, 24, _, _, _, rfl, sk, by omega, by omega, ?_, x, z, 24, (d : Int), _, _, rfl, sk, by omega, by omega, m2.2, _, rfl, rfl, ?_⟩
    · have e := m2.1
      rw [hl] at e ⊢
      exact e
    · rw [show decide (V.int (l : Int) = V.int (24 * turnOf z - 1)) = true from decide_eq_true (by rw [hl])]
      exact fin
theorem has_law_many_right (Tx : Txt K mg) (c : He.SaysX fa fn [] tf ex w hh K) (X : K.In hh) (GG : hh.Ns mainGlobals mg) (tb : LamX.TabB base mg (He.codeOf K ("_law_many_right", none)) (tabT K "_law_many_right")) (h_heard : HasH K mg) (h_Skin_init : HasI P w K mg base 5 (sp_Skin_init K)) (h_law_draw : Has P w K mg base "_law_draw" 1 ["_law_pen_here", "_law_many"] sp_law_draw) (h_Skin_mate : HasM P w K mg base CX0 "Skin" "mate" 4 ["self", "side"] (sp_Skin_mate K))  : Has P w K mg base "_law_many_right" 9 ["_law_pen_here", "_law_kind"] (sp_law_many_right K) := by
  obtain ⟨fd, F⟩ := c.t.d.def_ 48 (d := d_law_many_right) rfl
  exact ⟨_, fd, ok_law_many_right F Tx tb h_heard h_Skin_init h_law_draw h_Skin_mate, He.glo_ok X GG (c.t.d.fact 40 (f := .glo "_law_many_right") rfl), F.kp, F.bindsN fun _ _ _ _ _ _ us hl => match us, hl with | [_, _], _ => rfl⟩

end
end K05

namespace K05
open PySem PySem.Spec PyProof.Rows L2 Vf LamX
section
variable {hh : Heap} {P : Program} {w : World} {K : PySem.W.Frag} {mg : Str → Option Value} {base : Heap}
/-! ### twice -/
theorem Fr.mut {p L : Addr} {H H1 : Hp} {o : HO} (f : Fr p H H1) (n : H L = none) : Fr p H (upd H1 L o) := fun a u na h t => by
  rw [upd_ne (ne_of_none h n)]
  exact f a u na h t
theorem Wb.mut {p c L : Addr} {b : Nat} {H0 H : Hp} {o : HO} {xs : List V} (w : Wb K p c b H0 H) (n : H0 L = none) (hL : H L = some (.lst xs)) (lp : L ≠ p) (lc : L ≠ c) : Wb K p c b H0 (upd H L o) :=
  ⟨w.pen.mut lp lc, tabs_kp w.tabs hL (Kp.refl L H).set, w.fr.mut n⟩
theorem Wb.less {p c : Addr} {b d : Nat} {H0 H : Hp} (w : Wb K p c b H0 H) (l : d ≤ b) : Wb K p c d H0 H := ⟨w.pen.less l, w.tabs, w.fr⟩
theorem Seams.kpL {L : Addr} {H H' : Hp} {ts : List Addr} {ps : List (Int × Int)} {xs : List V} (h : Seams H ts ps) (k : Kp L H H') (hL : H L = some (.lst xs)) : Seams H' ts ps := ⟨h.len, fun i t q h1 h2 => by
  have g := h.at_ i t q h1 h2
  refine k _ _ (fun e => ?_) g
  rw [e, hL] at g
  cases g⟩
theorem Seams.kpP {p c : Addr} {b : Nat} {H H' : Hp} {ts : List Addr} {ps : List (Int × Int)} (h : Seams H ts ps) (k : Kp p H H') (hp : PenAt H p c b) : Seams H' ts ps := by
  obtain ⟨xs, hx⟩ := hp.at
  exact h.kpL k hx
theorem Seams.setAt {H : Hp} {us : List Addr} {ps : List (Int × Int)} {i : Nat} {U : Addr} {r : Int × Int} (h : Seams H us ps) (hU : H U = some (.tup [.int r.1, .int r.2])) : Seams H (us.set i U) (ps.set i r) := by
  refine ⟨by rw [List.length_set, List.length_set, h.len], fun j t q h1 h2 => ?_⟩
  by_cases e : i = j
  · subst e
    have hl : i < us.length := by
      obtain ⟨hl, _⟩ := List.getElem?_eq_some_iff.mp h1
      rwa [List.length_set] at hl
    rw [List.getElem?_set_self hl] at h1
    rw [List.getElem?_set_self (by rw [← h.len]; exact hl)] at h2
    cases h1
    cases h2
    exact hU
  · rw [List.getElem?_set_ne e] at h1 h2
    exact h.at_ j t q h1 h2
theorem twF_nodup : ∀ {l seen : List Int}, l.Nodup → (∀ x ∈ l, x ∉ seen) → twF seen l = none
  | [], _, _, _ => rfl
  | x :: r, seen, hn, hs => by
    show (if x ∈ seen then some x else twF (x :: seen) r) = none
    rw [if_neg (hs x (List.mem_cons_self ..))]
    have hc := List.nodup_cons.mp hn
    exact twF_nodup hc.2 fun y hy hy2 => by
      rcases List.mem_cons.mp hy2 with e | e
      · exact hc.1 (by rw [← e]; exact hy)
      · exact hs y (List.mem_cons_of_mem _ hy) e
theorem tw_nodup {l : List Int} (h : l.Nodup) : tw l = none := twF_nodup h fun _ _ => by simp
theorem twF_congr : ∀ {l s1 s2 : List Int}, (∀ x, x ∈ s1 ↔ x ∈ s2) → twF s1 l = twF s2 l
  | [], _, _, _ => rfl
  | x :: r, s1, s2, h => by
    show (if x ∈ s1 then some x else twF (x :: s1) r) = (if x ∈ s2 then some x else twF (x :: s2) r)
    have e : twF (x :: s1) r = twF (x :: s2) r := twF_congr fun y => by rw [List.mem_cons, List.mem_cons, h y]
    by_cases c : x ∈ s1
    · rw [if_pos c, if_pos ((h x).mp c)]
    · rw [if_neg c, if_neg fun d => c ((h x).mpr d), e]
theorem tw_cons2 {a b : Int} (r : List Int) (h : a ≠ b) : tw (a :: b :: r) = twF [b, a] r := by
  show (if a ∈ ([] : List Int) then some a else if b ∈ [a] then some b else twF [b, a] r) = _
  rw [if_neg (by simp), if_neg (by simp; exact fun e => h e.symm)]
theorem tw_swap {a b : Int} (r : List Int) (h : a ≠ b) : tw (a :: b :: r) = tw (b :: a :: r) := by
  rw [tw_cons2 r h, tw_cons2 r h.symm]
  exact twF_congr fun x => by simp [or_comm]
theorem srt_cases (p : Int × Int) (h : p.1 ≠ p.2) : srt p = p ∨ srt p = (p.2, p.1) := by
  unfold srt
  by_cases c : p.2 < p.1
  · rw [if_pos c, if_neg (by omega)]
    exact .inr rfl
  · rw [if_neg c, if_pos (by omega)]
    exact .inl rfl
theorem tw_srt {p : Int × Int} (r : List (Int × Int)) (h : p.1 ≠ p.2) : tw (flat2 (srt p :: r)) = tw (flat2 (p :: r)) := by
  rcases srt_cases p h with e | e
  · rw [e]
  · rw [e]
    exact tw_swap _ h.symm
theorem pok_srt {n : Int} {p : Int × Int} (h : Pok n p) : Pok n (srt p) := by
  obtain ⟨h0, h1, h2, h3, h4⟩ := h
  rcases srt_cases p h4 with e | e
  · rw [e]
    exact ⟨h0, h1, h2, h3, h4⟩
  · rw [e]
    exact ⟨h2, h3, h0, h1, h4.symm⟩
theorem pok_up {n m : Int} {p : Int × Int} (h : Pok n p) (l : n ≤ m) : Pok m p := by
  obtain ⟨h0, h1, h2, h3, h4⟩ := h
  exact ⟨h0, by omega, h2, by omega, h4⟩
/-- a side of the first pair again -/
theorem tw_again {p : Int × Int} {s f : Int} (h : p.1 ≠ p.2) (hs : s = p.1 ∨ s = p.2) : tw (flat2 [srt p, (s, f)]) = some s := by
  rw [tw_srt _ h]
  show tw (p.1 :: p.2 :: s :: f :: []) = some s
  rw [tw_cons2 _ h]
  show (if s ∈ [p.2, p.1] then some s else _) = some s
  rw [if_pos]
  rcases hs with e | e <;> simp [e]
theorem tw_later {p : Int × Int} {s f g : Int} (h : p.1 ≠ p.2) (hf1 : f ≠ p.1) (hf2 : f ≠ p.2) (hg1 : g ≠ p.1) (hg2 : g ≠ p.2) (hfg : f ≠ g) : tw (flat2 [srt p, (f, g), (g, s)]) = some g := by
  rw [tw_srt _ h]
  show tw (p.1 :: p.2 :: f :: g :: g :: s :: []) = some g
  rw [tw_cons2 _ h]
  show (if f ∈ [p.2, p.1] then some f else if g ∈ [f, p.2, p.1] then some g else if g ∈ [g, f, p.2, p.1] then some g else _) = some g
  rw [if_neg (by simp [hf1, hf2]), if_neg (by simp [hg1, hg2]; exact fun e => hfg e.symm), if_pos (List.mem_cons_self ..)]
theorem tw_apart4 {p : Int × Int} {f g : Int} (h : p.1 ≠ p.2) (hf1 : f ≠ p.1) (hf2 : f ≠ p.2) (hg1 : g ≠ p.1) (hg2 : g ≠ p.2) (hfg : f ≠ g) : tw (flat2 [srt p, (f, g)]) = none := by
  rw [tw_srt _ h]
  show tw (p.1 :: p.2 :: f :: g :: []) = none
  rw [tw_cons2 _ h]
  show (if f ∈ [p.2, p.1] then some f else if g ∈ [f, p.2, p.1] then some g else none) = none
  rw [if_neg (by simp [hf1, hf2]), if_neg (by simp [hg1, hg2]; exact fun e => hfg e.symm)]
theorem grid_len {z : Str} (h : isGrid (.str z) = true) : z.length ≤ 100 := by
  have h1 : inV (.str z) [.str "square", .str "triangle"] = true := by
    have h2 : (isS (.str z) && inV (.str z) [.str "square", .str "triangle"]) = true := h
    simpa [isS] using h2
  have h3 : (("square" : Str) == z || (("triangle" : Str) == z || false)) = true := h1
  simp only [Bool.or_false, Bool.or_eq_true, beq_iff_eq] at h3
  rcases h3 with rfl | rfl <;> decide +kernel
/-- the sides that the first pair leaves -/
def fkeep (p : Int × Int) (i : Int) : Bool := !decide (i ∈ [p.1, p.2])
theorem four_two (s t : Int) : ∃ a b : Int, (a = 0 ∨ a = 1 ∨ a = 2 ∨ a = 3) ∧ (b = 0 ∨ b = 1 ∨ b = 2 ∨ b = 3) ∧ a ≠ b ∧ a ≠ s ∧ a ≠ t ∧ b ≠ s ∧ b ≠ t := by
  by_cases h : (0 : Int) ≠ s ∧ (0 : Int) ≠ t ∧ (1 : Int) ≠ s ∧ (1 : Int) ≠ t
  · exact ⟨0, 1, by omega, by omega, by omega, by omega, by omega, by omega, by omega⟩
  · by_cases h2 : (2 : Int) ≠ s ∧ (2 : Int) ≠ t ∧ (3 : Int) ≠ s ∧ (3 : Int) ≠ t
    · exact ⟨2, 3, by omega, by omega, by omega, by omega, by omega, by omega, by omega⟩
    · by_cases h3 : (0 : Int) ≠ s ∧ (0 : Int) ≠ t
      · by_cases h4 : (2 : Int) ≠ s ∧ (2 : Int) ≠ t
        · exact ⟨0, 2, by omega, by omega, by omega, by omega, by omega, by omega, by omega⟩
        · exact ⟨0, 3, by omega, by omega, by omega, by omega, by omega, by omega, by omega⟩
      · by_cases h4 : (2 : Int) ≠ s ∧ (2 : Int) ≠ t
        · exact ⟨1, 2, by omega, by omega, by omega, by omega, by omega, by omega, by omega⟩
        · exact ⟨1, 3, by omega, by omega, by omega, by omega, by omega, by omega, by omega⟩
theorem mem_rgI {n i : Int} (h0 : 0 ≤ i) (h1 : i < n) : i ∈ rgI n := by
  obtain ⟨j, rfl⟩ := Int.eq_ofNat_of_zero_le h0
  exact List.mem_map.mpr ⟨j, List.mem_range.mpr (by omega), rfl⟩
theorem free_two {n : Int} (p : Int × Int) (hn : 6 ≤ n) : ∃ f g r, (rgI n).filter (fkeep p) = f :: g :: r ∧ 0 ≤ f ∧ f < n ∧ 0 ≤ g ∧ g < n ∧ f ≠ g ∧ f ≠ p.1 ∧ f ≠ p.2 ∧ g ≠ p.1 ∧ g ≠ p.2 := by
  obtain ⟨a, b, ha, hb, hab, a1, a2, b1, b2⟩ := four_two p.1 p.2
  have inF : ∀ x : Int, (x = 0 ∨ x = 1 ∨ x = 2 ∨ x = 3) → x ≠ p.1 → x ≠ p.2 → x ∈ (rgI n).filter (fkeep p) := fun x hx h1 h2 => by
    refine List.mem_filter.mpr ⟨mem_rgI (by omega) (by omega), ?_⟩
    unfold fkeep
    simp [h1, h2]
  have nd : ((rgI n).filter (fkeep p)).Nodup := List.Nodup.sublist List.filter_sublist (rgI_nodup n)
  have hA := inF a ha a1 a2
  have hB := inF b hb b1 b2
  have prop : ∀ x ∈ (rgI n).filter (fkeep p), 0 ≤ x ∧ x < n ∧ x ≠ p.1 ∧ x ≠ p.2 := fun x hx => by
    obtain ⟨h1, h2⟩ := List.mem_filter.mp hx
    obtain ⟨h3, h4⟩ := rgI_mem h1
    unfold fkeep at h2
    simp at h2
    exact ⟨h3, h4, h2.1, h2.2⟩
  match hF : (rgI n).filter (fkeep p) with
  | [] =>
    rw [hF] at hA
    cases hA
  | [x] =>
    rw [hF] at hA hB
    exact absurd ((List.mem_singleton.mp hA).trans (List.mem_singleton.mp hB).symm) hab
  | f :: g :: r =>
    rw [hF] at nd prop
    obtain ⟨f1, f2, f3, f4⟩ := prop f (List.mem_cons_self ..)
    obtain ⟨g1, g2, g3, g4⟩ := prop g (List.mem_cons_of_mem _ (List.mem_cons_self ..))
    exact ⟨f, g, r, rfl, f1, f2, g1, g2, fun e => (List.nodup_cons.mp nd).1 (by rw [e]; exact List.mem_cons_self ..), f3, f4, g3, g4⟩
theorem sIx_in {n d i : Nat} (h : i ≤ n) : HT.sIx n d (some (i : Int)) = i := by
  rw [HT.sIx_nat]
  omega
theorem cut_hi {xs : List V} {i : Nat} (h : i ≤ xs.length) : cutV xs none (some (i : Int)) = xs.take i := by
  unfold cutV
  rw [sIx_in h]
  show (xs.drop 0).take (i - 0) = _
  rw [List.drop_zero, Nat.sub_zero]
theorem cut_lo {xs : List V} {i : Nat} (h : i ≤ xs.length) : cutV xs (some (i : Int)) none = xs.drop i := by
  unfold cutV
  rw [sIx_in h]
  show (xs.drop i).take (xs.length - i) = _
  rw [List.take_of_length_le (by rw [List.length_drop]; omega)]
theorem head_set {α : Type} (l : List α) (i : Nat) (x : α) : (l.set (1 + i) x).head? = l.head? := by
  cases l with
  | nil => rfl
  | cons a r => rw [Nat.add_comm]; rfl
/-! ### lambdas on a list of pairs -/
theorem shaped_tup {xs : List V} (h : ∀ v ∈ xs, flatS v = true) : SeqAt.shaped (.tuple (xs.map fdat)) = true := by
  unfold SeqAt.shaped
  have h1 := depthAll_flat xs
  have h2 : PyData.canLay0 (.tuple (xs.map fdat)) = true := by simp only [PyData.canLay0]; exact canLayAll_flat h
  rw [h2, Bool.true_and]
  refine decide_eq_true ?_
  simp only [PyData.depth]
  omega
theorem dp_tup {H : Hp} {a : Addr} {xs : List V} (h : H a = some (.tup xs)) (f : ∀ v ∈ xs, flatS v = true) : Dp K H (.ref a) (.tuple (xs.map fdat)) := .tup (SqT.of h) (dpAll_flat f)
theorem eqv_same {d : PyData} (h : SeqAt.shaped d = true) : PyData.eqv d d = true := SeqAt.eqv_refl d (SeqAt.canLay_of_shaped h)
theorem ne_tup {H : Hp} {a b : Addr} {xs : List V} {Q : VK} (ha : H a = some (.tup xs)) (hb : H b = some (.tup xs)) (f : ∀ v ∈ xs, flatS v = true) (q : Q (.bl false) H) : rNeD K (.ref a) (.ref b) H Q :=
  ⟨_, _, dp_tup ha f, dp_tup hb f, shaped_tup f, shaped_tup f, by rw [eqv_same (shaped_tup f)]; exact q⟩
/-- what is heard of m faces with pairs of which t is told twice -/
def resOf : Option Int → Int → List V
  | some t, _ => [.str "twice", .int t]
  | none, m => if m ≤ 24 then [] else [.str "many", .str "faces", .int 24]
theorem resOf_none (m : Int) : resOf none m = if m ≤ 24 then [] else [.str "many", .str "faces", .int 24] := rfl
theorem resOf_flat (o : Option Int) (m : Int) : ∀ v ∈ resOf o m, flatS v = true := by
  intro v hv
  cases o with
  | some t =>
    simp only [resOf, List.mem_cons, List.not_mem_nil, or_false] at hv
    rcases hv with rfl | rfl
    · show PyData.strOk _ = true
      decide +kernel
    · rfl
  | none =>
    rw [resOf_none] at hv
    by_cases h : m ≤ 24
    · rw [if_pos h] at hv
      cases hv
    · rw [if_neg h] at hv
      simp only [List.mem_cons, List.not_mem_nil, or_false] at hv
      rcases hv with rfl | rfl | rfl
      · show PyData.strOk _ = true
        decide +kernel
      · show PyData.strOk _ = true
        decide +kernel
      · rfl
theorem resOf_big {o : Option Int} {m : Int} (h : 24 < m) : resOf o m = resOf o 25 := by
  cases o with
  | some t => rfl
  | none => rw [resOf_none, resOf_none, if_neg (by omega), if_neg (by decide)]
theorem lam_pairs {Ha Hb : Hp} {t0 L : Addr} {C : VK} {z : Str} {m : Int} {us : List Addr} {ps : List (Int × Int)} {dl : List V} (g : isGrid (.str z) = true) (s : Same Ha Hb) (ht : Hb t0 = some (.tup [])) (m1 : 1 ≤ m)
    (hL : Ha L = some (.lst (us.map V.ref))) (hus : Seams Ha us ps) (hl : ps.length ≤ 400) (hok : ∀ r ∈ ps, Pok (m * turnOf z) r) (hdl : dl = resOf (tw (flat2 ps)) m) (key : ∀ B r, Same Ha B → B r = some (.tup dl) → C (.ref r) B) :
    ∀ x dx, Hb x = none → Hb dx = none → dx ≠ x → sp_Skin_init K [.ref x, .str z, .int m, .ref L] (upd (upd Hb dx (.own x)) x (.ins (He.ga K "Skin") dx [])) (fun v H2 => v = .non ∧ (fun (_ : V) H' => C (.ref t0) H') (.ref x) H2) (EH K C) :=
  lam_skinB s ht ⟨.str, True.intro⟩ ⟨.int, True.intro⟩ fun H' s' => .made z m L us ps rfl g rfl m1 rfl (.inl ((s.trans s') _ _ hL)) (hus.same (s.trans s')) hl hok
    (fun t c => eh_twice fun B r sB _ w => key B r ((s.trans s').trans sB) (by rw [hdl, c]; exact w))
    (fun c h => mn_told fun B r sB _ w => key B r ((s.trans s').trans sB) (by rw [hdl, c, resOf_none, if_neg (by omega)]; exact w))
    (fun c h H'' s'' h'' => key H'' t0 s'' (by rw [hdl, c, resOf_none, if_pos h]; exact h''))
theorem lam_with {Ha Hb : Hp} {t0 x dx st mt ft a : Addr} {us ts : List Addr} {C : VK} {z : Str} {n : Int} {ps0 qs rs : List (Int × Int)} {dl : List V} (s : Same Ha Hb) (ht : Hb t0 = some (.tup [])) (hx : SkinIs K Ha x z n ps0 dx st mt ft us qs) (g : isGrid (.str z) = true) (n1 : 1 ≤ n) (n24 : n ≤ 24)
    (ha : Hb a = some (.lst (ts.map V.ref))) (hne : ts ≠ []) (hts : Seams Hb ts rs) (hok : ∀ p ∈ qs ++ rs, Pok (n * turnOf z) p) (hl : (qs ++ rs).length ≤ 400) (hq : qs ≠ []) (hdl : dl = resOf (tw (flat2 (qs ++ rs))) n) (key : ∀ B r, Same Ha B → B r = some (.tup dl) → C (.ref r) B) :
    sp_Skin_with_seams K [.ref x, .ref a] Hb (fun _ H' => C (.ref t0) H') (EH K C) :=
  ⟨x, dx, st, mt, ft, us, z, n, ps0, qs, .ref a, .list, rfl, hx.same s, g, n1, n24, ⟨_, ha⟩, .inr ⟨a, ts, rs, rfl, ha, hne, hts, hok, hl, hq,
    (fun t c => eh_twice fun B r sB _ w => key B r (s.trans sB) (by rw [hdl, c]; exact w)),
    (fun c H'' y s'' _ _ => key H'' t0 (s.trans s'') (by rw [hdl, c, resOf_none, if_pos n24]; exact s'' _ _ ht))⟩⟩
theorem first_do {H : Hp} {S T0 : Addr} {z : Str} {n : Int} {g0 : Int × Int} {E : XK} {ok : Str → Int → List (Int × Int) → Prop} (hS : H S = some (.lst [.ref T0])) (hT0 : H T0 = some (.tup [.int g0.1, .int g0.2])) (g : isGrid (.str z) = true) (n1 : 1 ≤ n) (n24 : n ≤ 24) (hok : Pok (n * turnOf z) g0)
    (q : ok z n [g0]) : SkDo K E H (.str z) (.int n) (.ref S) ok :=
  .made z n S [T0] [g0] rfl g rfl n1 rfl (.inl hS) (seams_one hT0) (show 1 ≤ 400 by decide) (fun q hq => by rw [List.mem_singleton.mp hq]; exact hok) (fun t c => by
    rw [show flat2 [g0] = flat2 [(g0.1, g0.2)] from rfl, tw_two hok.2.2.2.2] at c
    cases c) (fun _ c => absurd c (by omega)) fun _ _ => q
theorem made_same {H : Hp} {x dx C : Addr} (nx : H x = none) (nd : H dx = none) (ne : dx ≠ x) : Same H (upd (upd H dx (.own x)) x (.ins C dx [])) := (same_new (o := .own x) nd).trans (same_new (o := .ins C dx []) (by rw [upd_ne ne.symm]; exact nx))
theorem first_skin {H : Hp} {x dx st mt ft : Addr} {us : List Addr} {z : Str} {n : Int} {g0 : Int × Int} {qs : List (Int × Int)} (h : SkinIs K H x z n [g0] dx st mt ft us qs) : qs = [srt g0] := List.perm_singleton.mp h.perm
theorem shaped_two (i j : Int) : SeqAt.shaped (.list [.tuple [.str "twice", .int i], .tuple [.str "twice", .int j]]) = true := by
  have h : PyData.strOk ("twice" : Str) = true := by decide +kernel
  unfold SeqAt.shaped
  simp [PyData.canLay0, PyData.canLayAll0, PyData.depth, PyData.depthAll, h]
/-- what stands while the pairs are asked for -/
structure Tz (K : PySem.W.Frag) (p c L G : Addr) (us ts : List Addr) (ps gs : List (Int × Int)) (b : Nat) (H0 H : Hp) : Prop where
  wb : Wb K p c b H0 H
  hL : H L = some (.lst (us.map V.ref))
  hG : H G = some (.lst (ts.map V.ref))
  hus : Seams H us ps
  hts : Seams H ts gs
theorem Tz.same {p c L G : Addr} {us ts : List Addr} {ps gs : List (Int × Int)} {b : Nat} {H0 H H1 : Hp} (h : Tz K p c L G us ts ps gs b H0 H) (s : Same H H1) : Tz K p c L G us ts ps gs b H0 H1 := ⟨h.wb.same s, s _ _ h.hL, s _ _ h.hG, h.hus.same s, h.hts.same s⟩
theorem Tz.ext {p c L G : Addr} {us ts : List Addr} {ps gs : List (Int × Int)} {b : Nat} {H0 H H1 : Hp} (h : Tz K p c L G us ts ps gs b H0 H) (e : ExtN H H1) (t : LamX.Tabs (TT0 K) H1) : Tz K p c L G us ts ps gs b H0 H1 :=
  ⟨h.wb.ext e t, e _ _ h.hL (fun _ z => nomatch z), e _ _ h.hG (fun _ z => nomatch z), h.hus.ext e, h.hts.ext e⟩
theorem Tz.kp {p c L G : Addr} {us ts : List Addr} {ps gs : List (Int × Int)} {b d : Nat} {H0 H H1 : Hp} (h : Tz K p c L G us ts ps gs b H0 H) (hp : PenAt H1 p c d) (k : Kp p H H1) (Lp : L ≠ p) (Gp : G ≠ p) : Tz K p c L G us ts ps gs d H0 H1 :=
  ⟨h.wb.kp hp k, k _ _ Lp h.hL, k _ _ Gp h.hG, h.hus.kpP k h.wb.pen, h.hts.kpP k h.wb.pen⟩
theorem SkinIs.kpP {p c : Addr} {b : Nat} {H H' : Hp} {x dx st mt ft : Addr} {us : List Addr} {z : Str} {n : Int} {ps qs : List (Int × Int)} (h : SkinIs K H x z n ps dx st mt ft us qs) (k : Kp p H H') (hp : PenAt H p c b) : SkinIs K H' x z n ps dx st mt ft us qs := by
  have go : ∀ {a : Addr} {o : HO}, H a = some o → (∀ xs, o ≠ .lst xs) → H' a = some o := fun h1 h2 => k _ _ (apart_pen hp h1 h2) h1
  exact ⟨⟨h.nb, go h.ins (fun _ z => nomatch z), go h.nexts (fun _ z => nomatch z), go h.backs (fun _ z => nomatch z)⟩, go h.seams (fun _ z => nomatch z), h.sts.kpP k hp, h.perm, go h.mates (fun _ z => nomatch z), go h.free (fun _ z => nomatch z)⟩
theorem rgL_free {N : Nat} (g0 : Int × Int) : (rgL N).filter (fun v => match v with
    | .int i => fkeep g0 i
    | _ => false) = ((rgI (N : Int)).filter (fkeep g0)).map V.int := by
  unfold rgL rgI
  rw [List.filter_map, List.filter_map, List.map_map, Int.toNat_natCast]
  have e1 : ((fun v => match v with
    | V.int i => fkeep g0 i
    | _ => false) ∘ fun i : Nat => V.int ((0 : Int) + (i : Nat))) = (fkeep g0 ∘ Int.ofNat) := by
    funext i
    show fkeep g0 ((0 : Int) + (i : Nat)) = fkeep g0 (Int.ofNat i)
    rw [Int.zero_add]
    rfl
  rw [e1]
  refine List.map_congr_left fun i _ => ?_
  show V.int ((0 : Int) + (i : Nat)) = V.int (Int.ofNat i)
  rw [Int.zero_add]
  rfl
theorem dpAll_seams {H : Hp} : ∀ {us : List Addr} {qs : List (Int × Int)}, Seams H us qs → DpAll K H (us.map V.ref) (qs.map fun q => PyData.tuple [.int q.1, .int q.2])
  | [], [], _ => .nil
  | [], q :: qs, h => by cases h.len
  | u :: us, [], h => by cases h.len
  | u :: us, q :: qs, h => .cons (.tup (SqT.of (h.at_ 0 u q rfl rfl)) (.cons (.int _) (.cons (.int _) .nil))) (dpAll_seams ⟨by have := h.len; simpa using this, fun i t p h1 h2 => h.at_ (i + 1) t p h1 h2⟩)
theorem shaped_seams (qs : List (Int × Int)) : SeqAt.shaped (.tuple (qs.map fun q => PyData.tuple [.int q.1, .int q.2])) = true := by
  have h1 : ∀ l : List (Int × Int), PyData.canLayAll0 (l.map fun q => PyData.tuple [.int q.1, .int q.2]) = true := fun l => by
    induction l with
    | nil => simp only [List.map_nil, PyData.canLayAll0]
    | cons a r ih => simp only [List.map_cons, PyData.canLayAll0, PyData.canLay0, ih, Bool.and_true]
  have h2 : ∀ l : List (Int × Int), PyData.depthAll (l.map fun q => PyData.tuple [.int q.1, .int q.2]) ≤ 3 := fun l => by
    induction l with
    | nil => simp [PyData.depthAll]
    | cons a r ih =>
      simp only [List.map_cons, PyData.depthAll, PyData.depth]
      omega
  unfold SeqAt.shaped
  rw [show PyData.canLay0 (.tuple (qs.map fun q => PyData.tuple [.int q.1, .int q.2])) = true by simp only [PyData.canLay0]; exact h1 qs, Bool.true_and]
  refine decide_eq_true ?_
  have := h2 qs
  simp only [PyData.depth]
  omega
theorem ne_seams {qs rs : List (Int × Int)} (h : qs.length ≠ rs.length) : PyData.eqv (.tuple (qs.map fun q => PyData.tuple [.int q.1, .int q.2])) (.tuple (rs.map fun q => PyData.tuple [.int q.1, .int q.2])) = false := by
  rw [PyData.eqv]
  exact SeqAt.eqvAll_other_length (by rw [List.length_map, List.length_map]; exact h)
def sp_law_twice_right (K : PySem.W.Frag) : Sp := fun vs H Q _ => ∃ (p c : Addr) (b : Nat) (z : Str) (n : Int), vs = [.ref p, .str z, .int n, .int (n * turnOf z)] ∧ isGrid (.str z) = true ∧ 2 ≤ n ∧ n ≤ 5 ∧ PenAt H p c (b + 100) ∧ LamX.Tabs (TT0 K) H ∧
  ∀ H', Fr p H H' → PenAt H' p c b → LamX.Tabs (TT0 K) H' → Q (.bl true) H'
theorem sc_law_twice_right : FnScope ["_law_pen_here", "_law_kind", "_law_faces", "_law_sides", "_law_pairs_here", "_law_good", "_law_bend", "_law_at", "_law_side", "_law_twice_here", "_law_due", "_law_far", "_law_skin", "_law_more", "_law_free", "_law_heard_here", "_law_one"] ["_law_pen_here", "_law_kind", "_law_faces", "_law_sides"] (defScope s_law_twice_right) := ⟨rfl, rfl, rfl, by decide +kernel, rfl, by decide +kernel, by decide +kernel⟩
theorem ok_law_twice_right {fd : FuncData} (F : FunD K "_law_twice_right" "_law_twice_right" (defArgs s_law_twice_right) (defBody s_law_twice_right) (defScope s_law_twice_right) [] [] (He.fAd K ("_law_twice_right", none)) fd) (Tx : Txt K mg) (tb : LamX.TabB base mg (He.codeOf K ("_law_twice_right", none)) (tabT K "_law_twice_right")) (h_heard : HasH K mg) (h_law_pairs : Has P w K mg base "_law_pairs" 2 ["_law_pen_here", "_law_sides", "_law_many"] (sp_law_pairs K)) (h_law_draw : Has P w K mg base "_law_draw" 1 ["_law_pen_here", "_law_many"] sp_law_draw) (h_law_pick : Has P w K mg base "_law_pick" 2 ["_law_pen_here", "_law_some"] (sp_law_pick K)) (h_law_twice : Has P w K mg base "_law_twice" 1 ["_law_pairs_here"] (sp_law_twice K)) (h_Skin_init : HasI P w K mg base 5 (sp_Skin_init K)) (h_Skin_with_seams : HasM P w K mg base (L2.CX P w) "Skin" "with_seams" 7 ["self", "seams"] (sp_Skin_with_seams K)) (h_Skin_str : HasM P w K mg base CX0 "Skin" "__str__" 2 ["self"] (sp_Skin_str K))  : FnOk P w K mg base CX0 10 (He.fAd K ("_law_twice_right", none)) fd ["_law_pen_here", "_law_kind", "_law_faces", "_law_sides"] (sp_law_twice_right K) := by
  obtain ⟨gH, ocH, odH, dVH, kVH, docH, pmH, anH, cdvH, ctH, oslH, g_heard, k_heard, lk_heard, hc_heard, b_heard⟩ := h_heard
  obtain ⟨f_law_pairs, fd_law_pairs, G_law_pairs, g_law_pairs, k_law_pairs, b_law_pairs⟩ := h_law_pairs
  obtain ⟨f_law_draw, fd_law_draw, G_law_draw, g_law_draw, k_law_draw, b_law_draw⟩ := h_law_draw
  obtain ⟨f_law_pick, fd_law_pick, G_law_pick, g_law_pick, k_law_pick, b_law_pick⟩ := h_law_pick
  obtain ⟨f_law_twice, fd_law_twice, G_law_twice, g_law_twice, k_law_twice, b_law_twice⟩ := h_law_twice
  obtain ⟨fd_Skin_init, G_Skin_init, b_Skin_init, ⟨ds2_Skin_init, v2_Skin_init, b2_Skin_init⟩, ⟨ds1_Skin_init, kg_Skin_init, kb_Skin_init_faces_kind⟩⟩ := h_Skin_init
  obtain ⟨fd_Skin_with_seams, G_Skin_with_seams, b_Skin_with_seams⟩ := h_Skin_with_seams
  obtain ⟨fd_Skin_str, G_Skin_str, b_Skin_str⟩ := h_Skin_str
  refine okC F sc_law_twice_right (fun vs H Q E h => ?_) (fun A outer s H vs Q E hr h => ?_)
  · obtain ⟨p, c, b, z, n, rfl, _⟩ := h
    rfl
  · obtain ⟨p, c, b, z, n, rfl, hg, n2, n5, hp, ht, q⟩ := h
    have np : ∀ {H' : Hp} {a : Addr} {b : Nat}, PenAt H' p c b → H' a = none → a ≠ p := fun h1 h2 => (h1.new h2).1
    have turn := turn_in z
    have hN : 6 ≤ n * turnOf z := by rcases turn with e | e <;> rw [e] <;> omega
    have hN2 : n * turnOf z ≤ 20 := by rcases turn with e | e <;> rw [e] <;> omega
    have l200 : n * turnOf z / 2 - 1 < 2 ^ 200 := by
      have : (100 : Int) < 2 ^ 200 := by decide
      omega
    refine ⟨_, PSs.nox (pss_cons (ps_set (i := 4) sc_law_twice_right.nd rfl (Or.inr rfl) (pe_call G_law_pairs (hr.mono (by decide)) (by rfl) g_law_pairs k_law_pairs b_law_pairs .nil pass0 (pa_cons (pv 0) (pa_cons (pv 3) (pa_cons (pe_op op_add pe_int (pe_call G_law_draw (hr.mono (by decide)) (by rfl) g_law_draw k_law_draw b_law_draw .nil pass0 (pa_cons (pv 0) (pa_cons (pe_op op_sub (pe_op op_fdiv (pv 3) pe_int) pe_int) pa_nil)))) pa_nil)))))
        (pss_cons (ps_set (i := 5) sc_law_twice_right.nd rfl (Or.inr rfl) (pe_callTy call_list_of (by rfl) Tx.n_list (by decide +kernel) (pa_cons (pv 4) pa_nil)))
        (C8.pss_cut (ps_for PassesOwn.never rfl (pi_range1 (by rfl) Tx.n_range (pa_cons (pe_op op_add pe_int (pe_call G_law_draw (hr.mono (by decide)) (by rfl) g_law_draw k_law_draw b_law_draw .nil pass0 (pa_cons (pv 0) (pa_cons pe_int pa_nil)))) pa_nil)) (pg_name (i := 6) sc_law_twice_right.nd rfl (Or.inl rfl)) (pss_cons (ps_set (i := 7) sc_law_twice_right.nd rfl (Or.inl rfl) (pe_op op_add pe_int (pe_call G_law_draw (hr.mono (by decide)) (by rfl) g_law_draw k_law_draw b_law_draw .nil pass0 (pa_cons (pv 0) (pa_cons (pe_op op_sub (pe_callB call_len_seq (by rfl) Tx.n_len (by decide +kernel) (pa_cons (pv 4) pa_nil)) pe_int) pa_nil)))))
        (pss_cons (ps_set (i := 8) sc_law_twice_right.nd rfl (Or.inr rfl) (pe_call G_law_pick (hr.mono (by decide)) (by rfl) g_law_pick k_law_pick b_law_pick .nil pass0 (pa_cons (pv 0) (pa_cons (pe_call G_law_pick (hr.mono (by decide)) (by rfl) g_law_pick k_law_pick b_law_pick .nil pass0 (pa_cons (pv 0) (pa_cons (pe_slice sl_list (pv 5) po_none (po_some (pv 7))) pa_nil))) pa_nil))))
        (pss_one (ps_if (pt_cmpR op_notIn_seq (pv 8) (pe_ix ix_list (pv 4) (pv 7) (fun _ _ => rfl)) rfl) (pss_one (ps_asg (pe_ifExp (pt_cmpR op_eq (pe_call G_law_draw (hr.mono (by decide)) (by rfl) g_law_draw k_law_draw b_law_draw .nil pass0 (pa_cons (pv 0) (pa_cons pe_int pa_nil))) pe_int (nomark _)) (pe_tup (pa_cons (pv 8) (pa_cons (pe_ix ix_tup (pe_ix ix_list (pv 4) (pv 7) (fun _ _ => rfl)) pe_int (fun _ _ => rfl)) pa_nil))) (pe_tup (pa_cons (pe_ix ix_tup (pe_ix ix_list (pv 4) (pv 7) (fun _ _ => rfl)) pe_int (fun _ _ => rfl)) (pa_cons (pv 8) pa_nil)))) (pg_sub (pv 4) (pv 7) set_list))) pss_nil)))))
        (pss_cons (ps_set (i := 9) sc_law_twice_right.nd rfl (Or.inl rfl) (pe_call G_law_twice (hr.mono (by decide)) (by rfl) g_law_twice k_law_twice b_law_twice .nil pass0 (pa_cons (pv 4) pa_nil)))
        (C8.pss_cut (ps_set (i := 10) sc_law_twice_right.nd rfl (Or.inl rfl) (pe_ifExp (pt_cmpR op_notN (pv 9) pe_non (nomark _)) (pe_tup (pa_cons pe_str (pa_cons (pv 9) pa_nil))) (pe_tup pa_nil)))
        (pss_cons (ps_if (pt_cmpR (op_neD hr.units) (pe_lamcall (T := TT0 K) (TT := TTh K) (k := 6) (by rfl) g_heard k_heard lk_heard hc_heard b_heard sc_law_heard rfl (.inl rfl) (heard_gives rfl rfl Tx) tb rfl (mem_law_twice_right K) (hu_law_twice_right Tx.tabs) (hr.mono (by decide)) (LamX.lamS_by (sc := defScope s_law_twice_right) (by decide +kernel)) rfl (fun _ _ _ _ _ => rfl) (fun A outer s H E f c hr => (pe_make Tx.mk_Skin G_Skin_init (hr.mono (by decide)) (by rfl) Tx.g_Skin b_Skin_init .nil (passE rfl rfl rfl rfl) (pa_cons (pv 1) (pa_cons (pv 2) (pa_cons (pv 4) pa_nil)))))) (pv 10) (nomark _)) (pss_one (ps_ret pe_bl)) pss_nil)
        (pss_cons (ps_if (pt_cmpR (op_neD hr.units) (pe_lamcall (T := TT0 K) (TT := TTh K) (k := 6) (by rfl) g_heard k_heard lk_heard hc_heard b_heard sc_law_heard rfl (.inl rfl) (heard_gives rfl rfl Tx) tb rfl (mem_law_twice_right K) (hu_law_twice_right Tx.tabs) (hr.mono (by decide)) (LamX.lamS_by (sc := defScope s_law_twice_right) (by decide +kernel)) rfl (fun _ _ _ _ _ => rfl) (fun A outer s H E f c hr => (pe_make Tx.mk_Skin G_Skin_init (hr.mono (by decide)) (by rfl) Tx.g_Skin b_Skin_init .nil (passE rfl rfl rfl rfl) (pa_cons (pv 1) (pa_cons (pv 2) (pa_cons (pv 5) pa_nil)))))) (pe_tup pa_nil) (nomark _)) (pss_one (ps_ret pe_bl)) pss_nil)
        (C8.pss_cut (ps_set (i := 11) sc_law_twice_right.nd rfl (Or.inl rfl) (pe_ifExp (pt_cmpR op_notN (pv 9) pe_non (nomark _)) (pe_tup (pa_cons pe_str (pa_cons (pv 9) pa_nil))) (pe_tup (pa_cons pe_str (pa_cons pe_str (pa_cons pe_int pa_nil))))))
        (pss_cons (ps_if (pt_cmpR (op_neD hr.units) (pe_lamcall (T := TT0 K) (TT := TTh K) (k := 6) (by rfl) g_heard k_heard lk_heard hc_heard b_heard sc_law_heard rfl (.inl rfl) (heard_gives rfl rfl Tx) tb rfl (mem_law_twice_right K) (hu_law_twice_right Tx.tabs) (hr.mono (by decide)) (LamX.lamS_by (sc := defScope s_law_twice_right) (by decide +kernel)) rfl (fun _ _ _ _ _ => rfl) (fun A outer s H E f c hr => (pe_make Tx.mk_Skin G_Skin_init (hr.mono (by decide)) (by rfl) Tx.g_Skin b_Skin_init .nil (passE rfl rfl rfl rfl) (pa_cons (pv 1) (pa_cons (pe_op op_add pe_int (pe_call G_law_draw (hr.mono (by decide)) (by rfl) g_law_draw k_law_draw b_law_draw .nil pass0 (pa_cons (pv 0) (pa_cons pe_int pa_nil)))) (pa_cons (pv 4) pa_nil)))))) (pv 11) (nomark _)) (pss_one (ps_ret pe_bl)) pss_nil)
        (pss_cons (ps_if (pt_cmpR (op_neD hr.units) (pe_lamcall (T := TT0 K) (TT := TTh K) (k := 6) (by rfl) g_heard k_heard lk_heard hc_heard b_heard sc_law_heard rfl (.inl rfl) (heard_gives rfl rfl Tx) tb rfl (mem_law_twice_right K) (hu_law_twice_right Tx.tabs) (hr.mono (by decide)) (LamX.lamS_by (sc := defScope s_law_twice_right) (by decide +kernel)) rfl (fun _ _ _ _ _ => rfl) (fun A outer s H E f c hr => (pe_make Tx.mk_Skin G_Skin_init (hr.mono (by decide)) (by rfl) Tx.g_Skin b_Skin_init .nil (passE rfl rfl rfl rfl) (pa_cons (pv 1) (pa_cons (pe_op op_pow pe_int pe_int) (pa_cons (pv 4) pa_nil)))))) (pv 11) (nomark _)) (pss_one (ps_ret pe_bl)) pss_nil)
        (C8.pss_cut (ps_set (i := 12) sc_law_twice_right.nd rfl (Or.inr rfl) (pe_make Tx.mk_Skin G_Skin_init (hr.mono (by decide)) (by rfl) Tx.g_Skin b_Skin_init .nil passN (pa_cons (pv 1) (pa_cons (pv 2) (pa_cons (pe_slice sl_list (pv 5) po_none (po_some pe_int)) pa_nil)))))
        (pss_cons (ps_set (i := 13) sc_law_twice_right.nd rfl (Or.inr rfl) (pe_slice sl_list (pv 4) (po_some pe_int) po_none))
        (pss_cons (ps_if (PW.pt (pw_or (pt_cmpR (op_neD hr.units) (pe_lamcall (T := TT0 K) (TT := TTh K) (k := 7) (by rfl) g_heard k_heard lk_heard hc_heard b_heard sc_law_heard rfl (.inl rfl) (heard_gives rfl rfl Tx) tb rfl (mem_law_twice_right K) (hu_law_twice_right Tx.tabs) (hr.mono (by decide)) (LamX.lamS_by (sc := defScope s_law_twice_right) (by decide +kernel)) rfl (fun _ _ _ _ _ => rfl) (fun A outer s H E f c hr => (pe_meth (pv 12) Tx.cl_Skin Tx.me_Skin_with_seams G_Skin_with_seams (hr.mono (by decide)) b_Skin_with_seams .nil (passE rfl rfl rfl rfl) (pa_cons (pv 13) pa_nil)))) (pv 10) (nomark _)) (pw_or1 (pt_cmpR op_ne (pe_callTy (call_strO Tx.me_Skin_str G_Skin_str b_Skin_str (hr.mono (by decide))) (by rfl) Tx.n_str (by decide +kernel) (pa_cons (pv 12) pa_nil)) (pe_callTy (call_strO Tx.me_Skin_str G_Skin_str b_Skin_str (hr.mono (by decide))) (by rfl) Tx.n_str (by decide +kernel) (pa_cons (pe_make Tx.mk_Skin G_Skin_init (hr.mono (by decide)) (by rfl) Tx.g_Skin b_Skin_init .nil passN (pa_cons (pv 1) (pa_cons (pv 2) (pa_cons (pe_slice sl_list (pv 5) po_none (po_some pe_int)) pa_nil)))) pa_nil)) (nomark _))))) (pss_one (ps_ret pe_bl)) pss_nil)
        (pss_cons (ps_asg (pe_tup (pa_cons (pe_call G_law_pick (hr.mono (by decide)) (by rfl) g_law_pick k_law_pick b_law_pick .nil pass0 (pa_cons (pv 0) (pa_cons (pe_ix ix_list (pv 5) pe_int (fun _ _ => rfl)) pa_nil))) (pa_cons (pe_lc (own := [("_law_one", 16)]) (g := gName 16) rfl sc_law_twice_right.nd (pi_range1 (by rfl) Tx.n_range (pa_cons (pv 3) pa_nil)) (blkOk_by (own := [("_law_one", 16)]) (N := ["_law_pen_here", "_law_kind", "_law_faces", "_law_sides", "_law_pairs_here", "_law_good", "_law_bend", "_law_at", "_law_side", "_law_twice_here", "_law_due", "_law_far", "_law_skin", "_law_more", "_law_free", "_law_heard_here", "_law_one"]) (sc := defScope s_law_twice_right) (by decide +kernel)) (fun _ _ _ _ _ => (pg_name (i := 16) sc_law_twice_right.nd rfl (Or.inl rfl))) (fun _ _ _ _ _ => (pts_one (pt_cmpR (op_notIn_seqK (K := K) rfl) (pv 16) (pe_ix (ix_listK (K := K) rfl) (pv 5) pe_int (fun _ _ => rfl)) rfl))) (fun _ _ _ _ _ => (pv 16))) pa_nil))) (pg_tup (by rfl) (pgs_cons (pg_name (i := 8) sc_law_twice_right.nd rfl (Or.inr rfl)) (pgs_cons (pg_name (i := 14) sc_law_twice_right.nd rfl (Or.inr rfl)) pgs_nil))))
        (pss_cons (ps_set (i := 15) sc_law_twice_right.nd rfl (Or.inl rfl) (pe_lst (pa_cons (pe_lamcall (T := TT0 K) (TT := TTh K) (k := 7) (by rfl) g_heard k_heard lk_heard hc_heard b_heard sc_law_heard rfl (.inl rfl) (heard_gives rfl rfl Tx) tb rfl (mem_law_twice_right K) (hu_law_twice_right Tx.tabs) (hr.mono (by decide)) (LamX.lamS_by (sc := defScope s_law_twice_right) (by decide +kernel)) rfl (fun _ _ _ _ _ => rfl) (fun A outer s H E f c hr => (pe_meth (pv 12) Tx.cl_Skin Tx.me_Skin_with_seams G_Skin_with_seams (hr.mono (by decide)) b_Skin_with_seams .nil (passE rfl rfl rfl rfl) (pa_cons (pe_lst (pa_cons (pe_tup (pa_cons (pv 8) (pa_cons (pe_ix (ix_listK (K := K) rfl) (pv 14) pe_int (fun _ _ => rfl)) pa_nil))) pa_nil)) pa_nil)))) (pa_cons (pe_lamcall (T := TT0 K) (TT := TTh K) (k := 7) (by rfl) g_heard k_heard lk_heard hc_heard b_heard sc_law_heard rfl (.inl rfl) (heard_gives rfl rfl Tx) tb rfl (mem_law_twice_right K) (hu_law_twice_right Tx.tabs) (hr.mono (by decide)) (LamX.lamS_by (sc := defScope s_law_twice_right) (by decide +kernel)) rfl (fun _ _ _ _ _ => rfl) (fun A outer s H E f c hr => (pe_meth (pv 12) Tx.cl_Skin Tx.me_Skin_with_seams G_Skin_with_seams (hr.mono (by decide)) b_Skin_with_seams .nil (passE rfl rfl rfl rfl) (pa_cons (pe_lst (pa_cons (pe_tup (pa_cons (pe_ix (ix_listK (K := K) rfl) (pv 14) pe_int (fun _ _ => rfl)) (pa_cons (pe_ix (ix_listK (K := K) rfl) (pv 14) pe_int (fun _ _ => rfl)) pa_nil))) (pa_cons (pe_tup (pa_cons (pe_ix (ix_listK (K := K) rfl) (pv 14) pe_int (fun _ _ => rfl)) (pa_cons (pv 8) pa_nil))) pa_nil))) pa_nil)))) pa_nil))))
        (pss_one (ps_ret (pe_and (pe_cmpR (op_eqD hr.units) (pv 15) (pe_lst (pa_cons (pe_tup (pa_cons pe_str (pa_cons (pv 8) pa_nil))) (pa_cons (pe_tup (pa_cons pe_str (pa_cons (pe_ix ix_list (pv 14) pe_int (fun _ _ => rfl)) pa_nil))) pa_nil))) (nomark _)) (pe_one (pe_cmpR (op_neD hr.units) (pe_fld (pe_meth (pv 12) Tx.cl_Skin Tx.me_Skin_with_seams G_Skin_with_seams (hr.mono (by decide)) b_Skin_with_seams .nil passN (pa_cons (pe_lst (pa_cons (pe_tup (pa_cons (pe_ix ix_list (pv 14) pe_int (fun _ _ => rfl)) (pa_cons (pe_ix ix_list (pv 14) pe_int (fun _ _ => rfl)) pa_nil))) pa_nil)) pa_nil)) rfl) (pe_fld (pv 12) rfl) (nomark _))))))))))))))))))))), ?_⟩
    refine ⟨_, rfl, _, rfl, _, rfl, _, rfl, _, _, rfl, rfl, ⟨by decide, by decide⟩, _, _, rfl, rfl, p, c, _, b + 99, rfl, hp, by omega, l200, fun J1 d hp1 k1 d0 d1 => ?_⟩
    obtain ⟨k, rfl⟩ := Int.eq_ofNat_of_zero_le d0
    have W1 : Wb K p c (b + 99) H J1 := Wb.kp (b := b + 100) ⟨hp, ht, Fr.refl p H⟩ hp1 k1
    have hk : k ≤ 8 := by omega
    refine ⟨_, _, rfl, rfl, p, c, b + 99 - 2 * (2 + k), 2 + k, n * turnOf z, by show [V.ref p, V.int (n * turnOf z), V.int (2 + (k : Int))] = _; rw [show (2 : Int) + (k : Int) = ((2 + k : Nat) : Int) by omega], by omega, by omega, by rw [show b + 99 - 2 * (2 + k) + 2 * (2 + k) = b + 99 by omega]; exact W1.pen, fun J2 L ts gs k2 hp2 nL hL hts hgl hap htn => ?_⟩
    obtain ⟨Lp, Lc⟩ := W1.pen.new nL
    have nL0 : H L = none := by
      cases e : H L with
      | none => rfl
      | some o =>
        rw [k1 L o Lp e] at nL
        cases nL
    have W2 : Wb K p c (b + 70) H J2 := (W1.kp hp2 k2).less (by omega)
    -- good = list(pairs)
    refine ⟨_, rfl, L, _, rfl, .inl (SqL.of hL), fun G nG => ?_⟩
    have sG : Same J2 (upd J2 G (.lst (ts.map V.ref))) := same_new nG
    have Gp : G ≠ p := np W2.pen nG
    have GL : G ≠ L := (ne_of_none hL nG).symm
    replace W2 := W2.same sG
    replace hL := sG _ _ hL
    replace hts := hts.same sG
    have hG : upd J2 G (.lst (ts.map V.ref)) G = some (.lst (ts.map V.ref)) := upd_same
    clear sG
    revert W2 hL hts hG
    generalize upd J2 G (.lst (ts.map V.ref)) = J3
    intro W2 hL hts hG
    obtain ⟨g0, gr, hgs⟩ : ∃ g0 gr, gs = g0 :: gr := by
      cases gs with
      | nil => exact absurd hgl (by show ¬ 0 = 2 + k; omega)
      | cons a r => exact ⟨a, r, rfl⟩
    obtain ⟨T0, tr, hts0⟩ : ∃ T0 tr, ts = T0 :: tr := by
      cases ts with
      | nil => exact absurd hts.len (by rw [hgs]; show ¬ 0 = gr.length + 1; omega)
      | cons a r => exact ⟨a, r, rfl⟩
    have hT0 : J3 T0 = some (.tup [.int g0.1, .int g0.2]) := hts.at_ 0 T0 g0 (by rw [hts0]; rfl) (by rw [hgs]; rfl)
    have hg0 : Pok (n * turnOf z) g0 := hap.ok g0 (by rw [hgs]; exact List.mem_cons_self ..)
    -- the bends
    refine ⟨fun σ H' => ∃ (x6 x7 x8 : Option V) (us : List Addr) (ps : List (Int × Int)), σ = [some (.ref p), some (.str z), some (.int n), some (.int (n * turnOf z)), some (.ref L), some (.ref G), x6, x7, x8, none, none, none, none, none, none, none, none] ∧
        Tz K p c L G us ts ps gs (b + 50) H H' ∧ us.head? = some T0 ∧ ps.head? = some g0 ∧ ps.length = 2 + k ∧ ∀ r ∈ ps, Pok (n * turnOf z) r, ?_, ?_⟩

    · refine ⟨_, rfl, p, c, 2, b + 69, rfl, W2.pen, by decide, by decide, fun J4 e hp4 k4 e0 e1 => ?_⟩
      have W4 := W2.kp hp4 k4
      have hL4 := k4 _ _ Lp hL
      have hG4 := k4 _ _ Gp hG
      have hts4 := hts.kpP k4 W2.pen
      refine ⟨_, _, rfl, rfl, _, rfl, by omega, by omega, ?_⟩
      have hm : gs.length = 2 + k := hgl
      refine for_it (walk_range (lo := 0) (n := (1 + e).toNat)) (fun i σ H' => ∃ (x6 x7 x8 : Option V) (us : List Addr) (ps : List (Int × Int)), σ = [some (.ref p), some (.str z), some (.int n), some (.int (n * turnOf z)), some (.ref L), some (.ref G), x6, x7, x8, none, none, none, none, none, none, none, none] ∧
          Wb K p c (b + 69 - 5 * i) H H' ∧ H' L = some (.lst (us.map V.ref)) ∧ H' G = some (.lst (ts.map V.ref)) ∧ Seams H' ts gs ∧ Seams H' us ps ∧ us.head? = some T0 ∧ ps.head? = some g0 ∧ ps.length = 2 + k ∧ ∀ r ∈ ps, Pok (n * turnOf z) r)
        ⟨none, none, none, ts, gs, rfl, W4, hL4, hG4, hts4, hts4, by rw [hts0]; rfl, by rw [hgs]; rfl, hm, hap.ok⟩ (fun _ _ _ _ _ => True.intro) (fun i v σ H5 H6 hi pv y => ?_) (fun σ H5 pv => ?_)
      · obtain ⟨x6, x7, x8, us, ps, rfl, W5, hL5, hG5, hts5, hus5, hu0, hp0, hpl, hok⟩ := pv
        obtain ⟨rfl, rfl⟩ := y
        have hb : b + 69 - 5 * i = (b + 69 - 5 * (i + 1)) + 4 + 1 := by omega
        rw [hb] at W5
        have hul : us.length = 2 + k := by rw [hus5.len]; exact hpl
        refine ⟨_, rfl, _, rfl, L, _, rfl, .inl (SqL.of hL5), _, _, rfl, rfl, p, c, _, _, rfl, W5.pen, by rw [List.length_map, hul]; omega, by rw [List.length_map, hul]; exact Int.lt_of_le_of_lt (show ((2 + k : Nat) : Int) - 1 ≤ 100 by omega) (by decide), fun H7 a hp7 k7 a0 a1 => ?_⟩
        rw [List.length_map, hul] at a1
        have W7 := W5.kp hp7 k7
        have hL7 := k7 _ _ Lp hL5
        have hG7 := k7 _ _ Gp hG5
        have hts7 := hts5.kpP k7 W5.pen
        have hus7 := hus5.kpP k7 W5.pen
        obtain ⟨ai, rfl⟩ := Int.eq_ofNat_of_zero_le a0
        refine ⟨_, _, rfl, rfl, ?_⟩
        -- side = a side of one of the first
        refine ⟨_, rfl, _, rfl, _, rfl, _, rfl, _, rfl, G, _, rfl, SqL.of hG7, fun S nS => ?_⟩
        have htl : ts.length = 2 + k := by rw [hts.len]; exact hgl
        have cutS : cutV (ts.map V.ref) none (some ((fun i j => i + j) 1 (ai : Int))) = (ts.map V.ref).take (1 + ai) := by
          show cutV (ts.map V.ref) none (some (1 + (ai : Int))) = _
          rw [show (1 : Int) + (ai : Int) = ((1 + ai : Nat) : Int) by omega]
          exact cut_hi (by rw [List.length_map, htl]; omega)
        have sS : Same H7 (upd H7 S (.lst (cutV (ts.map V.ref) none (some (1 + (ai : Int)))))) := same_new nS
        refine ⟨p, c, S, (b + 69 - 5 * (i + 1)) + 3, _, rfl, W7.pen.same sS, .inl upd_same, np W7.pen nS, ?_, ?_, fun H8 x hx hp8 k8 => ?_⟩
        · rw [cutS, hts0]
          rw [show 1 + ai = ai + 1 by omega]
          exact List.cons_ne_nil _ _
        · rw [cutS, List.length_take]
          omega
        rw [cutS] at hx
        obtain ⟨j, hj, ej⟩ := List.mem_iff_getElem.mp (List.mem_of_mem_take hx)
        obtain ⟨t, g, rfl, htj, hgj, htup7⟩ := hts7.get (by rw [List.getElem?_eq_getElem hj, ej])
        have W8 := (W7.same sS).kp hp8 k8
        have hL8 := k8 _ _ Lp (sS _ _ hL7)
        have hG8 := k8 _ _ Gp (sS _ _ hG7)
        have hts8 := (hts7.same sS).kpP k8 (W7.pen.same sS)
        have hus8 := (hus7.same sS).kpP k8 (W7.pen.same sS)
        have htup8 := k8 _ _ (apart_pen (W7.pen.same sS) (sS _ _ htup7) fun _ z => nomatch z) (sS _ _ htup7)
        have hgok := hap.ok g (List.mem_of_getElem? hgj)
        refine ⟨p, c, t, (b + 69 - 5 * (i + 1)) + 2, _, rfl, W8.pen, .inr htup8, apart_pen W8.pen htup8 (fun _ z => nomatch z), List.cons_ne_nil _ _, (show 2 ≤ 1000 by decide), fun H9 y hy hp9 k9 => ?_⟩
        obtain ⟨s, rfl, hs0, hs1⟩ : ∃ s, y = .int s ∧ 0 ≤ s ∧ s < n * turnOf z := by
          obtain ⟨h0, h1, h2, h3, _⟩ := hgok
          simp only [List.mem_cons, List.not_mem_nil, or_false] at hy
          rcases hy with rfl | rfl
          · exact ⟨g.1, rfl, h0, h1⟩
          · exact ⟨g.2, rfl, h2, h3⟩
        have W9 := W8.kp hp9 k9
        have hL9 := k9 _ _ Lp hL8
        have hG9 := k9 _ _ Gp hG8
        have hts9 := hts8.kpP k9 W8.pen
        have hus9 := hus8.kpP k9 W8.pen
        have hai : 1 + ai < us.length := by omega
        have hai2 : 1 + ai < ps.length := by omega
        have hat : ∀ (w : List Addr), (h : 1 + ai < w.length) → atI (w.map V.ref) (1 + (ai : Int)) = some (.ref w[1 + ai]) := fun w h => by
          rw [show (1 : Int) + (ai : Int) = ((1 + ai : Nat) : Int) by omega]
          exact atI_nat (by rw [List.getElem?_map, List.getElem?_eq_getElem h]; rfl)
        have hu9 : H9 us[1 + ai] = some (.tup [.int (ps[1 + ai]).1, .int (ps[1 + ai]).2]) := hus9.at_ (1 + ai) _ _ (List.getElem?_eq_getElem hai) (List.getElem?_eq_getElem hai2)
        have hpk := hok _ (List.getElem_mem hai2)
        refine ⟨_, rfl, _, rfl, _, rfl, L, _, _, _, rfl, rfl, SqL.of hL9, hat us hai, us[1 + ai], _, rfl, .inr (SqT.of hu9), rfl, rfl, _, rfl, ?_⟩
        show if (!inV (.int s) [.int (ps[1 + ai]).1, .int (ps[1 + ai]).2]) = true then _ else _
        rw [show inV (.int s) [V.int (ps[1 + ai]).1, V.int (ps[1 + ai]).2] = decide (s ∈ [(ps[1 + ai]).1, (ps[1 + ai]).2]) from inV_int (ns := [(ps[1 + ai]).1, (ps[1 + ai]).2])]
        refine ite2 (fun e2 => ?_) (fun e2 => ?_)
        · have hns : s ≠ (ps[1 + ai]).1 ∧ s ≠ (ps[1 + ai]).2 := by simpa using e2
          refine ⟨_, rfl, p, c, 2, (b + 69 - 5 * (i + 1)) + 1, rfl, W9.pen, by decide, by decide, fun H10 e3 hp10 k10 _ _ => ?_⟩
          have hL10 := k10 _ _ Lp hL9
          have hG10 := k10 _ _ Gp hG9
          have hts10 := hts9.kpP k10 W9.pen
          have hus10 := hus9.kpP k10 W9.pen
          have hu10 := k10 _ _ (apart_pen W9.pen hu9 fun _ z => nomatch z) hu9
          obtain ⟨q0, q1, q2, q3, q4⟩ := hpk
          refine ⟨rfl, _, rfl, ite2 (fun _ => ?_) (fun _ => ?_)⟩
          · refine ⟨_, rfl, _, rfl, _, rfl, L, _, _, _, rfl, rfl, SqL.of hL10, hat us hai, us[1 + ai], _, 1, _, rfl, rfl, SqT.of hu10, rfl, ?_⟩
            refine ⟨le_line (n := 2) (by decide), fun T nT => ?_⟩
            have sT : Same H10 (upd H10 T (.tup [.int s, .int (ps[1 + ai]).2])) := same_new nT
            refine ⟨_, rfl, _, rfl, L, _, _, 1 + ai, rfl, rfl, sT _ _ hL10, by show ixN _ (1 + (ai : Int)) = _; rw [show (1 : Int) + (ai : Int) = ((1 + ai : Nat) : Int) by omega]; exact ixN_at (by rw [List.length_map, hul]; omega), ?_⟩
            have hus11 : Seams (upd H10 T (.tup [.int s, .int (ps[1 + ai]).2])) (us.set (1 + ai) T) (ps.set (1 + ai) (s, (ps[1 + ai]).2)) := (hus10.same sT).setAt (r := (s, (ps[1 + ai]).2)) upd_same
            refine ⟨_, _, _, us.set (1 + ai) T, ps.set (1 + ai) (s, (ps[1 + ai]).2), rfl, (((W9.kp hp10 k10).same sT).mut nL0 (sT _ _ hL10) Lp Lc).less (by omega), by rw [upd_same, List.map_set], by rw [upd_ne GL]; exact sT _ _ hG10, (hts10.same sT).kpL (Kp.refl L _).set (sT _ _ hL10), hus11.kpL (Kp.refl L _).set (sT _ _ hL10), ?_, ?_, by rw [List.length_set]; exact hpl, fun r hr => ?_⟩
            · rw [head_set]; exact hu0
            · rw [head_set]; exact hp0
            · rcases List.mem_or_eq_of_mem_set hr with h | rfl
              · exact hok r h
              · exact ⟨hs0, hs1, q2, q3, hns.2⟩
          · refine ⟨_, rfl, _, rfl, L, _, _, _, rfl, rfl, SqL.of hL10, hat us hai, us[1 + ai], _, 0, _, rfl, rfl, SqT.of hu10, rfl, _, rfl, ?_⟩
            refine ⟨le_line (n := 2) (by decide), fun T nT => ?_⟩
            have sT : Same H10 (upd H10 T (.tup [.int (ps[1 + ai]).1, .int s])) := same_new nT
            refine ⟨_, rfl, _, rfl, L, _, _, 1 + ai, rfl, rfl, sT _ _ hL10, by show ixN _ (1 + (ai : Int)) = _; rw [show (1 : Int) + (ai : Int) = ((1 + ai : Nat) : Int) by omega]; exact ixN_at (by rw [List.length_map, hul]; omega), ?_⟩
            have hus11 : Seams (upd H10 T (.tup [.int (ps[1 + ai]).1, .int s])) (us.set (1 + ai) T) (ps.set (1 + ai) ((ps[1 + ai]).1, s)) := (hus10.same sT).setAt (r := ((ps[1 + ai]).1, s)) upd_same
            refine ⟨_, _, _, us.set (1 + ai) T, ps.set (1 + ai) ((ps[1 + ai]).1, s), rfl, (((W9.kp hp10 k10).same sT).mut nL0 (sT _ _ hL10) Lp Lc).less (by omega), by rw [upd_same, List.map_set], by rw [upd_ne GL]; exact sT _ _ hG10, (hts10.same sT).kpL (Kp.refl L _).set (sT _ _ hL10), hus11.kpL (Kp.refl L _).set (sT _ _ hL10), ?_, ?_, by rw [List.length_set]; exact hpl, fun r hr => ?_⟩
            · rw [head_set]; exact hu0
            · rw [head_set]; exact hp0
            · rcases List.mem_or_eq_of_mem_set hr with h | rfl
              · exact hok r h
              · exact ⟨q0, q1, hs0, hs1, fun e => hns.1 e.symm⟩
        · exact ⟨_, _, _, us, ps, rfl, W9.less (by omega), hL9, hG9, hts9, hus9, hu0, hp0, hpl, hok⟩
      · obtain ⟨x6, x7, x8, us, ps, rfl, W5, hL5, hG5, hts5, hus5, hu0, hp0, hpl, hok⟩ := pv
        have he : (1 + e).toNat ≤ 2 := by omega
        exact ⟨x6, x7, x8, us, ps, rfl, ⟨W5.less (by omega), hL5, hG5, hus5, hts5⟩, hu0, hp0, hpl, hok⟩

    rintro σ H5 ⟨x6, x7, x8, us, ps, rfl, Z, hu0, hp0, hpl, hok⟩
    obtain ⟨ur, hus0⟩ : ∃ ur, us = T0 :: ur := by
      cases us with
      | nil => cases hu0
      | cons a r => exact ⟨r, by rw [Option.some.inj hu0]⟩
    obtain ⟨pr, hps0⟩ : ∃ pr, ps = g0 :: pr := by
      cases ps with
      | nil => cases hp0
      | cons a r => exact ⟨r, by rw [Option.some.inj hp0]⟩
    have hpl4 : ps.length ≤ 400 := by omega
    have hgl4 : gs.length ≤ 400 := by omega
    have hul : us.length = 2 + k := by rw [Z.hus.len]; exact hpl
    have hgtw : tw (flat2 gs) = none := tw_nodup hap.nd
    -- the first that stands twice
    refine ⟨_, rfl, L, us, ps, rfl, Z.hL, Z.hus, hpl4, fun H6 s6 => ?_⟩
    replace Z := Z.same s6
    refine ⟨fun σ H' => ∃ A : Addr, σ = [some (.ref p), some (.str z), some (.int n), some (.int (n * turnOf z)), some (.ref L), some (.ref G), x6, x7, x8, some (optV (tw (flat2 ps))), some (.ref A), none, none, none, none, none, none] ∧
        Tz K p c L G us ts ps gs (b + 50) H H' ∧ H' A = some (.tup (resOf (tw (flat2 ps)) n)), ?_, ?_⟩
    · cases htw : tw (flat2 ps) with
      | none =>
        refine ⟨_, rfl, rfl, _, rfl, ite2 (fun e => absurd e (by decide)) (fun _ => ?_)⟩
        refine ⟨Nat.zero_le _, fun A nA => ⟨A, rfl, Z.same (same_new nA), ?_⟩⟩
        rw [upd_same, resOf_none, if_pos (by omega)]
      | some t =>
        refine ⟨_, rfl, rfl, _, rfl, ite2 (fun _ => ?_) (fun e => absurd rfl e)⟩
        refine ⟨_, rfl, le_line (n := 2) (by decide), fun A nA => ⟨A, rfl, Z.same (same_new nA), upd_same⟩⟩
    rintro σ H7 ⟨A, rfl, Z, hA⟩
    -- the pairs
    refine ⟨Z.wb.tabs, fun A1 e1 u1 t1 m1 => ?_⟩
    replace Z := Z.ext e1 u1
    replace hA := e1 _ _ hA fun _ z => nomatch z
    refine ⟨_, rfl, _, rfl, _, rfl, lam_pairs hg (same_new m1) upd_same (by omega) Z.hL Z.hus hpl4 hok rfl (fun B1 r1 sB1 w1 => ?_)⟩
    replace Z := Z.same sB1
    replace hA := sB1 _ _ hA
    refine ⟨_, rfl, ne_tup w1 hA (resOf_flat _ _) ⟨_, rfl, ite2 (fun e => absurd e (by decide)) (fun _ => ?_)⟩⟩
    clear w1
    -- the good ones
    refine ⟨Z.wb.tabs, fun A2 e2 u2 t2 m2 => ?_⟩
    replace Z := Z.ext e2 u2
    replace hA := e2 _ _ hA fun _ z => nomatch z
    refine ⟨_, rfl, _, rfl, _, rfl, lam_pairs (dl := []) hg (same_new m2) upd_same (by omega) Z.hG Z.hts hgl4 hap.ok (by rw [hgtw, resOf_none, if_pos (by omega)]) (fun B2 r2 sB2 w2 => ?_)⟩
    replace Z := Z.same sB2
    replace hA := sB2 _ _ hA
    refine ⟨Nat.zero_le _, fun E2 nE2 => ?_⟩
    have sE2 : Same B2 (upd B2 E2 (.tup [])) := same_new nE2
    replace Z := Z.same sE2
    replace hA := sE2 _ _ hA
    replace w2 := sE2 _ _ w2
    refine ne_tup w2 upd_same (fun v hv => by cases hv) ⟨_, rfl, ite2 (fun e => absurd e (by decide)) (fun _ => ?_)⟩
    clear sE2 w2
    revert Z hA
    generalize upd B2 E2 (.tup []) = G2
    intro Z hA
    -- far
    refine ⟨fun σ H' => ∃ F : Addr, σ = [some (.ref p), some (.str z), some (.int n), some (.int (n * turnOf z)), some (.ref L), some (.ref G), x6, x7, x8, some (optV (tw (flat2 ps))), some (.ref A), some (.ref F), none, none, none, none, none] ∧
        Tz K p c L G us ts ps gs (b + 50) H H' ∧ H' A = some (.tup (resOf (tw (flat2 ps)) n)) ∧ H' F = some (.tup (resOf (tw (flat2 ps)) 25)), ?_, ?_⟩
    · cases htw : tw (flat2 ps) with
      | none =>
        rw [htw] at hA
        refine ⟨_, rfl, rfl, _, rfl, ite2 (fun e => absurd e (by decide)) (fun _ => ?_)⟩
        refine ⟨le_line (n := 3) (by decide), fun F nF => ⟨F, rfl, Z.same (same_new nF), same_new nF _ _ hA, upd_same⟩⟩
      | some t =>
        rw [htw] at hA
        refine ⟨_, rfl, rfl, _, rfl, ite2 (fun _ => ?_) (fun e => absurd rfl e)⟩
        refine ⟨_, rfl, le_line (n := 2) (by decide), fun F nF => ⟨F, rfl, Z.same (same_new nF), same_new nF _ _ hA, upd_same⟩⟩
    rintro σ H8 ⟨F, rfl, Z, hA, hF⟩
    -- 25 and more
    refine ⟨Z.wb.tabs, fun A3 e3 u3 t3 m3 => ?_⟩
    replace Z := Z.ext e3 u3
    replace hA := e3 _ _ hA fun _ z => nomatch z
    replace hF := e3 _ _ hF fun _ z => nomatch z
    have s3 : Same A3 (upd A3 t3 (.tup [])) := same_new m3
    have t3p := np Z.wb.pen m3
    have ap : ∀ {H' : Hp} {b : Nat} {a : Addr} {xs : List V}, PenAt H' p c b → H' a = some (.tup xs) → a ≠ p := fun h1 h2 => apart_pen h1 h2 fun _ z => nomatch z
    refine ⟨_, rfl, _, rfl, p, c, 3, b + 49, rfl, (Z.same s3).wb.pen, by decide, by decide, fun A4 d hp4 k4 d0 d1 => ⟨_, _, rfl, rfl, _, rfl, ?_⟩⟩
    have hA4 := k4 _ _ (ap Z.wb.pen hA) (s3 _ _ hA)
    have hF4 := k4 _ _ (ap Z.wb.pen hF) (s3 _ _ hF)
    have h4 : A4 t3 = some (.tup []) := k4 _ _ t3p upd_same
    replace Z := (Z.same s3).kp hp4 k4 Lp Gp
    refine lam_pairs hg (Same.refl _) h4 (by omega) Z.hL Z.hus hpl4 (fun r hr => pok_up (hok r hr) (Int.mul_le_mul_of_nonneg_right (by omega) (by omega))) (resOf_big (by omega)).symm (fun B3 r3 sB3 w3 => ?_)
    replace Z := Z.same sB3
    have hA := sB3 _ _ hA4
    have hF := sB3 _ _ hF4
    refine ⟨_, rfl, ne_tup w3 hF (resOf_flat _ _) ⟨_, rfl, ite2 (fun e => absurd e (by decide)) (fun _ => ?_)⟩⟩
    clear w3 hA4 hF4 h4
    -- ten to the thirtieth
    refine ⟨Z.wb.tabs, fun A5 e5 u5 t5 m5 => ?_⟩
    replace Z := Z.ext e5 u5
    replace hA := e5 _ _ hA fun _ z => nomatch z
    replace hF := e5 _ _ hF fun _ z => nomatch z
    have hbig : (1000 : Int) ≤ 10 ^ Int.toNat 30 := by decide
    refine ⟨_, rfl, _, _, rfl, rfl, ⟨by decide, by decide, by decide⟩, _, rfl, lam_pairs hg (same_new m5) upd_same (by omega) Z.hL Z.hus hpl4 (fun r hr => pok_up (hok r hr) (Int.mul_le_mul_of_nonneg_right (by omega) (by omega))) (resOf_big (by omega)).symm (fun B5 r5 sB5 w5 => ?_)⟩
    replace Z := Z.same sB5
    replace hA := sB5 _ _ hA
    replace hF := sB5 _ _ hF
    refine ⟨_, rfl, ne_tup w5 hF (resOf_flat _ _) ⟨_, rfl, ite2 (fun e => absurd e (by decide)) (fun _ => ?_)⟩⟩
    clear w5
    -- the skin of the first
    have hG0 : ∀ {H' : Hp} {d : Nat}, Tz K p c L G us ts ps gs d H H' → H' G = some (.lst ((T0 :: tr).map V.ref)) := fun z => by rw [← hts0]; exact z.hG
    have hT : ∀ {H' : Hp} {d : Nat}, Tz K p c L G us ts ps gs d H H' → H' T0 = some (.tup [.int g0.1, .int g0.2]) := fun z => z.hts.at_ 0 T0 g0 (by rw [hts0]; rfl) (by rw [hgs]; rfl)
    have eS : cutV ((T0 :: tr).map V.ref) none (some 1) = [.ref T0] := by
      rw [show (1 : Int) = ((1 : Nat) : Int) from rfl, cut_hi (by simp)]
      rfl
    refine ⟨fun σ H' => ∃ (x dx st mt ft : Addr) (vs : List Addr) (qs : List (Int × Int)), σ = [some (.ref p), some (.str z), some (.int n), some (.int (n * turnOf z)), some (.ref L), some (.ref G), x6, x7, x8, some (optV (tw (flat2 ps))), some (.ref A), some (.ref F), some (.ref x), none, none, none, none] ∧
        Tz K p c L G us ts ps gs (b + 49) H H' ∧ H' A = some (.tup (resOf (tw (flat2 ps)) n)) ∧ SkinIs K H' x z n [g0] dx st mt ft vs qs, ?_, ?_⟩
    · refine ⟨_, rfl, _, rfl, _, rfl, _, rfl, G, _, rfl, SqL.of (hG0 Z), fun S nS => ?_⟩
      intro x dx nx nd ne
      have sS : Same B5 (upd B5 S (.lst (cutV ((T0 :: tr).map V.ref) none (some 1)))) := same_new nS
      have sx := made_same (C := He.ga K "Skin") nx nd ne
      refine ⟨x, dx, _, _, _, .str, .int, rfl, upd_same, True.intro, True.intro, first_do (sx _ _ (by rw [upd_same, eS])) (sx _ _ (sS _ _ (hT Z))) hg (by omega) (by omega) hg0 fun H' kk hs => ⟨rfl, ?_⟩⟩
      have s := sS.trans (same_made nx nd ne kk)
      obtain ⟨dx, st, mt, ft, vs, qs, hx⟩ := hs
      exact ⟨x, dx, st, mt, ft, vs, qs, rfl, Z.same s, s _ _ hA, hx⟩
    rintro σ H9 ⟨x, dx, st, mt, ft, vs, qs, rfl, Z, hA, hx⟩
    have hq1 := first_skin hx
    subst hq1
    have hps : flat2 (srt g0 :: pr) = flat2 ([srt g0] ++ pr) := rfl
    have hne0 : g0.1 ≠ g0.2 := hg0.2.2.2.2
    -- more
    refine ⟨_, rfl, _, rfl, L, _, rfl, SqL.of Z.hL, fun M nM => ?_⟩
    have eM : cutV (us.map V.ref) (some 1) none = ur.map V.ref := by
      rw [show (1 : Int) = ((1 : Nat) : Int) from rfl, cut_lo (by rw [List.length_map]; omega), hus0]
      rfl
    have fM : (upd H9 M (.lst (cutV (us.map V.ref) (some 1) none))) M = some (.lst (ur.map V.ref)) := by rw [upd_same, eM]
    have sM : Same H9 (upd H9 M (.lst (cutV (us.map V.ref) (some 1) none))) := same_new nM
    have Mp : M ≠ p := np Z.wb.pen nM
    replace Z := Z.same sM
    replace hA := sM _ _ hA
    replace hx := hx.same sM
    have etw : tw (flat2 ([srt g0] ++ pr)) = tw (flat2 ps) := by
      rw [hps0]
      exact tw_srt pr hne0
    have hokx : ∀ r ∈ [srt g0] ++ pr, Pok (n * turnOf z) r := fun r hr => by
      rcases List.mem_cons.mp hr with rfl | hr
      · exact pok_srt hg0
      · exact hok r (by rw [hps0]; exact List.mem_cons_of_mem _ hr)
    have hprl : pr.length = 1 + k := by
      rw [hps0] at hpl
      rw [List.length_cons] at hpl
      omega
    have hur : ur ≠ [] := fun e => by
      rw [hus0, e] at hul
      rw [List.length_cons, List.length_nil] at hul
      omega
    have hsur : ∀ {H' : Hp} {d : Nat}, Tz K p c L G us ts ps gs d H H' → Seams H' ur pr := fun z' => by
      have h1 := z'.hus
      rw [hus0, hps0] at h1
      exact ⟨by have := h1.len; simpa using this, fun i t q h2 h3 => h1.at_ (i + 1) t q h2 h3⟩
    have smallx : ∀ r ∈ [srt g0], Small r.1 ∧ Small r.2 := fun r hr => by
      rw [List.mem_singleton.mp hr]
      obtain ⟨a0, a1, a2, a3, _⟩ := pok_srt hg0
      exact ⟨⟨a0, by omega⟩, ⟨a2, by omega⟩⟩
    refine ⟨Z.wb.tabs, fun A6 e6 u6 t6 m6 => ?_⟩
    replace Z := Z.ext e6 u6
    replace hA := e6 _ _ hA fun _ z => nomatch z
    replace hx := hx.ext e6
    replace fM := e6 _ _ fM fun _ z => nomatch z
    refine ⟨_, rfl, x, dx, _, rfl, (hx.same (same_new m6)).ins, rfl, _, rfl, lam_with (same_new m6) upd_same hx hg (by omega) (by omega) (same_new m6 _ _ fM) hur ((hsur Z).same (same_new m6)) hokx (by rw [List.length_append, List.length_singleton, hprl]; omega) (List.cons_ne_nil _ _) (by rw [etw]) (fun B6 r6 sB6 w6 => ?_)⟩
    replace Z := Z.same sB6
    replace hA := sB6 _ _ hA
    replace hx := hx.same sB6
    refine ⟨_, rfl, ne_tup w6 hA (resOf_flat _ _) ⟨_, rfl, ite2 (fun e => absurd e (by decide)) (fun _ => ?_)⟩⟩
    clear w6 fM
    -- its text
    refine ⟨_, rfl, x, dx, _, rfl, hx.ins, x, dx, st, mt, ft, vs, z, n, _, _, rfl, hx, ⟨by omega, by omega⟩, grid_len hg, smallx, (show 1 ≤ 400 by decide), fun B7 sB7 => ⟨_, rfl, ?_⟩⟩
    replace Z := Z.same sB7
    replace hA := sB7 _ _ hA
    replace hx := hx.same sB7
    refine ⟨_, rfl, _, rfl, _, rfl, _, rfl, G, _, rfl, SqL.of (hG0 Z), fun S nS => ?_⟩
    intro y dy ny nd ne
    have sS : Same B7 (upd B7 S (.lst (cutV ((T0 :: tr).map V.ref) none (some 1)))) := same_new nS
    have sy := made_same (C := He.ga K "Skin") ny nd ne
    refine ⟨y, dy, _, _, _, .str, .int, rfl, upd_same, True.intro, True.intro, first_do (sy _ _ (by rw [upd_same, eS])) (sy _ _ (sS _ _ (hT Z))) hg (by omega) (by omega) hg0 fun B8 kk hs => ⟨rfl, ?_⟩⟩
    have s8 := sS.trans (same_made ny nd ne kk)
    obtain ⟨dy2, st2, mt2, ft2, vs2, qs2, hy⟩ := hs
    have hq2 := first_skin hy
    subst hq2
    replace Z := Z.same s8
    replace hA := s8 _ _ hA
    replace hx := hx.same s8
    clear sS sy s8 kk ny nd ne
    refine ⟨y, dy2, _, rfl, hy.ins, y, dy2, st2, mt2, ft2, vs2, z, n, _, _, rfl, hy, ⟨by omega, by omega⟩, grid_len hg, smallx, (show 1 ≤ 400 by decide), fun B9 sB9 => ⟨_, rfl, ?_⟩⟩
    replace Z := Z.same sB9
    replace hx := hx.same sB9
    clear hy hA sB9
    refine ⟨by simp [scal], _, rfl, ite2 (fun e => absurd e (by simp)) (fun _ => ?_)⟩
    -- a side and the free ones
    have hG9 := hG0 Z
    have hT9 := hT Z
    refine ⟨_, rfl, _, rfl, G, _, _, _, rfl, rfl, SqL.of hG9, (show atI _ ((0 : Nat) : Int) = _ from atI_nat rfl), p, c, T0, b + 48, _, rfl, Z.wb.pen, .inr hT9, apart_pen Z.wb.pen hT9 (fun _ z => nomatch z), List.cons_ne_nil _ _, (show 2 ≤ 1000 by decide), fun C1 v hv hp1' kC1 => ?_⟩
    obtain ⟨sd, rfl, hsd⟩ : ∃ s, v = .int s ∧ (s = g0.1 ∨ s = g0.2) := by
      simp only [List.mem_cons, List.not_mem_nil, or_false] at hv
      rcases hv with rfl | rfl
      · exact ⟨_, rfl, .inl rfl⟩
      · exact ⟨_, rfl, .inr rfl⟩
    replace hx := hx.kpP kC1 Z.wb.pen
    replace Z := Z.kp hp1' kC1 Lp Gp
    obtain ⟨N, hNN⟩ := Int.eq_ofNat_of_zero_le (show 0 ≤ n * turnOf z by omega)
    obtain ⟨fa, fb, fr, hF, fa0, fa1, fb0, fb1, fab, fa2, fa3, fb2, fb3⟩ := free_two (n := n * turnOf z) g0 hN
    refine ⟨_, rfl, _, rfl, by omega, by omega, fun D nD => ?_⟩
    have hGc := hG0 Z
    have hTc := hT Z
    have Dp : D ≠ p := np Z.wb.pen nD
    rw [hNN] at hF
    refine lc_pure ((walk_range (lo := 0) (n := (n * turnOf z).toNat)).mono (Y' := fun i H x H' => H' = H ∧ (rgL N)[i]? = some x) (fun _ h => h) (fun i H x H' hi _ y => ⟨y.1, by rw [y.2]; exact rgL_at (by rw [hNN] at hi; exact hi)⟩)) (rgL N) (by rw [rgL_len, hNN]; rfl) (by rw [rgL_len]; omega) (fun i H x H' y => ⟨same_of_eq y.1, y.2⟩) (fun x => x) (fun v => match v with
      | .int i => fkeep g0 i
      | _ => false) nD (fun _ _ => True.intro) (fun i v H2 Q1 Q0 hi s2 q1 q0 => ?_) (fun H2 s2 hD => ?_)
    · refine ⟨rfl, ?_⟩
      obtain ⟨iN, rfl⟩ := rgL_get hi
      refine ⟨_, rfl, _, rfl, G, _, _, _, rfl, rfl, SqL.of (s2 _ _ hGc), (show atI _ ((0 : Nat) : Int) = _ from atI_nat rfl), T0, _, rfl, .inr (SqT.of (s2 _ _ hTc)), rfl, rfl, _, rfl, ?_⟩
      show if (!inV (.int (i : Nat)) [.int g0.1, .int g0.2]) = true then _ else _
      rw [show inV (.int (i : Nat)) [V.int g0.1, V.int g0.2] = decide ((i : Int) ∈ [g0.1, g0.2]) from inV_int (ns := [g0.1, g0.2])]
      refine ite2 (fun e => ?_) (fun e => ?_)
      · exact ⟨_, rfl, q1 e _ (Same.refl _)⟩
      · exact q0 (Bool.eq_false_iff.mpr e) _ (Same.refl _)
    rw [List.map_id', rgL_free, hF] at hD
    replace hD : H2 D = some (.lst (V.int fa :: V.int fb :: fr.map V.int)) := hD
    replace Z := Z.same s2
    replace hx := hx.same s2
    refine ⟨le_line (n := 2) (by decide), fun U nU => ?_⟩
    have sU : Same H2 (upd H2 U (.tup [.int sd, .ref D])) := same_new nU
    replace Z := Z.same sU
    replace hx := hx.same sU
    replace hD := sU _ _ hD
    refine ⟨U, _, rfl, SqT.of upd_same, rfl, _, _, rfl, _, _, rfl, rfl, ?_⟩
    have at0 : atI (V.int fa :: V.int fb :: fr.map V.int) 0 = some (.int fa) := (show atI _ ((0 : Nat) : Int) = _ from atI_nat rfl)
    have at1 : atI (V.int fa :: V.int fb :: fr.map V.int) 1 = some (.int fb) := (show atI _ ((1 : Nat) : Int) = _ from atI_nat rfl)
    -- heard: the side again
    have sd0 : 0 ≤ sd ∧ sd < n * turnOf z := by
      obtain ⟨a0, a1, a2, a3, _⟩ := hg0
      rcases hsd with rfl | rfl
      · exact ⟨a0, a1⟩
      · exact ⟨a2, a3⟩
    have sdf : sd ≠ fa ∧ sd ≠ fb := by
      rcases hsd with rfl | rfl
      · exact ⟨fun e => fa2 e.symm, fun e => fb2 e.symm⟩
      · exact ⟨fun e => fa3 e.symm, fun e => fb3 e.symm⟩
    have pk1 : ∀ r ∈ [srt g0] ++ [(sd, fa)], Pok (n * turnOf z) r := fun r hr => by
      simp only [List.cons_append, List.nil_append, List.mem_cons, List.not_mem_nil, or_false] at hr
      rcases hr with rfl | rfl
      · exact pok_srt hg0
      · exact ⟨sd0.1, sd0.2, fa0, fa1, sdf.1⟩
    have pk2 : ∀ r ∈ [srt g0] ++ [(fa, fb), (fb, sd)], Pok (n * turnOf z) r := fun r hr => by
      simp only [List.cons_append, List.nil_append, List.mem_cons, List.not_mem_nil, or_false] at hr
      rcases hr with rfl | rfl | rfl
      · exact pok_srt hg0
      · exact ⟨fa0, fa1, fb0, fb1, fab⟩
      · exact ⟨fb0, fb1, sd0.1, sd0.2, fun e => sdf.2 e.symm⟩
    have pk3 : ∀ r ∈ [srt g0] ++ [(fa, fb)], Pok (n * turnOf z) r := fun r hr => by
      simp only [List.cons_append, List.nil_append, List.mem_cons, List.not_mem_nil, or_false] at hr
      rcases hr with rfl | rfl
      · exact pok_srt hg0
      · exact ⟨fa0, fa1, fb0, fb1, fab⟩
    refine ⟨Z.wb.tabs, fun A7 e7 u7 t7 m7 => ?_⟩
    replace Z := Z.ext e7 u7
    replace hx := hx.ext e7
    replace hD := e7 _ _ hD fun _ z => nomatch z
    have s7 : Same A7 (upd A7 t7 (.tup [])) := same_new m7
    refine ⟨_, rfl, x, dx, _, rfl, (hx.same s7).ins, rfl, _, rfl, _, rfl, D, _, _, _, rfl, rfl, SqL.of (s7 _ _ hD), at0, le_line (n := 2) (by decide), fun T1 nT1 => ⟨le_line (n := 1) (by decide), fun L1 nL1 => ?_⟩⟩
    have s7T : Same (upd A7 t7 (.tup [])) (upd (upd A7 t7 (.tup [])) T1 (.tup [.int sd, .int fa])) := same_new nT1
    have s7L : Same (upd (upd A7 t7 (.tup [])) T1 (.tup [.int sd, .int fa])) (upd (upd (upd A7 t7 (.tup [])) T1 (.tup [.int sd, .int fa])) L1 (.lst [.ref T1])) := same_new nL1
    refine lam_with (ts := [T1]) (rs := [(sd, fa)]) (dl := [.str "twice", .int sd]) ((s7.trans s7T).trans s7L) (s7L _ _ (s7T _ _ upd_same)) hx hg (by omega) (by omega) upd_same (List.cons_ne_nil _ _) (seams_one (s7L _ _ upd_same)) pk1 (show 2 ≤ 400 by decide) (List.cons_ne_nil _ _) (by rw [show flat2 ([srt g0] ++ [(sd, fa)]) = flat2 [srt g0, (sd, fa)] from rfl, tw_again hne0 hsd]; rfl) (fun B10 r10 sB10 w10 => ?_)
    replace Z := Z.same sB10
    replace hx := hx.same sB10
    replace hD := sB10 _ _ hD
    clear s7 s7T s7L nL1 nT1
    -- heard: a free one twice
    refine ⟨Z.wb.tabs, fun A8 e8 u8 t8 m8 => ?_⟩
    replace Z := Z.ext e8 u8
    replace hx := hx.ext e8
    replace hD := e8 _ _ hD fun _ z => nomatch z
    replace w10 := e8 _ _ w10 fun _ z => nomatch z
    have s7 : Same A8 (upd A8 t8 (.tup [])) := same_new m8
    refine ⟨_, rfl, x, dx, _, rfl, (hx.same s7).ins, rfl, _, rfl, D, _, _, _, rfl, rfl, SqL.of (s7 _ _ hD), at0, _, rfl, D, _, _, _, rfl, rfl, SqL.of (s7 _ _ hD), at1, le_line (n := 2) (by decide), fun T1 nT1 => ?_⟩
    have s7T : Same (upd A8 t8 (.tup [])) (upd (upd A8 t8 (.tup [])) T1 (.tup [.int fa, .int fb])) := same_new nT1
    refine ⟨_, rfl, D, _, _, _, rfl, rfl, SqL.of (s7T _ _ (s7 _ _ hD)), at1, _, rfl, le_line (n := 2) (by decide), fun T2 nT2 => ⟨le_line (n := 2) (by decide), fun L1 nL1 => ?_⟩⟩
    have s7U : Same (upd (upd A8 t8 (.tup [])) T1 (.tup [.int fa, .int fb])) (upd (upd (upd A8 t8 (.tup [])) T1 (.tup [.int fa, .int fb])) T2 (.tup [.int fb, .int sd])) := same_new nT2
    have s7L : Same (upd (upd (upd A8 t8 (.tup [])) T1 (.tup [.int fa, .int fb])) T2 (.tup [.int fb, .int sd])) (upd (upd (upd (upd A8 t8 (.tup [])) T1 (.tup [.int fa, .int fb])) T2 (.tup [.int fb, .int sd])) L1 (.lst [.ref T1, .ref T2])) := same_new nL1
    refine lam_with (ts := [T1, T2]) (rs := [(fa, fb), (fb, sd)]) (dl := [.str "twice", .int fb]) (((s7.trans s7T).trans s7U).trans s7L) (s7L _ _ (s7U _ _ (s7T _ _ upd_same))) hx hg (by omega) (by omega) upd_same (List.cons_ne_nil _ _) (seams_two (s7L _ _ (s7U _ _ upd_same)) (s7L _ _ upd_same)) pk2 (show 3 ≤ 400 by decide) (List.cons_ne_nil _ _) (by rw [show flat2 ([srt g0] ++ [(fa, fb), (fb, sd)]) = flat2 [srt g0, (fa, fb), (fb, sd)] from rfl, tw_later hne0 fa2 fa3 fb2 fb3 fab]; rfl) (fun B11 r11 sB11 w11 => ?_)
    replace Z := Z.same sB11
    replace hx := hx.same sB11
    replace hD := sB11 _ _ hD
    replace w10 := sB11 _ _ w10
    clear s7 s7T s7L s7U nL1 nT1 nT2
    -- the answer
    refine ⟨le_line (n := 2) (by decide), fun R nR => ?_⟩
    have sR : Same B11 (upd B11 R (.lst [.ref r10, .ref r11])) := same_new nR
    replace Z := Z.same sR
    replace hx := hx.same sR
    replace hD := sR _ _ hD
    replace w10 := sR _ _ w10
    replace w11 := sR _ _ w11
    have fR : upd B11 R (.lst [.ref r10, .ref r11]) R = some (.lst [.ref r10, .ref r11]) := upd_same
    clear sR
    revert Z hx hD w10 w11 fR
    generalize upd B11 R (.lst [.ref r10, .ref r11]) = X1
    intro Z hx hD w10 w11 fR
    refine ⟨_, rfl, _, rfl, le_line (n := 2) (by decide), fun W1 nW1 => ?_⟩
    have sW : Same X1 (upd X1 W1 (.tup [.str "twice", .int sd])) := same_new nW1
    replace Z := Z.same sW
    replace hx := hx.same sW
    replace hD := sW _ _ hD
    replace w10 := sW _ _ w10
    replace w11 := sW _ _ w11
    replace fR := sW _ _ fR
    have fW1 : upd X1 W1 (.tup [.str "twice", .int sd]) W1 = some (.tup [.str "twice", .int sd]) := upd_same
    clear sW
    revert Z hx hD w10 w11 fR fW1
    generalize upd X1 W1 (.tup [.str "twice", .int sd]) = X2
    intro Z hx hD w10 w11 fR fW1
    refine ⟨_, rfl, D, _, _, _, rfl, rfl, SqL.of hD, at1, le_line (n := 2) (by decide), fun W2 nW2 => ?_⟩
    have sW : Same X2 (upd X2 W2 (.tup [.str "twice", .int fb])) := same_new nW2
    replace Z := Z.same sW
    replace hx := hx.same sW
    replace hD := sW _ _ hD
    replace w10 := sW _ _ w10
    replace w11 := sW _ _ w11
    replace fR := sW _ _ fR
    replace fW1 := sW _ _ fW1
    have fW2 : upd X2 W2 (.tup [.str "twice", .int fb]) W2 = some (.tup [.str "twice", .int fb]) := upd_same
    clear sW
    revert Z hx hD w10 w11 fR fW1 fW2
    generalize upd X2 W2 (.tup [.str "twice", .int fb]) = X3
    intro Z hx hD w10 w11 fR fW1 fW2
    refine ⟨le_line (n := 2) (by decide), fun R2 nR2 => ?_⟩
    have sW : Same X3 (upd X3 R2 (.lst [.ref W1, .ref W2])) := same_new nR2
    replace Z := Z.same sW
    replace hx := hx.same sW
    replace hD := sW _ _ hD
    replace w10 := sW _ _ w10
    replace w11 := sW _ _ w11
    replace fR := sW _ _ fR
    replace fW1 := sW _ _ fW1
    replace fW2 := sW _ _ fW2
    have fR2 : upd X3 R2 (.lst [.ref W1, .ref W2]) R2 = some (.lst [.ref W1, .ref W2]) := upd_same
    clear sW
    revert Z hx hD w10 w11 fR fW1 fW2 fR2
    generalize upd X3 R2 (.lst [.ref W1, .ref W2]) = X4
    intro Z hx hD w10 w11 fR fW1 fW2 fR2
    refine ⟨.list [.tuple [.str "twice", .int sd], .tuple [.str "twice", .int fb]], .list [.tuple [.str "twice", .int sd], .tuple [.str "twice", .int fb]], .lst (SqL.of fR) (.cons (dpi w10) (.cons (dpi w11) .nil)), .lst (SqL.of fR2) (.cons (dpi fW1) (.cons (dpi fW2) .nil)), shaped_two _ _, shaped_two _ _, _, rfl, ?_⟩
    refine ite2 (fun _ => ?_) (fun e => absurd (eqv_same (shaped_two _ _)) e)
    clear w10 w11 fR fR2 fW1 fW2
    refine ⟨_, rfl, x, dx, _, rfl, hx.ins, rfl, _, rfl, D, _, _, _, rfl, rfl, SqL.of hD, at0, _, rfl, D, _, _, _, rfl, rfl, SqL.of hD, at1, le_line (n := 2) (by decide), fun T3 nT3 => ⟨le_line (n := 1) (by decide), fun L3 nL3 => ?_⟩⟩
    have sT3 : Same X4 (upd X4 T3 (.tup [.int fa, .int fb])) := same_new nT3
    have sL3 : Same (upd X4 T3 (.tup [.int fa, .int fb])) (upd (upd X4 T3 (.tup [.int fa, .int fb])) L3 (.lst [.ref T3])) := same_new nL3
    have etw3 : tw (flat2 ([srt g0] ++ [(fa, fb)])) = none := tw_apart4 hne0 fa2 fa3 fb2 fb3 fab
    refine ⟨x, dx, st, mt, ft, vs, z, n, [g0], [srt g0], .ref L3, .list, rfl, (hx.same sT3).same sL3, hg, by omega, by omega, ⟨_, upd_same⟩, .inr ⟨L3, [T3], [(fa, fb)], rfl, upd_same, List.cons_ne_nil _ _, seams_one (sL3 _ _ upd_same), pk3, (show 2 ≤ 400 by decide), List.cons_ne_nil _ _, fun t e => (by rw [etw3] at e; cases e), fun _ X5 y sX ny hs => ?_⟩⟩
    obtain ⟨dy, st3, mt3, ft3, vs3, qs3, hy⟩ := hs
    replace Z := ((Z.same sT3).same sL3).same sX
    replace hx := ((hx.same sT3).same sL3).same sX
    have hlen : qs3.length ≠ [srt g0].length := by
      rw [hy.perm.length_eq]
      exact (show 2 ≠ 1 by decide)
    refine ⟨y, _, dy, _, _, rfl, hy.ins, Tx.cl_Skin, Tx.no_Skin_seams, rfl, _, rfl, x, _, dx, _, _, rfl, hx.ins, Tx.cl_Skin, Tx.no_Skin_seams, rfl, _, _, .tup (SqT.of hy.seams) (dpAll_seams hy.sts), .tup (SqT.of hx.seams) (dpAll_seams hx.sts), shaped_seams _, shaped_seams _, ?_⟩
    rw [ne_seams hlen]
    exact q _ Z.wb.fr (Z.wb.pen.less (by omega)) Z.wb.tabs
theorem has_law_twice_right (Tx : Txt K mg) (c : He.SaysX fa fn [] tf ex w hh K) (X : K.In hh) (GG : hh.Ns mainGlobals mg) (tb : LamX.TabB base mg (He.codeOf K ("_law_twice_right", none)) (tabT K "_law_twice_right")) (h_heard : HasH K mg) (h_law_pairs : Has P w K mg base "_law_pairs" 2 ["_law_pen_here", "_law_sides", "_law_many"] (sp_law_pairs K)) (h_law_draw : Has P w K mg base "_law_draw" 1 ["_law_pen_here", "_law_many"] sp_law_draw) (h_law_pick : Has P w K mg base "_law_pick" 2 ["_law_pen_here", "_law_some"] (sp_law_pick K)) (h_law_twice : Has P w K mg base "_law_twice" 1 ["_law_pairs_here"] (sp_law_twice K)) (h_Skin_init : HasI P w K mg base 5 (sp_Skin_init K)) (h_Skin_with_seams : HasM P w K mg base (L2.CX P w) "Skin" "with_seams" 7 ["self", "seams"] (sp_Skin_with_seams K)) (h_Skin_str : HasM P w K mg base CX0 "Skin" "__str__" 2 ["self"] (sp_Skin_str K))  : Has P w K mg base "_law_twice_right" 10 ["_law_pen_here", "_law_kind", "_law_faces", "_law_sides"] (sp_law_twice_right K) := by
  obtain ⟨fd, F⟩ := c.t.d.def_ 47 (d := d_law_twice_right) rfl
  exact ⟨_, fd, ok_law_twice_right F Tx tb h_heard h_law_pairs h_law_draw h_law_pick h_law_twice h_Skin_init h_Skin_with_seams h_Skin_str, He.glo_ok X GG (c.t.d.fact 39 (f := .glo "_law_twice_right") rfl), F.kp, F.bindsN fun _ _ _ _ _ _ us hl => match us, hl with | [_, _, _, _], _ => rfl⟩

end
end K05

namespace K05
open PySem PySem.Spec PyProof.Rows L2 Vf LamX
section
variable {hh : Heap} {P : Program} {w : World} {K : PySem.W.Frag} {mg : Str → Option Value} {base : Heap}
/-! ### the law -/
def sp_law (K : PySem.W.Frag) : Sp := fun vs H Q _ => ∃ (a : Addr) (ns : List Int), vs = [.ref a] ∧ SqL K H a (ns.map V.int) ∧ ns.length ≤ 63 ∧ LamX.Tabs (TT0 K) H ∧ ∀ H', Q (.bl true) H'
theorem sc_law : FnScope ["_law_script", "_law_pen_here", "_law_lap", "_law_kind", "_law_turn", "_law_faces"] ["_law_script"] (defScope s_law) := ⟨rfl, rfl, rfl, by decide +kernel, rfl, by decide +kernel, by decide +kernel⟩
theorem ok_law {f : Addr} {fd : FuncData} (F : FunD K "law" "law" (defArgs s_law) (defBody s_law) (defScope s_law) [] [] f fd) (Tx : Txt K mg) (h_law_pen : Has P w K mg base "_law_pen" 1 ["_law_script"] (sp_law_pen K)) (h_law_pick : Has P w K mg base "_law_pick" 2 ["_law_pen_here", "_law_some"] (sp_law_pick K)) (h_law_draw : Has P w K mg base "_law_draw" 1 ["_law_pen_here", "_law_many"] sp_law_draw) (h_law_told_right : Has P w K mg base "_law_told_right" 10 ["_law_pen_here", "_law_kind", "_law_faces", "_law_sides"] (sp_law_told_right K)) (h_law_twice_right : Has P w K mg base "_law_twice_right" 10 ["_law_pen_here", "_law_kind", "_law_faces", "_law_sides"] (sp_law_twice_right K)) (h_law_many_right : Has P w K mg base "_law_many_right" 9 ["_law_pen_here", "_law_kind"] (sp_law_many_right K))  : FnOk P w K mg base CX0 11 f fd ["_law_script"] (sp_law K) := by
  obtain ⟨f_law_pen, fd_law_pen, G_law_pen, g_law_pen, k_law_pen, b_law_pen⟩ := h_law_pen
  obtain ⟨f_law_pick, fd_law_pick, G_law_pick, g_law_pick, k_law_pick, b_law_pick⟩ := h_law_pick
  obtain ⟨f_law_draw, fd_law_draw, G_law_draw, g_law_draw, k_law_draw, b_law_draw⟩ := h_law_draw
  obtain ⟨f_law_told_right, fd_law_told_right, G_law_told_right, g_law_told_right, k_law_told_right, b_law_told_right⟩ := h_law_told_right
  obtain ⟨f_law_twice_right, fd_law_twice_right, G_law_twice_right, g_law_twice_right, k_law_twice_right, b_law_twice_right⟩ := h_law_twice_right
  obtain ⟨f_law_many_right, fd_law_many_right, G_law_many_right, g_law_many_right, k_law_many_right, b_law_many_right⟩ := h_law_many_right
  refine FunD.ok F sc_law (fun vs H Q E h => ?_) (fun cdv A outer s H vs Q E hr h => ?_)
  · obtain ⟨a, ns, rfl, _⟩ := h
    rfl
  · obtain ⟨a, ns, rfl, hS, hl, hT, q⟩ := h
    refine ⟨_, PSs.nox (pss_cons (ps_set (i := 1) sc_law.nd rfl (Or.inl rfl) (pe_call G_law_pen (hr.mono (by decide)) (by rfl) g_law_pen k_law_pen b_law_pen .nil pass0 (pa_cons (pv 0) pa_nil)))
        (pss_cons (ps_for PassesOwn.never rfl (pi_range1 (by rfl) Tx.n_range (pa_cons pe_int pa_nil)) (pg_name (i := 2) sc_law.nd rfl (Or.inl rfl)) (pss_cons (ps_set (i := 3) sc_law.nd rfl (Or.inl rfl) (pe_call G_law_pick (hr.mono (by decide)) (by rfl) g_law_pick k_law_pick b_law_pick .nil pass0 (pa_cons (pv 1) (pa_cons (pe_lst (pa_cons pe_str (pa_cons pe_str pa_nil))) pa_nil))))
        (C8.pss_cut (ps_set (i := 4) sc_law.nd rfl (Or.inl rfl) (pe_ifExp (pt_cmpR op_eq (pv 3) pe_str (nomark _)) pe_int pe_int))
        (pss_cons (ps_set (i := 5) sc_law.nd rfl (Or.inl rfl) (pe_op op_add pe_int (pe_call G_law_draw (hr.mono (by decide)) (by rfl) g_law_draw k_law_draw b_law_draw .nil pass0 (pa_cons (pv 1) (pa_cons pe_int pa_nil)))))
        (pss_cons (ps_if (PW.pt (pw_or (pt_not (pt_val (pe_call G_law_told_right (hr.mono (by decide)) (by rfl) g_law_told_right k_law_told_right b_law_told_right .nil pass0 (pa_cons (pv 1) (pa_cons (pv 3) (pa_cons (pv 5) (pa_cons (pe_op op_mul (pv 5) (pv 4)) pa_nil))))))) (pw_or1 (pt_not (pt_val (pe_call G_law_twice_right (hr.mono (by decide)) (by rfl) g_law_twice_right k_law_twice_right b_law_twice_right .nil pass0 (pa_cons (pv 1) (pa_cons (pv 3) (pa_cons (pv 5) (pa_cons (pe_op op_mul (pv 5) (pv 4)) pa_nil)))))))))) (pss_one (ps_ret pe_bl)) pss_nil)
        (pss_one (ps_if (pt_not (pt_val (pe_call G_law_many_right (hr.mono (by decide)) (by rfl) g_law_many_right k_law_many_right b_law_many_right .nil pass0 (pa_cons (pv 1) (pa_cons (pv 3) pa_nil))))) (pss_one (ps_ret pe_bl)) pss_nil)))))))
        (pss_one (ps_ret pe_bl)))), ?_⟩
    refine ⟨_, rfl, a, ns, rfl, hS, hl, fun H1 p c s1 n1 n2 hp => ?_⟩
    refine ⟨_, rfl, by decide, by decide, ?_⟩
    refine for_it (walk_range (lo := 0) (n := Int.toNat 3)) (fun i σ H' => ∃ x2 x3 x4 x5 : Option V, σ = [some (.ref a), some (.ref p), x2, x3, x4, x5] ∧ PenAt H' p c (900000 - 1000 * i) ∧ LamX.Tabs (TT0 K) H')
      ⟨none, none, none, none, rfl, hp, tabs_same hT s1⟩ (fun _ _ _ _ _ => True.intro) (fun i v σ H2 H3 hi pv y => ?_) (fun σ H2 pv => ?_)
    · obtain ⟨x2, x3, x4, x5, rfl, hp2, ht2⟩ := pv
      obtain ⟨rfl, rfl⟩ := y
      have hi3 : i < 3 := hi
      obtain ⟨b, hb⟩ : ∃ b, 900000 - 1000 * i = b + 1000 ∧ 900000 - 1000 * (i + 1) = b := ⟨900000 - 1000 * (i + 1), by omega, rfl⟩
      rw [hb.1] at hp2
      refine ⟨_, rfl, le_line (n := 2) (by decide), fun l nl => ?_⟩
      have sl : Same H3 (upd H3 l (.lst [.str "square", .str "triangle"])) := same_new nl
      refine ⟨p, c, l, b + 999, _, rfl, hp2.same sl, .inl upd_same, (hp2.new nl).1, List.cons_ne_nil _ _, (show 2 ≤ 1000 by decide), fun H4 x hx hp4 k4 => ?_⟩
      have ht4 : LamX.Tabs (TT0 K) H4 := by
        obtain ⟨xs, hxs⟩ := (hp2.same sl).at
        exact tabs_kp (tabs_same ht2 sl) hxs k4
      obtain ⟨z, rfl, hg⟩ : ∃ z, x = .str z ∧ isGrid (.str z) = true := by
        simp only [List.mem_cons, List.not_mem_nil, or_false] at hx
        rcases hx with rfl | rfl
        · exact ⟨_, rfl, by decide +kernel⟩
        · exact ⟨_, rfl, by decide +kernel⟩
      refine ⟨fun σ H' => σ = [some (.ref a), some (.ref p), some (.int ((0 : Int) + (i : Nat))), some (.str z), some (.int (turnOf z)), x5] ∧ H' = H4, ?_, ?_⟩
      · refine ⟨_, rfl, rfl, _, rfl, ?_⟩
        rw [str_sq]
        unfold turnOf
        refine ite2 (fun e => ?_) (fun e => ?_)
        · rw [if_pos (of_decide_eq_true e)]
          exact ⟨rfl, rfl⟩
        · rw [if_neg fun c => e (decide_eq_true c)]
          exact ⟨rfl, rfl⟩
      rintro σ H' ⟨rfl, rfl⟩
      have turn := turn_in z
      refine ⟨_, rfl, p, c, 4, b + 998, rfl, hp4, by decide, by decide, fun H5 d hp5 k5 d0 d1 => ⟨_, _, rfl, rfl, ?_⟩⟩
      have ht5 : LamX.Tabs (TT0 K) H5 := by
        obtain ⟨xs, hxs⟩ := hp4.at
        exact tabs_kp ht4 hxs k5
      refine ⟨_, rfl, _, rfl, _, rfl, _, rfl, _, rfl, _, _, rfl, rfl, .inr ⟨by omega, by omega⟩, p, c, b + 978, z, 2 + d, rfl, hg, by omega, by omega, hp5, ht5, fun H6 fr6 hp6 ht6 => ?_⟩
      refine ⟨_, rfl, ite2 (fun e => absurd e (by decide)) (fun _ => ?_)⟩
      refine ⟨_, rfl, _, rfl, _, rfl, _, rfl, _, rfl, _, _, rfl, rfl, .inr ⟨by omega, by omega⟩, p, c, b + 878, z, 2 + d, rfl, hg, by omega, by omega, hp6, ht6, fun H7 fr7 hp7 ht7 => ?_⟩
      refine ⟨_, rfl, ite2 (fun e => absurd e (by decide)) (fun _ => ?_)⟩
      refine ⟨_, rfl, _, rfl, p, c, b + 877, z, rfl, hg, hp7, ht7, fun H8 fr8 hp8 ht8 => ?_⟩
      refine ⟨_, rfl, ite2 (fun e => absurd e (by decide)) (fun _ => ?_)⟩
      exact ⟨_, _, _, _, rfl, hp8.less (by omega), ht8⟩
    · obtain ⟨x2, x3, x4, x5, rfl, hp2, ht2⟩ := pv
      exact q _

end
end K05

namespace K05
open PySem PySem.Spec PyProof.Rows L2 Vf LamX
abbrev lawLevel : Nat := 11
abbrev spLaw (K : PySem.W.Frag) : Sp := fun vs H Q E => sp_law K vs H Q E
def csT (K : PySem.W.Frag) : List (Addr × Addr) := tf.map (He.cT K)
theorem facts {P : Program} {w : World} {K : PySem.W.Frag} {h : Heap} {mg : Str → Option Value} {f : Addr} (X : K.In h) (G : h.Ns mainGlobals mg) (hfa : mg ("law" : Str) = some (.ref f)) (c : He.SaysX fa fn [] tf ex w h K) :
    ∃ fd : FuncData, (∀ (s : Shared) (v : Value), BindsTo s fd ⟨[v], []⟩ [("_law_script", v)]) ∧ ∀ base : Heap, K.In base → base.Ns mainGlobals mg → (∀ p ∈ csT K, LamX.TabB base mg p.1 p.2) → FnOk P w K mg base CX0 lawLevel f fd ["_law_script"] (spLaw K) := by
  have Tx := txt_of X G c
  obtain ⟨fd, F⟩ := c.t.d.def_ 49 (d := d_law) rfl
  have e := hfa.symm.trans (He.glo_ok X G (c.t.d.fact 41 (f := .glo "law") rfl))
  cases e
  refine ⟨fd, fun s v => FunD.bindsA (ps := ["_law_script"]) F (fun _ _ _ _ _ _ us hl => match us, hl with | [_], _ => rfl) s [v] rfl, fun base _ _ tbs => ?_⟩
  have h_heard := has_heard c X G
  have tb_law_told_right : LamX.TabB base mg (He.codeOf K ("_law_told_right", none)) (tabT K "_law_told_right") := tbs _ (List.mem_map_of_mem (f := He.cT K) (show (("_law_told_right", none) : He.Defn) ∈ tf by simp [tf]))
  have tb_law_twice_right : LamX.TabB base mg (He.codeOf K ("_law_twice_right", none)) (tabT K "_law_twice_right") := tbs _ (List.mem_map_of_mem (f := He.cT K) (show (("_law_twice_right", none) : He.Defn) ∈ tf by simp [tf]))
  have tb_law_many_right : LamX.TabB base mg (He.codeOf K ("_law_many_right", none)) (tabT K "_law_many_right") := tbs _ (List.mem_map_of_mem (f := He.cT K) (show (("_law_many_right", none) : He.Defn) ∈ tf by simp [tf]))
  have h_law_pen := has_law_pen (P := P) (w := w) (base := base) Tx c X G 
  have h_law_draw := has_law_draw (P := P) (w := w) (base := base) Tx c X G 
  have h_law_pick := has_law_pick (P := P) (w := w) (base := base) Tx c X G h_law_draw
  have h_law_odd_seams := has_law_odd_seams (P := P) (w := w) (base := base) Tx c X G h_law_pick h_law_draw
  have h_is_grid := has_is_grid (P := P) (w := w) (base := base) Tx c X G 
  have h_BadKind_init := has_BadKind_init (P := P) (w := w) (base := base) Tx c X G 
  have h_need_kind := has_need_kind (P := P) (w := w) (base := base) Tx c X G h_is_grid h_BadKind_init
  have h_is_integer := has_is_integer (P := P) (w := w) (base := base) Tx c X G 
  have h_is_within := has_is_within (P := P) (w := w) (base := base) Tx c X G h_is_integer
  have h_BadSkin_init := has_BadSkin_init (P := P) (w := w) (base := base) Tx c X G 
  have h_sides_of := has_sides_of (P := P) (w := w) (base := base) Tx c X G h_need_kind
  have h_is_listed := has_is_listed (P := P) (w := w) (base := base) Tx c X G 
  have h_is_seam := has_is_seam (P := P) (w := w) (base := base) Tx c X G h_is_listed h_is_within
  have h_need_seams := has_need_seams (P := P) (w := w) (base := base) Tx c X G h_is_listed h_is_seam h_BadSkin_init
  have h_first_twice := has_first_twice (P := P) (w := w) (base := base) Tx c X G 
  have h_sides_in := has_sides_in (P := P) (w := w) (base := base) Tx c X G 
  have h_Twice_init := has_Twice_init (P := P) (w := w) (base := base) Tx c X G 
  have h_TooMany_init := has_TooMany_init (P := P) (w := w) (base := base) Tx c X G 
  have h_full_of := has_full_of (P := P) (w := w) (base := base) Tx c X G h_need_kind
  have h_full_of_kw := has_full_of_kw (P := P) (w := w) (base := base) Tx c X G h_need_kind
  have h_mates_of := has_mates_of (P := P) (w := w) (base := base) Tx c X G 
  have h_turned_sides := has_turned_sides (P := P) (w := w) (base := base) Tx c X G 
  have h_Skin_init := has_Skin_init (P := P) (w := w) (base := base) Tx c X G h_need_kind h_is_within h_BadSkin_init h_sides_of h_need_seams h_first_twice h_sides_in h_Twice_init h_TooMany_init h_full_of h_mates_of h_turned_sides
  have h_Skin_with_seams := has_Skin_with_seams (P := P) (w := w) (base := base) Tx c X G h_need_seams h_Skin_init
  have h_law_told_right := has_law_told_right (P := P) (w := w) (base := base) Tx c X G tb_law_told_right h_heard h_law_pick h_law_odd_seams h_Skin_init h_sides_of h_full_of h_Skin_with_seams h_full_of_kw
  have h_law_pairs := has_law_pairs (P := P) (w := w) (base := base) Tx c X G h_law_draw
  have h_law_twice := has_law_twice (P := P) (w := w) (base := base) Tx c X G 
  have h_skin_words := has_skin_words (P := P) (w := w) (base := base) Tx c X G 
  have h_Skin_str := has_Skin_str (P := P) (w := w) (base := base) Tx c X G h_skin_words
  have h_law_twice_right := has_law_twice_right (P := P) (w := w) (base := base) Tx c X G tb_law_twice_right h_heard h_law_pairs h_law_draw h_law_pick h_law_twice h_Skin_init h_Skin_with_seams h_Skin_str
  have h_Skin_need_side := has_Skin_need_side (P := P) (w := w) (base := base) Tx c X G h_is_within
  have h_Skin_mate := has_Skin_mate (P := P) (w := w) (base := base) Tx c X G h_Skin_need_side
  have h_law_many_right := has_law_many_right (P := P) (w := w) (base := base) Tx c X G tb_law_many_right h_heard h_Skin_init h_law_draw h_Skin_mate
  exact ok_law F Tx h_law_pen h_law_pick h_law_draw h_law_told_right h_law_twice_right h_law_many_right
end K05
open PySem PySem.W PySem.Calls PyProof.Rows
theorem PySem.Challenge.cw_rimsewn_k05_skins_refused_in_order_holds : PySem.Challenge.rw_rimsewn_k05_skins_refused_in_order.Holds := by
  w_on; o_law
  refine HandSHeadRun.head_any (r := OpenLaw.row PySem.Challenge.rw_rimsewn_k05_skins_refused_in_order) (q := view (OpenLaw.row PySem.Challenge.rw_rimsewn_k05_skins_refused_in_order).prog [50]) (H := K05.hk) (ob := K05.ob) (M := 6000) (loose := K05.loose) (d := HandSHeadRun.topDef (OpenLaw.row PySem.Challenge.rw_rimsewn_k05_skins_refused_in_order).prog 50) (kwd := []) K05.ob_eq
    (by kernel_rfl) (fun s => by kernel_rfl) K05.run (by kernel_rfl) (by kernel_rfl) (by kernel_rfl) (by rfl) (by first | assumption | decide +kernel) (by decide +kernel) ⟨rfl, rfl, rfl, rfl, rfl, by decide +kernel⟩ ?hw ?hc
  case hw => w_witness2
  case hc =>
    refine LamX.walk_ofTsE (l := PySem.Challenge.rw_rimsewn_k05_skins_refused_in_order) (n := 63) (k := K05.lawLevel) (x := "_law_script") (CX := fun _ => L2.CX0) rfl (by decide) (by kernel_rfl) ⟨rfl, by decide, by decide⟩ ?F (fun _ _ _ _ _ z => z)
    intro w mg fa h Y G hmg0
    obtain ⟨K, KX, c⟩ := Y
    have hmg : mg ("law" : PySem.Str) = some (.ref fa) := by
      have e : (HandSHeadRun.topDef (OpenLaw.row PySem.Challenge.rw_rimsewn_k05_skins_refused_in_order).prog 50).name = ("law" : PySem.Str) := by kernel_rfl
      rw [← e]
      exact hmg0
    obtain ⟨fd, hb, hF⟩ := K05.facts (P := (PySem.Challenge.rw_rimsewn_k05_skins_refused_in_order).prog) (w := w) KX G hmg c
    refine ⟨K, KX, fd, K05.csT K, K05.spLaw K, fun p hp => ?_, fun p hp => ?_, fun p hp => ?_, hb, fun H a ns hl _ hT hS => ⟨a, ns, rfl, hS, hl, ?_, fun _ => rfl⟩, hF⟩
    · obtain ⟨d, hd, rfl⟩ := List.mem_map.mp hp
      exact c.empty d hd
    · obtain ⟨d, hd, rfl⟩ := List.mem_map.mp hp
      exact c.out d hd
    · obtain ⟨d, hd, rfl⟩ := List.mem_map.mp hp
      exact PySem.W.codeHd_of_K KX (c.hd d hd)
    · intro q hq
      simp only [K05.TT0, List.mem_cons, List.not_mem_nil, or_false] at hq
      rcases hq with rfl | rfl | rfl
      · exact LamX.TabS.nil (hT (He.cT K (("_law_told_right", none) : He.Defn)) (List.mem_map_of_mem (f := He.cT K) (show (("_law_told_right", none) : He.Defn) ∈ K05.tf by simp [K05.tf])))
      · exact LamX.TabS.nil (hT (He.cT K (("_law_twice_right", none) : He.Defn)) (List.mem_map_of_mem (f := He.cT K) (show (("_law_twice_right", none) : He.Defn) ∈ K05.tf by simp [K05.tf])))
      · exact LamX.TabS.nil (hT (He.cT K (("_law_many_right", none) : He.Defn)) (List.mem_map_of_mem (f := He.cT K) (show (("_law_many_right", none) : He.Defn) ∈ K05.tf by simp [K05.tf])))
