import PyProof.Rows.All
import Wide.All
import OpenK.AllK
import Wide.FinOn
import KE.KStateDown
import Lean
import HandS.ForMost
import HandS.ForExc
import HandS.Defaults
import HandS.Head0
import HandS.Head1
import HandS.Head2
import HandS.HeadEnd
import HandS.HeadHook1
import HandS.HeadHook2
import HandS.HeadHook3
import HandS.HeadHook4
import HandS.Wide
import HandS.SetKeys
import HandS.Style
import HandS.IsInst
import HandS.ExcValue
import HandS.ExcIs
import HandS.Steps
import HandS.Codes
import HandS.Walk
import HandS.Lambda
import HandS.HeadWalk
import HandS.ExcInit
import HandS.ExcField
import HandS.WordsExc
import HandS.ExcOwn
import HandS.MakeKw
import HandS.MakeKwOnly
import HandS.SortRule
import HandS.FStr
import HandS.NoneIn
import HandS.TupAny
import HandS.RaiseMore
import HandS.CallSlots
import KE.KFmtOwn
import KE.KExcIs
import KE.KExcStr
import PySem.Challenge.RW_rimsewn_k04_sides_of_skins_by_own_sums
import KE.DataMinMax
import HandS.Conv
import HandS.OwnEq
import HandS.EndTab
import PyProof.ReprRoads
import PyProof.ReprLen
set_option Elab.async false
set_option linter.all false
set_option maxRecDepth 100000
set_option maxHeartbeats 4000000
namespace Vf
open PySem PySem.Spec PyProof.Rows L2
/-! ### a def by its name -/
abbrev FnP (K : PySem.W.Frag) (x : Str) (st : Stmt) (f : Addr) (fd : FuncData) : Prop := FunD K x x (defArgs st) (defBody st) (defScope st) [] [] f fd
/-- the module's name x stands for a def that keeps the promise -/
def Has (P : Program) (w : World) (K : PySem.W.Frag) (mg : Str → Option Value) (base : Heap) (x : Str) (k : Nat) (ps : List Str) (sp : Sp) : Prop :=
  ∃ (f : Addr) (fd : FuncData), FnOk P w K mg base CX0 k f fd ps sp ∧ mg x = some (.ref f) ∧ PySem.W.keepIn K (.ref f) = true ∧ Binds K fd ps []
/-! ### what stays -/
def Kp (p : Addr) (H H' : Hp) : Prop := ∀ a o, a ≠ p → H a = some o → H' a = some o
theorem Kp.refl (p : Addr) (H : Hp) : Kp p H H := fun _ _ _ h => h
theorem Kp.trans {p : Addr} {H H1 H2 : Hp} (a : Kp p H H1) (b : Kp p H1 H2) : Kp p H H2 := fun c o n h => b c o n (a c o n h)
theorem Kp.same {p : Addr} {H H1 : Hp} (a : Same H H1) : Kp p H H1 := fun c o _ h => a c o h
theorem Kp.set {p : Addr} {H H1 : Hp} {o : HO} (a : Kp p H H1) : Kp p H (upd H1 p o) := fun c u n h => by
  rw [upd_ne n]
  exact a c u n h
theorem same_new {H : Hp} {p : Addr} {o : HO} (h : H p = none) : Same H (upd H p o) := fun b x e => by
  rw [upd_ne (ne_of_none e h)]
  exact e
theorem Kp.new {p q : Addr} {H H1 : Hp} {o : HO} (a : Kp p H H1) (h : H1 q = none) : Kp p H (upd H1 q o) := a.trans (Kp.same (same_new h))
/-- an object that was not there may change -/
theorem Kp.mut {p q : Addr} {H H1 : Hp} {o : HO} (a : Kp p H H1) (h : H q = none) : Kp p H (upd H1 q o) := fun c u n e => by
  rw [upd_ne (ne_of_none e h)]
  exact a c u n e
theorem Same.mut {q : Addr} {H H1 : Hp} {o : HO} (a : Same H H1) (h : H q = none) : Same H (upd H1 q o) := fun c u e => by
  rw [upd_ne (ne_of_none e h)]
  exact a c u e
/-! ### the pen -/
/-- the pen at p, its cells at c, with at least b draws to go -/
def PenAt (H : Hp) (p c : Addr) (b : Nat) : Prop := ∃ (ns : List Int) (n g : Int), H p = some (.lst [.ref c, .int n, .int g]) ∧ H c = some (.lst (ns.map V.int)) ∧ 0 ≤ n ∧ n + (b : Int) ≤ 1000000
theorem PenAt.less {H : Hp} {p c : Addr} {b d : Nat} (h : PenAt H p c b) (l : d ≤ b) : PenAt H p c d := by
  obtain ⟨ns, n, g, h1, h2, h3, h4⟩ := h
  exact ⟨ns, n, g, h1, h2, h3, by omega⟩
theorem ref_ints {c : Addr} {n g : Int} {ns : List Int} : [V.ref c, V.int n, V.int g] ≠ ns.map V.int := fun e => by
  cases ns with
  | nil => cases e
  | cons a r =>
    injection e with e1 _
    cases e1
theorem PenAt.same {H H' : Hp} {p c : Addr} {b : Nat} (h : PenAt H p c b) (s : Same H H') : PenAt H' p c b := by
  obtain ⟨ns, n, g, h1, h2, h3, h4⟩ := h
  exact ⟨ns, n, g, s _ _ h1, s _ _ h2, h3, h4⟩
theorem PenAt.at {H : Hp} {p c : Addr} {b : Nat} (h : PenAt H p c b) : ∃ xs, H p = some (.lst xs) := by
  obtain ⟨ns, n, g, h1, h2, h3, h4⟩ := h
  exact ⟨_, h1⟩
theorem PenAt.cells {H : Hp} {p c : Addr} {b : Nat} (h : PenAt H p c b) : ∃ xs, H c = some (.lst xs) := by
  obtain ⟨ns, n, g, h1, h2, h3, h4⟩ := h
  exact ⟨_, h2⟩
/-- another object than the pen's changes -/
theorem PenAt.mut {H : Hp} {p c q : Addr} {o : HO} {b : Nat} (h : PenAt H p c b) (hp : q ≠ p) (hc : q ≠ c) : PenAt (upd H q o) p c b := by
  obtain ⟨ns, n, g, h1, h2, h3, h4⟩ := h
  refine ⟨ns, n, g, ?_, ?_, h3, h4⟩
  · rw [upd_ne hp.symm]
    exact h1
  · rw [upd_ne hc.symm]
    exact h2
/-- what was not there is no part of the pen -/
theorem PenAt.new {H : Hp} {p c q : Addr} {b : Nat} (h : PenAt H p c b) (hq : H q = none) : q ≠ p ∧ q ≠ c := by
  obtain ⟨ns, n, g, h1, h2, h3, h4⟩ := h
  exact ⟨ne_of_none h1 hq |>.symm, ne_of_none h2 hq |>.symm⟩
def spDraw : Sp := fun vs H Q _ => ∃ (p c : Addr) (many : Int) (b : Nat), vs = [.ref p, .int many] ∧ PenAt H p c (b + 1) ∧ 0 < many ∧ many < 2 ^ 200 ∧
  ∀ (H' : Hp) (d : Int), PenAt H' p c b → Kp p H H' → 0 ≤ d → d < many → Q (.int d) H'
theorem many_div {g m : Int} (h : 0 < m) (h2 : m < 2 ^ 200) : CDivW g m := wide_div h (b := 200) (by omega) (by decide) (by decide)
/-! ### flat data -/
def fdat : V → PyData
  | .int i => .int i
  | .str x => .str x
  | .bl b => .bool b
  | _ => .none
def flatS : V → Bool
  | .int _ => true
  | .str x => PyData.strOk x
  | .bl _ => true
  | .non => true
  | _ => false
theorem dp_flat {K : PySem.W.Frag} {H : Hp} : ∀ {v : V}, flatS v = true → Dp K H v (fdat v)
  | .int i, _ => .int i
  | .str x, _ => .str x
  | .bl b, _ => .bl b
  | .non, _ => .non
theorem dpAll_flat {K : PySem.W.Frag} {H : Hp} : ∀ {xs : List V}, (∀ v ∈ xs, flatS v = true) → DpAll K H xs (xs.map fdat)
  | [], _ => .nil
  | v :: vs, h => .cons (dp_flat (h v (List.mem_cons_self ..))) (dpAll_flat fun u hu => h u (List.mem_cons_of_mem _ hu))
theorem canLay_flat : ∀ {v : V}, flatS v = true → PyData.canLay0 (fdat v) = true
  | .int i, _ => by simp only [fdat, PyData.canLay0]
  | .str x, h => by simp only [fdat, PyData.canLay0]; exact h
  | .bl b, _ => by simp only [fdat, PyData.canLay0]
  | .non, _ => by simp only [fdat, PyData.canLay0]
theorem canLayAll_flat : ∀ {xs : List V}, (∀ v ∈ xs, flatS v = true) → PyData.canLayAll0 (xs.map fdat) = true
  | [], _ => by simp only [List.map_nil, PyData.canLayAll0]
  | v :: vs, h => by
    simp only [List.map_cons, PyData.canLayAll0, Bool.and_eq_true]
    exact ⟨canLay_flat (h v (List.mem_cons_self ..)), canLayAll_flat fun u hu => h u (List.mem_cons_of_mem _ hu)⟩
theorem depth_flat (v : V) : PyData.depth (fdat v) ≤ 1 := by
  cases v <;> simp [fdat, PyData.depth]
theorem depthAll_flat : ∀ xs : List V, PyData.depthAll (xs.map fdat) ≤ 1
  | [] => by simp [PyData.depthAll]
  | v :: vs => by
    have h1 := depth_flat v
    have h2 := depthAll_flat vs
    simp only [List.map_cons, PyData.depthAll]
    omega
theorem shaped_flat {v : V} (h : flatS v = true) : SeqAt.shaped (fdat v) = true := by
  unfold SeqAt.shaped
  have h2 := depth_flat v
  rw [canLay_flat h, Bool.true_and]
  exact decide_eq_true (by omega)
theorem shaped_list {xs : List V} (h : ∀ v ∈ xs, flatS v = true) : SeqAt.shaped (.list (xs.map fdat)) = true := by
  unfold SeqAt.shaped
  have h1 := depthAll_flat xs
  have h2 : PyData.canLay0 (.list (xs.map fdat)) = true := by simp only [PyData.canLay0]; exact canLayAll_flat h
  rw [h2, Bool.true_and]
  refine decide_eq_true ?_
  simp only [PyData.depth]
  omega
theorem eqv_nil (xs : List V) : PyData.eqv (.list (xs.map fdat)) (.list []) = decide (xs = []) := by
  cases xs with
  | nil => simp [PyData.eqv, PyData.eqvAll]
  | cons a r => simp [PyData.eqv, PyData.eqvAll]
theorem flat_ints (ns : List Int) : ∀ v ∈ ns.map V.int, flatS v = true := fun v hv => by
  obtain ⟨i, _, rfl⟩ := List.mem_map.mp hv
  rfl
/-- an item at a place reckoned by a remainder -/
theorem at_mod {α : Type} {xs : List α} {n : Int} (h : xs ≠ []) : ∃ x, x ∈ xs ∧ atI xs (n % (xs.length : Int)) = some x := by
  have hl : 0 < xs.length := List.length_pos_iff.mpr h
  have h0 := Int.emod_nonneg n (b := (xs.length : Int)) (by omega)
  have h1 := Int.emod_lt_of_pos n (b := (xs.length : Int)) (by omega)
  obtain ⟨j, hj⟩ := Int.eq_ofNat_of_zero_le h0
  rw [hj] at h1 ⊢
  have hlt : j < xs.length := by omega
  exact ⟨xs[j], List.getElem_mem hlt, atI_nat (List.getElem?_eq_getElem hlt)⟩
theorem at_in {α : Type} {xs : List α} {n : Int} (h0 : 0 ≤ n) (h1 : n < (xs.length : Int)) : ∃ x, x ∈ xs ∧ atI xs n = some x := by
  obtain ⟨j, hj⟩ := Int.eq_ofNat_of_zero_le h0
  rw [hj] at h1 ⊢
  have hlt : j < xs.length := by omega
  exact ⟨xs[j], List.getElem_mem hlt, atI_nat (List.getElem?_eq_getElem hlt)⟩
end Vf
namespace Vf
open PySem PySem.Spec PyProof.Rows L2
section
variable {X : Cx}
/-- X(), an own exception class without own __init__, as a value: a new exception object -/
theorem pe_exc0 {C : Addr} {bmB : List Value} {B newId initId : String} {x : Str} {p pos : Pos} (F : ExcBaseFacts B newId initId bmB) (q : PySem.W.excIn X.K C bmB newId = true) (gC : X.mg x = some (.ref C)) (kC : PySem.W.keepIn X.K (.ref C) = true) (hg : Gl X x)
    (hdb : (x == ("__debug__" : Str)) = false := by decide) :
    PE X (.Call (.Name x p) [] [] pos) (fun σ H Q => ∀ a, H a = none → Q (.ref a) (upd H a (ExO (.ref C) a))) := by
  refine ⟨fun pins s σ H Q I h => ?_⟩
  refine wpAny_Call_Name_kw (ld_glob I hg gC ?_ hdb)
  refine PySem.W.callWith_K0 I.kIn kC ?_
  obtain ⟨bm, N, nm, qn, bs, hdct, sn, sub, ab, col, dd, k0, k1, k2, k3, k5, mN, hC, hN, hni, T⟩ := exc_obj I.kIn q
  refine wpAny_call_exc_subT F T hC hN hni (fun h' a hm => ?_) (by show 0 ≤ sizeLine; exact Nat.zero_le _)
  have hn : H a = none := I.hok.gone hm.new
  obtain ⟨t, ht, _, _⟩ := hm.there
  exact ⟨.ref a, upd H a (ExO (.ref C) a), I.laidN hm.keeps hm.new hn (exO_ok ht ⟨rfl, rfl⟩ rfl rfl rfl (show 4 < 6 by decide)), rfl, h a hn⟩
end
end Vf
namespace Vf
open PySem PySem.Spec PyProof.Rows L2
/-! ### isinstance by what a value is -/
inductive Knd where
  | int | str | bool | none | list | tuple | exc (C : Addr)
def Knd.ty : Knd → Value
  | .int => .type "int"
  | .str => .type "str"
  | .bool => .type "bool"
  | .none => .type "NoneType"
  | .list => .type "list"
  | .tuple => .type "tuple"
  | .exc C => .ref C
/-- a value is of a kind; exceptions of the class at C alone -/
def KndV (C : Addr) (H : Hp) : V → Knd → Prop
  | .int _, .int => True
  | .str _, .str => True
  | .bl _, .bool => True
  | .non, .none => True
  | .ref a, .list => ∃ xs, H a = some (.lst xs)
  | .ref a, .tuple => ∃ xs, H a = some (.tup xs)
  | .ref a, .exc D => D = C ∧ H a = some (ExO (.ref C) a)
  | _, _ => False
theorem KndV.same {C : Addr} {H H' : Hp} {v : V} {k : Knd} (h : KndV C H v k) (s : Same H H') : KndV C H' v k := by
  cases v <;> cases k <;> first | exact h | exact h.elim | skip
  · obtain ⟨xs, e⟩ := h
    exact ⟨xs, s _ _ e⟩
  · obtain ⟨xs, e⟩ := h
    exact ⟨xs, s _ _ e⟩
  · exact ⟨h.1, s _ _ h.2⟩
section
variable {X : Cx} {pins : List (Addr × Obj)} {σ : L2.St} {H : Hp} {s : Shared}
theorem knd_kit {C : Addr} {x : V} {u : Value} {k : Knd} (E : ExcC X.K C) (I : Inv X pins σ H s) (rx : RelV x u) (h : KndV C H x k) : ∃ P : Heap → Prop, PySem.W.KitX X.K u k.ty P ∧ P s.heap ∧ u ≠ .builtin "__main__.__loader__#opaque" := by
  cases x <;> cases k <;> first | exact h.elim | skip
  · exact kit_of (t := .type "NoneType") I rx (.base .non)
  · exact kit_of (t := .type "bool") I rx (.base (.bl _))
  · exact kit_of (t := .type "int") I rx (.base (.int _))
  · exact kit_of (t := .type "str") I rx (.base (.str _))
  · obtain ⟨xs, e⟩ := h
    exact kit_of (t := .type "list") I rx (.base (.lst e))
  · obtain ⟨xs, e⟩ := h
    exact kit_of (t := .type "tuple") I rx (.base (.tup e))
  · rename_i a D
    obtain ⟨rfl, e⟩ := h
    cases (show u = Value.ref a from rx)
    obtain ⟨⟨oe, vs, ho, hz, hd, _⟩, _, _⟩ := I.hok _ _ e
    have J : PySem.W.InstAt s.heap a oe D none := by
      obtain ⟨oc, od, oda, osl⟩ := oe
      obtain ⟨h1, h2⟩ := hz
      dsimp only at h1 h2 hd
      subst h1 h2 hd
      exact ⟨ho, rfl, rfl, trivial⟩
    exact ⟨_, PySem.W.handS_kitx_exc E.hg E.hk E.hs E.hd E.ha E.hn E.ht E.hm, J, fun z => nomatch z⟩
def rIsY (C : Addr) (K : PySem.W.Frag) : List V → Hp → VK → Prop := fun xs H Q => ∃ (x : V) (T : String) (k : Knd) (b : Bool), xs = [x, .ty T] ∧ KndV C H x k ∧ PySem.W.kitOne K k.ty (.type T) = some b ∧ Q (.bl b) H
theorem call_isY {C : Addr} (E : ExcC X.K C) : CallR X (.builtin "isinstance") (rIsY C X.K) := by
  intro pins s σ H xs us Q I r h
  obtain ⟨x, T, k, b, rfl, ty, e, q⟩ := h
  obtain ⟨u1, u2, rfl, r1, r2⟩ := vals2 r
  cases (show u2 = Value.type T from r2)
  obtain ⟨P, Z, p, hx⟩ := knd_kit E I r1 ty
  exact PySem.W.kia_one Z I.kIn p e hx fun tk => ⟨.bl b, H, I.tok tk, rfl, q⟩
def rIsTY (C : Addr) (K : PySem.W.Frag) : List V → Hp → VK → Prop := fun xs H Q => ∃ (x : V) (tp : Addr) (cs : List V) (k : Knd) (us : List Value) (b : Bool), xs = [x, .ref tp] ∧ H tp = some (.tup cs) ∧ Paired ClsV cs us ∧ KndV C H x k ∧ PySem.W.kitAny K k.ty us = some b ∧ Q (.bl b) H
theorem call_isTY {C : Addr} (E : ExcC X.K C) : CallR X (.builtin "isinstance") (rIsTY C X.K) := by
  intro pins s σ H xs us Q I r h
  obtain ⟨x, tp, cs, k, ws, b, rfl, hT, kk, ty, e, q⟩ := h
  obtain ⟨u1, u2, rfl, r1, r2⟩ := vals2 r
  cases (show u2 = Value.ref tp from r2)
  obtain ⟨P, Z, p, hx⟩ := knd_kit E I r1 ty
  obtain ⟨_, its, rv, o, h1, h2, n, h3⟩ := (show ObjOk X.prog X.w H s.heap tp (.tup cs) from I.hok tp _ hT)
  have e3 := ClsV.all kk rv
  subst e3
  obtain ⟨oc, od, dt, sl⟩ := o
  simp only at h2 h3
  subst h2 h3
  exact PySem.W.kia_tup Z I.kIn p h1 e hx fun tk => ⟨.bl b, H, I.tok tk, rfl, q⟩
end
end Vf
namespace Vf
open PySem PySem.Spec PyProof.Rows L2
/-! ### facts of an own error class without fields, off the head -/
def excB (K : PySem.W.Frag) (C : Addr) : Bool :=
  He.eqO (PySem.W.findIn K (.ref C) "__getattribute__") (some (some (.builtin "BaseException.__getattribute__"))) && (He.eqO (PySem.W.findIn K (.ref C) "__getattr__") (some none) && (decide (PySem.W.subIn K (.ref C) (.type "BaseException") = some true) &&
  (PySem.W.hasDictIn K C && (He.eqO (PySem.W.findIn K (.ref C) "__class__") (some (some (.builtin "object.__class__"))) && (decide (PySem.W.specialIn K (.builtin "object.__class__") "__get__" = some (some (.builtin "getset_descriptor.__get__"))) &&
  (decide (PySem.W.takesIn K (.builtin "object.__class__") = some true) && decide (PySem.W.mroIn K C (.type "object") = some true)))))))
theorem excC_of {K : PySem.W.Frag} {C : Addr} (h : excB K C = true) : ExcC K C := by
  unfold excB at h
  simp only [Bool.and_eq_true, decide_eq_true_eq] at h
  obtain ⟨h1, h2, h3, h4, h5, h6, h7, h8⟩ := h
  exact ⟨He.eqO_ok h1, He.eqO_ok h2, h3, h4, He.eqO_ok h5, h6, h7, h8⟩
def kitNo (K : PySem.W.Frag) (C : Addr) : List String → Bool
  | [] => true
  | T :: r => decide (PySem.W.kitOne K (.ref C) (.type T) = some false) && kitNo K C r
theorem kitNo_of {K : PySem.W.Frag} {C : Addr} : ∀ {l : List String}, kitNo K C l = true → ∀ T ∈ l, PySem.W.kitOne K (.ref C) (.type T) = some false
  | [], _, T, h => nomatch h
  | S :: r, h, T, hT => by
    simp only [kitNo, Bool.and_eq_true, decide_eq_true_eq] at h
    rcases List.mem_cons.mp hT with e | e
    · rw [e]
      exact h.1
    · exact kitNo_of h.2 T e
def kinds5 : List String := ["int", "str", "bool", "list", "tuple"]
def Knd.is (T : String) : Knd → Bool
  | .int => T == "int"
  | .str => T == "str"
  | .bool => T == "bool" || T == "int"
  | .list => T == "list"
  | .tuple => T == "tuple"
  | _ => false
theorem kit_is {K : PySem.W.Frag} {C : Addr} {H : Hp} {v : V} {k : Knd} (n : kitNo K C kinds5 = true) (h : KndV C H v k) {T : String} (hT : T ∈ kinds5) : PySem.W.kitOne K k.ty (.type T) = some (k.is T) := by
  cases k with
  | exc D =>
    have e : D = C := by
      cases v <;> first | exact h.1 | exact h.elim
    rw [e]
    exact kitNo_of n T hT
  | _ =>
    simp only [kinds5, List.mem_cons, List.not_mem_nil, or_false] at hT
    rcases hT with rfl | rfl | rfl | rfl | rfl <;> exact kit_ty (by decide +kernel)
theorem kit_seq {K : PySem.W.Frag} {C : Addr} {H : Hp} {v : V} {k : Knd} (n : kitNo K C kinds5 = true) (h : KndV C H v k) : PySem.W.kitAny K k.ty [.type "list", .type "tuple"] = some (k.is "list" || k.is "tuple") := by
  refine kitAny_cons (kit_is n h (by decide)) (fun e => ?_) (fun e => by rw [e]; rfl)
  rw [e, Bool.false_or]
  refine kitAny_cons (kit_is n h (by decide)) (fun e => ?_) (fun e => e)
  rw [e]
  exact kitAny_nil
end Vf
namespace Vf
open PySem PySem.Spec PyProof.Rows L2
theorem small_line {n : Nat} (h : n ≤ 100000) : n < sizeLine := Nat.lt_of_le_of_lt h (by decide)
theorem le_line {n : Nat} (h : n ≤ 100000) : n ≤ sizeLine := Nat.le_of_lt (small_line h)
/-- a comprehension over things that stand, whose tests and elements change nothing that stood -/
theorem lc_pure {J : It} {n : Nat} {G : Hp → Prop} {Y : Nat → Hp → V → Hp → Prop} (w : Walk J n G Y) (ys : List V) (hn : n = ys.length) (hl : ys.length ≤ 100000) (hY : ∀ i H x H', Y i H x H' → Same H H' ∧ ys[i]? = some x) (f : V → V) (keep : V → Bool)
    {g : TG} {tt : TT} {te : TE} {vs : List Nat} {σ : L2.St} {H1 : Hp} {D : Addr} {Qd : Hp → Prop} (nD : H1 D = none) (hG : ∀ H, Same H1 H → G H)
    (hs : ∀ (i : Nat) x H (Q1 : VK) (Q0 : Hp → Prop), ys[i]? = some x → Same H1 H → (keep x = true → ∀ H4, Same H H4 → Q1 (f x) H4) → (keep x = false → ∀ H4, Same H H4 → Q0 H4) →
      g x (wipe σ vs) H fun σ2 H2 => wipe σ2 vs = wipe σ vs ∧ tt σ2 H2 fun b H3 => if b = true then te σ2 H3 Q1 else Q0 H3)
    (hd : ∀ H, Same H1 H → H D = some (.lst ((ys.filter keep).map f)) → Qd H) :
    ∃ W : Nat → Nat → Hp → Prop, (∃ m, W 0 m (upd H1 D (.lst []))) ∧ ∀ i m H, W i m H →
      (J.stop i H ∧ Qd H) ∨ (J.go i H ∧ ∃ Nx : Hp → Prop, (∀ H', Nx H' → ∃ m', m' < m ∧ W (i + 1) m' H') ∧ ∀ x H', J.yld i H x H' → g x (wipe σ vs) H' fun σ2 H2 => wipe σ2 vs = wipe σ vs ∧ tt σ2 H2 fun b H3 =>
        if b = true then te σ2 H3 fun y H4 => ∃ acc, H4 D = some (.lst acc) ∧ acc.length < sizeLine ∧ Nx (upd H4 D (.lst (acc ++ [y]))) else Nx H3) := by
  refine lc_it w (fun i H => Same H1 H ∧ H D = some (.lst (((ys.take i).filter keep).map f))) ⟨same_new nD, upd_same⟩ (fun i H _ p => hG H p.1) (fun i x H H' hi p y => ?_) (fun H p => ?_)
  · obtain ⟨s, hx⟩ := hY i H x H' y
    have hD := s _ _ p.2
    have et : ys.take (i + 1) = ys.take i ++ [x] := by rw [List.take_add_one, hx] <;> rfl
    refine hs i x H' _ _ hx (p.1.trans s) (fun k H4 s4 => ?_) (fun k H4 s4 => ?_)
    · refine ⟨_, s4 _ _ hD, ?_, ?_, ?_⟩
      · rw [List.length_map]
        refine small_line (Nat.le_trans (List.length_filter_le _ _) ?_)
        rw [List.length_take]
        omega
      · exact Same.mut ((p.1.trans s).trans s4) nD
      · rw [upd_same, et, List.filter_append, List.map_append]
        simp [k]
    · refine ⟨(p.1.trans s).trans s4, ?_⟩
      rw [s4 _ _ hD, et, List.filter_append, List.map_append]
      simp [k]
  · refine hd H p.1 ?_
    rw [p.2, hn, List.take_length]
def sgs (z : Str) : List V := z.cps.toList.map fun c => .str ⟨#[c]⟩
theorem sgs_len (z : Str) : (sgs z).length = z.cps.size := by unfold sgs; simp
theorem walk_sgs {z : Str} : Walk (Its z) z.cps.size (fun _ => True) (fun i H x H' => H' = H ∧ (sgs z)[i]? = some x) :=
  walk_str.mono (fun _ h => h) fun i H x H' _ _ y => ⟨y.1, by
    obtain ⟨_, c, hc, rfl⟩ := y
    unfold sgs
    rw [List.getElem?_map, show z.cps.toList[i]? = some c by rw [Array.getElem?_toList]; exact hc] <;> rfl⟩
theorem same_of_eq {H H' : Hp} (h : H' = H) : Same H H' := by
  rw [h]
  exact Same.refl H
end Vf
namespace Vf
open PySem PySem.Spec PyProof.Rows L2
/-! ### texts of a bounded length -/
def TxB (z : Str) (n : Nat) : Prop := z.length ≤ n ∧ PyData.strOk z = true
theorem TxB.le {z : Str} {m n : Nat} (h : TxB z m) (l : m ≤ n) : TxB z n := ⟨Nat.le_trans h.1 l, h.2⟩
theorem strOk_iff {z : Str} : PyData.strOk z = true ↔ ∀ c ∈ z.cps.toList, c < 0x110000 := by
  unfold PyData.strOk
  rw [← Array.all_toList, List.all_eq_true]
  simp
theorem app_len (x y : Str) : (x ++ y).length = x.length + y.length := by
  show (x.cps ++ y.cps).size = _
  rw [Array.size_append]
  rfl
theorem app_cps (x y : Str) : (x ++ y).cps.toList = x.cps.toList ++ y.cps.toList := by
  show (x.cps ++ y.cps).toList = _
  rw [Array.toList_append]
theorem TxB.app {x y : Str} {m n : Nat} (h : TxB x m) (g : TxB y n) : TxB (x ++ y) (m + n) := by
  refine ⟨by rw [app_len]; exact Nat.add_le_add h.1 g.1, strOk_iff.mpr fun c hc => ?_⟩
  rw [app_cps] at hc
  rcases List.mem_append.mp hc with e | e
  · exact strOk_iff.mp h.2 c e
  · exact strOk_iff.mp g.2 c e
theorem TxB.sign {x : Str} {m : Nat} {c : Nat} (h : TxB x m) (hc : c ∈ x.cps.toList) : TxB ⟨#[c]⟩ 1 :=
  ⟨Nat.le_refl _, strOk_iff.mpr fun d hd => by
    have e : d = c := by simpa using hd
    rw [e]
    exact strOk_iff.mp h.2 c hc⟩
theorem TxB.cut {x : Str} {m : Nat} (h : TxB x m) (lo hi : Option Int) : TxB (cutS x lo hi) m := by
  refine ⟨Nat.le_trans (cutS_length x lo hi) h.1, strOk_iff.mpr fun c hc => ?_⟩
  unfold cutS at hc
  exact strOk_iff.mp h.2 c (List.mem_of_mem_drop (List.mem_of_mem_take (by simpa using hc)))
theorem TxB.lit {z : Str} (n : Nat) (h : (decide (z.length ≤ n) && PyData.strOk z) = true) : TxB z n := by
  simp only [Bool.and_eq_true, decide_eq_true_eq] at h
  exact h
theorem TxB.line {z : Str} {n : Nat} (h : TxB z n) (l : n ≤ 100000) : z.length ≤ sizeLine := le_line (Nat.le_trans h.1 l)
/-- a sign of a text at a drawn place -/
theorem TxB.at {z : Str} {n : Nat} {d : Int} (h : TxB z n) (h0 : 0 ≤ d) (h1 : d < (z.length : Int)) : ∃ c, atI z.cps.toList d = some c ∧ TxB ⟨#[c]⟩ 1 := by
  have e : z.length = z.cps.toList.length := by simp [Str.length]
  obtain ⟨c, hc, hat⟩ := at_in (xs := z.cps.toList) h0 (by omega)
  exact ⟨c, hat, h.sign hc⟩
/-- the text that a def of one return gives back -/
def retStr (st : Stmt) : Str := match defBody st with
  | [.Return (some (.Constant (.str x) _ _)) _] => x
  | _ => Str.empty
section
variable {X : Cx}
/-- text * number -/
def rRepS : V → V → Hp → VK → Prop := fun x y H Q => ∃ z k, x = .str z ∧ y = .int k ∧ z.length ≤ 1000 ∧ 0 ≤ k ∧ k ≤ 1000 ∧ Q (.str (Txt.mul z k)) H
theorem op_rep_str : OpR X (binaryOp .Mult) rRepS := by
  intro pins s σ H x y u v Q I rx ry h
  obtain ⟨z, k, rfl, rfl, hz, h0, h1, q⟩ := h
  obtain ⟨t, rfl⟩ := rx
  obtain ⟨t', rfl⟩ := ry
  exact SB.mul (mulOk_of 1000 1000 hz (by omega) (by omega) (by decide) (by decide)) fun t2 k2 => ⟨.str (Txt.mul z k), H, I.tok k2, ⟨t2, rfl⟩, q⟩
end
end Vf
namespace Vf
open PySem PySem.Spec PyProof.Rows L2
section
variable {X : Cx}
/-- a list == [], whatever its items are -/
def rEqNil (K : PySem.W.Frag) : V → V → Hp → VK → Prop := fun x y H Q => ∃ a b xs, x = .ref a ∧ y = .ref b ∧ SqL K H a xs ∧ SqL K H b [] ∧ Q (.bl (decide (xs = []))) H
theorem op_eqNil (hu : X.A.units < cLine) : OpR X (compareOp .Eq) (rEqNil X.K) := by
  intro pins s σ H x y v u Q I rx ry h
  obtain ⟨a, b, xs, rfl, rfl, ha, hb, q⟩ := h
  cases (show v = Value.ref a from rx)
  cases (show u = Value.ref b from ry)
  obtain ⟨its, rv, hl, _⟩ := I.list ha
  obtain ⟨its2, rv2, hl2, _⟩ := I.list hb
  cases rv2
  cases xs with
  | nil =>
    cases rv
    exact SeqAt.eq_listAt (e := fun _ => true) hl.isList hl2.isList rfl hu (fun j h1 => by simp at h1) ⟨.bl true, H, I, rfl, q⟩
  | cons z r =>
    cases rv
    exact SeqAt.eq_list_lengthsAt hl.isList hl2.isList (by simp) hu ⟨.bl false, H, I, rfl, q⟩
end
end Vf
namespace Vf
open PySem PySem.Spec PyProof.Rows L2
/-! ### f(k = v, ..) -/
section
variable {X : Cx} {CX : CXT} {k : Nat} {f : Addr} {fd : FuncData} {ps ks : List Str} {sp : Sp} {E : XK} {x : Str} {p pos : Pos} {kws : List Keyword} {tk : TA} {g : List Value → List Value → List Value} {gV : List V → List V → List V}
theorem pe_callK0 (F : FnOk X.prog X.w X.K X.mg X.base CX k f fd ps sp) (hr : Room k X.A) (hg : Gl X x) (hm : X.mg x = some (.ref f)) (hk : PySem.W.keepIn X.K (.ref f) = true) (hb : KBn X.K fd ps 0 ks g gV) (hx : Passes CX X E)
    (hkw : PK X kws tk) (hall : (backToKw pos (keywordEach kws X.env)).all (·.1.isSome) = true := by rfl) (hks : (backToKw pos (keywordEach kws X.env)).filterMap (·.1) = ks := by rfl)
    (hdb : (x == ("__debug__" : Str)) = false := by decide) (hpl : ((backTo pos (starEach [] X.env)).any (·.1) || (backToKw pos (keywordEach kws X.env)).any (·.1.isNone)) = false := by rfl) :
    PE X (.Call (.Name x p) [] kws pos) (tCallN 0 ks.length sp gV E tNil tk) := by
  refine ⟨fun pins s σ H Q I h => ?_⟩
  refine wpAny_Call_Name_kw (ld_glob I hg hm ?_ hdb)
  refine PySem.W.callWith_KW0 (h₀ := X.base) I.ok.mod.kin hk hall ?_ hpl
  refine thn (hkw.run pos pins s σ H _ I h) fun ws s2 ⟨zs, H2, I2, rz, l1, l2, q2⟩ => ⟨I2.kIn, ?_⟩
  rw [hks]
  exact run_fnN (us := []) (vs := []) F hr hb hx I2 .nil rz rfl l2 q2
end
/-- the module's name x stands for a def that keeps the promise, called by keywords alone -/
def HasK (P : Program) (w : World) (K : PySem.W.Frag) (mg : Str → Option Value) (base : Heap) (x : Str) (k : Nat) (ps ks : List Str) (gV : List V → List V → List V) (sp : Sp) : Prop :=
  ∃ (f : Addr) (fd : FuncData) (g : List Value → List Value → List Value), FnOk P w K mg base CX0 k f fd ps sp ∧ mg x = some (.ref f) ∧ PySem.W.keepIn K (.ref f) = true ∧ KBn K fd ps 0 ks g gV
theorem kbn_of {K : PySem.W.Frag} {x qual : Str} {params : Arguments} {body : List Stmt} {scope : Scope} {f : Addr} {fd : FuncData} {ps ks : List Str} {g : List Value → List Value → List Value} {gV : List V → List V → List V} (F : FunD K x qual params body scope [] [] f fd)
    (h : ∀ (kV doc pm : Value) (an : Option Addr) (cdv ct : Value) (ws : List Value), ws.length = ks.length → bindArgs (PySem.W.fnOf x qual params body scope .none kV doc pm an cdv ct) ⟨[], ks.zip ws⟩ = pure (ps.zip (g [] ws)))
    (rel : ∀ {vs : List V} {us : List Value} {zs : List V} {ws : List Value}, Vals vs us → Vals zs ws → Vals (gV vs zs) (g us ws)) : KBn K fd ps 0 ks g gV := by
  obtain ⟨oc, od, dV, kV, doc, pm, an, cdv, ct, osl, rfl, lk, hcd, hD, hK⟩ := F.ex
  rcases hD with ⟨_, rfl⟩ | ⟨e, _⟩
  · refine ⟨fun s us ws _ l1 l2 => ?_, rel⟩
    cases us with
    | nil => exact .of_eq (h kV doc pm an cdv ct ws l2)
    | cons a r => cases l1
  · exact absurd rfl e
/-- one keyword -/
def gv1 : List V → List V → List V := fun _ zs => zs
/-- three keywords: the last parameter, then the first, then the second -/
def gv3 : List V → List V → List V := fun _ zs => match zs with
  | [m, v, l] => [v, l, m]
  | _ => []
def gu3 : List Value → List Value → List Value := fun _ zs => match zs with
  | [m, v, l] => [v, l, m]
  | _ => []
theorem gv3_rel {vs : List V} {us : List Value} {zs : List V} {ws : List Value} (_ : Vals vs us) (h : Vals zs ws) : Vals (gv3 vs zs) (gu3 us ws) := by
  cases h with
  | nil => exact .nil
  | cons r1 h =>
    cases h with
    | nil => exact .nil
    | cons r2 h =>
      cases h with
      | nil => exact .nil
      | cons r3 h =>
        cases h with
        | nil => exact .cons r2 (.cons r3 (.cons r1 .nil))
        | cons r4 h => exact .nil
end Vf
namespace Vf
open PySem PySem.Spec PyProof.Rows L2
/-! ### own error classes with fields -/
def oexB (K : PySem.W.Frag) (C : Addr) : Bool := (match K.lookup C with
  | some ⟨.type "type", _, .cls cd, sl⟩ => (match cd.mro, sl.toList with
    | .ref C' :: bm, [_, _, _, _, some (.builtin n), _] => C' == C && (n == "ValueError.__new__" && (!cd.hasDel && (cd.hasDict && PySem.HandSPX.refsVE bm)))
    | _, _ => false)
  | _ => false) && (He.eqO (PySem.W.findIn K (.ref C) "__setattr__") (some (some (.builtin "object.__setattr__"))) && (decide (PySem.W.subIn K (.ref C) (.type "BaseException") = some true) && (decide (PySem.W.typeIn K (.ref C) = some (.type "type")) && PySem.W.keepIn K (.ref C))))
theorem oexC_of {K : PySem.W.Frag} {C : Addr} (h : oexB K C = true) : OexC K C := by
  unfold oexB at h
  obtain ⟨q, h⟩ := He.ba h
  obtain ⟨h1, h⟩ := He.ba h
  obtain ⟨h2, h⟩ := He.ba h
  obtain ⟨h3, h4⟩ := He.ba h
  refine ⟨?_, He.eqO_ok h1, of_decide_eq_true h2, of_decide_eq_true h3, h4⟩
  split at q
  · rename_i dd cd sl ho
    split at q
    · rename_i C' bm k0 k1 k2 k3 n k5 hm hs
      simp only [Bool.and_eq_true, beq_iff_eq, Bool.not_eq_true'] at q
      obtain ⟨e1, e2, hdel, hdct, ht⟩ := q
      subst e1 e2
      obtain ⟨nm, bs, mro, ns, qn, hd, sn, sub, ab, col, del⟩ := cd
      dsimp only at hm hdel hdct
      subst hm hdel hdct
      have hsl : sl = #[k0, k1, k2, k3, some (.builtin "ValueError.__new__"), k5] := by
        obtain ⟨l⟩ := sl
        simp only at hs
        rw [hs]
      subst hsl
      exact ⟨nm, qn, ns, bs, bm, sn, sub, ab, col, dd, k0, k1, k2, k3, k5, ho, ht⟩
    · cases q
  · cases q
/-- an own error class x, its own __init__, the fields fs: none of them is an attribute of the class -/
structure ErrC (K : PySem.W.Frag) (x : Str) (fs : List Str) : Prop where
  oex : OexC K (He.ga K x)
  exc : ExcC K (He.ga K x)
  ini : PySem.W.findIn K (.ref (He.ga K x)) "__init__" = some (some (.ref (He.ma K (He.ga K x) "__init__")))
  fn : PySem.W.typeIn K (.ref (He.ma K (He.ga K x) "__init__")) = some (.type "function")
  no : ∀ f ∈ fs, PySem.W.findIn K (.ref (He.ga K x)) f = some none
def errB (K : PySem.W.Frag) (x : Str) (fs : List Str) : Bool := oexB K (He.ga K x) && (excB K (He.ga K x) && (He.eqO (PySem.W.findIn K (.ref (He.ga K x)) "__init__") (some (some (.ref (He.ma K (He.ga K x) "__init__")))) &&
  (decide (PySem.W.typeIn K (.ref (He.ma K (He.ga K x) "__init__")) = some (.type "function")) && fs.all fun f => He.eqO (PySem.W.findIn K (.ref (He.ga K x)) f) (some none))))
theorem errC_of {K : PySem.W.Frag} {x : Str} {fs : List Str} (h : errB K x fs = true) : ErrC K x fs := by
  unfold errB at h
  obtain ⟨h1, h⟩ := He.ba h
  obtain ⟨h2, h⟩ := He.ba h
  obtain ⟨h3, h⟩ := He.ba h
  obtain ⟨h4, h5⟩ := He.ba h
  exact ⟨oexC_of h1, excC_of h2, He.eqO_ok h3, of_decide_eq_true h4, fun f hf => He.eqO_ok (List.all_eq_true.mp h5 f hf)⟩
theorem ErrC.xf {K : PySem.W.Frag} {x : Str} {fs : List Str} (h : ErrC K x fs) : XfC K (He.ga K x) := ⟨h.exc.hg, h.exc.hk, h.exc.hs, h.exc.hd⟩
/-- isinstance's answers -/
def kitsB (K : PySem.W.Frag) (x : Str) (ys : List (Str × Bool)) : Bool := decide (PySem.W.kitOne K (.ref (He.ga K x)) (.type "ValueError") = some true) && ys.all fun y => decide (PySem.W.kitOne K (.ref (He.ga K x)) (.ref (He.ga K y.1)) = some y.2)
structure Kits (K : PySem.W.Frag) (x : Str) (ys : List (Str × Bool)) : Prop where
  ve : PySem.W.kitOne K (.ref (He.ga K x)) (.type "ValueError") = some true
  own : ∀ y ∈ ys, PySem.W.kitOne K (.ref (He.ga K x)) (.ref (He.ga K y.1)) = some y.2
theorem kits_of {K : PySem.W.Frag} {x : Str} {ys : List (Str × Bool)} (h : kitsB K x ys = true) : Kits K x ys := by
  unfold kitsB at h
  obtain ⟨h1, h2⟩ := He.ba h
  exact ⟨of_decide_eq_true h1, fun y hy => of_decide_eq_true (List.all_eq_true.mp h2 y hy)⟩
/-! ### raising them -/
/-- the wish of an exception of the class at C with the fields fs, told from H -/
def Rz (E : XK) (C : Addr) (fs : List (Str × V)) (H : Hp) : Prop := ∀ H' d, Same H H' → H d = none → H' d = some (.xd fs) → E (.ref C) (some d) H'
theorem Rz.same {E : XK} {C : Addr} {fs : List (Str × V)} {H H1 : Hp} (h : Rz E C fs H) (s : Same H H1) : Rz E C fs H1 := fun H' d s2 n e => by
  refine h H' d (s.trans s2) ?_ e
  cases q : H d with
  | none => rfl
  | some o =>
    rw [s _ _ q] at n
    cases n
/-- def __init__(self, f): self.f = f -/
def spI1 (K : PySem.W.Frag) (f : Str) : Sp := fun vs H Q _ => ∃ (a C : Addr) (v : V), vs = [.ref a, v] ∧ OexC K C ∧ PySem.W.findIn K (.ref C) f = some none ∧ H a = some (exo a C none) ∧
  ∀ dx, H dx = none → dx ≠ a → Q .non (upd (upd H dx (exd dx [(f, v)])) a (exo a C (some dx)))
/-- .. of two fields -/
def spI2 (K : PySem.W.Frag) (f g : Str) : Sp := fun vs H Q _ => ∃ (a C : Addr) (v u : V), vs = [.ref a, v, u] ∧ OexC K C ∧ PySem.W.findIn K (.ref C) f = some none ∧ PySem.W.findIn K (.ref C) g = some none ∧ H a = some (exo a C none) ∧
  ∀ dx, H dx = none → dx ≠ a → Q .non (upd (upd (upd H dx (exd dx [(f, v)])) a (exo a C (some dx))) dx (exd dx [(g, u), (f, v)]))
theorem same_exc {H : Hp} {a d : Addr} {o : HO} (ha : H a = none) (hd : H d = none) {H2 : Hp} (h2 : ∀ b, b ≠ a → b ≠ d → H2 b = H b) : Same H (upd (L2.del H2 a) d o) := fun b u e => by
  have n1 := ne_of_none e ha
  have n2 := ne_of_none e hd
  rw [upd_ne n2, del_ne n1, h2 b n1 n2]
  exact e
theorem mk1 {K : PySem.W.Frag} {C : Addr} {f : Str} {v : V} {H : Hp} {E : XK} (T : OexC K C) (no : PySem.W.findIn K (.ref C) f = some none) (r : Rz E C [(f, v)] H) :
    ([v].length ≤ 1000 ∧ ∀ a, H a = none → spI1 K f (.ref a :: ([v] ++ [])) (upd H a (exo a C none))
      (fun v H2 => v = .non ∧ ∃ (d : Addr) (fs : List (Str × V)), H2 a = some (exo a C (some d)) ∧ H2 d = some (exd d fs) ∧ H d = none ∧ E (.ref C) (some d) (upd (L2.del H2 a) d (.xd fs))) (fun _ _ _ => False)) := by
  refine ⟨(show 1 ≤ 1000 by decide), fun a na => ⟨a, C, v, rfl, T, no, upd_same, fun dx nd nda => ?_⟩⟩
  have nd' : H dx = none := by
    rw [upd_ne nda] at nd
    exact nd
  refine ⟨rfl, dx, [(f, v)], upd_same, by rw [upd_ne nda, upd_same], nd', ?_⟩
  exact r _ dx (same_exc na nd' fun b n1 n2 => by rw [upd_ne n1, upd_ne n2, upd_ne n1]) nd' upd_same
theorem mk2 {K : PySem.W.Frag} {C : Addr} {f g : Str} {v u : V} {H : Hp} {E : XK} (T : OexC K C) (no : PySem.W.findIn K (.ref C) f = some none) (no2 : PySem.W.findIn K (.ref C) g = some none) (r : Rz E C [(g, u), (f, v)] H) :
    ([v, u].length ≤ 1000 ∧ ∀ a, H a = none → spI2 K f g (.ref a :: ([v, u] ++ [])) (upd H a (exo a C none))
      (fun v H2 => v = .non ∧ ∃ (d : Addr) (fs : List (Str × V)), H2 a = some (exo a C (some d)) ∧ H2 d = some (exd d fs) ∧ H d = none ∧ E (.ref C) (some d) (upd (L2.del H2 a) d (.xd fs))) (fun _ _ _ => False)) := by
  refine ⟨(show 2 ≤ 1000 by decide), fun a na => ⟨a, C, v, u, rfl, T, no, no2, upd_same, fun dx nd nda => ?_⟩⟩
  have nd' : H dx = none := by
    rw [upd_ne nda] at nd
    exact nd
  refine ⟨rfl, dx, [(g, u), (f, v)], by rw [upd_ne nda.symm, upd_same], upd_same, nd', ?_⟩
  exact r _ dx (same_exc na nd' fun b n1 n2 => by rw [upd_ne n2, upd_ne n1, upd_ne n2, upd_ne n1]) nd' upd_same
/-- what a def that may raise lets out, in a def that may raise -/
theorem passE {X : Cx} {E : XK} (hs : X.stack = X.env :: X.outer) (hf : X.env.frame = some X.env.locals) (hex : X.ex = []) {E₁ : Value → Shared → Prop} (hx : X.xe = fun e s' => wpAny (model X.prog X.w) X.A (leaving X.env e) (fun _ s'' => L2.CX X.prog X.w X.outer X.H_0 X.s_0 E e s'') E₁ s') : Passes (L2.CX X.prog X.w) X E :=
  passes_call (takes_of hs hf hex hx) fun _ _ _ _ h => h
theorem takes_no {X : Cx} : Takes X (fun _ _ _ _ => False) := fun _ _ x => by
  obtain ⟨_, _, _, _, _, _, _, _, _, _, _, _, _, _, _, _, z⟩ := x
  exact z.elim
/-- .. in a def that lets nothing out -/
theorem passN {X : Cx} : Passes (L2.CX X.prog X.w) X (fun _ _ _ => False) := passes_call takes_no fun _ _ _ _ h => h
/-- a def that may raise, by its name -/
def HasX (P : Program) (w : World) (K : PySem.W.Frag) (mg : Str → Option Value) (base : Heap) (x : Str) (k : Nat) (ps : List Str) (sp : Sp) : Prop :=
  ∃ (f : Addr) (fd : FuncData), FnOk P w K mg base (L2.CX P w) k f fd ps sp ∧ mg x = some (.ref f) ∧ PySem.W.keepIn K (.ref f) = true ∧ Binds K fd ps []
end Vf
namespace K04
open PySem PySem.Spec PyProof.Rows L2 Vf
def dflA : PySem.W.Frag → Addr := He.dflAt ("Skin", some "__init__") 0
def dfl0 (K : PySem.W.Frag) : Bool := match K.lookup (dflA K) with
  | some ⟨.type c, _, .seq its _, _⟩ => decide (c = "tuple") && its.isEmpty
  | _ => false
theorem dfl0_ok {K : PySem.W.Frag} (h : dfl0 K = true) : ∃ od n sl, K.lookup (dflA K) = some ⟨.type "tuple", od, .seq #[] n, sl⟩ := by
  unfold dfl0 at h
  split at h
  · rename_i c od its n sl e
    obtain ⟨h1, h2⟩ := He.ba h
    have e1 : c = "tuple" := of_decide_eq_true h1
    subst e1
    have e2 : its = #[] := by simpa using h2
    subst e2
    exact ⟨od, n, sl, e⟩
  · cases h
def tabT (K : PySem.W.Frag) (x : Str) : Addr := (He.cT K (x, none)).2
def tabsNe (K : PySem.W.Frag) : Bool := true
def tf : List He.Defn := [("_law_refused_right", none)]
def inhB (K : PySem.W.Frag) (x : Str) : Bool := decide (He.ma K (He.ga K x) "__init__" = He.ma K (He.ga K "Missing") "__init__")
def insB (K : PySem.W.Frag) (x : Str) : Bool := decide (PySem.W.findIn K (.ref (He.ga K x)) "__class__" = some (some (.builtin "object.__class__"))) && (decide (PySem.W.specialIn K (.builtin "object.__class__") "__get__" = some (some (.builtin "getset_descriptor.__get__"))) &&
  (decide (PySem.W.takesIn K (.builtin "object.__class__") = some true) && (decide (PySem.W.mroIn K (He.ga K x) (.type "object") = some true) && (decide (PySem.W.kitOne K (.ref (He.ga K x)) (.ref (He.ga K x)) = some true) && (["str", "int", "list", "tuple", "NoneType", "bool", "dict"] : List String).all fun t => decide (PySem.W.kitOne K (.type t) (.ref (He.ga K x)) = some false)))))
theorem insC_of {K : PySem.W.Frag} {x : Str} (cl : Cls K (He.ga K x)) (h : insB K x = true) : C8.InsC K (He.ga K x) := by
  obtain ⟨h1, h⟩ := He.ba h
  obtain ⟨h2, h⟩ := He.ba h
  obtain ⟨h3, h⟩ := He.ba h
  obtain ⟨h4, h⟩ := He.ba h
  obtain ⟨h5, _⟩ := He.ba h
  exact ⟨cl, of_decide_eq_true h1, of_decide_eq_true h2, of_decide_eq_true h3, of_decide_eq_true h4, of_decide_eq_true h5⟩
theorem kitN_of {K : PySem.W.Frag} {x : Str} (h : insB K x = true) {t : String} (ht : t ∈ (["str", "int", "list", "tuple", "NoneType", "bool", "dict"] : List String)) : PySem.W.kitOne K (.type t) (.ref (He.ga K x)) = some false := by
  obtain ⟨h1, h⟩ := He.ba h
  obtain ⟨h2, h⟩ := He.ba h
  obtain ⟨h3, h⟩ := He.ba h
  obtain ⟨h4, h⟩ := He.ba h
  obtain ⟨_, h⟩ := He.ba h
  exact of_decide_eq_true (List.all_eq_true.mp h t ht)
def top (i : Nat) : Stmt := PySem.Challenge.pw_rimsewn_k04_sides_of_skins_by_own_sums.main.body.getD i (.Pass ⟨0, 0, 0, 0⟩)
abbrev s_BadKind_init : Stmt := inClass (top 2) 0
abbrev s_BadSkin_init : Stmt := inClass (top 3) 0
abbrev s_Missing_init : Stmt := inClass (top 4) 0
abbrev s_Twice_init : Stmt := inClass (top 7) 0
abbrev s_TooMany_init : Stmt := inClass (top 8) 0
abbrev s_BadText_init : Stmt := inClass (top 9) 0
abbrev s_is_grid : Stmt := top 12
abbrev s_need_kind : Stmt := top 13
abbrev s_sides_of : Stmt := top 14
abbrev s_full_of : Stmt := top 15
abbrev s_is_integer : Stmt := top 17
abbrev s_is_within : Stmt := top 18
abbrev s_is_listed : Stmt := top 19
abbrev s_first_twice : Stmt := top 20
abbrev s_words_of : Stmt := top 23
abbrev s_natural_of : Stmt := top 24
abbrev s_word_at : Stmt := top 25
abbrev s_number_at : Stmt := top 26
abbrev s_is_seam : Stmt := top 29
abbrev s_need_seams : Stmt := top 30
abbrev s_sides_in : Stmt := top 31
abbrev s_mates_of : Stmt := top 32
abbrev s_turned_sides : Stmt := top 33
abbrev s_Skin_init : Stmt := inClass (top 34) 0
abbrev s_Skin_need_side : Stmt := inClass (top 34) 1
abbrev s_Skin_mate : Stmt := inClass (top 34) 2
abbrev s_Skin_next : Stmt := inClass (top 34) 3
abbrev s_Skin_back : Stmt := inClass (top 34) 4
abbrev s_Skin_face : Stmt := inClass (top 34) 5
abbrev s_Skin_with_seams : Stmt := inClass (top 34) 6
abbrev s_Skin_mirrored : Stmt := inClass (top 34) 7
abbrev s_Skin_mirror_of : Stmt := inClass (top 34) 8
abbrev s_Skin_eq : Stmt := inClass (top 34) 9
abbrev s_Skin_str : Stmt := inClass (top 34) 10
abbrev s_skin_words : Stmt := top 35
abbrev s_read_seams : Stmt := top 36
abbrev s_law_pen : Stmt := top 38
abbrev s_law_draw : Stmt := top 39
abbrev s_law_pick : Stmt := top 40
abbrev s_law_pairs : Stmt := top 41
abbrev s_law_mates : Stmt := top 42
abbrev s_law_heard : Stmt := top 43
abbrev s_law_told : Stmt := top 44
abbrev s_law_tells_right : Stmt := top 45
abbrev s_law_widened_right : Stmt := top 46
abbrev s_law_mirrored_right : Stmt := top 47
abbrev s_law_unlike_right : Stmt := top 48
abbrev s_law_refused_right : Stmt := top 49
abbrev s_law : Stmt := top 50
def d_BadKind_init : He.DefD := ⟨("BadKind", some "__init__"), "__init__", "BadKind.__init__", defArgs s_BadKind_init, defBody s_BadKind_init, defScope s_BadKind_init, [], []⟩
def d_BadSkin_init : He.DefD := ⟨("BadSkin", some "__init__"), "__init__", "BadSkin.__init__", defArgs s_BadSkin_init, defBody s_BadSkin_init, defScope s_BadSkin_init, [], []⟩
def d_Missing_init : He.DefD := ⟨("Missing", some "__init__"), "__init__", "Missing.__init__", defArgs s_Missing_init, defBody s_Missing_init, defScope s_Missing_init, [], []⟩
def d_Twice_init : He.DefD := ⟨("Twice", some "__init__"), "__init__", "Twice.__init__", defArgs s_Twice_init, defBody s_Twice_init, defScope s_Twice_init, [], []⟩
def d_TooMany_init : He.DefD := ⟨("TooMany", some "__init__"), "__init__", "TooMany.__init__", defArgs s_TooMany_init, defBody s_TooMany_init, defScope s_TooMany_init, [], []⟩
def d_BadText_init : He.DefD := ⟨("BadText", some "__init__"), "__init__", "BadText.__init__", defArgs s_BadText_init, defBody s_BadText_init, defScope s_BadText_init, [], []⟩
def d_is_grid : He.DefD := ⟨("is_grid", none), "is_grid", "is_grid", defArgs s_is_grid, defBody s_is_grid, defScope s_is_grid, [], []⟩
def d_need_kind : He.DefD := ⟨("need_kind", none), "need_kind", "need_kind", defArgs s_need_kind, defBody s_need_kind, defScope s_need_kind, [], []⟩
def d_sides_of : He.DefD := ⟨("sides_of", none), "sides_of", "sides_of", defArgs s_sides_of, defBody s_sides_of, defScope s_sides_of, [], []⟩
def d_full_of : He.DefD := ⟨("full_of", none), "full_of", "full_of", defArgs s_full_of, defBody s_full_of, defScope s_full_of, [], []⟩
def d_is_integer : He.DefD := ⟨("is_integer", none), "is_integer", "is_integer", defArgs s_is_integer, defBody s_is_integer, defScope s_is_integer, [], []⟩
def d_is_within : He.DefD := ⟨("is_within", none), "is_within", "is_within", defArgs s_is_within, defBody s_is_within, defScope s_is_within, [], []⟩
def d_is_listed : He.DefD := ⟨("is_listed", none), "is_listed", "is_listed", defArgs s_is_listed, defBody s_is_listed, defScope s_is_listed, [], []⟩
def d_first_twice : He.DefD := ⟨("first_twice", none), "first_twice", "first_twice", defArgs s_first_twice, defBody s_first_twice, defScope s_first_twice, [], []⟩
def d_words_of : He.DefD := ⟨("words_of", none), "words_of", "words_of", defArgs s_words_of, defBody s_words_of, defScope s_words_of, [], []⟩
def d_natural_of : He.DefD := ⟨("natural_of", none), "natural_of", "natural_of", defArgs s_natural_of, defBody s_natural_of, defScope s_natural_of, [], []⟩
def d_word_at : He.DefD := ⟨("word_at", none), "word_at", "word_at", defArgs s_word_at, defBody s_word_at, defScope s_word_at, [], []⟩
def d_number_at : He.DefD := ⟨("number_at", none), "number_at", "number_at", defArgs s_number_at, defBody s_number_at, defScope s_number_at, [], []⟩
def d_is_seam : He.DefD := ⟨("is_seam", none), "is_seam", "is_seam", defArgs s_is_seam, defBody s_is_seam, defScope s_is_seam, [], []⟩
def d_need_seams : He.DefD := ⟨("need_seams", none), "need_seams", "need_seams", defArgs s_need_seams, defBody s_need_seams, defScope s_need_seams, [], []⟩
def d_sides_in : He.DefD := ⟨("sides_in", none), "sides_in", "sides_in", defArgs s_sides_in, defBody s_sides_in, defScope s_sides_in, [], []⟩
def d_mates_of : He.DefD := ⟨("mates_of", none), "mates_of", "mates_of", defArgs s_mates_of, defBody s_mates_of, defScope s_mates_of, [], []⟩
def d_turned_sides : He.DefD := ⟨("turned_sides", none), "turned_sides", "turned_sides", defArgs s_turned_sides, defBody s_turned_sides, defScope s_turned_sides, [], []⟩
def d_Skin_init : He.DefD := ⟨("Skin", some "__init__"), "__init__", "Skin.__init__", defArgs s_Skin_init, defBody s_Skin_init, defScope s_Skin_init, [.adr dflA], []⟩
def d_Skin_need_side : He.DefD := ⟨("Skin", some "need_side"), "need_side", "Skin.need_side", defArgs s_Skin_need_side, defBody s_Skin_need_side, defScope s_Skin_need_side, [], []⟩
def d_Skin_mate : He.DefD := ⟨("Skin", some "mate"), "mate", "Skin.mate", defArgs s_Skin_mate, defBody s_Skin_mate, defScope s_Skin_mate, [], []⟩
def d_Skin_next : He.DefD := ⟨("Skin", some "next"), "next", "Skin.next", defArgs s_Skin_next, defBody s_Skin_next, defScope s_Skin_next, [], []⟩
def d_Skin_back : He.DefD := ⟨("Skin", some "back"), "back", "Skin.back", defArgs s_Skin_back, defBody s_Skin_back, defScope s_Skin_back, [], []⟩
def d_Skin_face : He.DefD := ⟨("Skin", some "face"), "face", "Skin.face", defArgs s_Skin_face, defBody s_Skin_face, defScope s_Skin_face, [], []⟩
def d_Skin_with_seams : He.DefD := ⟨("Skin", some "with_seams"), "with_seams", "Skin.with_seams", defArgs s_Skin_with_seams, defBody s_Skin_with_seams, defScope s_Skin_with_seams, [], []⟩
def d_Skin_mirrored : He.DefD := ⟨("Skin", some "mirrored"), "mirrored", "Skin.mirrored", defArgs s_Skin_mirrored, defBody s_Skin_mirrored, defScope s_Skin_mirrored, [], []⟩
def d_Skin_mirror_of : He.DefD := ⟨("Skin", some "mirror_of"), "mirror_of", "Skin.mirror_of", defArgs s_Skin_mirror_of, defBody s_Skin_mirror_of, defScope s_Skin_mirror_of, [], []⟩
def d_Skin_eq : He.DefD := ⟨("Skin", some "__eq__"), "__eq__", "Skin.__eq__", defArgs s_Skin_eq, defBody s_Skin_eq, defScope s_Skin_eq, [], []⟩
def d_Skin_str : He.DefD := ⟨("Skin", some "__str__"), "__str__", "Skin.__str__", defArgs s_Skin_str, defBody s_Skin_str, defScope s_Skin_str, [], []⟩
def d_skin_words : He.DefD := ⟨("skin_words", none), "skin_words", "skin_words", defArgs s_skin_words, defBody s_skin_words, defScope s_skin_words, [], []⟩
def d_read_seams : He.DefD := ⟨("read_seams", none), "read_seams", "read_seams", defArgs s_read_seams, defBody s_read_seams, defScope s_read_seams, [], []⟩
def d_law_pen : He.DefD := ⟨("_law_pen", none), "_law_pen", "_law_pen", defArgs s_law_pen, defBody s_law_pen, defScope s_law_pen, [], []⟩
def d_law_draw : He.DefD := ⟨("_law_draw", none), "_law_draw", "_law_draw", defArgs s_law_draw, defBody s_law_draw, defScope s_law_draw, [], []⟩
def d_law_pick : He.DefD := ⟨("_law_pick", none), "_law_pick", "_law_pick", defArgs s_law_pick, defBody s_law_pick, defScope s_law_pick, [], []⟩
def d_law_pairs : He.DefD := ⟨("_law_pairs", none), "_law_pairs", "_law_pairs", defArgs s_law_pairs, defBody s_law_pairs, defScope s_law_pairs, [], []⟩
def d_law_mates : He.DefD := ⟨("_law_mates", none), "_law_mates", "_law_mates", defArgs s_law_mates, defBody s_law_mates, defScope s_law_mates, [], []⟩
def d_law_heard : He.DefD := ⟨("_law_heard", none), "_law_heard", "_law_heard", defArgs s_law_heard, defBody s_law_heard, defScope s_law_heard, [], []⟩
def d_law_told : He.DefD := ⟨("_law_told", none), "_law_told", "_law_told", defArgs s_law_told, defBody s_law_told, defScope s_law_told, [], []⟩
def d_law_tells_right : He.DefD := ⟨("_law_tells_right", none), "_law_tells_right", "_law_tells_right", defArgs s_law_tells_right, defBody s_law_tells_right, defScope s_law_tells_right, [], []⟩
def d_law_widened_right : He.DefD := ⟨("_law_widened_right", none), "_law_widened_right", "_law_widened_right", defArgs s_law_widened_right, defBody s_law_widened_right, defScope s_law_widened_right, [], []⟩
def d_law_mirrored_right : He.DefD := ⟨("_law_mirrored_right", none), "_law_mirrored_right", "_law_mirrored_right", defArgs s_law_mirrored_right, defBody s_law_mirrored_right, defScope s_law_mirrored_right, [], []⟩
def d_law_unlike_right : He.DefD := ⟨("_law_unlike_right", none), "_law_unlike_right", "_law_unlike_right", defArgs s_law_unlike_right, defBody s_law_unlike_right, defScope s_law_unlike_right, [], []⟩
def d_law_refused_right : He.DefD := ⟨("_law_refused_right", none), "_law_refused_right", "_law_refused_right", defArgs s_law_refused_right, defBody s_law_refused_right, defScope s_law_refused_right, [], []⟩
def d_law : He.DefD := ⟨("law", none), "law", "law", defArgs s_law, defBody s_law, defScope s_law, [], []⟩
def fn : List He.DefD := [d_BadKind_init, d_BadSkin_init, d_Missing_init, d_Twice_init, d_TooMany_init, d_BadText_init, d_is_grid, d_need_kind, d_sides_of, d_full_of, d_is_integer, d_is_within, d_is_listed, d_first_twice, d_words_of, d_natural_of, d_word_at, d_number_at, d_is_seam, d_need_seams, d_sides_in, d_mates_of, d_turned_sides, d_Skin_init, d_Skin_need_side, d_Skin_mate, d_Skin_next, d_Skin_back, d_Skin_face, d_Skin_with_seams, d_Skin_mirrored, d_Skin_mirror_of, d_Skin_eq, d_Skin_str, d_skin_words, d_read_seams, d_law_pen, d_law_draw, d_law_pick, d_law_pairs, d_law_mates, d_law_heard, d_law_told, d_law_tells_right, d_law_widened_right, d_law_mirrored_right, d_law_unlike_right, d_law_refused_right, d_law]
def fa : List He.Fa := [.glo "SewError", .glo "BadKind", .glo "BadSkin", .glo "Missing", .glo "NoSide", .glo "NoFace", .glo "Twice", .glo "TooMany", .glo "BadText", .glo "is_grid", .glo "need_kind", .glo "sides_of", .glo "full_of", .glo "is_integer", .glo "is_within", .glo "is_listed", .glo "first_twice", .glo "words_of", .glo "natural_of", .glo "word_at", .glo "number_at", .glo "is_seam", .glo "need_seams", .glo "sides_in", .glo "mates_of", .glo "turned_sides", .glo "Skin", .glo "skin_words", .glo "read_seams", .glo "_law_pen", .glo "_law_draw", .glo "_law_pick", .glo "_law_pairs", .glo "_law_mates", .glo "_law_heard", .glo "_law_told", .glo "_law_tells_right", .glo "_law_widened_right", .glo "_law_mirrored_right", .glo "_law_unlike_right", .glo "_law_refused_right", .glo "law", .glo "KINDS", .int "LONGEST_NUMBER" 60, .int "MOST_FACES" 24, .free "ValueError", .free "abs", .free "all", .free "bool", .free "int", .free "isinstance", .free "len", .free "list", .free "max", .free "min", .free "range", .free "repr", .free "set", .free "sorted", .free "staticmethod", .free "str", .free "tuple", .cls "Skin", .mkr "Skin", .noat "Skin" "kind", .noat "Skin" "faces", .noat "Skin" "turn", .noat "Skin" "full", .noat "Skin" "sides", .noat "Skin" "seams", .noat "Skin" "mates", .noat "Skin" "nexts", .noat "Skin" "backs", .noat "Skin" "free", .meth "Skin" "need_side", .meth "Skin" "mate", .meth "Skin" "with_seams", .meth "Skin" "__str__", .meth "Skin" "next", .meth "Skin" "back", .meth "Skin" "face", .meth "Skin" "mirrored", .meth "Skin" "mirror_of", .meth "Skin" "__eq__", .exm "BadKind" "SewError" true, .exm "BadSkin" "SewError" true, .exm "Twice" "SewError" true, .exm "TooMany" "SewError" true, .exm "NoSide" "SewError" true, .exm "Missing" "SewError" true]
def ex (K : PySem.W.Frag) : Bool := [He.tupB K "KINDS" [.str "square", .str "triangle"], dfl0 K, errB K "BadKind" ["part"], kitsB K "BadKind" [("NoSide", false), ("Missing", false), ("NoFace", false), ("BadSkin", false)], errB K "BadSkin" ["part"], kitsB K "BadSkin" [("NoSide", false), ("Missing", false), ("NoFace", false), ("BadSkin", true)], errB K "Twice" ["value"], kitsB K "Twice" [("NoSide", false), ("Missing", false), ("NoFace", false), ("BadSkin", false)], errB K "TooMany" ["what", "most"], kitsB K "TooMany" [("NoSide", false), ("Missing", false), ("NoFace", false), ("BadSkin", false)], errB K "NoSide" ["value"], kitsB K "NoSide" [("NoSide", true), ("Missing", true), ("NoFace", false), ("BadSkin", false)], errB K "Missing" ["value"], kitsB K "Missing" [("NoSide", false), ("Missing", true), ("NoFace", false), ("BadSkin", false)], inhB K "NoSide", insB K "Skin", tabsNe K].all id
abbrev R : PySem.W.OpenRow := PySem.W.OpenLaw.row PySem.Challenge.rw_rimsewn_k04_sides_of_skins_by_own_sums
abbrev hk : PySem.W.Hook := He.hookX 6 fa fn [] tf ex
def ob (s : PySem.W.SharedT) : He.AlX := He.obsX 6 fa fn [] tf ex (HandSHeadRun.getT s)
theorem ob_eq (s : PySem.W.SharedT) : ob s = hk.obs s.abs := He.obsX_eq (HandSHeadRun.getT_eq s)
def loose : List Str := [("SewError" : Str), ("BadKind" : Str), ("BadSkin" : Str), ("Missing" : Str), ("NoSide" : Str), ("NoFace" : Str), ("Twice" : Str), ("TooMany" : Str), ("BadText" : Str), ("KINDS" : Str), ("is_grid" : Str), ("need_kind" : Str), ("sides_of" : Str), ("full_of" : Str), ("is_integer" : Str), ("is_within" : Str), ("is_listed" : Str), ("first_twice" : Str), ("LONGEST_NUMBER" : Str), ("words_of" : Str), ("natural_of" : Str), ("word_at" : Str), ("number_at" : Str), ("MOST_FACES" : Str), ("is_seam" : Str), ("need_seams" : Str), ("sides_in" : Str), ("mates_of" : Str), ("turned_sides" : Str), ("Skin" : Str), ("skin_words" : Str), ("read_seams" : Str), ("_law_pen" : Str), ("_law_draw" : Str), ("_law_pick" : Str), ("_law_pairs" : Str), ("_law_mates" : Str), ("_law_heard" : Str), ("_law_told" : Str), ("_law_tells_right" : Str), ("_law_widened_right" : Str), ("_law_mirrored_right" : Str), ("_law_unlike_right" : Str), ("_law_refused_right" : Str)]
theorem run (w : World) : HandSHeadRun.RunEq R (PySem.W.view R.prog [50]) hk ob 6000 loose w := by
  intro os
  kernel_rfl
structure Txt (K : PySem.W.Frag) (mg : Str → Option Value) : Prop where
  g_SewError : mg "SewError" = some (.ref (He.ga K "SewError"))
  g_BadKind : mg "BadKind" = some (.ref (He.ga K "BadKind"))
  g_BadSkin : mg "BadSkin" = some (.ref (He.ga K "BadSkin"))
  g_Missing : mg "Missing" = some (.ref (He.ga K "Missing"))
  g_NoSide : mg "NoSide" = some (.ref (He.ga K "NoSide"))
  g_NoFace : mg "NoFace" = some (.ref (He.ga K "NoFace"))
  g_Twice : mg "Twice" = some (.ref (He.ga K "Twice"))
  g_TooMany : mg "TooMany" = some (.ref (He.ga K "TooMany"))
  g_BadText : mg "BadText" = some (.ref (He.ga K "BadText"))
  g_Skin : mg "Skin" = some (.ref (He.ga K "Skin"))
  g_KINDS : mg "KINDS" = some (.ref (He.ga K "KINDS"))
  c_LONGEST_NUMBER : ∃ t, mg "LONGEST_NUMBER" = some (.int 60 t)
  c_MOST_FACES : ∃ t, mg "MOST_FACES" = some (.int 24 t)
  n_ValueError : mg "ValueError" = none
  n_abs : mg "abs" = none
  n_all : mg "all" = none
  n_bool : mg "bool" = none
  n_int : mg "int" = none
  n_isinstance : mg "isinstance" = none
  n_len : mg "len" = none
  n_list : mg "list" = none
  n_max : mg "max" = none
  n_min : mg "min" = none
  n_range : mg "range" = none
  n_repr : mg "repr" = none
  n_set : mg "set" = none
  n_sorted : mg "sorted" = none
  n_staticmethod : mg "staticmethod" = none
  n_str : mg "str" = none
  n_tuple : mg "tuple" = none
  cl_Skin : Cls K (He.ga K "Skin")
  mk_Skin : Mk K (He.ga K "Skin") (He.ma K (He.ga K "Skin") "__init__")
  no_Skin_kind : NoAttr K (He.ga K "Skin") "kind"
  no_Skin_faces : NoAttr K (He.ga K "Skin") "faces"
  no_Skin_turn : NoAttr K (He.ga K "Skin") "turn"
  no_Skin_full : NoAttr K (He.ga K "Skin") "full"
  no_Skin_sides : NoAttr K (He.ga K "Skin") "sides"
  no_Skin_seams : NoAttr K (He.ga K "Skin") "seams"
  no_Skin_mates : NoAttr K (He.ga K "Skin") "mates"
  no_Skin_nexts : NoAttr K (He.ga K "Skin") "nexts"
  no_Skin_backs : NoAttr K (He.ga K "Skin") "backs"
  no_Skin_free : NoAttr K (He.ga K "Skin") "free"
  me_Skin_need_side : Meth K (He.ga K "Skin") "need_side" (He.ma K (He.ga K "Skin") "need_side")
  me_Skin_mate : Meth K (He.ga K "Skin") "mate" (He.ma K (He.ga K "Skin") "mate")
  me_Skin_with_seams : Meth K (He.ga K "Skin") "with_seams" (He.ma K (He.ga K "Skin") "with_seams")
  me_Skin_str : Meth K (He.ga K "Skin") "__str__" (He.ma K (He.ga K "Skin") "__str__")
  me_Skin_next : Meth K (He.ga K "Skin") "next" (He.ma K (He.ga K "Skin") "next")
  me_Skin_back : Meth K (He.ga K "Skin") "back" (He.ma K (He.ga K "Skin") "back")
  me_Skin_face : Meth K (He.ga K "Skin") "face" (He.ma K (He.ga K "Skin") "face")
  me_Skin_mirrored : Meth K (He.ga K "Skin") "mirrored" (He.ma K (He.ga K "Skin") "mirrored")
  me_Skin_mirror_of : Meth K (He.ga K "Skin") "mirror_of" (He.ma K (He.ga K "Skin") "mirror_of")
  me_Skin_eq : Meth K (He.ga K "Skin") "__eq__" (He.ma K (He.ga K "Skin") "__eq__")
  ex_BadKind : PySem.W.exmOne K (.ref (He.ga K "BadKind")) (.ref (He.ga K "SewError")) = some true
  ex_BadSkin : PySem.W.exmOne K (.ref (He.ga K "BadSkin")) (.ref (He.ga K "SewError")) = some true
  ex_Twice : PySem.W.exmOne K (.ref (He.ga K "Twice")) (.ref (He.ga K "SewError")) = some true
  ex_TooMany : PySem.W.exmOne K (.ref (He.ga K "TooMany")) (.ref (He.ga K "SewError")) = some true
  ex_NoSide : PySem.W.exmOne K (.ref (He.ga K "NoSide")) (.ref (He.ga K "SewError")) = some true
  ex_Missing : PySem.W.exmOne K (.ref (He.ga K "Missing")) (.ref (He.ga K "SewError")) = some true
  kinds : ∀ H, SqT K H (He.ga K "KINDS") [.str "square", .str "triangle"]
  dfl : ∃ od n sl, K.lookup (dflA K) = some ⟨.type "tuple", od, .seq #[] n, sl⟩
  er_BadKind : ErrC K "BadKind" ["part"]
  ki_BadKind : Kits K "BadKind" [("NoSide", false), ("Missing", false), ("NoFace", false), ("BadSkin", false)]
  er_BadSkin : ErrC K "BadSkin" ["part"]
  ki_BadSkin : Kits K "BadSkin" [("NoSide", false), ("Missing", false), ("NoFace", false), ("BadSkin", true)]
  er_Twice : ErrC K "Twice" ["value"]
  ki_Twice : Kits K "Twice" [("NoSide", false), ("Missing", false), ("NoFace", false), ("BadSkin", false)]
  er_TooMany : ErrC K "TooMany" ["what", "most"]
  ki_TooMany : Kits K "TooMany" [("NoSide", false), ("Missing", false), ("NoFace", false), ("BadSkin", false)]
  er_NoSide : ErrC K "NoSide" ["value"]
  ki_NoSide : Kits K "NoSide" [("NoSide", true), ("Missing", true), ("NoFace", false), ("BadSkin", false)]
  er_Missing : ErrC K "Missing" ["value"]
  ki_Missing : Kits K "Missing" [("NoSide", false), ("Missing", true), ("NoFace", false), ("BadSkin", false)]
  ih_NoSide : He.ma K (He.ga K "NoSide") "__init__" = He.ma K (He.ga K "Missing") "__init__"
  is_Skin : insB K "Skin" = true
  tabs : tabsNe K = true
def exl (K : PySem.W.Frag) : List Bool := [He.tupB K "KINDS" [.str "square", .str "triangle"], dfl0 K, errB K "BadKind" ["part"], kitsB K "BadKind" [("NoSide", false), ("Missing", false), ("NoFace", false), ("BadSkin", false)], errB K "BadSkin" ["part"], kitsB K "BadSkin" [("NoSide", false), ("Missing", false), ("NoFace", false), ("BadSkin", true)], errB K "Twice" ["value"], kitsB K "Twice" [("NoSide", false), ("Missing", false), ("NoFace", false), ("BadSkin", false)], errB K "TooMany" ["what", "most"], kitsB K "TooMany" [("NoSide", false), ("Missing", false), ("NoFace", false), ("BadSkin", false)], errB K "NoSide" ["value"], kitsB K "NoSide" [("NoSide", true), ("Missing", true), ("NoFace", false), ("BadSkin", false)], errB K "Missing" ["value"], kitsB K "Missing" [("NoSide", false), ("Missing", true), ("NoFace", false), ("BadSkin", false)], inhB K "NoSide", insB K "Skin", tabsNe K]
theorem exx {K : PySem.W.Frag} (h : ex K = true) {i : Nat} {b : Bool} (e : (exl K)[i]? = some b) : b = true := List.all_eq_true.mp (show (exl K).all id = true from h) b (List.mem_of_getElem? e)
theorem txt_of {w : World} {K : PySem.W.Frag} {h : Heap} {mg : Str → Option Value} (X : K.In h) (G : h.Ns mainGlobals mg) (c : He.SaysX fa fn [] tf ex w h K) : Txt K mg :=
  ⟨He.glo_ok X G (c.t.d.fact 0 (f := .glo "SewError") rfl),
   He.glo_ok X G (c.t.d.fact 1 (f := .glo "BadKind") rfl),
   He.glo_ok X G (c.t.d.fact 2 (f := .glo "BadSkin") rfl),
   He.glo_ok X G (c.t.d.fact 3 (f := .glo "Missing") rfl),
   He.glo_ok X G (c.t.d.fact 4 (f := .glo "NoSide") rfl),
   He.glo_ok X G (c.t.d.fact 5 (f := .glo "NoFace") rfl),
   He.glo_ok X G (c.t.d.fact 6 (f := .glo "Twice") rfl),
   He.glo_ok X G (c.t.d.fact 7 (f := .glo "TooMany") rfl),
   He.glo_ok X G (c.t.d.fact 8 (f := .glo "BadText") rfl),
   He.glo_ok X G (c.t.d.fact 26 (f := .glo "Skin") rfl),
   He.glo_ok X G (c.t.d.fact 42 (f := .glo "KINDS") rfl),
   He.int_ok X G (c.t.d.fact 43 (f := .int "LONGEST_NUMBER" 60) rfl),
   He.int_ok X G (c.t.d.fact 44 (f := .int "MOST_FACES" 24) rfl),
   He.free_ok X G (c.t.d.fact 45 (f := .free "ValueError") rfl),
   He.free_ok X G (c.t.d.fact 46 (f := .free "abs") rfl),
   He.free_ok X G (c.t.d.fact 47 (f := .free "all") rfl),
   He.free_ok X G (c.t.d.fact 48 (f := .free "bool") rfl),
   He.free_ok X G (c.t.d.fact 49 (f := .free "int") rfl),
   He.free_ok X G (c.t.d.fact 50 (f := .free "isinstance") rfl),
   He.free_ok X G (c.t.d.fact 51 (f := .free "len") rfl),
   He.free_ok X G (c.t.d.fact 52 (f := .free "list") rfl),
   He.free_ok X G (c.t.d.fact 53 (f := .free "max") rfl),
   He.free_ok X G (c.t.d.fact 54 (f := .free "min") rfl),
   He.free_ok X G (c.t.d.fact 55 (f := .free "range") rfl),
   He.free_ok X G (c.t.d.fact 56 (f := .free "repr") rfl),
   He.free_ok X G (c.t.d.fact 57 (f := .free "set") rfl),
   He.free_ok X G (c.t.d.fact 58 (f := .free "sorted") rfl),
   He.free_ok X G (c.t.d.fact 59 (f := .free "staticmethod") rfl),
   He.free_ok X G (c.t.d.fact 60 (f := .free "str") rfl),
   He.free_ok X G (c.t.d.fact 61 (f := .free "tuple") rfl),
   He.cls_ok (c.t.d.fact 62 (f := .cls "Skin") rfl),
   He.mkr_ok (c.t.d.fact 63 (f := .mkr "Skin") rfl),
   He.noat_ok (c.t.d.fact 64 (f := .noat "Skin" "kind") rfl),
   He.noat_ok (c.t.d.fact 65 (f := .noat "Skin" "faces") rfl),
   He.noat_ok (c.t.d.fact 66 (f := .noat "Skin" "turn") rfl),
   He.noat_ok (c.t.d.fact 67 (f := .noat "Skin" "full") rfl),
   He.noat_ok (c.t.d.fact 68 (f := .noat "Skin" "sides") rfl),
   He.noat_ok (c.t.d.fact 69 (f := .noat "Skin" "seams") rfl),
   He.noat_ok (c.t.d.fact 70 (f := .noat "Skin" "mates") rfl),
   He.noat_ok (c.t.d.fact 71 (f := .noat "Skin" "nexts") rfl),
   He.noat_ok (c.t.d.fact 72 (f := .noat "Skin" "backs") rfl),
   He.noat_ok (c.t.d.fact 73 (f := .noat "Skin" "free") rfl),
   He.meth_ok (c.t.d.fact 74 (f := .meth "Skin" "need_side") rfl),
   He.meth_ok (c.t.d.fact 75 (f := .meth "Skin" "mate") rfl),
   He.meth_ok (c.t.d.fact 76 (f := .meth "Skin" "with_seams") rfl),
   He.meth_ok (c.t.d.fact 77 (f := .meth "Skin" "__str__") rfl),
   He.meth_ok (c.t.d.fact 78 (f := .meth "Skin" "next") rfl),
   He.meth_ok (c.t.d.fact 79 (f := .meth "Skin" "back") rfl),
   He.meth_ok (c.t.d.fact 80 (f := .meth "Skin" "face") rfl),
   He.meth_ok (c.t.d.fact 81 (f := .meth "Skin" "mirrored") rfl),
   He.meth_ok (c.t.d.fact 82 (f := .meth "Skin" "mirror_of") rfl),
   He.meth_ok (c.t.d.fact 83 (f := .meth "Skin" "__eq__") rfl),
   He.exm_ok (c.t.d.fact 84 (f := .exm "BadKind" "SewError" true) rfl),
   He.exm_ok (c.t.d.fact 85 (f := .exm "BadSkin" "SewError" true) rfl),
   He.exm_ok (c.t.d.fact 86 (f := .exm "Twice" "SewError" true) rfl),
   He.exm_ok (c.t.d.fact 87 (f := .exm "TooMany" "SewError" true) rfl),
   He.exm_ok (c.t.d.fact 88 (f := .exm "NoSide" "SewError" true) rfl),
   He.exm_ok (c.t.d.fact 89 (f := .exm "Missing" "SewError" true) rfl),
   fun H => He.tupB_ok (exx c.more (i := 0) rfl) H,
   dfl0_ok (exx c.more (i := 1) rfl),
   errC_of (exx c.more (i := 2) rfl),
   kits_of (exx c.more (i := 3) rfl),
   errC_of (exx c.more (i := 4) rfl),
   kits_of (exx c.more (i := 5) rfl),
   errC_of (exx c.more (i := 6) rfl),
   kits_of (exx c.more (i := 7) rfl),
   errC_of (exx c.more (i := 8) rfl),
   kits_of (exx c.more (i := 9) rfl),
   errC_of (exx c.more (i := 10) rfl),
   kits_of (exx c.more (i := 11) rfl),
   errC_of (exx c.more (i := 12) rfl),
   kits_of (exx c.more (i := 13) rfl),
   of_decide_eq_true (exx c.more (i := 14) rfl),
   exx c.more (i := 15) rfl,
   exx c.more (i := 16) rfl⟩
end K04

namespace Vf
open PySem PySem.Spec PyProof.Rows L2
/-! ### min, max of a tuple of two ints; str of an own object -/
section
variable {X : Cx}
theorem alike_two {i j : Int} : PySem.W.AlikeAll [.int i, .int j] := by
  refine ⟨fun x hx y hy => ?_, fun x hx => ?_⟩
  · simp only [List.mem_cons, List.not_mem_nil, or_false] at hx hy
    rcases hx with rfl | rfl <;> rcases hy with rfl | rfl <;> simp [PySem.W.alike]
  · simp only [List.mem_cons, List.not_mem_nil, or_false] at hx
    rcases hx with rfl | rfl <;> exact fun z => nomatch z
theorem depth_two {i j : Int} : PyData.depthAll [.int i, .int j] ≤ 2 := by simp [PyData.depthAll, PyData.depth]
theorem lt_ints {i j : Int} : PySem.W.dataLt (.int i) (.int j) = decide (i < j) := by
  unfold PySem.W.dataLt
  simp [PySem.W.keyToks, PyProof.Rows.lexLt]
  rfl
def rMinT (K : PySem.W.Frag) : List V → Hp → VK → Prop := fun vs H Q => ∃ (a : Addr) (i j : Int), vs = [.ref a] ∧ SqT K H a [.int i, .int j] ∧ Q (.int (if j < i then j else i)) H
def rMaxT (K : PySem.W.Frag) : List V → Hp → VK → Prop := fun vs H Q => ∃ (a : Addr) (i j : Int), vs = [.ref a] ∧ SqT K H a [.int i, .int j] ∧ Q (.int (if i < j then j else i)) H
theorem cr_minT (hc : X.calm = true) (hu : X.A.units + 64 < cLine) : CallR X (.builtin "min") (rMinT X.K) := by
  intro pins s σ H vs us Q I r h
  obtain ⟨a, i, j, rfl, hs, q⟩ := h
  obtain ⟨its, rv, hl, _⟩ := I.tuple hs
  rw [Vals.ref1 r]
  obtain ⟨u1, u2, rfl, ⟨t1, rfl⟩, ⟨t2, rfl⟩⟩ := vals2 rv
  refine PySem.W.min_tuple_data (as := []) (x := .int i) (xs := [.int j]) (I.ok.hd hc) hl (.cons (.int ..) (.cons (.int ..) .nil)) alike_two (by have := depth_two (i := i) (j := j); omega) fun n v h' tk bs hv hr hk => ?_
  have e : PySem.W.minD (.int i) [.int j] = .int (if j < i then j else i) := by
    show (if PySem.W.dataLt (.int j) (.int i) = true then PyData.int j else PyData.int i) = _
    rw [lt_ints]
    by_cases h : j < i
    · rw [if_pos (decide_eq_true h), if_pos h]
    · rw [if_neg (by simpa using h), if_neg h]
  rw [e] at hr
  cases hr
  exact ⟨.int _, H, I.kept hk, ⟨_, rfl⟩, q⟩
theorem cr_maxT (hc : X.calm = true) (hu : X.A.units + 64 < cLine) : CallR X (.builtin "max") (rMaxT X.K) := by
  intro pins s σ H vs us Q I r h
  obtain ⟨a, i, j, rfl, hs, q⟩ := h
  obtain ⟨its, rv, hl, _⟩ := I.tuple hs
  rw [Vals.ref1 r]
  obtain ⟨u1, u2, rfl, ⟨t1, rfl⟩, ⟨t2, rfl⟩⟩ := vals2 rv
  refine PySem.W.max_tuple_data (as := []) (x := .int i) (xs := [.int j]) (I.ok.hd hc) hl (.cons (.int ..) (.cons (.int ..) .nil)) alike_two (by have := depth_two (i := i) (j := j); omega) fun n v h' tk bs hv hr hk => ?_
  have e : PySem.W.maxD (.int i) [.int j] = .int (if i < j then j else i) := by
    show (if PySem.W.dataLt (.int i) (.int j) = true then PyData.int j else PyData.int i) = _
    rw [lt_ints]
    by_cases h : i < j
    · rw [if_pos (decide_eq_true h), if_pos h]
    · rw [if_neg (by simpa using h), if_neg h]
  rw [e] at hr
  cases hr
  exact ⟨.int _, H, I.kept hk, ⟨_, rfl⟩, q⟩
/-- str(o), o's class with its own __str__ -/
def rStrO (C : Addr) (sp : Sp) : List V → Hp → VK → Prop := fun xs H Q => ∃ (a dx : Addr) (fs : List (Str × V)), xs = [.ref a] ∧ H a = some (.ins C dx fs) ∧ sp [.ref a] H (fun v H' => ∃ z, v = .str z ∧ Q (.str z) H') (fun _ _ _ => False)
theorem call_strO {C f : Addr} {k : Nat} {fd : FuncData} {ps : List Str} {sp : Sp} (M : Meth X.K C "__str__" f) (F : FnOk X.prog X.w X.K X.mg X.base CX0 k f fd ps sp) (hb : Binds X.K fd ps []) (hr : Room (k + 2) X.A) : CallR X (.type "str") (rStrO C sp) := by
  intro pins s σ H xs us Q I r h
  obtain ⟨a, dx, fs, rfl, e, h⟩ := h
  rw [Vals.ref1 r]
  obtain ⟨mA, O, _⟩ := ins_get I.hok e
  obtain ⟨od, J, _⟩ := O.look
  have hr2 : Room k X.A.in1.in1 := hr.in1.in1
  refine PySem.W.kso_call hr2.units0 I.kIn J M.at_ M.fn ?_
  have e0 : Env0 X.prog X.w X.K X.mg X.base X.A.in1.in1 X.stack s H := ⟨I.env0.frames, I.env0.mod, I.env0.bs, I.env0.bsz, I.env0.funs, I.env0.frf, I.env0.hok, I.env0.bare⟩
  refine wpAny_call (codeAny_mono (F.run X.A.in1.in1 X.stack s H ⟨[.ref a], []⟩ [.ref a] [.ref a] _ _ hr2 e0 (hb s [.ref a] I.kIn (F.len _ _ _ _ h)) (.cons rfl .nil) h) fun r s' hq => ?_)
  cases r with
  | error e => exact (show False from hq).elim
  | ok fl =>
    cases fl with
    | ret u =>
      obtain ⟨v, H', os, bare, un, hok, rv, z, rfl, q⟩ := hq
      obtain ⟨t, rfl⟩ := rv
      exact I.after ⟨.str z, H', os, bare, un, hok, ⟨t, rfl⟩, q⟩
    | next => exact False.elim hq
    | brk => exact False.elim hq
    | cont => exact False.elim hq
end
/-! ### isinstance of the exception that a suite holds, its fields told -/
def rIsZ (K : PySem.W.Frag) (a : Addr) (cls : Value) (d : Option Addr) : List V → Hp → VK → Prop := fun xs H Q => ∃ (c : V) (u : Value) (D dd : Addr) (fs : List (Str × V)) (b : Bool), xs = [.ref a, c] ∧ ClsV c u ∧ cls = .ref D ∧ d = some dd ∧ H dd = some (.xd fs) ∧ ExcC K D ∧ PySem.W.kitOne K (.ref D) u = some b ∧ Q (.bl b) H
def rIsZT (K : PySem.W.Frag) (a : Addr) (cls : Value) (d : Option Addr) : List V → Hp → VK → Prop := fun xs H Q => ∃ (tp : Addr) (cs : List V) (us : List Value) (D dd : Addr) (fs : List (Str × V)) (b : Bool), xs = [.ref a, .ref tp] ∧ H tp = some (.tup cs) ∧ Paired ClsV cs us ∧ cls = .ref D ∧ d = some dd ∧ H dd = some (.xd fs) ∧ ExcC K D ∧ PySem.W.kitAny K (.ref D) us = some b ∧ Q (.bl b) H
section
variable {X : Cx} {a : Addr} {oe : Obj} {cls : Value} {d : Option Addr} {pn : List (Addr × Obj)}
theorem inst_held {pins : List (Addr × Obj)} {σ : L2.St} {H : Hp} {s : Shared} {D dd : Addr} {fs : List (Str × V)} (hz : Zc cls d oe) (hf : ∃ vs, oe.data = .fields vs) (I : Inv (X.suite a ((a, oe) :: pn)) pins σ H s) (e1 : cls = .ref D) (e2 : d = some dd) (hd : H dd = some (.xd fs)) :
    ∃ o : Obj, PySem.W.InstAt s.heap a oe D (some o) := by
  obtain ⟨hget, _⟩ := I.pin (a, oe) (List.mem_append.mpr (.inl List.mem_cons_self))
  obtain ⟨vs, hv⟩ := hf
  obtain ⟨m, ⟨o, es, ep, ho, _⟩, _⟩ := (show ObjOk _ _ H s.heap dd (.xd fs) from I.hok dd _ hd)
  refine ⟨o, ?_⟩
  obtain ⟨oc, od, oda, osl⟩ := oe
  obtain ⟨h1, h2⟩ := hz
  dsimp only at h1 h2 hv
  subst h1 h2 hv e1 e2
  exact ⟨hget, rfl, rfl, ho⟩
theorem kit_held {K : PySem.W.Frag} {D : Addr} {o : Obj} (C : ExcC K D) : PySem.W.KitX K (.ref a) (.ref D) fun h => PySem.W.InstAt h a oe D (some o) := by
  refine PySem.W.kitx_exc ?_ C.hg C.hk C.hs C.ha C.hn C.ht C.hm
  obtain ⟨cd, hc, _⟩ := PySem.W.any_some C.hd
  rw [hc] <;> rfl
theorem call_isZ (hz : Zc cls d oe) (hf : ∃ vs, oe.data = .fields vs) : CallR (X.suite a ((a, oe) :: pn)) (.builtin "isinstance") (rIsZ X.K a cls d) := by
  intro pins s σ H xs us Q I r h
  obtain ⟨c, u, D, dd, fs, b, rfl, k, e1, e2, hd, C, e, q⟩ := h
  obtain ⟨u1, u2, rfl, r1, r2⟩ := vals2 r
  have e3 := k.eq r2
  subst e3
  cases (show u1 = Value.ref a from r1)
  obtain ⟨o, J⟩ := inst_held hz hf I e1 e2 hd
  exact PySem.W.kia_one (kit_held C) I.kIn J e (fun z => nomatch z) fun tk => ⟨.bl b, H, I.tok tk, rfl, q⟩
theorem call_isZT (hz : Zc cls d oe) (hf : ∃ vs, oe.data = .fields vs) : CallR (X.suite a ((a, oe) :: pn)) (.builtin "isinstance") (rIsZT X.K a cls d) := by
  intro pins s σ H xs us Q I r h
  obtain ⟨tp, cs, ws, D, dd, fs, b, rfl, hT, k, e1, e2, hd, C, e, q⟩ := h
  obtain ⟨u1, u2, rfl, r1, r2⟩ := vals2 r
  cases (show u2 = Value.ref tp from r2)
  cases (show u1 = Value.ref a from r1)
  obtain ⟨o, J⟩ := inst_held hz hf I e1 e2 hd
  obtain ⟨_, its, rv, o2, h1, h2, n, h3⟩ := (show ObjOk _ _ H s.heap tp (.tup cs) from I.hok tp _ hT)
  have e3 := ClsV.all k rv
  subst e3
  obtain ⟨oc, od, dt, sl⟩ := o2
  simp only at h2 h3
  subst h2 h3
  exact PySem.W.kia_tup (kit_held C) I.kIn J h1 e (fun z => nomatch z) fun tk => ⟨.bl b, H, I.tok tk, rfl, q⟩
end
/-! ### kinds of values -/
inductive Kd where
  | int | str | bool | none | list | tuple | dict
def Kd.nm : Kd → String
  | .int => "int"
  | .str => "str"
  | .bool => "bool"
  | .none => "NoneType"
  | .list => "list"
  | .tuple => "tuple"
  | .dict => "dict"
def KdV (K : PySem.W.Frag) (H : Hp) : V → Kd → Prop
  | .int _, .int => True
  | .str _, .str => True
  | .bl _, .bool => True
  | .non, .none => True
  | .ref a, .list => ∃ xs, H a = some (.lst xs)
  | .ref a, .tuple => (∃ xs, H a = some (.tup xs)) ∨ ∃ o, K.lookup a = some o ∧ o.cls = .type "tuple"
  | .ref a, .dict => ∃ kvs, H a = some (.dK kvs)
  | _, _ => False
theorem KdV.ext {K : PySem.W.Frag} {H H' : Hp} {v : V} {k : Kd} (h : KdV K H v k) (s : ∀ a o, v = .ref a → H a = some o → (∀ ps, o ≠ .tbl ps) → H' a = some o) : KdV K H' v k := by
  cases v <;> cases k <;> first | exact h | exact h.elim | skip
  · obtain ⟨xs, e⟩ := h
    exact ⟨xs, s _ _ rfl e fun _ z => nomatch z⟩
  · rcases h with ⟨xs, e⟩ | h
    · exact .inl ⟨xs, s _ _ rfl e fun _ z => nomatch z⟩
    · exact .inr h
  · obtain ⟨xs, e⟩ := h
    exact ⟨xs, s _ _ rfl e fun _ z => nomatch z⟩
theorem KdV.same {K : PySem.W.Frag} {H H' : Hp} {v : V} {k : Kd} (h : KdV K H v k) (s : Same H H') : KdV K H' v k := h.ext fun a o _ e _ => s a o e
theorem KdV.ty {K : PySem.W.Frag} {H : Hp} {v : V} {k : Kd} (h : KdV K H v k) : TyX K H v (.type k.nm) := by
  cases v <;> cases k <;> first | exact h.elim | skip
  · exact .base .non
  · exact .base (.bl _)
  · exact .base (.int _)
  · exact .base (.str _)
  · obtain ⟨xs, e⟩ := h
    exact .base (.lst e)
  · rcases h with ⟨xs, e⟩ | ⟨o, e, c⟩
    · exact .base (.tup e)
    · exact .kTuple e c
  · obtain ⟨xs, e⟩ := h
    exact .base (.dK e)
def Kd.is (T : String) : Kd → Bool
  | .int => T == "int"
  | .str => T == "str"
  | .bool => T == "bool" || T == "int"
  | .list => T == "list"
  | .tuple => T == "tuple"
  | .dict => T == "dict"
  | .none => false
theorem kd_is {K : PySem.W.Frag} {k : Kd} {T : String} (hT : T ∈ kinds5) : PySem.W.kitOne K (.type k.nm) (.type T) = some (k.is T) := by
  cases k <;>
  · simp only [kinds5, List.mem_cons, List.not_mem_nil, or_false] at hT
    rcases hT with rfl | rfl | rfl | rfl | rfl <;> exact kit_ty (by decide +kernel)
def Kd.seq (k : Kd) : Bool := k.is "list" || k.is "tuple"
theorem kd_seq {K : PySem.W.Frag} {k : Kd} : PySem.W.kitAny K (.type k.nm) [.type "list", .type "tuple"] = some k.seq := by
  refine kitAny_cons (kd_is (by decide)) (fun e => ?_) (fun e => by unfold Kd.seq; rw [e]; rfl)
  unfold Kd.seq
  rw [e, Bool.false_or]
  refine kitAny_cons (kd_is (by decide)) (fun e => ?_) (fun e => e)
  rw [e]
  exact kitAny_nil
end Vf
namespace Vf
open PySem PySem.Spec PyProof.Rows L2
theorem sqT_same {K : PySem.W.Frag} {H H' : Hp} {a : Addr} {xs : List V} (h : SqT K H a xs) (s : Same H H') : SqT K H' a xs := by
  rcases h with (h | ⟨o, h⟩) | h
  · exact .inl (.inl (s _ _ h))
  · exact .inl (.inr ⟨o, s _ _ h⟩)
  · exact .inr h
theorem sqL_same {K : PySem.W.Frag} {H H' : Hp} {a : Addr} {xs : List V} (h : SqL K H a xs) (s : Same H H') : SqL K H' a xs := by
  rcases h with (h | ⟨o, h⟩) | h
  · exact .inl (.inl (s _ _ h))
  · exact .inl (.inr ⟨o, s _ _ h⟩)
  · exact .inr h
/-! ### the rules whose readings name the written part, it told -/
section
variable {X : Cx} {K : PySem.W.Frag}
theorem pe_fldK {a : Expr} {f : Str} {pos : Pos} {ta : TE} (hK : X.K = K) (ha : PE X a ta) (hb : attributeBase a f X.env (eval a X.env) = eval a X.env) : PE X (.Attribute a f pos) (tFld K ta f) := by
  subst hK
  exact pe_fld ha hb
theorem cr_minTK (hK : X.K = K) (hc : X.calm = true) (hu : X.A.units + 64 < cLine) : CallR X (.builtin "min") (rMinT K) := by
  subst hK
  exact cr_minT hc hu
theorem cr_maxTK (hK : X.K = K) (hc : X.calm = true) (hu : X.A.units + 64 < cLine) : CallR X (.builtin "max") (rMaxT K) := by
  subst hK
  exact cr_maxT hc hu
theorem ix_tupK (hK : X.K = K) : IxR X (rIxT K) := by
  subst hK
  exact ix_tup
theorem ix_listK (hK : X.K = K) : IxR X (rIxL K) := by
  subst hK
  exact ix_list
theorem pg_tupK {es : List Expr} {k : Nat} {pos : Pos} {t : TGs} {n : Nat} (hK : X.K = K) (hc : X.calm = true) (h : PGs X es t)
    (hn : (assignEach es X.env).length = n := by rfl) (hst : (assignEach es X.env).findIdx? (·.1) = none := by rfl) : PG X (.Tuple es k pos) (gTup K n t) := by
  subst hK
  exact pg_tup hc h hn hst
theorem op_in_seqK (hK : X.K = K) : OpR X (compareOp .In) (rIn K false) := by
  subst hK
  exact op_in_seq
theorem op_notIn_seqK (hK : X.K = K) : OpR X (compareOp .NotIn) (rIn K true) := by
  subst hK
  exact op_notIn_seq
end
/-- a method of an own class, by its class and name -/
def HasM (P : Program) (w : World) (K : PySem.W.Frag) (mg : Str → Option Value) (base : Heap) (CX : CXT) (x m : Str) (k : Nat) (ps : List Str) (sp : Sp) : Prop :=
  ∃ fd : FuncData, FnOk P w K mg base CX k (He.ma K (He.ga K x) m) fd ps sp ∧ Binds K fd ps []
/-- f(k = v, ..) of a def with defaults: n positional values, keywords ks; g puts positional values, defaults, keywords' values in the parameters' order -/
theorem kbn_dfl {K : PySem.W.Frag} {x qual : Str} {params : Arguments} {body : List Stmt} {scope : Scope} {dvs : List V} {f : Addr} {fd : FuncData} {ps : List Str} (F : FunD K x qual params body scope dvs [] f fd) (n : Nat) (ks : List Str) (g : {α : Type} → List α → List α → List α → List α) (hd : dvs ≠ [])
    (hrel : ∀ {vs ds zs : List V} {us its ws : List Value}, Vals vs us → Vals ds its → Vals zs ws → Vals (g vs ds zs) (g us its ws))
    (h : ∀ (T : Addr) (kV doc pm : Value) (an : Option Addr) (cdv ct : Value) (us its ws : List Value), us.length = n → its.length = dvs.length → ws.length = ks.length →
      ∃ k, bindArgs (PySem.W.fnOf x qual params body scope (.ref T) kV doc pm an cdv ct) ⟨us, ks.zip ws⟩ = seqItems? (.ref T) >>= k ∧ k (some its.toArray) = pure (ps.zip (g us its ws))) :
    ∃ its : List Value, KBn K fd ps n ks (fun us ws => g us its ws) (fun vs zs => g vs dvs zs) := by
  obtain ⟨oc, od, dV, kV, doc, pm, an, cdv, ct, osl, rfl, lk, hcd, hD, hK⟩ := F.ex
  rcases hD with ⟨e, _⟩ | ⟨_, T, o, its, m, rfl, lT, oT, rT⟩
  · exact absurd e hd
  · refine ⟨its, ⟨fun s us ws X l1 l2 => ?_, fun r1 r2 => hrel r1 rT r2⟩⟩
    obtain ⟨k, e1, e2⟩ := h T kV doc pm an cdv ct us its ws l1 rT.length.symm l2
    refine BindsTo.of_looks fun M => ?_
    rw [e1]
    exact looks_items X lT oT (.of_pure e2)
end Vf

namespace Vf
open PySem PySem.Spec PyProof.Rows L2
/-! ### lists or tuples, as they come: walked, unpacked, their least and greatest of two -/
section
variable {X : Cx} {K : PySem.W.Frag}
def SqB (K : PySem.W.Frag) (H : Hp) (a : Addr) (xs : List V) : Prop := SqL K H a xs ∨ SqT K H a xs
theorem pi_or {tg l : Expr} {t1 t2 : TI} (h1 : PI X tg l t1) (h2 : PI X tg l t2) : PI X tg l (fun σ H R => t1 σ H R ∨ t2 σ H R) :=
  ⟨fun pins s σ H R I h => h.elim (h1.run pins s σ H R I) (h2.run pins s σ H R I)⟩
def iBox (K : PySem.W.Frag) (tl : TE) : TI := fun σ H R => iList K tl σ H R ∨ iTup K tl σ H R
theorem pi_box {tg l : Expr} {tl : TE} (hl : PE X l tl) : PI X tg l (iBox X.K tl) := pi_or (pi_list hl) (pi_tup hl)
def gBox (K : PySem.W.Frag) (n : Nat) (t : TGs) : TG := fun v σ H Q => ∃ a xs, v = .ref a ∧ SqB K H a xs ∧ xs.length = n ∧ t xs σ H Q
theorem pg_box {es : List Expr} {k : Nat} {pos : Pos} {t : TGs} {n : Nat} (hc : X.calm = true) (h : PGs X es t)
    (hn : (assignEach es X.env).length = n := by rfl) (hst : (assignEach es X.env).findIdx? (·.1) = none := by rfl) : PG X (.Tuple es k pos) (gBox X.K n t) := by
  constructor
  intro pins s σ H v u Q I r q
  obtain ⟨a, xs, e, hb, hl, ht⟩ := q
  rcases hb with hb | hb
  · exact (pg_unl hc h hn hst).run pins s σ H v u Q I r ⟨a, xs, e, hb, hl, ht⟩
  · exact (pg_tup hc h hn hst).run pins s σ H v u Q I r ⟨a, xs, e, hb, hl, ht⟩
theorem pg_boxK {es : List Expr} {k : Nat} {pos : Pos} {t : TGs} {n : Nat} (hK : X.K = K) (hc : X.calm = true) (h : PGs X es t)
    (hn : (assignEach es X.env).length = n := by rfl) (hst : (assignEach es X.env).findIdx? (·.1) = none := by rfl) : PG X (.Tuple es k pos) (gBox K n t) := by
  subst hK
  exact pg_box hc h hn hst
def rMinB (K : PySem.W.Frag) : List V → Hp → VK → Prop := fun vs H Q => ∃ (a : Addr) (i j : Int), vs = [.ref a] ∧ SqB K H a [.int i, .int j] ∧ Q (.int (if j < i then j else i)) H
def rMaxB (K : PySem.W.Frag) : List V → Hp → VK → Prop := fun vs H Q => ∃ (a : Addr) (i j : Int), vs = [.ref a] ∧ SqB K H a [.int i, .int j] ∧ Q (.int (if i < j then j else i)) H
theorem min_of {i j : Int} : PySem.W.minD (.int i) [.int j] = .int (if j < i then j else i) := by
  show (if PySem.W.dataLt (.int j) (.int i) = true then PyData.int j else PyData.int i) = _
  rw [lt_ints]
  by_cases h : j < i <;> simp [h]
theorem max_of {i j : Int} : PySem.W.maxD (.int i) [.int j] = .int (if i < j then j else i) := by
  show (if PySem.W.dataLt (.int i) (.int j) = true then PyData.int j else PyData.int i) = _
  rw [lt_ints]
  by_cases h : i < j <;> simp [h]
theorem cr_minB (hc : X.calm = true) (hu : X.A.units + 64 < cLine) : CallR X (.builtin "min") (rMinB X.K) := by
  intro pins s σ H vs us Q I r h
  obtain ⟨a, i, j, rfl, hb, q⟩ := h
  rcases hb with hb | hb
  · obtain ⟨its, rv, hl, _⟩ := I.list hb
    rw [Vals.ref1 r]
    obtain ⟨u1, u2, rfl, ⟨t1, rfl⟩, ⟨t2, rfl⟩⟩ := vals2 rv
    refine PySem.W.min_list_data (as := []) (x := .int i) (xs := [.int j]) (I.ok.hd hc) hl.isList (.cons (.int ..) (.cons (.int ..) .nil)) alike_two (by have := depth_two (i := i) (j := j); omega) fun n v h' tk bs hv hr hk => ?_
    rw [min_of] at hr
    cases hr
    exact ⟨.int _, H, I.kept hk, ⟨_, rfl⟩, q⟩
  · exact cr_minT hc hu pins s σ H _ us Q I r ⟨a, i, j, rfl, hb, q⟩
theorem cr_maxB (hc : X.calm = true) (hu : X.A.units + 64 < cLine) : CallR X (.builtin "max") (rMaxB X.K) := by
  intro pins s σ H vs us Q I r h
  obtain ⟨a, i, j, rfl, hb, q⟩ := h
  rcases hb with hb | hb
  · obtain ⟨its, rv, hl, _⟩ := I.list hb
    rw [Vals.ref1 r]
    obtain ⟨u1, u2, rfl, ⟨t1, rfl⟩, ⟨t2, rfl⟩⟩ := vals2 rv
    refine PySem.W.max_list_data (as := []) (x := .int i) (xs := [.int j]) (I.ok.hd hc) hl.isList (.cons (.int ..) (.cons (.int ..) .nil)) alike_two (by have := depth_two (i := i) (j := j); omega) fun n v h' tk bs hv hr hk => ?_
    rw [max_of] at hr
    cases hr
    exact ⟨.int _, H, I.kept hk, ⟨_, rfl⟩, q⟩
  · exact cr_maxT hc hu pins s σ H _ us Q I r ⟨a, i, j, rfl, hb, q⟩
theorem cr_minBK (hK : X.K = K) (hc : X.calm = true) (hu : X.A.units + 64 < cLine) : CallR X (.builtin "min") (rMinB K) := by
  subst hK
  exact cr_minB hc hu
theorem cr_maxBK (hK : X.K = K) (hc : X.calm = true) (hu : X.A.units + 64 < cLine) : CallR X (.builtin "max") (rMaxB K) := by
  subst hK
  exact cr_maxB hc hu
/-- t + u of tuples, either of which may be empty -/
def rCat2 (K : PySem.W.Frag) : R2 := fun x y H Q => ∃ a b xs ys, x = .ref a ∧ y = .ref b ∧ SqT K H a xs ∧ SqT K H b ys ∧ xs.length + ys.length ≤ sizeLine ∧
  (xs = [] → Q (.ref b) H) ∧ (xs ≠ [] → ys = [] → Q (.ref a) H) ∧ (xs ≠ [] → ys ≠ [] → ∀ p, H p = none → Q (.ref p) (upd H p (.tup (xs ++ ys))))
theorem op_cat2 : OpR X (binaryOp .Add) (rCat2 X.K) := by
  intro pins s σ H x y v u Q I rx ry h
  obtain ⟨a, b, xs, ys, rfl, rfl, ha, hb, hz, q0, q1, q2⟩ := h
  by_cases hx : xs = []
  · subst hx
    cases rx
    cases ry
    obtain ⟨its, r1, p1, _⟩ := I.tuple ha
    obtain ⟨its2, r2, p2, _⟩ := I.tuple hb
    cases r1
    obtain ⟨⟨c1, d1, e1, l1⟩, h1, k1, n1, g1⟩ := id p1
    obtain ⟨⟨c2, d2, e2, l2⟩, h2, k2, n2, g2⟩ := id p2
    simp only at k1 g1 k2 g2
    subst k1 g1 k2 g2
    exact concat_meets ⟨_, h1, rfl⟩ ⟨_, h2, rfl⟩ noFill_tuple_add seq_tuple_add PySem.F.slot_tuple_add PySem.F.entry_tuple_add (PySem.F.args_tuple_add_2 _ _)
      (tuple_addW0 a b _ its2.toArray n1 n2 d1 d2 l1 l2 (by simp)) ⟨h1, h2, ⟨.ref b, H, I, rfl, q0 rfl⟩⟩
  · exact op_catT pins s σ H _ _ v u Q I rx ry ⟨a, b, xs, ys, rfl, rfl, ha, hb, hx, hz, q1 hx, q2 hx⟩
end
end Vf
namespace Vf
open PySem PySem.Spec PyProof.Rows L2 LamX
/-! ### defs that run where no text of a value is being shown (repr asks for that) -/
structure SilOk (P : Program) (w : World) (K : PySem.W.Frag) (mg : Str → Option Value) (base : Heap) (CX : CXT) (k : Nat) (f : Addr) (fd : FuncData) (ps : List Str) (sp : Sp) : Prop where
  len : ∀ vs H Q E, sp vs H Q E → vs.length = ps.length
  go : ∀ A : Around, A.guards = some [] → ∀ (outer : List Env) (s : Shared) (H : Hp) (args : Args) (us : List Value) (vs : List V) (Q : VK) (E : XK), Room k A → Env0 P w K mg base A outer s H → BindsTo s fd args (ps.zip us) → Vals vs us →
    sp vs H Q E → codeAny (model P w) A (.call (.ref f) args) (CR CX outer P w H s Q E) s
theorem SilOk.of {P : Program} {w : World} {K : PySem.W.Frag} {mg : Str → Option Value} {base : Heap} {CX : CXT} {k : Nat} {f : Addr} {fd : FuncData} {ps : List Str} {sp : Sp} (F : FnOk P w K mg base CX k f fd ps sp) : SilOk P w K mg base CX k f fd ps sp :=
  ⟨F.len, fun A _ outer s H args us vs Q E => F.run A outer s H args us vs Q E⟩
theorem sil_of {CX : CXT} {P : Program} {w : World} {K : PySem.W.Frag} {mg : Str → Option Value} {base : Heap} {k : Nat} {f : Addr} {name qual : Str} {params : Arguments} {body : List Stmt} {scope : Scope} {dV kV doc pm cdv ct oc : Value} {an od : Option Addr}
    {osl : Array (Option Value)} {N ps : List Str} {sp : Sp} (lk : K.lookup f = some ⟨oc, od, .func (PySem.W.fnOf name qual params body scope dV kV doc pm an cdv ct), osl⟩) (hcd : PySem.W.codeIn K cdv qual = true) (S : FnScope N ps scope)
    (len : ∀ vs H Q E, sp vs H Q E → vs.length = ps.length)
    (hbody : ∀ (A : Around) (outer : List Env) (s : Shared) (H : Hp) (vs : List V) (Q : VK) (E : XK), A.guards = some [] → Room k (A.deeper (envOfC qual scope s.heap.objs.size f cdv)) → sp vs H Q E →
      ∃ t, PSs (cxOf CX P w K mg base N qual scope f cdv A outer s H E) body t ∧ t { nx := fun _ H' => Q .non H', rt := Q } (L2.start N vs) H) :
    SilOk P w K mg base CX (k + 1) f (PySem.W.fnOf name qual params body scope dV kV doc pm an cdv ct) ps sp :=
  ⟨len, fun A hA outer s H _ _ vs Q E hr e0 hb r hsp => run_ofS lk hcd S hr e0 hb r (len _ _ _ _ hsp) fun hr' => hbody A outer s H vs Q E hA hr' hsp⟩
section
variable {X : Cx} {CX : CXT} {k : Nat} {f : Addr} {fd : FuncData} {ps : List Str} {sp : Sp} {E : XK} {x : Str} {p pos : Pos} {e : Expr} {es : List Expr} {t : TA}
theorem run_sil {pins : List (Addr × Obj)} {σ : L2.St} {H : Hp} {s : Shared} {Q : VK} {us : List Value} {vs : List V} (F : SilOk X.prog X.w X.K X.mg X.base CX k f fd ps sp) (hA : X.A.guards = some []) (hr : Room k X.A) (hb : Binds X.K fd ps []) (hx : Passes CX X E)
    (I : Inv X pins σ H s) (r : Vals vs us) (h : sp vs H Q E) : wpAny (model X.prog X.w) X.A (call (.ref f) us) (EP X pins σ Q) X.xe s := by
  have hl : us.length = ps.length := r.length.symm.trans (F.len _ _ _ _ h)
  have hb' := hb s us I.kIn (by rw [List.append_nil]; exact hl)
  rw [List.append_nil] at hb'
  refine wpAny_call (codeAny_mono (F.go X.A hA X.stack s H ⟨us, []⟩ us vs Q E hr I.env0 hb' r h) ?_)
  intro res s' hq
  match res, hq with
  | .error e, hq => exact hx pins σ H s e s' I hq
  | .ok (.ret u), hq => exact I.after hq
theorem pe_callSil (F : SilOk X.prog X.w X.K X.mg X.base CX k f fd ps sp) (hA : X.A.guards = some []) (hr : Room k X.A) (hg : Gl X x) (hm : X.mg x = some (.ref f)) (hk : PySem.W.keepIn X.K (.ref f) = true) (hb : Binds X.K fd ps []) (hx : Passes CX X E)
    (ha : PA X (e :: es) t) (hdb : (x == ("__debug__" : Str)) = false := by decide) (he : starEach (e :: es) X.env = (false, eval e X.env) :: starEach es X.env := by rfl) (hpl : (backTo pos (starEach es X.env)).any (·.1) = false := by rfl) :
    PE X (.Call (.Name x p) (e :: es) [] pos) (tCall sp [] E t) := by
  constructor
  intro pins s σ H Q I h
  apply wpAny_Call_Name_kw
  refine ld_glob I hg hm ?_ hdb
  refine PySem.W.callWith_K (h₀ := X.base) I.ok.mod.kin hk ?_ he hpl
  refine thn (ha.run pos pins s σ H _ I h) ?_
  rintro us s1 ⟨vs, H1, I1, r, q⟩
  have q1 : sp (vs ++ []) H1 Q E := q
  rw [List.append_nil] at q1
  exact ⟨I1.kIn, run_sil F hA hr hb hx I1 r q1⟩
/-- repr of a list or tuple of data -/
theorem call_repr_dp (hA : X.A.guards = some []) (hu : X.A.units + 64 < cLine) : CallR X (.builtin "repr") (fun xs H Q => ∃ a d, xs = [.ref a] ∧ Dp X.K H (.ref a) d ∧ d.showable = true ∧ d.hasDict = false ∧ d.depth ≤ 60 ∧ d.shown.length ≤ sizeLine ∧ Q (.str d.shown) H) := by
  intro pins s σ H xs us Q I r h
  obtain ⟨a, d, rfl, hd, hs, hn, hdp, hl, q⟩ := h
  obtain ⟨u, rfl, ru⟩ := vals1 r
  cases (show u = Value.ref a from ru)
  obtain ⟨as, rd⟩ := Dp.reads I d (.ref a) (.ref a) hd rfl
  exact repr_of_reads' rd hs (fun z => by rw [hn] at z; cases z) hA (by omega) (fun _ _ z => z) (fun h' v tk hk => ⟨.str d.shown, H, I.kept hk, ⟨v, rfl⟩, q⟩) hl
end
end Vf
namespace Vf
open PySem PySem.Spec PyProof.Rows L2 LamX
/-! ### the end of a law whose def is such -/
section
variable {P : Program} {w : World} {K : PySem.W.Frag} {mg mb : Str → Option Value} {CX : CXT} {k : Nat} {fa a : Addr} {cs : List (Addr × Addr)} {fd : FuncData} {x : Str} {sp : Sp} {sA : Shared} {vs : List Value} {ns : List Int}
abbrev tabO : Obj := { cls := .none, data := .fields #[] }
abbrev scrO (vs : List Value) : Obj := { cls := .type "list", data := .seq vs.toArray }
/-- what is tracked as the law begins: its tables, and the script if the module does not hold it -/
def lawH (K : PySem.W.Frag) (cs : List (Addr × Addr)) (a : Addr) (vs : List Value) (ns : List Int) : Hp := fun b =>
  if b ∈ cs.map Prod.snd then some (.tbl #[]) else if b = a ∧ K.lookup a = none then some (.frz (scrO vs) (.lst (ns.map V.int))) else none
theorem lawH_tab {p : Addr × Addr} (hp : p ∈ cs) : lawH K cs a vs ns p.2 = some (.tbl #[]) := if_pos (List.mem_map_of_mem (f := Prod.snd) hp)
theorem lawH_cases {b : Addr} {u : HO} (h : lawH K cs a vs ns b = some u) : (b ∈ cs.map Prod.snd ∧ u = .tbl #[]) ∨ (b = a ∧ K.lookup a = none ∧ u = .frz (scrO vs) (.lst (ns.map V.int))) := by
  unfold lawH at h
  split at h
  · rename_i m
    exact .inl ⟨m, (Option.some.inj h).symm⟩
  · split at h
    · rename_i m
      exact .inr ⟨m.1, m.2, (Option.some.inj h).symm⟩
    · cases h
variable (hT : ∀ p ∈ cs, sA.heap.get? p.2 = some tabO) (ha : sA.heap.get? a = some (scrO vs))
include hT in
theorem tab_at {b : Addr} (hb : b ∈ cs.map Prod.snd) : sA.heap.get? b = some tabO := by
  obtain ⟨p, hp, rfl⟩ := List.mem_map.mp hb
  exact hT p hp
include hT ha in
theorem scr_no_tab : a ∉ cs.map Prod.snd := fun z => by
  have := (tab_at hT z).symm.trans ha
  simp [tabO, scrO] at this
include hT ha in
/-- what is no sequence and no empty table is not tracked -/
theorem lawH_none {b : Addr} {o : Obj} (e : sA.heap.get? b = some o) (h1 : ∀ vs n, o.data ≠ .seq vs n) (h2 : o.data ≠ .fields #[]) : lawH K cs a vs ns b = none := by
  cases q : lawH K cs a vs ns b with
  | none => rfl
  | some u =>
    rcases lawH_cases q with ⟨m, _⟩ | ⟨m, _, _⟩
    · have z := (tab_at hT m).symm.trans e
      cases z
      exact absurd rfl h2
    · subst m
      have z := ha.symm.trans e
      cases z
      exact absurd rfl (h1 _ _)
include hT ha in
theorem lawH_ok (hi : IntsAre vs ns) (hl : ns.length ≤ sizeLine) : HOk P w (lawH K cs a vs ns) sA.heap := fun b u q => by
  rcases lawH_cases q with ⟨m, rfl⟩ | ⟨rfl, _, rfl⟩
  · exact tab_at hT m
  · exact ⟨ha, (List.length_map (as := ns) V.int).symm ▸ hl, vs, _, vals_ints hi, ha⟩
include hT ha in
theorem lawH_script (KX : K.In sA.heap) (hi : IntsAre vs ns) (hl : ns.length ≤ sizeLine) : SqL K (lawH K cs a vs ns) a (ns.map V.int) := by
  have nT := scr_no_tab (cs := cs) hT ha
  cases hk : K.lookup a with
  | none => exact .inl (.inr ⟨scrO vs, (if_neg nT).trans (if_pos ⟨rfl, hk⟩)⟩)
  | some o =>
    have e := (KX a o hk).symm.trans ha
    cases e
    exact .inr ⟨_, vs.toArray, _, hk, rfl, rfl, rfl, by rw [List.size_toArray, hi.length]; exact hl, by simpa using vals_ints hi⟩
include hT ha in
theorem lawH_mod (KX : K.In sA.heap) (nT : ∀ p ∈ cs, K.lookup p.2 = none) {mg : Str → Option Value} (hns : sA.heap.Ns mainGlobals mg) (hb : sA.heap.Ns builtinsNs mb) (hbb : ∀ x : Str, x ≠ "__name__" → mb x = bootBuiltins x) (hlim : sA.heap.NoLimit) : L2.Mod K mg (hidT sA.heap (lawH K cs a vs ns)) := by
  have keep : ∀ {b : Addr} {m : Str → Option Value}, sA.heap.Ns b m → (hidT sA.heap (lawH K cs a vs ns)).Ns b m := fun {b m} z => by
    obtain ⟨o, es, ep, e, d, r⟩ := z
    exact ⟨o, es, ep, hidT_get e (lawH_none hT ha e (fun vs n q => by rw [d] at q; cases q) fun q => by rw [d] at q; cases q), d, r⟩
  refine ⟨fun b o e => hidT_get (KX b o e) ?_, keep hns, ⟨mb, keep hb, hbb⟩, ?_⟩
  · cases q : lawH K cs a vs ns b with
    | none => rfl
    | some u =>
      rcases lawH_cases q with ⟨m, _⟩ | ⟨rfl, n, _⟩
      · obtain ⟨p, hp, rfl⟩ := List.mem_map.mp m
        rw [nT p hp] at e
        cases e
      · rw [n] at e
        cases e
  · obtain ⟨mc, h1, h2⟩ := hlim
    exact ⟨mc, keep h1, h2⟩
include hT ha in
theorem lawH_tabs {mg : Str → Option Value} (hns : sA.heap.Ns mainGlobals mg) (C : ∀ p ∈ cs, PySem.W.CodeHd sA.heap p.1 p.2)
    (hbm : ∃ (bm : Addr) (ob : Obj), mg "__builtins__" = some (.ref bm) ∧ bm ≠ builtinsNs ∧ sA.heap.get? bm = some ob ∧ ob.cls = .type "module" ∧ ob.dict = some builtinsNs ∧ ob.data = .plain) :
    ∀ p ∈ cs, TabB (hidT sA.heap (lawH K cs a vs ns)) mg p.1 p.2 := by
  intro p hp
  obtain ⟨og, eg, pg, g1, g2, _⟩ := hns
  constructor
  · obtain ⟨oc, us, fi, t1, fl, t2, ff, tx, t3, c1, c2, c3, c4, c5⟩ := C p hp
    refine ⟨oc, us, fi, t1, fl, t2, ff, tx, t3, hidT_get c1 (lawH_none hT ha c1 (fun _ _ z => ?_) fun z => ?_), c2, c3, c4, c5⟩
    · rw [c3] at z
      cases z
    · rw [c3] at z
      cases z
      simp at c4
  · obtain ⟨bm, ob, m1, m2, m3, m4, m5, m6⟩ := hbm
    refine ⟨bm, ob, m1, m2, fun z => ?_, fun z => ?_, hidT_get m3 (lawH_none hT ha m3 (fun _ _ z => ?_) fun z => ?_), m4, m5, m6⟩
    · subst z
      cases g1.symm.trans m3
      rw [g2] at m6
      cases m6
    · subst z
      cases (hT p hp).symm.trans m3
      cases m6
    · rw [m6] at z
      cases z
    · rw [m6] at z
      cases z
  · intro z
    rw [z] at g1
    cases (hT p hp).symm.trans g1
    cases g2
/-- the heap behind the law, its tables aside, holds what stood before it -/
theorem law_sil (KX : K.In sA.heap) (hns : sA.heap.Ns mainGlobals mg) (hb : sA.heap.Ns builtinsNs mb) (hbb : ∀ x : Str, x ≠ "__name__" → mb x = bootBuiltins x) (hlim : sA.heap.NoLimit) (hg : sA.gens = #[])
    (hT : ∀ p ∈ cs, sA.heap.get? p.2 = some tabO) (nT : ∀ p ∈ cs, K.lookup p.2 = none) (C : ∀ p ∈ cs, PySem.W.CodeHd sA.heap p.1 p.2)
    (hbm : ∃ (bm : Addr) (ob : Obj), mg "__builtins__" = some (.ref bm) ∧ bm ≠ builtinsNs ∧ sA.heap.get? bm = some ob ∧ ob.cls = .type "module" ∧ ob.dict = some builtinsNs ∧ ob.data = .plain)
    (ha : sA.heap.get? a = some (scrO vs)) (hi : IntsAre vs ns) (hl : ns.length ≤ sizeLine) (hr : Room k callerA)
    (F : ∀ base : Heap, K.In base → base.Ns mainGlobals mg → (∀ p ∈ cs, TabB base mg p.1 p.2) → SilOk P w K mg base CX k fa fd [x] sp) (hbind : ∀ (s : Shared) (u : Value), BindsTo s fd ⟨[u], []⟩ [(x, u)])
    (hsp : ∀ H : Hp, (∀ p ∈ cs, H p.2 = some (.tbl #[])) → SqL K H a (ns.map V.int) → sp [.ref a] H (fun v _ => v = .bl true) fun _ _ _ => False)
    (hCX : ∀ H e s', CX [] H sA (fun _ _ _ => False) e s' → False) :
    codeAny (model P w) callerA (.call (.ref fa) ⟨[.ref a], []⟩) (fun r s' => r = .ok (.ret (.bool true)) ∧ OldK sA.heap s'.heap ∧ s'.os = sA.os ∧ AllBare s'.gens) sA := by
  have M := lawH_mod (ns := ns) hT ha KX nT hns hb hbb hlim
  have ok : HOk P w (lawH K cs a vs ns) sA.heap := lawH_ok hT ha hi hl
  have e0 : Env0 P w K mg (hidT sA.heap (lawH K cs a vs ns)) callerA [] sA (lawH K cs a vs ns) := by
    refine ⟨rfl, M, fun _ _ => of_hidT, ?_, trivial, ?_, ok, .of_eq hg⟩
    · rw [hidT_size]
      exact Nat.le_refl _
    · intro b m
      cases (show b ∈ ([] : List Addr) from m)
  have go := (F _ M.kin M.glob (lawH_tabs hT ha hns C hbm)).go callerA rfl [] sA _ ⟨[.ref a], []⟩ [.ref a] [.ref a] _ _ hr e0 (hbind sA (.ref a)) (.cons rfl .nil) (hsp _ (fun p hp => lawH_tab hp) (lawH_script hT ha KX hi hl))
  refine codeAny_mono go ?_
  intro r s' h
  match r, h with
  | .error e, h => exact (hCX _ e s' h).elim
  | .ok (.ret u), h =>
    obtain ⟨v, H', os, bare, un, ok', rv, q⟩ := h
    cases (show v = .bl true from q)
    cases (show u = Value.bool true from rv)
    have at_tab : ∀ b ∈ cs.map Prod.snd, ∃ more : Array Value, s'.heap.get? b = some { cls := .none, data := .fields more } := fun b m => by
      obtain ⟨more, z⟩ := un.tbls b #[] (if_pos m)
      exact ⟨_, ok' b _ z⟩
    have other : ∀ b o, b ∉ cs.map Prod.snd → sA.heap.get? b = some o → s'.heap.get? b = some o := fun b o m e => by
      cases q : lawH K cs a vs ns b with
      | none => exact un.keep b o e q (fun z => by cases (show b ∈ ([] : List Addr) from z)) (fun z => by cases z)
      | some u =>
        rcases lawH_cases q with ⟨z, _⟩ | ⟨_, _, rfl⟩
        · exact absurd z m
        · cases (ok b _ q).1.symm.trans e
          exact (ok' b _ (un.frzs b _ _ q)).1
    refine ⟨rfl, ⟨fun b o e => ?_, fun b o e => ?_⟩, os, bare⟩
    · by_cases m : b ∈ cs.map Prod.snd
      · obtain ⟨more, z⟩ := at_tab b m
        cases (tab_at hT m).symm.trans e
        obtain ⟨p, hp, rfl⟩ := List.mem_map.mp m
        exact .inr (.inl ⟨((C p hp).tab (hT p hp)).isCodeTable, rfl, #[], more, rfl, by rw [Array.empty_append]; exact z⟩)
      · exact .inl (other b o m e)
    · by_cases m : b ∈ cs.map Prod.snd
      · obtain ⟨more, z⟩ := at_tab b m
        exact ⟨_, z⟩
      · exact ⟨o, other b o m e⟩
end
/-- what a head must tell of such a law -/
def SilAt (l : PySem.W.OpenLaw) (w : World) (CX : CXT) (k n : Nat) (x : Str) (mg : Str → Option Value) (fa : Addr) (h : Heap) : Prop :=
  ∃ (K : PySem.W.Frag) (fd : FuncData) (cs : List (Addr × Addr)) (sp : Sp), K.In h ∧ (∀ p ∈ cs, h.get? p.2 = some tabO) ∧ (∀ p ∈ cs, K.lookup p.2 = none) ∧ (∀ p ∈ cs, PySem.W.CodeHd h p.1 p.2) ∧ (∀ (s : Shared) (u : Value), BindsTo s fd ⟨[u], []⟩ [(x, u)]) ∧
    (∀ (H : Hp) (a : Addr) (ns : List Int), ns.length ≤ n → (∀ z ∈ ns, Builtin.Int.intBits z ≤ 1048576) → (∀ p ∈ cs, H p.2 = some (.tbl #[])) → SqL K H a (ns.map V.int) → sp [.ref a] H (fun v _ => v = .bl true) fun _ _ _ => False) ∧
    ∀ base : Heap, K.In base → base.Ns mainGlobals mg → (∀ p ∈ cs, TabB base mg p.1 p.2) → SilOk l.prog w K mg base CX k fa fd [x] sp
theorem walk_sil {l : PySem.W.OpenLaw} {n k : Nat} {q : Program} {loose : List Str} {XP : (Str → Option Value) → Heap → Prop} {YP : World → Heap → Prop} {d : DefRec} {CX : World → CXT} {x : Str}
    (hn : l.most = some n) (hn2 : n ≤ sizeLine) (hdf : d.params.defaults = []) (hr : Room k callerA)
    (F : ∀ (w : World) (mg : Str → Option Value) (fa : Addr) (h : Heap), YP w h → h.Ns mainGlobals mg → mg d.name = some (.ref fa) → SilAt l w (CX w) k n x mg fa h)
    (hCX : ∀ (w : World) (H : Hp) (s : Shared) (e : Value) (s' : Shared), CX w [] H s (fun _ _ _ => False) e s' → False) :
    PySem.W.WalkO q loose XP YP l.row.toRowW d [] (fun f vs => PySem.call f vs) := by
  apply Att.attach_callB hn hdf
  intro w _ s₁ mg _ fa _ _ _ _ a _ ns G Y _ _ _ hmg hobj hints hlen hbits hg
  obtain ⟨K, fd, cs, sp, KX, t1, t2, t3, hb, hsp, hF⟩ := F w mg fa _ Y G.T.g hmg
  refine law_sil KX G.T.g G.T.b G.T.builtins G.T.nolimit hg t1 t2 t3 G.T.bmain hobj hints (Nat.le_trans hlen hn2) hr hF hb ?_ ?_
  · intro H hH hS
    exact hsp H a ns hlen hbits hH hS
  · intro H e s'
    exact hCX w H s₁ e s'
end Vf
namespace Vf
open PySem PySem.Spec PyProof.Rows L2
/-! ### o == y of an object whose class has its own __eq__, whatever y is -/
theorem nf_str {K : PySem.W.Frag} {C : Addr} : PySem.W.notFirst K C (.type "str") = true := by kernel_rfl
theorem nf_int {K : PySem.W.Frag} {C : Addr} : PySem.W.notFirst K C (.type "int") = true := by kernel_rfl
theorem nf_list {K : PySem.W.Frag} {C : Addr} : PySem.W.notFirst K C (.type "list") = true := by kernel_rfl
/-- the right operand -/
inductive EqY (K : PySem.W.Frag) (C : Addr) (H : Hp) : V → Prop where
  | own (b dy : Addr) (gs : List (Str × V)) (h : H b = some (.ins C dy gs)) : EqY K C H (.ref b)
  | lst (b : Addr) (xs : List V) (h : SqL K H b xs) : EqY K C H (.ref b)
  | str (t : Str) : EqY K C H (.str t)
  | int (i : Int) : EqY K C H (.int i)
section
variable {X : Cx} {K : PySem.W.Frag}
def rEqO (K : PySem.W.Frag) (C : Addr) (sp : Sp) (E : XK) : R2 := fun x y H Q => ∃ a dx fs, x = .ref a ∧ H a = some (.ins C dx fs) ∧ EqY K C H y ∧ sp [x, y] H (fun v H' => ∃ b, v = .bl b ∧ Q (.bl b) H') E
theorem op_eqO {CX : CXT} {C f : Addr} {fd : FuncData} {ps : List Str} {sp : Sp} {E : XK} {n : Nat} (F : FnOk X.prog X.w X.K X.mg X.base CX n f fd ps sp) (hr : Room n X.A)
    (hs : PySem.W.findIn X.K (.ref C) "__eq__" = some (some (.ref f))) (hf : PySem.W.isFn X.K (.ref f) = true) (hb : Binds X.K fd ps []) (hx : Passes CX X E) : OpR X (compareOp .Eq) (rEqO X.K C sp E) := by
  intro pins s σ H x y v u Q I rx ry h
  obtain ⟨a, dx, fs, rfl, ha, hy, hsp⟩ := h
  cases rx
  obtain ⟨mA, J, _⟩ := ins_get I.hok ha
  obtain ⟨od, J, _⟩ := J.look
  obtain ⟨m, hF⟩ := I.fr
  have hl := F.len _ _ _ _ hsp
  show wpAny (model X.prog X.w) X.A (richCompare .Eq (.ref a) u) (EP X pins σ Q) X.xe s
  have fin : wpAny (model X.prog X.w) X.A (call (.ref f) [.ref a, u]) (PySem.W.CmpBack (EP X pins σ Q)) X.xe s := by
    have r2 : Vals [V.ref a, y] [Value.ref a, u] := .cons rfl (.cons ry .nil)
    have hb' := hb s [.ref a, u] I.kIn (by simpa using hl)
    rw [List.append_nil] at hb'
    refine wpAny_call (codeAny_mono (F.run X.A X.stack s H ⟨[.ref a, u], []⟩ [.ref a, u] _ _ E hr I.env0 hb' r2 hsp) ?_)
    intro r s' hq
    match r, hq with
    | .error e, hq => exact hx pins σ H s e s' I hq
    | .ok (.ret w), hq =>
      obtain ⟨z, H', I', rz, b, rfl, q⟩ := I.after hq
      cases rz
      exact ⟨.bl b, H', I', rfl, q⟩
  cases hy with
  | own b dy gs h =>
    cases ry
    obtain ⟨mB, J', _⟩ := ins_get I.hok h
    obtain ⟨od', J', _⟩ := J'.look
    exact PySem.W.cmp_K (op := .Eq) (tb := .ref C) hr.units0 hF I.ok.mod.kin J J'.type (by simp [PySem.W.notFirst]) hs hf fin
  | lst b xs h =>
    cases ry
    obtain ⟨its, _, ⟨o, n', e1, e2, _, _⟩, _⟩ := I.list h
    exact PySem.W.cmp_K (op := .Eq) (tb := .type "list") hr.units0 hF I.ok.mod.kin J (by rw [← e2]; exact (PySem.W.Looks.ld e1).andThen .now) nf_list hs hf fin
  | str t =>
    obtain ⟨k, rfl⟩ := ry
    exact PySem.W.cmp_K (op := .Eq) (tb := .type "str") hr.units0 hF I.ok.mod.kin J (PySem.W.Looks.of_pure rfl) nf_str hs hf fin
  | int i =>
    obtain ⟨k, rfl⟩ := ry
    exact PySem.W.cmp_K (op := .Eq) (tb := .type "int") hr.units0 hF I.ok.mod.kin J (PySem.W.Looks.of_pure rfl) nf_int hs hf fin
end
end Vf
namespace Vf
open PySem PySem.Spec PyProof.Rows L2
/-! ### repr of data of any kind -/
/-- the text of v -/
inductive RpOk (K : PySem.W.Frag) (H : Hp) : V → Str → Prop where
  | dp {v : V} {d : PyData} (h : Dp K H v d) (hs : d.showable = true) (hn : d.hasDict = false) (hd : d.depth ≤ 60) (hl : d.shown.length ≤ sizeLine) : RpOk K H v d.shown
  | dk {a : Addr} (h : H a = some (.dK [])) : RpOk K H (.ref a) (PyData.dict []).shown
section
variable {X : Cx}
theorem call_repr (hA : X.A.guards = some []) (hu : X.A.units + 64 < cLine) : CallR X (.builtin "repr") (fun xs H Q => ∃ v t, xs = [v] ∧ RpOk X.K H v t ∧ Q (.str t) H) := by
  intro pins s σ H xs us Q I r h
  obtain ⟨v, t, rfl, ht, q⟩ := h
  obtain ⟨u, rfl, ru⟩ := vals1 r
  cases ht with
  | @dp v d h hs hn hd hl =>
    cases h with
    | non =>
      cases (show u = Value.none from ru)
      exact PySem.P.repr_of_none ⟨.str _, H, I.tok _, ⟨_, rfl⟩, q⟩
    | bl b =>
      cases (show u = Value.bool b from ru)
      exact PySem.P.repr_of_bool ⟨.str _, H, I.tok _, ⟨_, rfl⟩, by cases b <;> exact q⟩
    | int i =>
      obtain ⟨k, rfl⟩ := ru
      exact PySem.P.repr_of_int (of_decide_eq_true hs) ⟨.str _, H, I.tok _, ⟨_, rfl⟩, q⟩
    | str x =>
      obtain ⟨k, rfl⟩ := ru
      exact PySem.P.repr_of_str ⟨.str _, H, I.tok _, ⟨_, rfl⟩, q⟩ hl
    | @lst a ys ds h1 h2 =>
      exact call_repr_dp hA hu pins s σ H [.ref a] [u] Q I r ⟨a, _, rfl, .lst h1 h2, hs, hn, hd, hl, q⟩
    | @tup a ys ds h1 h2 =>
      exact call_repr_dp hA hu pins s σ H [.ref a] [u] Q I r ⟨a, _, rfl, .tup h1 h2, hs, hn, hd, hl, q⟩
  | @dk a h =>
    cases (show u = Value.ref a from ru)
    obtain ⟨_, ns, vs, hv, hD⟩ := I.hok a _ h
    cases hv
    obtain ⟨o, es, ep, e1, ex, e3, _, pr, _⟩ := hD
    have en : es.toList = [] := by
      cases q : es.toList with
      | nil => rfl
      | cons z r =>
        rw [q] at pr
        cases pr
    have rd : Reads s.heap (.ref a) (.dict []) (a :: [] ++ []) := Reads.dict e1 ex.1 e3 (by rw [en]; exact .nil) (by rw [en]; exact .nil)
    refine repr_of_reads' rd rfl (fun _ m => ?_) hA (by simp only [PyData.depth, PyData.depthKv]; omega) (fun _ _ z => z) (fun h' v tk hk => ⟨.str _, H, I.kept hk, ⟨v, rfl⟩, q⟩) (by decide +kernel)
    have m' : sysModules = a := by simpa using m
    rw [m'] at ns
    simp at ns
end
end Vf
namespace K04
open PySem PySem.Spec PyProof.Rows L2 Vf
def gKF {α : Type} : List α → List α → List α → List α := fun us ds ws => match us, ds, ws with
  | [s], [d], [k, f] => [s, k, f, d]
  | _, _, _ => []
theorem gKF_rel {vs ds zs : List V} {us its ws : List Value} (h1 : Vals vs us) (h2 : Vals ds its) (h3 : Vals zs ws) : Vals (gKF vs ds zs) (gKF us its ws) := by
  cases h1 with
  | nil => exact .nil
  | cons r1 h1 =>
    cases h1 with
    | cons _ _ => exact .nil
    | nil =>
      cases h2 with
      | nil => exact .nil
      | cons r2 h2 =>
        cases h2 with
        | cons _ _ => exact .nil
        | nil =>
          cases h3 with
          | nil => exact .nil
          | cons r3 h3 =>
            cases h3 with
            | nil => exact .nil
            | cons r4 h3 =>
              cases h3 with
              | cons _ _ => exact .nil
              | nil => exact .cons r1 (.cons r3 (.cons r4 (.cons r2 .nil)))
def gMFK {α : Type} : List α → List α → List α → List α := fun us _ ws => match us, ws with
  | [s], [m, f, k] => [s, k, f, m]
  | _, _ => []
theorem gMFK_rel {vs ds zs : List V} {us its ws : List Value} (h1 : Vals vs us) (_ : Vals ds its) (h3 : Vals zs ws) : Vals (gMFK vs ds zs) (gMFK us its ws) := by
  cases h1 with
  | nil => exact .nil
  | cons r1 h1 =>
    cases h1 with
    | cons _ _ => exact .nil
    | nil =>
      cases h3 with
      | nil => exact .nil
      | cons r3 h3 =>
        cases h3 with
        | nil => exact .nil
        | cons r4 h3 =>
          cases h3 with
          | nil => exact .nil
          | cons r5 h3 =>
            cases h3 with
            | cons _ _ => exact .nil
            | nil => exact .cons r1 (.cons r5 (.cons r4 (.cons r3 .nil)))
/-- Skin's __init__ and how its arguments come -/
def HasI (P : Program) (w : World) (K : PySem.W.Frag) (mg : Str → Option Value) (base : Heap) (k : Nat) (sp : Sp) : Prop :=
  ∃ fd : FuncData, FnOk P w K mg base (L2.CX P w) k (He.ma K (He.ga K "Skin") "__init__") fd ["self", "kind", "faces", "seams"] sp ∧ Binds K fd ["self", "kind", "faces", "seams"] [] ∧
    (∃ ds : List Value, Vals [.ref (dflA K)] ds ∧ Binds K fd ["self", "kind", "faces", "seams"] ds) ∧ (∃ its : List Value, KBn K fd ["self", "kind", "faces", "seams"] 1 ["kind", "faces"] (fun us ws => gKF us its ws) (fun vs zs => gKF vs [.ref (dflA K)] zs)) ∧
    ∃ its : List Value, KBn K fd ["self", "kind", "faces", "seams"] 1 ["seams", "faces", "kind"] (fun us ws => gMFK us its ws) (fun vs zs => gMFK vs [.ref (dflA K)] zs)
theorem bindsI {K : PySem.W.Frag} {f : Addr} {fd : FuncData} (F : FunD K "__init__" "Skin.__init__" (defArgs s_Skin_init) (defBody s_Skin_init) (defScope s_Skin_init) [.ref (dflA K)] [] f fd) :
    Binds K fd ["self", "kind", "faces", "seams"] [] ∧ (∃ ds : List Value, Vals [.ref (dflA K)] ds ∧ Binds K fd ["self", "kind", "faces", "seams"] ds) ∧
      (∃ its : List Value, KBn K fd ["self", "kind", "faces", "seams"] 1 ["kind", "faces"] (fun us ws => gKF us its ws) (fun vs zs => gKF vs [.ref (dflA K)] zs)) ∧
      ∃ its : List Value, KBn K fd ["self", "kind", "faces", "seams"] 1 ["seams", "faces", "kind"] (fun us ws => gMFK us its ws) (fun vs zs => gMFK vs [.ref (dflA K)] zs) := by
  refine ⟨?_, ?_, ?_, ?_⟩
  · obtain ⟨ds, r, b⟩ := FunD.binds1 (ps := ["self", "kind", "faces", "seams"]) F 4 1 (by simp) rfl (fun T kV doc pm an cdv ct us its h1 h2 => match us, its, h1, h2 with
      | [_, _, _, _], [_], _, _ => ⟨_, rfl, rfl⟩)
    cases r
    exact b
  · exact FunD.binds1 (ps := ["self", "kind", "faces", "seams"]) F 3 0 (by simp) rfl (fun T kV doc pm an cdv ct us its h1 h2 => match us, its, h1, h2 with
      | [_, _, _], [_], _, _ => ⟨_, rfl, rfl⟩)
  · exact kbn_dfl (ps := ["self", "kind", "faces", "seams"]) F 1 ["kind", "faces"] gKF (by simp) gKF_rel (fun T kV doc pm an cdv ct us its ws h1 h2 h3 => match us, its, ws, h1, h2, h3 with
      | [_], [_], [_, _], _, _, _ => ⟨_, rfl, rfl⟩)
  · exact kbn_dfl (ps := ["self", "kind", "faces", "seams"]) F 1 ["seams", "faces", "kind"] gMFK (by simp) gMFK_rel (fun T kV doc pm an cdv ct us its ws h1 h2 h3 => match us, its, ws, h1, h2, h3 with
      | [_], [_], [_, _, _], _, _, _ => ⟨_, rfl, rfl⟩)
end K04

namespace K04
open PySem PySem.Spec PyProof.Rows L2 Vf LamX
section
variable {hh : Heap} {P : Program} {w : World} {K : PySem.W.Frag} {mg : Str → Option Value} {base : Heap}
/-! ### what the checks tell -/
def isI : V → Bool
  | .int _ => true
  | _ => false
def isB : V → Bool
  | .bl _ => true
  | _ => false
def isS : V → Bool
  | .str _ => true
  | _ => false
theorem kd_int {H : Hp} {v : V} {k : Kd} (h : KdV K H v k) : k.is "int" = (isI v || isB v) := by
  cases v <;> cases k <;> first | rfl | exact h.elim
theorem kd_bool {H : Hp} {v : V} {k : Kd} (h : KdV K H v k) : k.is "bool" = isB v := by
  cases v <;> cases k <;> first | rfl | exact h.elim
theorem kd_str {H : Hp} {v : V} {k : Kd} (h : KdV K H v k) : k.is "str" = isS v := by
  cases v <;> cases k <;> first | rfl | exact h.elim
def isGrid (v : V) : Bool := isS v && inV v [.str "square", .str "triangle"]
def sp_is_grid (K : PySem.W.Frag) : Sp := fun vs H Q _ => ∃ (v : V) (k : Kd), vs = [v] ∧ KdV K H v k ∧ Q (.bl (isGrid v)) H
theorem sc_is_grid : FnScope ["value"] ["value"] (defScope s_is_grid) := ⟨rfl, rfl, rfl, by decide +kernel, rfl, by decide +kernel, by decide +kernel⟩
theorem ok_is_grid {f : Addr} {fd : FuncData} (F : FunD K "is_grid" "is_grid" (defArgs s_is_grid) (defBody s_is_grid) (defScope s_is_grid) [] [] f fd) (Tx : Txt K mg)    : FnOk P w K mg base CX0 1 f fd ["value"] (sp_is_grid K) := by
  refine FunD.ok F sc_is_grid (fun vs H Q E h => ?_) (fun cdv A outer s H vs Q E hr h => ?_)
  · obtain ⟨v, k, rfl, _⟩ := h
    rfl
  · obtain ⟨v, k, rfl, hk, q⟩ := h
    refine ⟨_, PSs.nox (pss_one (ps_ret (pe_and (pe_callB call_isi (by rfl) Tx.n_isinstance (by decide +kernel) (pa_cons (pv 0) (pa_cons (pe_bltn (v := .ty "str") (by rfl) Tx.n_str (by decide +kernel) rfl) pa_nil))) (pe_one (pe_cmpR op_in_seq (pv 0) (pe_glob (v := .ref (He.ga K "KINDS")) (by rfl) Tx.g_KINDS rfl) rfl))))), ?_⟩
    refine ⟨_, rfl, v, _, _, _, _, rfl, .ty "str", hk.ty, kd_is (by decide), _, rfl, ?_⟩
    rw [kd_str hk]
    cases v with
    | str z => exact ⟨_, rfl, _, _, rfl, .inr (Tx.kinds _), rfl, rfl, q⟩
    | _ => exact q
theorem has_is_grid (Tx : Txt K mg) (c : He.SaysX fa fn [] tf ex w hh K) (X : K.In hh) (GG : hh.Ns mainGlobals mg)    : Has P w K mg base "is_grid" 1 ["value"] (sp_is_grid K) := by
  obtain ⟨fd, F⟩ := c.t.d.def_ 6 (d := d_is_grid) rfl
  exact ⟨_, fd, ok_is_grid F Tx , He.glo_ok X GG (c.t.d.fact 9 (f := .glo "is_grid") rfl), F.kp, F.bindsN fun _ _ _ _ _ _ us hl => match us, hl with | [_], _ => rfl⟩
def sp_is_integer (K : PySem.W.Frag) : Sp := fun vs H Q _ => ∃ (v : V) (k : Kd), vs = [v] ∧ KdV K H v k ∧ Q (.bl (isI v)) H
theorem sc_is_integer : FnScope ["value"] ["value"] (defScope s_is_integer) := ⟨rfl, rfl, rfl, by decide +kernel, rfl, by decide +kernel, by decide +kernel⟩
theorem ok_is_integer {f : Addr} {fd : FuncData} (F : FunD K "is_integer" "is_integer" (defArgs s_is_integer) (defBody s_is_integer) (defScope s_is_integer) [] [] f fd) (Tx : Txt K mg)    : FnOk P w K mg base CX0 1 f fd ["value"] (sp_is_integer K) := by
  refine FunD.ok F sc_is_integer (fun vs H Q E h => ?_) (fun cdv A outer s H vs Q E hr h => ?_)
  · obtain ⟨v, k, rfl, _⟩ := h
    rfl
  · obtain ⟨v, k, rfl, hk, q⟩ := h
    refine ⟨_, PSs.nox (pss_one (ps_ret (pe_and (pe_callB call_isi (by rfl) Tx.n_isinstance (by decide +kernel) (pa_cons (pv 0) (pa_cons (pe_bltn (v := .ty "int") (by rfl) Tx.n_int (by decide +kernel) rfl) pa_nil))) (pe_one (pe_not (pe_callB call_isi (by rfl) Tx.n_isinstance (by decide +kernel) (pa_cons (pv 0) (pa_cons (pe_bltn (v := .ty "bool") (by rfl) Tx.n_bool (by decide +kernel) rfl) pa_nil)))))))), ?_⟩
    refine ⟨_, rfl, v, _, _, _, _, rfl, .ty "int", hk.ty, kd_is (by decide), _, rfl, ?_⟩
    rw [kd_int hk]
    refine ite2 (fun e => ?_) (fun e => ?_)
    · refine ⟨_, rfl, v, _, _, _, _, rfl, .ty "bool", hk.ty, kd_is (by decide), _, rfl, ?_⟩
      rw [kd_bool hk]
      cases v <;> first | exact q | cases e
    · cases v <;> first | exact q | exact absurd rfl e
theorem has_is_integer (Tx : Txt K mg) (c : He.SaysX fa fn [] tf ex w hh K) (X : K.In hh) (GG : hh.Ns mainGlobals mg)    : Has P w K mg base "is_integer" 1 ["value"] (sp_is_integer K) := by
  obtain ⟨fd, F⟩ := c.t.d.def_ 10 (d := d_is_integer) rfl
  exact ⟨_, fd, ok_is_integer F Tx , He.glo_ok X GG (c.t.d.fact 13 (f := .glo "is_integer") rfl), F.kp, F.bindsN fun _ _ _ _ _ _ us hl => match us, hl with | [_], _ => rfl⟩
def lo1 (x : Int) : V → Bool
  | .int i => decide (i ≤ x)
  | _ => true
def hi1 (x : Int) : V → Bool
  | .int j => decide (x ≤ j)
  | _ => true
def bnd (v l m : V) : Bool := match v with
  | .int x => lo1 x l && hi1 x m
  | _ => false
def noi : V → Bool
  | .non => true
  | .int _ => true
  | _ => false
def sp_is_within (K : PySem.W.Frag) : Sp := fun vs H Q _ => ∃ (v l m : V) (k : Kd), vs = [v, l, m] ∧ KdV K H v k ∧ noi l = true ∧ noi m = true ∧ Q (.bl (bnd v l m)) H
theorem sc_is_within : FnScope ["value", "least", "most"] ["value", "least", "most"] (defScope s_is_within) := ⟨rfl, rfl, rfl, by decide +kernel, rfl, by decide +kernel, by decide +kernel⟩
theorem ok_is_within {f : Addr} {fd : FuncData} (F : FunD K "is_within" "is_within" (defArgs s_is_within) (defBody s_is_within) (defScope s_is_within) [] [] f fd) (Tx : Txt K mg) (h_is_integer : Has P w K mg base "is_integer" 1 ["value"] (sp_is_integer K))   : FnOk P w K mg base CX0 2 f fd ["value", "least", "most"] (sp_is_within K) := by
  obtain ⟨f_is_integer, fd_is_integer, G_is_integer, g_is_integer, k_is_integer, b_is_integer⟩ := h_is_integer
  refine FunD.ok F sc_is_within (fun vs H Q E h => ?_) (fun cdv A outer s H vs Q E hr h => ?_)
  · obtain ⟨v, l, m, k, rfl, _⟩ := h
    rfl
  · obtain ⟨v, l, m, k, rfl, hk, hl, hm, q⟩ := h
    refine ⟨_, PSs.nox (pss_cons (ps_if (pt_not (pt_val (pe_call G_is_integer (hr.mono (by decide)) (by rfl) g_is_integer k_is_integer b_is_integer .nil pass0 (pa_cons (pv 0) pa_nil)))) (pss_one (ps_ret pe_bl)) pss_nil)
        (pss_one (ps_ret (pe_and (pe_or (pe_cmpR op_isN (pv 1) pe_non (nomark _)) (pe_one (pe_cmpR op_ge (pv 0) (pv 1) (nomark _)))) (pe_one (pe_or (pe_cmpR op_isN (pv 2) pe_non (nomark _)) (pe_one (pe_cmpR op_le (pv 0) (pv 2) (nomark _))))))))), ?_⟩
    refine ⟨_, rfl, v, k, rfl, hk, _, rfl, ite2 (fun e => ?_) (fun e => ?_)⟩
    · cases v <;> first | exact q | cases e
    · cases v with
      | int x =>
        cases l with
        | non =>
          refine ⟨_, rfl, rfl, _, rfl, ?_⟩
          refine ⟨_, rfl, ?_⟩
          cases m with
          | non => exact ⟨_, rfl, rfl, _, rfl, q⟩
          | int j => exact ⟨_, rfl, rfl, _, rfl, _, rfl, _, rfl, _, _, rfl, rfl, q⟩
          | _ => cases hm
        | int i =>
          refine ⟨_, rfl, rfl, _, rfl, _, rfl, _, rfl, _, _, rfl, rfl, _, rfl, ?_⟩
          refine ite2 (fun e1 => ?_) (fun e1 => ?_)
          · have q2 : Q (.bl (hi1 x m)) H := by
              have q3 : Q (.bl (decide (i ≤ x) && hi1 x m)) H := q
              rw [e1, Bool.true_and] at q3
              exact q3
            cases m with
            | non => exact ⟨_, rfl, rfl, _, rfl, q2⟩
            | int j => exact ⟨_, rfl, rfl, _, rfl, _, rfl, _, rfl, _, _, rfl, rfl, q2⟩
            | _ => cases hm
          · have q3 : Q (.bl (decide (i ≤ x) && hi1 x m)) H := q
            rw [Bool.eq_false_iff.mpr e1, Bool.false_and] at q3
            exact q3
        | _ => cases hl
      | _ => exact absurd rfl e
theorem has_is_within (Tx : Txt K mg) (c : He.SaysX fa fn [] tf ex w hh K) (X : K.In hh) (GG : hh.Ns mainGlobals mg) (h_is_integer : Has P w K mg base "is_integer" 1 ["value"] (sp_is_integer K))   : Has P w K mg base "is_within" 2 ["value", "least", "most"] (sp_is_within K) := by
  obtain ⟨fd, F⟩ := c.t.d.def_ 11 (d := d_is_within) rfl
  exact ⟨_, fd, ok_is_within F Tx h_is_integer, He.glo_ok X GG (c.t.d.fact 14 (f := .glo "is_within") rfl), F.kp, F.bindsN fun _ _ _ _ _ _ us hl => match us, hl with | [_, _, _], _ => rfl⟩
def sp_is_listed (K : PySem.W.Frag) : Sp := fun vs H Q _ => ∃ (v : V) (k : Kd), vs = [v] ∧ KdV K H v k ∧ ∀ H', Same H H' → Q (.bl k.seq) H'
theorem sc_is_listed : FnScope ["value"] ["value"] (defScope s_is_listed) := ⟨rfl, rfl, rfl, by decide +kernel, rfl, by decide +kernel, by decide +kernel⟩
theorem ok_is_listed {f : Addr} {fd : FuncData} (F : FunD K "is_listed" "is_listed" (defArgs s_is_listed) (defBody s_is_listed) (defScope s_is_listed) [] [] f fd) (Tx : Txt K mg)    : FnOk P w K mg base CX0 1 f fd ["value"] (sp_is_listed K) := by
  refine FunD.ok F sc_is_listed (fun vs H Q E h => ?_) (fun cdv A outer s H vs Q E hr h => ?_)
  · obtain ⟨v, k, rfl, _⟩ := h
    rfl
  · obtain ⟨v, k, rfl, hk, q⟩ := h
    refine ⟨_, PSs.nox (pss_one (ps_ret (pe_callB call_isiT (by rfl) Tx.n_isinstance (by decide +kernel) (pa_cons (pv 0) (pa_cons (pe_tup (pa_cons (pe_bltn (v := .ty "list") (by rfl) Tx.n_list (by decide +kernel) rfl) (pa_cons (pe_bltn (v := .ty "tuple") (by rfl) Tx.n_tuple (by decide +kernel) rfl) pa_nil))) pa_nil))))), ?_⟩
    refine ⟨_, rfl, le_line (by decide), fun t nt => ?_⟩
    exact ⟨v, t, _, _, _, _, rfl, upd_same, .cons (.ty "list") (.cons (.ty "tuple") .nil), (hk.same (same_new nt)).ty, kd_seq, q _ (same_new nt)⟩
theorem has_is_listed (Tx : Txt K mg) (c : He.SaysX fa fn [] tf ex w hh K) (X : K.In hh) (GG : hh.Ns mainGlobals mg)    : Has P w K mg base "is_listed" 1 ["value"] (sp_is_listed K) := by
  obtain ⟨fd, F⟩ := c.t.d.def_ 12 (d := d_is_listed) rfl
  exact ⟨_, fd, ok_is_listed F Tx , He.glo_ok X GG (c.t.d.fact 15 (f := .glo "is_listed") rfl), F.kp, F.bindsN fun _ _ _ _ _ _ us hl => match us, hl with | [_], _ => rfl⟩
/-! ### the error classes' own __init__ -/
def sp_BadKind_init (K : PySem.W.Frag) : Sp := spI1 K "part"
def sp_BadSkin_init (K : PySem.W.Frag) : Sp := spI1 K "part"
def sp_Missing_init (K : PySem.W.Frag) : Sp := spI1 K "value"
def sp_Twice_init (K : PySem.W.Frag) : Sp := spI1 K "value"
def sp_TooMany_init (K : PySem.W.Frag) : Sp := spI2 K "what" "most"
theorem sc_BadKind_init : FnScope ["self", "part"] ["self", "part"] (defScope s_BadKind_init) := ⟨rfl, rfl, rfl, by decide +kernel, rfl, by decide +kernel, by decide +kernel⟩
theorem ok_BadKind_init {f : Addr} {fd : FuncData} (F : FunD K "__init__" "BadKind.__init__" (defArgs s_BadKind_init) (defBody s_BadKind_init) (defScope s_BadKind_init) [] [] f fd) (Tx : Txt K mg)    : FnOk P w K mg base CX0 1 f fd ["self", "part"] (sp_BadKind_init K) := by
  refine FunD.ok F sc_BadKind_init (fun vs H Q E h => ?_) (fun cdv A outer s H vs Q E hr h => ?_)
  · obtain ⟨a, C, v, rfl, _⟩ := h
    rfl
  · obtain ⟨a, C, v, rfl, T, no, e, q⟩ := h
    refine ⟨_, PSs.nox (pss_one (ps_ost (pv 0) (pv 1))), ?_⟩
    exact ⟨_, rfl, _, rfl, a, C, rfl, T, no, .inl ⟨e, fun dx nd ne => q dx nd ne⟩⟩
theorem has_BadKind_init (Tx : Txt K mg) (c : He.SaysX fa fn [] tf ex w hh K) (X : K.In hh) (GG : hh.Ns mainGlobals mg)    : HasM P w K mg base CX0 "BadKind" "__init__" 1 ["self", "part"] (sp_BadKind_init K) := by
  obtain ⟨fd, F⟩ := c.t.d.def_ 0 (d := d_BadKind_init) rfl
  exact ⟨fd, ok_BadKind_init F Tx , F.bindsN fun _ _ _ _ _ _ us hl => match us, hl with | [_, _], _ => rfl⟩
theorem sc_BadSkin_init : FnScope ["self", "part"] ["self", "part"] (defScope s_BadSkin_init) := ⟨rfl, rfl, rfl, by decide +kernel, rfl, by decide +kernel, by decide +kernel⟩
theorem ok_BadSkin_init {f : Addr} {fd : FuncData} (F : FunD K "__init__" "BadSkin.__init__" (defArgs s_BadSkin_init) (defBody s_BadSkin_init) (defScope s_BadSkin_init) [] [] f fd) (Tx : Txt K mg)    : FnOk P w K mg base CX0 1 f fd ["self", "part"] (sp_BadSkin_init K) := by
  refine FunD.ok F sc_BadSkin_init (fun vs H Q E h => ?_) (fun cdv A outer s H vs Q E hr h => ?_)
  · obtain ⟨a, C, v, rfl, _⟩ := h
    rfl
  · obtain ⟨a, C, v, rfl, T, no, e, q⟩ := h
    refine ⟨_, PSs.nox (pss_one (ps_ost (pv 0) (pv 1))), ?_⟩
    exact ⟨_, rfl, _, rfl, a, C, rfl, T, no, .inl ⟨e, fun dx nd ne => q dx nd ne⟩⟩
theorem has_BadSkin_init (Tx : Txt K mg) (c : He.SaysX fa fn [] tf ex w hh K) (X : K.In hh) (GG : hh.Ns mainGlobals mg)    : HasM P w K mg base CX0 "BadSkin" "__init__" 1 ["self", "part"] (sp_BadSkin_init K) := by
  obtain ⟨fd, F⟩ := c.t.d.def_ 1 (d := d_BadSkin_init) rfl
  exact ⟨fd, ok_BadSkin_init F Tx , F.bindsN fun _ _ _ _ _ _ us hl => match us, hl with | [_, _], _ => rfl⟩
theorem sc_Twice_init : FnScope ["self", "value"] ["self", "value"] (defScope s_Twice_init) := ⟨rfl, rfl, rfl, by decide +kernel, rfl, by decide +kernel, by decide +kernel⟩
theorem ok_Twice_init {f : Addr} {fd : FuncData} (F : FunD K "__init__" "Twice.__init__" (defArgs s_Twice_init) (defBody s_Twice_init) (defScope s_Twice_init) [] [] f fd) (Tx : Txt K mg)    : FnOk P w K mg base CX0 1 f fd ["self", "value"] (sp_Twice_init K) := by
  refine FunD.ok F sc_Twice_init (fun vs H Q E h => ?_) (fun cdv A outer s H vs Q E hr h => ?_)
  · obtain ⟨a, C, v, rfl, _⟩ := h
    rfl
  · obtain ⟨a, C, v, rfl, T, no, e, q⟩ := h
    refine ⟨_, PSs.nox (pss_one (ps_ost (pv 0) (pv 1))), ?_⟩
    exact ⟨_, rfl, _, rfl, a, C, rfl, T, no, .inl ⟨e, fun dx nd ne => q dx nd ne⟩⟩
theorem has_Twice_init (Tx : Txt K mg) (c : He.SaysX fa fn [] tf ex w hh K) (X : K.In hh) (GG : hh.Ns mainGlobals mg)    : HasM P w K mg base CX0 "Twice" "__init__" 1 ["self", "value"] (sp_Twice_init K) := by
  obtain ⟨fd, F⟩ := c.t.d.def_ 3 (d := d_Twice_init) rfl
  exact ⟨fd, ok_Twice_init F Tx , F.bindsN fun _ _ _ _ _ _ us hl => match us, hl with | [_, _], _ => rfl⟩
theorem sc_Missing_init : FnScope ["self", "value"] ["self", "value"] (defScope s_Missing_init) := ⟨rfl, rfl, rfl, by decide +kernel, rfl, by decide +kernel, by decide +kernel⟩
theorem ok_Missing_init {f : Addr} {fd : FuncData} (F : FunD K "__init__" "Missing.__init__" (defArgs s_Missing_init) (defBody s_Missing_init) (defScope s_Missing_init) [] [] f fd) (Tx : Txt K mg)    : FnOk P w K mg base CX0 1 f fd ["self", "value"] (sp_Missing_init K) := by
  refine FunD.ok F sc_Missing_init (fun vs H Q E h => ?_) (fun cdv A outer s H vs Q E hr h => ?_)
  · obtain ⟨a, C, v, rfl, _⟩ := h
    rfl
  · obtain ⟨a, C, v, rfl, T, no, e, q⟩ := h
    refine ⟨_, PSs.nox (pss_one (ps_ost (pv 0) (pv 1))), ?_⟩
    exact ⟨_, rfl, _, rfl, a, C, rfl, T, no, .inl ⟨e, fun dx nd ne => q dx nd ne⟩⟩
theorem has_Missing_init (Tx : Txt K mg) (c : He.SaysX fa fn [] tf ex w hh K) (X : K.In hh) (GG : hh.Ns mainGlobals mg)    : HasM P w K mg base CX0 "Missing" "__init__" 1 ["self", "value"] (sp_Missing_init K) := by
  obtain ⟨fd, F⟩ := c.t.d.def_ 2 (d := d_Missing_init) rfl
  exact ⟨fd, ok_Missing_init F Tx , F.bindsN fun _ _ _ _ _ _ us hl => match us, hl with | [_, _], _ => rfl⟩
theorem sc_TooMany_init : FnScope ["self", "what", "most"] ["self", "what", "most"] (defScope s_TooMany_init) := ⟨rfl, rfl, rfl, by decide +kernel, rfl, by decide +kernel, by decide +kernel⟩
theorem ok_TooMany_init {f : Addr} {fd : FuncData} (F : FunD K "__init__" "TooMany.__init__" (defArgs s_TooMany_init) (defBody s_TooMany_init) (defScope s_TooMany_init) [] [] f fd) (Tx : Txt K mg)    : FnOk P w K mg base CX0 1 f fd ["self", "what", "most"] (sp_TooMany_init K) := by
  refine FunD.ok F sc_TooMany_init (fun vs H Q E h => ?_) (fun cdv A outer s H vs Q E hr h => ?_)
  · obtain ⟨a, C, v, u, rfl, _⟩ := h
    rfl
  · obtain ⟨a, C, v, u, rfl, T, no, no2, e, q⟩ := h
    refine ⟨_, PSs.nox (pss_cons (ps_ost (pv 0) (pv 1))
        (pss_one (ps_ost (pv 0) (pv 2)))), ?_⟩
    refine ⟨_, rfl, _, rfl, a, C, rfl, T, no, .inl ⟨e, fun dx nd ne => ?_⟩⟩
    exact ⟨_, rfl, _, rfl, a, C, rfl, T, no2, .inr ⟨dx, [("what", v)], upd_same, by rw [upd_ne ne, upd_same], (show 1 ≤ 900 by decide), q dx nd ne⟩⟩
theorem has_TooMany_init (Tx : Txt K mg) (c : He.SaysX fa fn [] tf ex w hh K) (X : K.In hh) (GG : hh.Ns mainGlobals mg)    : HasM P w K mg base CX0 "TooMany" "__init__" 1 ["self", "what", "most"] (sp_TooMany_init K) := by
  obtain ⟨fd, F⟩ := c.t.d.def_ 4 (d := d_TooMany_init) rfl
  exact ⟨fd, ok_TooMany_init F Tx , F.bindsN fun _ _ _ _ _ _ us hl => match us, hl with | [_, _, _], _ => rfl⟩
/-! ### kinds of grid -/
def turnOf (z : Str) : Int := if z = "square" then 4 else 3
def fullOf (z : Str) : Int := if z = "square" then 4 else 6
def kdErr (K : PySem.W.Frag) (E : XK) (H : Hp) : Prop := Rz E (He.ga K "BadKind") [("part", .str "kind")] H
def sp_need_kind (K : PySem.W.Frag) : Sp := fun vs H Q E => ∃ (v : V) (k : Kd), vs = [v] ∧ KdV K H v k ∧ (isGrid v = true → Q .non H) ∧ (isGrid v = false → kdErr K E H)
theorem sc_need_kind : FnScope ["kind"] ["kind"] (defScope s_need_kind) := ⟨rfl, rfl, rfl, by decide +kernel, rfl, by decide +kernel, by decide +kernel⟩
theorem ok_need_kind {f : Addr} {fd : FuncData} (F : FunD K "need_kind" "need_kind" (defArgs s_need_kind) (defBody s_need_kind) (defScope s_need_kind) [] [] f fd) (Tx : Txt K mg) (h_is_grid : Has P w K mg base "is_grid" 1 ["value"] (sp_is_grid K)) (h_BadKind_init : HasM P w K mg base CX0 "BadKind" "__init__" 1 ["self", "part"] (sp_BadKind_init K))   : FnOk P w K mg base (L2.CX P w) 3 f fd ["kind"] (sp_need_kind K) := by
  obtain ⟨f_is_grid, fd_is_grid, G_is_grid, g_is_grid, k_is_grid, b_is_grid⟩ := h_is_grid
  obtain ⟨fd_BadKind_init, G_BadKind_init, b_BadKind_init⟩ := h_BadKind_init
  refine FunD.ok F sc_need_kind (fun vs H Q E h => ?_) (fun cdv A outer s H vs Q E hr h => ?_)
  · obtain ⟨v, k, rfl, _⟩ := h
    rfl
  · obtain ⟨v, k, rfl, hk, q, r⟩ := h
    refine ⟨_, (pss_one (ps_if (pt_not (pt_val (pe_call G_is_grid (hr.mono (by decide)) (by rfl) g_is_grid k_is_grid b_is_grid .nil pass0 (pa_cons (pv 0) pa_nil)))) (pss_one (ps_raise rfl (takes_of rfl rfl rfl rfl) (pmk_oex Tx.er_BadKind.oex Tx.er_BadKind.ini Tx.er_BadKind.fn G_BadKind_init (hr.mono (by decide)) b_BadKind_init .nil pass0 (by rfl) Tx.g_BadKind (pa_cons pe_str pa_nil)))) pss_nil)), ?_⟩
    refine ⟨_, rfl, v, k, rfl, hk, _, rfl, ?_⟩
    cases e : isGrid v with
    | true => exact q e
    | false => exact mk1 Tx.er_BadKind.oex (Tx.er_BadKind.no "part" (by simp)) (r e)
theorem has_need_kind (Tx : Txt K mg) (c : He.SaysX fa fn [] tf ex w hh K) (X : K.In hh) (GG : hh.Ns mainGlobals mg) (h_is_grid : Has P w K mg base "is_grid" 1 ["value"] (sp_is_grid K)) (h_BadKind_init : HasM P w K mg base CX0 "BadKind" "__init__" 1 ["self", "part"] (sp_BadKind_init K))   : HasX P w K mg base "need_kind" 3 ["kind"] (sp_need_kind K) := by
  obtain ⟨fd, F⟩ := c.t.d.def_ 7 (d := d_need_kind) rfl
  exact ⟨_, fd, ok_need_kind F Tx h_is_grid h_BadKind_init, He.glo_ok X GG (c.t.d.fact 10 (f := .glo "need_kind") rfl), F.kp, F.bindsN fun _ _ _ _ _ _ us hl => match us, hl with | [_], _ => rfl⟩
def sp_sides_of (K : PySem.W.Frag) : Sp := fun vs H Q E => ∃ (v : V) (k : Kd), vs = [v] ∧ KdV K H v k ∧ (∀ z, v = .str z → isGrid v = true → Q (.int (turnOf z)) H) ∧ (isGrid v = false → kdErr K E H)
theorem grid_str {v : V} (h : isGrid v = true) : ∃ z, v = .str z := by
  cases v with
  | str z => exact ⟨z, rfl⟩
  | _ => cases h
theorem str_sq (z : Str) : decide (V.str z = V.str "square") = decide (z = "square") := by
  by_cases h : z = "square"
  · rw [h, decide_eq_true rfl, decide_eq_true rfl]
  · rw [decide_eq_false h, decide_eq_false fun e => h (by injection e)]
theorem sc_sides_of : FnScope ["kind"] ["kind"] (defScope s_sides_of) := ⟨rfl, rfl, rfl, by decide +kernel, rfl, by decide +kernel, by decide +kernel⟩
theorem ok_sides_of {f : Addr} {fd : FuncData} (F : FunD K "sides_of" "sides_of" (defArgs s_sides_of) (defBody s_sides_of) (defScope s_sides_of) [] [] f fd) (Tx : Txt K mg) (h_need_kind : HasX P w K mg base "need_kind" 3 ["kind"] (sp_need_kind K))   : FnOk P w K mg base (L2.CX P w) 4 f fd ["kind"] (sp_sides_of K) := by
  obtain ⟨f_need_kind, fd_need_kind, G_need_kind, g_need_kind, k_need_kind, b_need_kind⟩ := h_need_kind
  refine FunD.ok F sc_sides_of (fun vs H Q E h => ?_) (fun cdv A outer s H vs Q E hr h => ?_)
  · obtain ⟨v, k, rfl, _⟩ := h
    rfl
  · obtain ⟨v, k, rfl, hk, q, r⟩ := h
    refine ⟨_, (pss_cons (ps_expr (pe_call G_need_kind (hr.mono (by decide)) (by rfl) g_need_kind k_need_kind b_need_kind .nil (passE rfl rfl rfl rfl) (pa_cons (pv 0) pa_nil)))
        (pss_one (ps_ret (pe_ifExp (pt_cmpR op_eq (pv 0) pe_str (nomark _)) pe_int pe_int)))), ?_⟩
    refine ⟨_, rfl, v, k, rfl, hk, fun e => ?_, fun e => r e⟩
    obtain ⟨z, rfl⟩ := grid_str e
    have q2 := q z rfl e
    refine ⟨_, rfl, rfl, _, rfl, ?_⟩
    rw [str_sq]
    unfold turnOf at q2
    refine ite2 (fun hz => ?_) (fun hz => ?_)
    · rw [if_pos (of_decide_eq_true hz)] at q2
      exact q2
    · rw [if_neg fun e => hz (decide_eq_true e)] at q2
      exact q2
theorem has_sides_of (Tx : Txt K mg) (c : He.SaysX fa fn [] tf ex w hh K) (X : K.In hh) (GG : hh.Ns mainGlobals mg) (h_need_kind : HasX P w K mg base "need_kind" 3 ["kind"] (sp_need_kind K))   : HasX P w K mg base "sides_of" 4 ["kind"] (sp_sides_of K) := by
  obtain ⟨fd, F⟩ := c.t.d.def_ 8 (d := d_sides_of) rfl
  exact ⟨_, fd, ok_sides_of F Tx h_need_kind, He.glo_ok X GG (c.t.d.fact 11 (f := .glo "sides_of") rfl), F.kp, F.bindsN fun _ _ _ _ _ _ us hl => match us, hl with | [_], _ => rfl⟩

def sp_full_of (K : PySem.W.Frag) : Sp := fun vs H Q E => ∃ (v : V) (k : Kd), vs = [v] ∧ KdV K H v k ∧ (∀ z, v = .str z → isGrid v = true → Q (.int (fullOf z)) H) ∧ (isGrid v = false → kdErr K E H)
theorem sc_full_of : FnScope ["kind"] ["kind"] (defScope s_full_of) := ⟨rfl, rfl, rfl, by decide +kernel, rfl, by decide +kernel, by decide +kernel⟩
theorem ok_full_of {f : Addr} {fd : FuncData} (F : FunD K "full_of" "full_of" (defArgs s_full_of) (defBody s_full_of) (defScope s_full_of) [] [] f fd) (Tx : Txt K mg) (h_need_kind : HasX P w K mg base "need_kind" 3 ["kind"] (sp_need_kind K))   : FnOk P w K mg base (L2.CX P w) 4 f fd ["kind"] (sp_full_of K) := by
  obtain ⟨f_need_kind, fd_need_kind, G_need_kind, g_need_kind, k_need_kind, b_need_kind⟩ := h_need_kind
  refine FunD.ok F sc_full_of (fun vs H Q E h => ?_) (fun cdv A outer s H vs Q E hr h => ?_)
  · obtain ⟨v, k, rfl, _⟩ := h
    rfl
  · obtain ⟨v, k, rfl, hk, q, r⟩ := h
    refine ⟨_, (pss_cons (ps_expr (pe_call G_need_kind (hr.mono (by decide)) (by rfl) g_need_kind k_need_kind b_need_kind .nil (passE rfl rfl rfl rfl) (pa_cons (pv 0) pa_nil)))
        (pss_one (ps_ret (pe_ifExp (pt_cmpR op_eq (pv 0) pe_str (nomark _)) pe_int pe_int)))), ?_⟩
    refine ⟨_, rfl, v, k, rfl, hk, fun e => ?_, fun e => r e⟩
    obtain ⟨z, rfl⟩ := grid_str e
    have q2 := q z rfl e
    refine ⟨_, rfl, rfl, _, rfl, ?_⟩
    rw [str_sq]
    unfold fullOf at q2
    refine ite2 (fun hz => ?_) (fun hz => ?_)
    · rw [if_pos (of_decide_eq_true hz)] at q2
      exact q2
    · rw [if_neg fun e => hz (decide_eq_true e)] at q2
      exact q2
theorem has_full_of (Tx : Txt K mg) (c : He.SaysX fa fn [] tf ex w hh K) (X : K.In hh) (GG : hh.Ns mainGlobals mg) (h_need_kind : HasX P w K mg base "need_kind" 3 ["kind"] (sp_need_kind K))   : HasX P w K mg base "full_of" 4 ["kind"] (sp_full_of K) := by
  obtain ⟨fd, F⟩ := c.t.d.def_ 9 (d := d_full_of) rfl
  exact ⟨_, fd, ok_full_of F Tx h_need_kind, He.glo_ok X GG (c.t.d.fact 12 (f := .glo "full_of") rfl), F.kp, F.bindsN fun _ _ _ _ _ _ us hl => match us, hl with | [_], _ => rfl⟩

end
end K04

namespace K04
open PySem PySem.Spec PyProof.Rows L2 Vf LamX
section
variable {hh : Heap} {P : Program} {w : World} {K : PySem.W.Frag} {mg : Str → Option Value} {base : Heap}
/-! ### the first that stands twice -/
theorem run_it {J : It} {n : Nat} {G : Hp → Prop} {Y : Nat → Hp → V → Hp → Prop} (w : Walk J n G Y) {B : (Hp → Prop) → V → Hp → Prop} {H0 : Hp} {Qd : Hp → Prop} (Pv : Nat → Hp → Prop) (h0 : Pv 0 H0) (hG : ∀ i H, i ≤ n → Pv i H → G H)
    (hs : ∀ i x H H', i < n → Pv i H → Y i H x H' → B (Pv (i + 1)) x H') (hd : ∀ H, Pv n H → Qd H) :
    ∃ W : Nat → Nat → Hp → Prop, (∃ m, W 0 m H0) ∧ ∀ i m H, W i m H → (J.stop i H ∧ Qd H) ∨ (J.go i H ∧ ∃ Nx : Hp → Prop, (∀ H', Nx H' → ∃ m', m' < m ∧ W (i + 1) m' H') ∧ ∀ x H', J.yld i H x H' → B Nx x H') := by
  refine ⟨fun i m H => m = n - i ∧ i ≤ n ∧ Pv i H, ⟨n, by simp, Nat.zero_le _, h0⟩, ?_⟩
  rintro i m H ⟨rfl, hi, p⟩
  have q := hG i H hi p
  by_cases hlt : i < n
  · exact .inr ⟨w.goes i H hlt q, Pv (i + 1), fun H' p' => ⟨n - (i + 1), by omega, rfl, hlt, p'⟩, fun x H' y => hs i x H H' hlt p (w.yields i H x H' hlt q y)⟩
  · have e : i = n := by omega
    subst e
    exact .inl ⟨w.stops H q, hd H p⟩
def optV : Option Int → V
  | none => .non
  | some t => .int t
def twF (seen : List Int) : List Int → Option Int
  | [] => none
  | x :: r => if x ∈ seen then some x else twF (x :: seen) r
def tw (ns : List Int) : Option Int := twF [] ns
def sp_first_twice (K : PySem.W.Frag) : Sp := fun vs H Q _ => ∃ (a : Addr) (ns : List Int), vs = [.ref a] ∧ SqL K H a (ns.map V.int) ∧ ns.length ≤ 1000 ∧ ∀ H', Same H H' → Q (optV (tw ns)) H'
theorem sc_first_twice : FnScope ["values", "seen", "value"] ["values"] (defScope s_first_twice) := ⟨rfl, rfl, rfl, by decide +kernel, rfl, by decide +kernel, by decide +kernel⟩
theorem ok_first_twice {f : Addr} {fd : FuncData} (F : FunD K "first_twice" "first_twice" (defArgs s_first_twice) (defBody s_first_twice) (defScope s_first_twice) [] [] f fd) (Tx : Txt K mg)    : FnOk P w K mg base CX0 1 f fd ["values"] (sp_first_twice K) := by
  refine FunD.ok F sc_first_twice (fun vs H Q E h => ?_) (fun cdv A outer s H vs Q E hr h => ?_)
  · obtain ⟨a, ns, rfl, _⟩ := h
    rfl
  · obtain ⟨a, ns, rfl, ha, hl, q⟩ := h
    refine ⟨_, PSs.nox (pss_cons (ps_set (i := 1) sc_first_twice.nd rfl (Or.inl rfl) (pe_callTy0 cr_set0K (by rfl) Tx.n_set (by decide +kernel)))
        (pss_cons (ps_for PassesOwn.never rfl (pi_list (pv 0)) (pg_name (i := 2) sc_first_twice.nd rfl (Or.inl rfl)) (pss_cons (ps_if (pt_cmpR or_sinK (pv 2) (pv 1) rfl) (pss_one (ps_ret (pv 2))) pss_nil)
        (pss_one (ps_expr (pe_saddK (pv 1) (pa_cons (pv 2) pa_nil))))))
        (pss_one (ps_ret pe_non)))), ?_⟩
    refine ⟨rfl, fun s ns0 => ?_⟩
    have s1 : Same H (upd H s (SetK P w s (fun _ => false) 0)) := same_new ns0
    refine ⟨_, rfl, a, rfl, ⟨_, sqL_same ha s1⟩, ?_⟩
    refine for_it (walk_list (K := K) (a := a) (xs := ns.map V.int)) (fun i σ H2 => ∃ (v : Option V) (seen : List Int) (S : Key → Bool) (n : Nat), σ = [some (.ref a), some (.ref s), v] ∧ Same H H2 ∧ H2 s = some (SetK P w s S n) ∧ n ≤ i ∧ (∀ k : Int, S (.inl k) = decide (k ∈ seen)) ∧ tw ns = twF seen (ns.drop i))
      ⟨none, [], _, 0, rfl, s1, upd_same, Nat.le_refl _, fun k => by simp, rfl⟩ (fun i σ H2 _ p => ?_) (fun i x σ H2 H3 hi p y => ?_) (fun σ H2 p => ?_)
    · obtain ⟨_, _, _, _, _, s2, _⟩ := p
      exact sqL_same ha s2
    · obtain ⟨v, seen, S, n, rfl, s2, hs, hn, hS, ht⟩ := p
      obtain ⟨rfl, hx⟩ := y
      rw [List.getElem?_map] at hx
      obtain ⟨m, hm, rfl⟩ := Option.map_eq_some_iff.mp hx
      obtain ⟨hlt, hm2⟩ := List.getElem?_eq_some_iff.mp hm
      have hd : ns.drop i = m :: ns.drop (i + 1) := by rw [List.drop_eq_getElem_cons hlt, hm2]
      rw [hd] at ht
      rw [List.length_map] at hi
      refine ⟨_, rfl, _, rfl, .inl m, s, S, n, rfl, rfl, hs, _, rfl, ?_⟩
      have ht2 : tw ns = if m ∈ seen then some m else twF (m :: seen) (ns.drop (i + 1)) := ht
      show if S (.inl m) = true then _ else _
      refine ite2 (fun e => ?_) (fun e => ?_)
      · rw [hS m] at e
        rw [if_pos (of_decide_eq_true e)] at ht2
        rw [ht2] at q
        exact ⟨_, rfl, q _ s2⟩
      · rw [hS m] at e
        rw [if_neg fun z => e (decide_eq_true z)] at ht2
        refine ⟨_, rfl, ⟨s, S, n, rfl, hs⟩, _, rfl, s, .inl m, S, n, rfl, rfl, hs, by show n + 1 < 4096; omega, ?_⟩
        refine ⟨_, m :: seen, _, _, rfl, Same.mut s2 ns0, upd_same, ?_, fun k => ?_, ht2⟩
        · split <;> omega
        · rw [hS k]
          by_cases hk : k = m
          · subst hk
            simp
          · simp [hk]
    · obtain ⟨v, seen, S, n, rfl, s2, hs, hn, hS, ht⟩ := p
      rw [List.length_map, List.drop_length] at ht
      have ht2 : tw ns = none := ht
      rw [ht2] at q
      exact q _ s2
theorem has_first_twice (Tx : Txt K mg) (c : He.SaysX fa fn [] tf ex w hh K) (X : K.In hh) (GG : hh.Ns mainGlobals mg)    : Has P w K mg base "first_twice" 1 ["values"] (sp_first_twice K) := by
  obtain ⟨fd, F⟩ := c.t.d.def_ 13 (d := d_first_twice) rfl
  exact ⟨_, fd, ok_first_twice F Tx , He.glo_ok X GG (c.t.d.fact 16 (f := .glo "first_twice") rfl), F.kp, F.bindsN fun _ _ _ _ _ _ us hl => match us, hl with | [_], _ => rfl⟩
/-! ### seams -/
/-- what is_seam tells of a value -/
def SeamSays (K : PySem.W.Frag) (H : Hp) (v : V) (k : Kd) (n : Int) (b : Bool) : Prop := (k.seq = false ∧ b = false) ∨ (k.seq = true ∧ ∃ (a : Addr) (xs : List V), v = .ref a ∧ (H a = some (.lst xs) ∨ H a = some (.tup xs)) ∧
  ((xs.length ≠ 2 ∧ b = false) ∨ ∃ (x y : V) (kx ky : Kd), xs = [x, y] ∧ KdV K H x kx ∧ KdV K H y ky ∧ b = (bnd x (.int 0) (.int (n - 1)) && (bnd y (.int 0) (.int (n - 1)) && !decide (x = y)))))
theorem SeamSays.same {H H' : Hp} {v : V} {k : Kd} {n : Int} {b : Bool} (h : SeamSays K H v k n b) (s : Same H H') : SeamSays K H' v k n b := by
  rcases h with h | ⟨h1, a, xs, e, h2, h3⟩
  · exact .inl h
  · refine .inr ⟨h1, a, xs, e, ?_, ?_⟩
    · rcases h2 with h2 | h2
      · exact .inl (s _ _ h2)
      · exact .inr (s _ _ h2)
    · rcases h3 with h3 | ⟨x, y, kx, ky, e1, h4, h5, h6⟩
      · exact .inl h3
      · exact .inr ⟨x, y, kx, ky, e1, h4.same s, h5.same s, h6⟩
theorem bnd_int {v l m : V} (h : bnd v l m = true) : ∃ i, v = .int i := by
  cases v with
  | int i => exact ⟨i, rfl⟩
  | _ => cases h
theorem len_ne {xs : List V} (h : xs.length ≠ 2) : (!decide (V.int (xs.length : Int) = V.int 2)) = true := by
  rw [decide_eq_false, Bool.not_false]
  intro e
  injection e with e
  omega
theorem len_eq {x y : V} : (!decide (V.int ([x, y].length : Int) = V.int 2)) = false := rfl
def sp_is_seam (K : PySem.W.Frag) : Sp := fun vs H Q _ => ∃ (v : V) (k : Kd) (n : Int) (b : Bool), vs = [v, .int n] ∧ KdV K H v k ∧ SeamSays K H v k n b ∧ ∀ H', Same H H' → Q (.bl b) H'
theorem sc_is_seam : FnScope ["value", "sides", "one", "other"] ["value", "sides"] (defScope s_is_seam) := ⟨rfl, rfl, rfl, by decide +kernel, rfl, by decide +kernel, by decide +kernel⟩
theorem ok_is_seam {f : Addr} {fd : FuncData} (F : FunD K "is_seam" "is_seam" (defArgs s_is_seam) (defBody s_is_seam) (defScope s_is_seam) [] [] f fd) (Tx : Txt K mg) (h_is_listed : Has P w K mg base "is_listed" 1 ["value"] (sp_is_listed K)) (h_is_within : Has P w K mg base "is_within" 2 ["value", "least", "most"] (sp_is_within K))   : FnOk P w K mg base CX0 3 f fd ["value", "sides"] (sp_is_seam K) := by
  obtain ⟨f_is_listed, fd_is_listed, G_is_listed, g_is_listed, k_is_listed, b_is_listed⟩ := h_is_listed
  obtain ⟨f_is_within, fd_is_within, G_is_within, g_is_within, k_is_within, b_is_within⟩ := h_is_within
  refine FunD.ok F sc_is_seam (fun vs H Q E h => ?_) (fun cdv A outer s H vs Q E hr h => ?_)
  · obtain ⟨v, k, n, b, rfl, _⟩ := h
    rfl
  · obtain ⟨v, k, n, b, rfl, hk, hs, q⟩ := h
    rcases hs with ⟨h1, rfl⟩ | ⟨h1, a, xs, rfl, h2, h3⟩
    · refine ⟨_, PSs.nox (pss_cons (ps_if (PW.pt (pw_or (pt_not (pt_val (pe_call G_is_listed (hr.mono (by decide)) (by rfl) g_is_listed k_is_listed b_is_listed .nil pass0 (pa_cons (pv 0) pa_nil)))) (pw_or1 (pt_cmpR op_ne (pe_callB call_len_seq (by rfl) Tx.n_len (by decide +kernel) (pa_cons (pv 0) pa_nil)) pe_int (nomark _))))) (pss_one (ps_ret pe_bl)) pss_nil)
        (pss_cons (ps_asg (pv 0) (pg_tup (by rfl) (pgs_cons (pg_name (i := 2) sc_is_seam.nd rfl (Or.inl rfl)) (pgs_cons (pg_name (i := 3) sc_is_seam.nd rfl (Or.inl rfl)) pgs_nil))))
        (pss_one (ps_ret (pe_and (pe_call G_is_within (hr.mono (by decide)) (by rfl) g_is_within k_is_within b_is_within .nil pass0 (pa_cons (pv 2) (pa_cons pe_int (pa_cons (pe_op op_sub (pv 1) pe_int) pa_nil)))) (pe_and (pe_call G_is_within (hr.mono (by decide)) (by rfl) g_is_within k_is_within b_is_within .nil pass0 (pa_cons (pv 3) (pa_cons pe_int (pa_cons (pe_op op_sub (pv 1) pe_int) pa_nil)))) (pe_one (pe_cmpR op_ne (pv 2) (pv 3) (nomark _))))))))), ?_⟩
      refine ⟨_, rfl, v, k, rfl, hk, fun H1 s1 => ⟨_, rfl, ?_⟩⟩
      rw [h1]
      exact iteT (q _ s1)
    · rcases h2 with h2 | h2
      · refine ⟨_, PSs.nox (pss_cons (ps_if (PW.pt (pw_or (pt_not (pt_val (pe_call G_is_listed (hr.mono (by decide)) (by rfl) g_is_listed k_is_listed b_is_listed .nil pass0 (pa_cons (pv 0) pa_nil)))) (pw_or1 (pt_cmpR op_ne (pe_callB call_len_seq (by rfl) Tx.n_len (by decide +kernel) (pa_cons (pv 0) pa_nil)) pe_int (nomark _))))) (pss_one (ps_ret pe_bl)) pss_nil)
        (pss_cons (ps_asg (pv 0) (pg_unl (by rfl) (pgs_cons (pg_name (i := 2) sc_is_seam.nd rfl (Or.inl rfl)) (pgs_cons (pg_name (i := 3) sc_is_seam.nd rfl (Or.inl rfl)) pgs_nil))))
        (pss_one (ps_ret (pe_and (pe_call G_is_within (hr.mono (by decide)) (by rfl) g_is_within k_is_within b_is_within .nil pass0 (pa_cons (pv 2) (pa_cons pe_int (pa_cons (pe_op op_sub (pv 1) pe_int) pa_nil)))) (pe_and (pe_call G_is_within (hr.mono (by decide)) (by rfl) g_is_within k_is_within b_is_within .nil pass0 (pa_cons (pv 3) (pa_cons pe_int (pa_cons (pe_op op_sub (pv 1) pe_int) pa_nil)))) (pe_one (pe_cmpR op_ne (pv 2) (pv 3) (nomark _))))))))), ?_⟩
        refine ⟨_, rfl, _, k, rfl, hk, fun H1 s1 => ⟨_, rfl, ?_⟩⟩
        rw [h1]
        refine iteF ?_
        have h2' := s1 _ _ h2
        refine ⟨_, rfl, a, _, rfl, .inl (SqL.of h2'), rfl, _, rfl, ?_⟩
        rcases h3 with ⟨h3, rfl⟩ | ⟨x, y, kx, ky, rfl, hx, hy, e⟩
        · exact ite2 (fun _ => q _ s1) (fun e => absurd (len_ne h3) e)
        · refine ite2 (fun e => absurd e (by rw [len_eq]; exact Bool.false_ne_true)) (fun _ => ?_)
          refine ⟨_, rfl, a, _, rfl, SqL.of h2', rfl, x, [y], rfl, y, [], rfl, rfl, ?_⟩
          refine ⟨_, rfl, _, rfl, _, _, rfl, rfl, x, .int 0, .int (n - 1), kx, rfl, hx.same s1, rfl, rfl, _, rfl, ?_⟩
          refine ite2 (fun e1 => ?_) (fun e1 => ?_)
          · refine ⟨_, rfl, _, rfl, _, _, rfl, rfl, y, .int 0, .int (n - 1), ky, rfl, hy.same s1, rfl, rfl, _, rfl, ?_⟩
            have q1 := q H1 s1
            rw [e, e1, Bool.true_and] at q1
            refine ite2 (fun e2 => ?_) (fun e2 => ?_)
            · rw [e2, Bool.true_and] at q1
              obtain ⟨i, rfl⟩ := bnd_int e1
              obtain ⟨j, rfl⟩ := bnd_int e2
              exact ⟨_, rfl, _, rfl, rfl, q1⟩
            · rw [Bool.eq_false_iff.mpr e2, Bool.false_and] at q1
              exact q1
          · have q1 := q H1 s1
            rw [e, Bool.eq_false_iff.mpr e1, Bool.false_and] at q1
            exact q1
      · refine ⟨_, PSs.nox (pss_cons (ps_if (PW.pt (pw_or (pt_not (pt_val (pe_call G_is_listed (hr.mono (by decide)) (by rfl) g_is_listed k_is_listed b_is_listed .nil pass0 (pa_cons (pv 0) pa_nil)))) (pw_or1 (pt_cmpR op_ne (pe_callB call_len_seq (by rfl) Tx.n_len (by decide +kernel) (pa_cons (pv 0) pa_nil)) pe_int (nomark _))))) (pss_one (ps_ret pe_bl)) pss_nil)
        (pss_cons (ps_asg (pv 0) (pg_tup (by rfl) (pgs_cons (pg_name (i := 2) sc_is_seam.nd rfl (Or.inl rfl)) (pgs_cons (pg_name (i := 3) sc_is_seam.nd rfl (Or.inl rfl)) pgs_nil))))
        (pss_one (ps_ret (pe_and (pe_call G_is_within (hr.mono (by decide)) (by rfl) g_is_within k_is_within b_is_within .nil pass0 (pa_cons (pv 2) (pa_cons pe_int (pa_cons (pe_op op_sub (pv 1) pe_int) pa_nil)))) (pe_and (pe_call G_is_within (hr.mono (by decide)) (by rfl) g_is_within k_is_within b_is_within .nil pass0 (pa_cons (pv 3) (pa_cons pe_int (pa_cons (pe_op op_sub (pv 1) pe_int) pa_nil)))) (pe_one (pe_cmpR op_ne (pv 2) (pv 3) (nomark _))))))))), ?_⟩
        refine ⟨_, rfl, _, k, rfl, hk, fun H1 s1 => ⟨_, rfl, ?_⟩⟩
        rw [h1]
        refine iteF ?_
        have h2' := s1 _ _ h2
        refine ⟨_, rfl, a, _, rfl, .inr (SqT.of h2'), rfl, _, rfl, ?_⟩
        rcases h3 with ⟨h3, rfl⟩ | ⟨x, y, kx, ky, rfl, hx, hy, e⟩
        · exact ite2 (fun _ => q _ s1) (fun e => absurd (len_ne h3) e)
        · refine ite2 (fun e => absurd e (by rw [len_eq]; exact Bool.false_ne_true)) (fun _ => ?_)
          refine ⟨_, rfl, a, _, rfl, SqT.of h2', rfl, x, [y], rfl, y, [], rfl, rfl, ?_⟩
          refine ⟨_, rfl, _, rfl, _, _, rfl, rfl, x, .int 0, .int (n - 1), kx, rfl, hx.same s1, rfl, rfl, _, rfl, ?_⟩
          refine ite2 (fun e1 => ?_) (fun e1 => ?_)
          · refine ⟨_, rfl, _, rfl, _, _, rfl, rfl, y, .int 0, .int (n - 1), ky, rfl, hy.same s1, rfl, rfl, _, rfl, ?_⟩
            have q1 := q H1 s1
            rw [e, e1, Bool.true_and] at q1
            refine ite2 (fun e2 => ?_) (fun e2 => ?_)
            · rw [e2, Bool.true_and] at q1
              obtain ⟨i, rfl⟩ := bnd_int e1
              obtain ⟨j, rfl⟩ := bnd_int e2
              exact ⟨_, rfl, _, rfl, rfl, q1⟩
            · rw [Bool.eq_false_iff.mpr e2, Bool.false_and] at q1
              exact q1
          · have q1 := q H1 s1
            rw [e, Bool.eq_false_iff.mpr e1, Bool.false_and] at q1
            exact q1
theorem has_is_seam (Tx : Txt K mg) (c : He.SaysX fa fn [] tf ex w hh K) (X : K.In hh) (GG : hh.Ns mainGlobals mg) (h_is_listed : Has P w K mg base "is_listed" 1 ["value"] (sp_is_listed K)) (h_is_within : Has P w K mg base "is_within" 2 ["value", "least", "most"] (sp_is_within K))   : Has P w K mg base "is_seam" 3 ["value", "sides"] (sp_is_seam K) := by
  obtain ⟨fd, F⟩ := c.t.d.def_ 18 (d := d_is_seam) rfl
  exact ⟨_, fd, ok_is_seam F Tx h_is_listed h_is_within, He.glo_ok X GG (c.t.d.fact 21 (f := .glo "is_seam") rfl), F.kp, F.bindsN fun _ _ _ _ _ _ us hl => match us, hl with | [_, _], _ => rfl⟩

end
end K04

namespace K04
open PySem PySem.Spec PyProof.Rows L2 Vf LamX
section
variable {hh : Heap} {P : Program} {w : World} {K : PySem.W.Frag} {mg : Str → Option Value} {base : Heap}
/-! ### the seams of a skin -/
def smErr (K : PySem.W.Frag) (E : XK) (H : Hp) : Prop := Rz E (He.ga K "BadSkin") [("part", .str "seams")] H
theorem bls_mapf (f : V → Bool) (xs : List V) : (xs.filter fun _ => true).map (fun x => V.bl (f x)) = (xs.map f).map V.bl := by
  rw [List.filter_eq_self.mpr fun _ _ => rfl, List.map_map]
  rfl
/-- the items of a list or a tuple -/
def Box (K : PySem.W.Frag) (H : Hp) (a : Addr) (xs : List V) : Prop := H a = some (.lst xs) ∨ SqT K H a xs
theorem Box.same {H H' : Hp} {a : Addr} {xs : List V} (h : Box K H a xs) (s : Same H H') : Box K H' a xs := by
  rcases h with h | h
  · exact .inl (s _ _ h)
  · exact .inr (sqT_same h s)
def sp_need_seams (K : PySem.W.Frag) : Sp := fun vs H Q E => ∃ (v : V) (k : Kd) (n : Int), vs = [v, .int n] ∧ KdV K H v k ∧
  ((k.seq = false ∧ smErr K E H) ∨ (k.seq = true ∧ ∃ (a : Addr) (xs : List V) (f : V → Bool), v = .ref a ∧ Box K H a xs ∧ xs.length ≤ 1000 ∧ (∀ x ∈ xs, ∃ kx, KdV K H x kx ∧ SeamSays K H x kx n (f x)) ∧
    (xs.all f = true → ∀ H', Same H H' → Q .non H') ∧ (xs.all f = false → smErr K E H)))
theorem all_id {f : V → Bool} {xs : List V} : (xs.map f).all id = xs.all f := by
  rw [List.all_map]
  rfl
theorem sc_need_seams : FnScope ["seams", "sides", "seam"] ["seams", "sides"] (defScope s_need_seams) := ⟨rfl, rfl, rfl, by decide +kernel, rfl, by decide +kernel, by decide +kernel⟩
theorem ok_need_seams {f : Addr} {fd : FuncData} (F : FunD K "need_seams" "need_seams" (defArgs s_need_seams) (defBody s_need_seams) (defScope s_need_seams) [] [] f fd) (Tx : Txt K mg) (h_is_listed : Has P w K mg base "is_listed" 1 ["value"] (sp_is_listed K)) (h_is_seam : Has P w K mg base "is_seam" 3 ["value", "sides"] (sp_is_seam K)) (h_BadSkin_init : HasM P w K mg base CX0 "BadSkin" "__init__" 1 ["self", "part"] (sp_BadSkin_init K))   : FnOk P w K mg base (L2.CX P w) 4 f fd ["seams", "sides"] (sp_need_seams K) := by
  obtain ⟨f_is_listed, fd_is_listed, G_is_listed, g_is_listed, k_is_listed, b_is_listed⟩ := h_is_listed
  obtain ⟨f_is_seam, fd_is_seam, G_is_seam, g_is_seam, k_is_seam, b_is_seam⟩ := h_is_seam
  obtain ⟨fd_BadSkin_init, G_BadSkin_init, b_BadSkin_init⟩ := h_BadSkin_init
  refine FunD.ok F sc_need_seams (fun vs H Q E h => ?_) (fun cdv A outer s H vs Q E hr h => ?_)
  · obtain ⟨v, k, n, rfl, _⟩ := h
    rfl
  · obtain ⟨v, k, n, rfl, hk, h⟩ := h
    rcases h with ⟨h1, r⟩ | ⟨h1, a, xs, f, rfl, hb, hl, hx, q, r⟩
    · refine ⟨_, (pss_one (ps_if (PW.pt (pw_or (pt_not (pt_val (pe_call G_is_listed (hr.mono (by decide)) (by rfl) g_is_listed k_is_listed b_is_listed .nil pass0 (pa_cons (pv 0) pa_nil)))) (pw_or1 (pt_not (pt_val (pe_callB (cr_all rfl) (by rfl) Tx.n_all (by decide +kernel) (pa_cons (pe_lc (own := [("seam", 2)]) (g := gName 2) (tt := tYes) rfl sc_need_seams.nd (pi_list (pv 0)) (blkOk_by (own := [("seam", 2)]) (N := ["seams", "sides", "seam"]) (sc := defScope s_need_seams) (by decide +kernel)) (fun _ _ _ _ _ => (pg_name (i := 2) sc_need_seams.nd rfl (Or.inl rfl))) (fun _ _ _ _ _ => pts_nil) (fun _ _ _ _ _ => (pe_call G_is_seam (hr.mono (by decide)) (by rfl) g_is_seam k_is_seam b_is_seam .nil pass0 (pa_cons (pv 2) (pa_cons (pv 1) pa_nil))))) pa_nil))))))) (pss_one (ps_raise rfl (takes_of rfl rfl rfl rfl) (pmk_oex Tx.er_BadSkin.oex Tx.er_BadSkin.ini Tx.er_BadSkin.fn G_BadSkin_init (hr.mono (by decide)) b_BadSkin_init .nil pass0 (by rfl) Tx.g_BadSkin (pa_cons pe_str pa_nil)))) pss_nil)), ?_⟩
      refine ⟨_, rfl, v, k, rfl, hk, fun H1 s1 => ⟨_, rfl, ?_⟩⟩
      rw [h1]
      exact iteT (mk1 Tx.er_BadSkin.oex (Tx.er_BadSkin.no "part" (by simp)) (r.same s1))
    · rcases hb with hb | hb
      · refine ⟨_, (pss_one (ps_if (PW.pt (pw_or (pt_not (pt_val (pe_call G_is_listed (hr.mono (by decide)) (by rfl) g_is_listed k_is_listed b_is_listed .nil pass0 (pa_cons (pv 0) pa_nil)))) (pw_or1 (pt_not (pt_val (pe_callB (cr_all rfl) (by rfl) Tx.n_all (by decide +kernel) (pa_cons (pe_lc (own := [("seam", 2)]) (g := gName 2) (tt := tYes) rfl sc_need_seams.nd (pi_list (pv 0)) (blkOk_by (own := [("seam", 2)]) (N := ["seams", "sides", "seam"]) (sc := defScope s_need_seams) (by decide +kernel)) (fun _ _ _ _ _ => (pg_name (i := 2) sc_need_seams.nd rfl (Or.inl rfl))) (fun _ _ _ _ _ => pts_nil) (fun _ _ _ _ _ => (pe_call G_is_seam (hr.mono (by decide)) (by rfl) g_is_seam k_is_seam b_is_seam .nil pass0 (pa_cons (pv 2) (pa_cons (pv 1) pa_nil))))) pa_nil))))))) (pss_one (ps_raise rfl (takes_of rfl rfl rfl rfl) (pmk_oex Tx.er_BadSkin.oex Tx.er_BadSkin.ini Tx.er_BadSkin.fn G_BadSkin_init (hr.mono (by decide)) b_BadSkin_init .nil pass0 (by rfl) Tx.g_BadSkin (pa_cons pe_str pa_nil)))) pss_nil)), ?_⟩
        refine ⟨_, rfl, _, k, rfl, hk, fun H1 s1 => ⟨_, rfl, ?_⟩⟩
        rw [h1]
        refine iteF ?_
        refine ⟨_, rfl, a, rfl, ⟨xs, SqL.of (s1 _ _ hb)⟩, fun D nD => ?_⟩
        refine lc_pure (walk_list (K := K) (a := a) (xs := xs)) xs rfl (by omega) (fun i H x H' y => ⟨same_of_eq y.1, y.2⟩) (fun x => .bl (f x)) (fun _ => true) nD (fun H s => SqL.of (s _ _ (s1 _ _ hb))) (fun i x H2 Q1 Q0 hi s2 q1 q0 => ?_) (fun H2 s2 hD => ?_)
        · refine ⟨rfl, ?_⟩
          obtain ⟨kx, h2, h3⟩ := hx x (List.mem_of_getElem? hi)
          exact ⟨_, rfl, _, rfl, x, kx, n, f x, rfl, (h2.same s1).same s2, (h3.same s1).same s2, fun H4 s4 => q1 rfl _ s4⟩
        · rw [bls_mapf] at hD
          refine ⟨D, _, rfl, SqL.of hD, _, rfl, ?_⟩
          rw [all_id]
          cases e : xs.all f with
          | true => exact q e _ (s1.trans s2)
          | false => exact mk1 Tx.er_BadSkin.oex (Tx.er_BadSkin.no "part" (by simp)) ((r e).same (s1.trans s2))
      · refine ⟨_, (pss_one (ps_if (PW.pt (pw_or (pt_not (pt_val (pe_call G_is_listed (hr.mono (by decide)) (by rfl) g_is_listed k_is_listed b_is_listed .nil pass0 (pa_cons (pv 0) pa_nil)))) (pw_or1 (pt_not (pt_val (pe_callB (cr_all rfl) (by rfl) Tx.n_all (by decide +kernel) (pa_cons (pe_lc (own := [("seam", 2)]) (g := gName 2) (tt := tYes) rfl sc_need_seams.nd (pi_tup (pv 0)) (blkOk_by (own := [("seam", 2)]) (N := ["seams", "sides", "seam"]) (sc := defScope s_need_seams) (by decide +kernel)) (fun _ _ _ _ _ => (pg_name (i := 2) sc_need_seams.nd rfl (Or.inl rfl))) (fun _ _ _ _ _ => pts_nil) (fun _ _ _ _ _ => (pe_call G_is_seam (hr.mono (by decide)) (by rfl) g_is_seam k_is_seam b_is_seam .nil pass0 (pa_cons (pv 2) (pa_cons (pv 1) pa_nil))))) pa_nil))))))) (pss_one (ps_raise rfl (takes_of rfl rfl rfl rfl) (pmk_oex Tx.er_BadSkin.oex Tx.er_BadSkin.ini Tx.er_BadSkin.fn G_BadSkin_init (hr.mono (by decide)) b_BadSkin_init .nil pass0 (by rfl) Tx.g_BadSkin (pa_cons pe_str pa_nil)))) pss_nil)), ?_⟩
        refine ⟨_, rfl, _, k, rfl, hk, fun H1 s1 => ⟨_, rfl, ?_⟩⟩
        rw [h1]
        refine iteF ?_
        refine ⟨_, rfl, a, rfl, ⟨xs, sqT_same hb s1⟩, fun D nD => ?_⟩
        refine lc_pure (walk_tup (K := K) (a := a) (xs := xs)) xs rfl (by omega) (fun i H x H' y => ⟨same_of_eq y.1, y.2⟩) (fun x => .bl (f x)) (fun _ => true) nD (fun H s => sqT_same (sqT_same hb s1) s) (fun i x H2 Q1 Q0 hi s2 q1 q0 => ?_) (fun H2 s2 hD => ?_)
        · refine ⟨rfl, ?_⟩
          obtain ⟨kx, h2, h3⟩ := hx x (List.mem_of_getElem? hi)
          exact ⟨_, rfl, _, rfl, x, kx, n, f x, rfl, (h2.same s1).same s2, (h3.same s1).same s2, fun H4 s4 => q1 rfl _ s4⟩
        · rw [bls_mapf] at hD
          refine ⟨D, _, rfl, SqL.of hD, _, rfl, ?_⟩
          rw [all_id]
          cases e : xs.all f with
          | true => exact q e _ (s1.trans s2)
          | false => exact mk1 Tx.er_BadSkin.oex (Tx.er_BadSkin.no "part" (by simp)) ((r e).same (s1.trans s2))
theorem has_need_seams (Tx : Txt K mg) (c : He.SaysX fa fn [] tf ex w hh K) (X : K.In hh) (GG : hh.Ns mainGlobals mg) (h_is_listed : Has P w K mg base "is_listed" 1 ["value"] (sp_is_listed K)) (h_is_seam : Has P w K mg base "is_seam" 3 ["value", "sides"] (sp_is_seam K)) (h_BadSkin_init : HasM P w K mg base CX0 "BadSkin" "__init__" 1 ["self", "part"] (sp_BadSkin_init K))   : HasX P w K mg base "need_seams" 4 ["seams", "sides"] (sp_need_seams K) := by
  obtain ⟨fd, F⟩ := c.t.d.def_ 19 (d := d_need_seams) rfl
  exact ⟨_, fd, ok_need_seams F Tx h_is_listed h_is_seam h_BadSkin_init, He.glo_ok X GG (c.t.d.fact 22 (f := .glo "need_seams") rfl), F.kp, F.bindsN fun _ _ _ _ _ _ us hl => match us, hl with | [_, _], _ => rfl⟩
/-! ### pairs of sides -/
/-- the tuples at ts are the pairs ps -/
structure Seams (H : Hp) (ts : List Addr) (ps : List (Int × Int)) : Prop where
  len : ts.length = ps.length
  at_ : ∀ (i : Nat) (t : Addr) (p : Int × Int), ts[i]? = some t → ps[i]? = some p → H t = some (.tup [.int p.1, .int p.2])
theorem Seams.same {H H' : Hp} {ts : List Addr} {ps : List (Int × Int)} (h : Seams H ts ps) (s : Same H H') : Seams H' ts ps := ⟨h.len, fun i t p h1 h2 => s _ _ (h.at_ i t p h1 h2)⟩
def flat2 (ps : List (Int × Int)) : List Int := ps.flatMap fun p => [p.1, p.2]
theorem flat2_len (ps : List (Int × Int)) : (flat2 ps).length = 2 * ps.length := by
  unfold flat2
  induction ps with
  | nil => rfl
  | cons p r ih => simp only [List.flatMap_cons, List.length_append, List.length_cons, List.length_nil, ih]; omega
theorem flat2_take {ps : List (Int × Int)} {i : Nat} {p : Int × Int} (h : ps[i]? = some p) : flat2 (ps.take (i + 1)) = flat2 (ps.take i) ++ [p.1, p.2] := by
  unfold flat2
  rw [List.take_add_one, h, Option.toList_some, List.flatMap_append]
  rfl
/-- the lists or tuples at ts are the pairs ps -/
def Pr2 (H : Hp) (t : Addr) (p : Int × Int) : Prop := H t = some (.tup [.int p.1, .int p.2]) ∨ H t = some (.lst [.int p.1, .int p.2])
theorem Pr2.same {H H' : Hp} {t : Addr} {p : Int × Int} (h : Pr2 H t p) (s : Same H H') : Pr2 H' t p := h.elim (fun e => .inl (s _ _ e)) (fun e => .inr (s _ _ e))
theorem Pr2.box {H : Hp} {t : Addr} {p : Int × Int} (h : Pr2 H t p) : SqB K H t [.int p.1, .int p.2] := h.elim (fun e => .inr (SqT.of e)) (fun e => .inl (SqL.of e))
structure SeamsB (H : Hp) (ts : List Addr) (ps : List (Int × Int)) : Prop where
  len : ts.length = ps.length
  at_ : ∀ (i : Nat) (t : Addr) (p : Int × Int), ts[i]? = some t → ps[i]? = some p → Pr2 H t p
theorem SeamsB.same {H H' : Hp} {ts : List Addr} {ps : List (Int × Int)} (h : SeamsB H ts ps) (s : Same H H') : SeamsB H' ts ps := ⟨h.len, fun i t p h1 h2 => (h.at_ i t p h1 h2).same s⟩
theorem Seams.b {H : Hp} {ts : List Addr} {ps : List (Int × Int)} (h : Seams H ts ps) : SeamsB H ts ps := ⟨h.len, fun i t p h1 h2 => .inl (h.at_ i t p h1 h2)⟩
theorem SeamsB.get {H : Hp} {ts : List Addr} {ps : List (Int × Int)} (h : SeamsB H ts ps) {i : Nat} {x : V} (hx : (ts.map V.ref)[i]? = some x) : ∃ t p, x = .ref t ∧ ts[i]? = some t ∧ ps[i]? = some p ∧ Pr2 H t p := by
  rw [List.getElem?_map] at hx
  obtain ⟨t, ht, rfl⟩ := Option.map_eq_some_iff.mp hx
  obtain ⟨hlt, _⟩ := List.getElem?_eq_some_iff.mp ht
  rw [h.len] at hlt
  exact ⟨t, ps[i], rfl, ht, List.getElem?_eq_getElem hlt, h.at_ i t _ ht (List.getElem?_eq_getElem hlt)⟩
/-- one seam of the walk -/
theorem Seams.get {H : Hp} {ts : List Addr} {ps : List (Int × Int)} (h : Seams H ts ps) {i : Nat} {x : V} (hx : (ts.map V.ref)[i]? = some x) : ∃ t p, x = .ref t ∧ ts[i]? = some t ∧ ps[i]? = some p ∧ H t = some (.tup [.int p.1, .int p.2]) := by
  rw [List.getElem?_map] at hx
  obtain ⟨t, ht, rfl⟩ := Option.map_eq_some_iff.mp hx
  obtain ⟨hlt, _⟩ := List.getElem?_eq_some_iff.mp ht
  rw [h.len] at hlt
  exact ⟨t, ps[i], rfl, ht, List.getElem?_eq_getElem hlt, h.at_ i t _ ht (List.getElem?_eq_getElem hlt)⟩
def sp_sides_in (K : PySem.W.Frag) : Sp := fun vs H Q _ => ∃ (a : Addr) (ts : List Addr) (ps : List (Int × Int)), vs = [.ref a] ∧ Box K H a (ts.map V.ref) ∧ SeamsB H ts ps ∧ ps.length ≤ 400 ∧
  ∀ H' r, Same H H' → H r = none → H' r = some (.lst ((flat2 ps).map V.int)) → Q (.ref r) H'
theorem two_at {x y : Int} {j : Nat} {v : V} (h : [V.int x, V.int y][j]? = some v) : ∃ m, v = .int m ∧ [x, y].take (j + 1) = [x, y].take j ++ [m] := by
  match j, h with
  | 0, h => exact ⟨x, (Option.some.inj h).symm, rfl⟩
  | 1, h => exact ⟨y, (Option.some.inj h).symm, rfl⟩
  | j + 2, h => simp at h
theorem sc_sides_in : FnScope ["seams", "seam", "side"] ["seams"] (defScope s_sides_in) := ⟨rfl, rfl, rfl, by decide +kernel, rfl, by decide +kernel, by decide +kernel⟩
theorem ok_sides_in {f : Addr} {fd : FuncData} (F : FunD K "sides_in" "sides_in" (defArgs s_sides_in) (defBody s_sides_in) (defScope s_sides_in) [] [] f fd) (Tx : Txt K mg)    : FnOk P w K mg base CX0 1 f fd ["seams"] (sp_sides_in K) := by
  refine FunD.ok F sc_sides_in (fun vs H Q E h => ?_) (fun cdv A outer s H vs Q E hr h => ?_)
  · obtain ⟨a, ts, ps, rfl, _⟩ := h
    rfl
  · obtain ⟨a, ts, ps, rfl, hb, hs, hl, q⟩ := h
    have len2 : ∀ (i j : Nat) (pr : Int × Int), ((flat2 (ps.take i) ++ [pr.1, pr.2].take j).map V.int).length < sizeLine := fun i j pr => by
      refine small_line ?_
      rw [List.length_map, List.length_append, flat2_len, List.length_take, List.length_take]
      have : [pr.1, pr.2].length = 2 := rfl
      omega
    rcases hb with hb | hb
    · refine ⟨_, PSs.nox (pss_one (ps_ret (pe_lc2 (wi1 := iBox K (tVar 1)) (own := [("seam", 1), ("side", 2)]) (vs1 := [2]) (tt := tYes) (tt1 := tYes) rfl sc_sides_in.nd (pi_list (pv 0)) (blkOk_by (own := [("seam", 1), ("side", 2)]) (N := ["seams", "seam", "side"]) (sc := defScope s_sides_in) (by decide +kernel)) (by decide) (fun _ _ _ _ _ => (pg_name (i := 1) sc_sides_in.nd rfl (Or.inl rfl))) (fun _ _ _ _ _ => pts_nil) (fun _ _ _ _ _ => (pi_box (pv 1))) (fun _ _ _ _ _ => (pg_name (i := 2) sc_sides_in.nd rfl (Or.inl rfl))) (fun _ _ _ _ _ => pts_nil) (fun _ _ _ _ _ => (pv 2))))), ?_⟩
      refine ⟨_, rfl, a, rfl, ⟨_, SqL.of hb⟩, fun D nD => ?_⟩
      refine run_it (walk_list (K := K) (a := a) (xs := ts.map V.ref)) (fun i H' => Same H H' ∧ H' D = some (.lst ((flat2 (ps.take i)).map V.int))) ⟨same_new nD, upd_same⟩ (fun i H' _ p => SqL.of (p.1 _ _ hb)) (fun i x H2 H3 hi p y => ?_) (fun H' p => ?_)
      · obtain ⟨rfl, hx⟩ := y
        obtain ⟨t, pr, rfl, ht, hp, htup⟩ := hs.get hx
        refine ⟨rfl, ?_⟩
        rcases htup with htup | htup
        · refine .inr ⟨_, rfl, t, rfl, ⟨_, SqT.of (p.1 _ _ htup)⟩, ?_⟩
          refine run_it (walk_tup (K := K) (a := t) (xs := [.int pr.1, .int pr.2])) (fun j H' => Same H H' ∧ H' D = some (.lst ((flat2 (ps.take i) ++ [pr.1, pr.2].take j).map V.int))) ⟨p.1, by rw [List.take_zero, List.append_nil]; exact p.2⟩ (fun j H' _ p => SqT.of (p.1 _ _ htup)) (fun j x H4 H5 hj p4 y4 => ?_) (fun H' p4 => ?_)
          · obtain ⟨rfl, hx2⟩ := y4
            obtain ⟨m, rfl, em⟩ := two_at hx2
            refine ⟨rfl, ?_⟩
            refine ⟨_, rfl, _, p4.2, len2 i j pr, Same.mut p4.1 nD, ?_⟩
            rw [upd_same, em]
            simp only [List.map_append, List.append_assoc, List.map_cons, List.map_nil]
          · refine ⟨p4.1, ?_⟩
            rw [p4.2, flat2_take hp]
            rfl
        · refine .inl ⟨_, rfl, t, rfl, ⟨_, SqL.of (p.1 _ _ htup)⟩, ?_⟩
          refine run_it (walk_list (K := K) (a := t) (xs := [.int pr.1, .int pr.2])) (fun j H' => Same H H' ∧ H' D = some (.lst ((flat2 (ps.take i) ++ [pr.1, pr.2].take j).map V.int))) ⟨p.1, by rw [List.take_zero, List.append_nil]; exact p.2⟩ (fun j H' _ p => SqL.of (p.1 _ _ htup)) (fun j x H4 H5 hj p4 y4 => ?_) (fun H' p4 => ?_)
          · obtain ⟨rfl, hx2⟩ := y4
            obtain ⟨m, rfl, em⟩ := two_at hx2
            refine ⟨rfl, ?_⟩
            refine ⟨_, rfl, _, p4.2, len2 i j pr, Same.mut p4.1 nD, ?_⟩
            rw [upd_same, em]
            simp only [List.map_append, List.append_assoc, List.map_cons, List.map_nil]
          · refine ⟨p4.1, ?_⟩
            rw [p4.2, flat2_take hp]
            rfl
      · refine q _ _ p.1 nD ?_
        rw [p.2, List.length_map, hs.len, List.take_length]
    · refine ⟨_, PSs.nox (pss_one (ps_ret (pe_lc2 (wi1 := iBox K (tVar 1)) (own := [("seam", 1), ("side", 2)]) (vs1 := [2]) (tt := tYes) (tt1 := tYes) rfl sc_sides_in.nd (pi_tup (pv 0)) (blkOk_by (own := [("seam", 1), ("side", 2)]) (N := ["seams", "seam", "side"]) (sc := defScope s_sides_in) (by decide +kernel)) (by decide) (fun _ _ _ _ _ => (pg_name (i := 1) sc_sides_in.nd rfl (Or.inl rfl))) (fun _ _ _ _ _ => pts_nil) (fun _ _ _ _ _ => (pi_box (pv 1))) (fun _ _ _ _ _ => (pg_name (i := 2) sc_sides_in.nd rfl (Or.inl rfl))) (fun _ _ _ _ _ => pts_nil) (fun _ _ _ _ _ => (pv 2))))), ?_⟩
      refine ⟨_, rfl, a, rfl, ⟨_, hb⟩, fun D nD => ?_⟩
      refine run_it (walk_tup (K := K) (a := a) (xs := ts.map V.ref)) (fun i H' => Same H H' ∧ H' D = some (.lst ((flat2 (ps.take i)).map V.int))) ⟨same_new nD, upd_same⟩ (fun i H' _ p => sqT_same hb p.1) (fun i x H2 H3 hi p y => ?_) (fun H' p => ?_)
      · obtain ⟨rfl, hx⟩ := y
        obtain ⟨t, pr, rfl, ht, hp, htup⟩ := hs.get hx
        refine ⟨rfl, ?_⟩
        rcases htup with htup | htup
        · refine .inr ⟨_, rfl, t, rfl, ⟨_, SqT.of (p.1 _ _ htup)⟩, ?_⟩
          refine run_it (walk_tup (K := K) (a := t) (xs := [.int pr.1, .int pr.2])) (fun j H' => Same H H' ∧ H' D = some (.lst ((flat2 (ps.take i) ++ [pr.1, pr.2].take j).map V.int))) ⟨p.1, by rw [List.take_zero, List.append_nil]; exact p.2⟩ (fun j H' _ p => SqT.of (p.1 _ _ htup)) (fun j x H4 H5 hj p4 y4 => ?_) (fun H' p4 => ?_)
          · obtain ⟨rfl, hx2⟩ := y4
            obtain ⟨m, rfl, em⟩ := two_at hx2
            refine ⟨rfl, ?_⟩
            refine ⟨_, rfl, _, p4.2, len2 i j pr, Same.mut p4.1 nD, ?_⟩
            rw [upd_same, em]
            simp only [List.map_append, List.append_assoc, List.map_cons, List.map_nil]
          · refine ⟨p4.1, ?_⟩
            rw [p4.2, flat2_take hp]
            rfl
        · refine .inl ⟨_, rfl, t, rfl, ⟨_, SqL.of (p.1 _ _ htup)⟩, ?_⟩
          refine run_it (walk_list (K := K) (a := t) (xs := [.int pr.1, .int pr.2])) (fun j H' => Same H H' ∧ H' D = some (.lst ((flat2 (ps.take i) ++ [pr.1, pr.2].take j).map V.int))) ⟨p.1, by rw [List.take_zero, List.append_nil]; exact p.2⟩ (fun j H' _ p => SqL.of (p.1 _ _ htup)) (fun j x H4 H5 hj p4 y4 => ?_) (fun H' p4 => ?_)
          · obtain ⟨rfl, hx2⟩ := y4
            obtain ⟨m, rfl, em⟩ := two_at hx2
            refine ⟨rfl, ?_⟩
            refine ⟨_, rfl, _, p4.2, len2 i j pr, Same.mut p4.1 nD, ?_⟩
            rw [upd_same, em]
            simp only [List.map_append, List.append_assoc, List.map_cons, List.map_nil]
          · refine ⟨p4.1, ?_⟩
            rw [p4.2, flat2_take hp]
            rfl
      · refine q _ _ p.1 nD ?_
        rw [p.2, List.length_map, hs.len, List.take_length]
theorem has_sides_in (Tx : Txt K mg) (c : He.SaysX fa fn [] tf ex w hh K) (X : K.In hh) (GG : hh.Ns mainGlobals mg)    : Has P w K mg base "sides_in" 1 ["seams"] (sp_sides_in K) := by
  obtain ⟨fd, F⟩ := c.t.d.def_ 20 (d := d_sides_in) rfl
  exact ⟨_, fd, ok_sides_in F Tx , He.glo_ok X GG (c.t.d.fact 23 (f := .glo "sides_in") rfl), F.kp, F.bindsN fun _ _ _ _ _ _ us hl => match us, hl with | [_], _ => rfl⟩
/-! ### mates -/
def msF (ms : List V) (p : Int × Int) : List V := (ms.set p.1.toNat (.int p.2)).set p.2.toNat (.int p.1)
def msL (ps : List (Int × Int)) (n : Nat) : List V := ps.foldl msF (List.replicate n .non)
theorem msF_len (ms : List V) (p : Int × Int) : (msF ms p).length = ms.length := by unfold msF; simp
theorem msL_len (ps : List (Int × Int)) (n : Nat) : (msL ps n).length = n := by
  unfold msL
  suffices h : ∀ ms : List V, (ps.foldl msF ms).length = ms.length by rw [h, List.length_replicate]
  induction ps with
  | nil => intro ms; rfl
  | cons p r ih => intro ms; rw [List.foldl_cons, ih, msF_len]
theorem msL_take {ps : List (Int × Int)} {i n : Nat} {p : Int × Int} (h : ps[i]? = some p) : msL (ps.take (i + 1)) n = msF (msL (ps.take i) n) p := by
  unfold msL
  rw [List.take_add_one, h, Option.toList_some, List.foldl_append]
  rfl
/-- a pair of sides of a skin of n sides -/
def Pok (n : Int) (p : Int × Int) : Prop := 0 ≤ p.1 ∧ p.1 < n ∧ 0 ≤ p.2 ∧ p.2 < n ∧ p.1 ≠ p.2
theorem ixN_at {n j : Nat} (hj : j < n) : ixN n (j : Int) = some j := by
  unfold ixN
  rw [if_pos (by omega), if_pos (by omega)]
  simp
theorem ixN_in {n : Nat} {i : Int} (h0 : 0 ≤ i) (h1 : i < n) : ixN n i = some i.toNat := by
  obtain ⟨j, rfl⟩ := Int.eq_ofNat_of_zero_le h0
  rw [ixN_at (by omega)]
  rfl
def sp_mates_of (K : PySem.W.Frag) : Sp := fun vs H Q _ => ∃ (a : Addr) (ts : List Addr) (ps : List (Int × Int)) (n : Int), vs = [.ref a, .int n] ∧ Box K H a (ts.map V.ref) ∧ SeamsB H ts ps ∧ (∀ p ∈ ps, Pok n p) ∧ 0 ≤ n ∧ n ≤ 100 ∧
  ∀ H' r, Same H H' → H r = none → H' r = some (.tup (msL ps n.toNat)) → Q (.ref r) H'
theorem rep_one (n : Nat) : (List.replicate n [V.non]).flatten = List.replicate n V.non := by
  induction n with
  | zero => rfl
  | succ n ih => rw [List.replicate_succ, List.flatten_cons, ih, List.replicate_succ]; rfl
theorem sc_mates_of : FnScope ["seams", "sides", "mates", "one", "other"] ["seams", "sides"] (defScope s_mates_of) := ⟨rfl, rfl, rfl, by decide +kernel, rfl, by decide +kernel, by decide +kernel⟩
theorem ok_mates_of {f : Addr} {fd : FuncData} (F : FunD K "mates_of" "mates_of" (defArgs s_mates_of) (defBody s_mates_of) (defScope s_mates_of) [] [] f fd) (Tx : Txt K mg)    : FnOk P w K mg base CX0 1 f fd ["seams", "sides"] (sp_mates_of K) := by
  refine FunD.ok F sc_mates_of (fun vs H Q E h => ?_) (fun cdv A outer s H vs Q E hr h => ?_)
  · obtain ⟨a, ts, ps, n, rfl, _⟩ := h
    rfl
  · obtain ⟨a, ts, ps, n, rfl, hb, hs, hok, n0, n1, q⟩ := h
    rcases hb with hb | hb
    · refine ⟨_, PSs.nox (pss_cons (ps_set (i := 2) sc_mates_of.nd rfl (Or.inl rfl) (pe_op op_rep (pe_lst (pa_cons pe_non pa_nil)) (pv 1)))
        (pss_cons (ps_for PassesOwn.never rfl (pi_list (pv 0)) (pg_box (by rfl) (pgs_cons (pg_name (i := 3) sc_mates_of.nd rfl (Or.inl rfl)) (pgs_cons (pg_name (i := 4) sc_mates_of.nd rfl (Or.inl rfl)) pgs_nil))) (pss_cons (ps_asg (pv 4) (pg_sub (pv 2) (pv 3) set_list))
        (pss_one (ps_asg (pv 3) (pg_sub (pv 2) (pv 4) set_list)))))
        (pss_one (ps_ret (pe_callTy call_tuple_of (by rfl) Tx.n_tuple (by decide +kernel) (pa_cons (pv 2) pa_nil)))))), ?_⟩
      refine ⟨le_line (n := 1) (by decide), fun l nl => ⟨_, rfl, l, n, _, rfl, rfl, upd_same, by omega, by omega, le_line (by show 1 * n.toNat ≤ 100000; omega), fun m nm => ?_⟩⟩
      rw [rep_one]
      have s1 : Same H (upd H l (.lst [.non])) := same_new nl
      have nm0 : H m = none := s1.free nm
      have s2 := s1.trans (same_new (o := .lst (List.replicate n.toNat .non)) nm)
      refine ⟨_, rfl, a, rfl, ⟨_, SqL.of (s2 _ _ hb)⟩, ?_⟩
      refine for_it (walk_list (K := K) (a := a) (xs := ts.map V.ref)) (fun i σ H2 => ∃ (x y : Option V), σ = [some (.ref a), some (.int n), some (.ref m), x, y] ∧ Same H H2 ∧ H2 m = some (.lst (msL (ps.take i) n.toNat)))
        ⟨none, none, rfl, s2, upd_same⟩ (fun i σ H2 _ p => ?_) (fun i x σ H2 H3 hi p y => ?_) (fun σ H2 p => ?_)
      · obtain ⟨_, _, _, s3, _⟩ := p
        exact SqL.of (s3 _ _ hb)
      · obtain ⟨x0, y0, rfl, s3, hm⟩ := p
        obtain ⟨rfl, hx⟩ := y
        obtain ⟨t, pr, rfl, ht, hp, htup⟩ := hs.get hx
        obtain ⟨p0, p1, p2, p3, p4⟩ := hok pr (List.mem_of_getElem? hp)
        refine ⟨t, _, rfl, (htup.same s3).box, rfl, _, _, rfl, _, _, rfl, rfl, ?_⟩
        refine ⟨_, rfl, _, rfl, _, rfl, m, _, pr.1, pr.1.toNat, rfl, rfl, hm, ixN_in p0 (by rw [msL_len]; omega), ?_⟩
        refine ⟨_, rfl, _, rfl, _, rfl, m, _, pr.2, pr.2.toNat, rfl, rfl, upd_same, ixN_in p2 (by rw [List.length_set, msL_len]; omega), ?_⟩
        refine ⟨_, _, rfl, Same.mut (Same.mut s3 nm0) nm0, ?_⟩
        rw [upd_same, msL_take hp]
        rfl
      · obtain ⟨x0, y0, rfl, s3, hm⟩ := p
        rw [List.length_map, hs.len, List.take_length] at hm
        refine ⟨_, rfl, m, _, rfl, .inl ⟨SqL.of hm, fun r nr => ?_⟩⟩
        exact q _ _ (s3.trans (same_new nr)) (s3.free nr) upd_same
    · refine ⟨_, PSs.nox (pss_cons (ps_set (i := 2) sc_mates_of.nd rfl (Or.inl rfl) (pe_op op_rep (pe_lst (pa_cons pe_non pa_nil)) (pv 1)))
        (pss_cons (ps_for PassesOwn.never rfl (pi_tup (pv 0)) (pg_box (by rfl) (pgs_cons (pg_name (i := 3) sc_mates_of.nd rfl (Or.inl rfl)) (pgs_cons (pg_name (i := 4) sc_mates_of.nd rfl (Or.inl rfl)) pgs_nil))) (pss_cons (ps_asg (pv 4) (pg_sub (pv 2) (pv 3) set_list))
        (pss_one (ps_asg (pv 3) (pg_sub (pv 2) (pv 4) set_list)))))
        (pss_one (ps_ret (pe_callTy call_tuple_of (by rfl) Tx.n_tuple (by decide +kernel) (pa_cons (pv 2) pa_nil)))))), ?_⟩
      refine ⟨le_line (n := 1) (by decide), fun l nl => ⟨_, rfl, l, n, _, rfl, rfl, upd_same, by omega, by omega, le_line (by show 1 * n.toNat ≤ 100000; omega), fun m nm => ?_⟩⟩
      rw [rep_one]
      have s1 : Same H (upd H l (.lst [.non])) := same_new nl
      have nm0 : H m = none := s1.free nm
      have s2 := s1.trans (same_new (o := .lst (List.replicate n.toNat .non)) nm)
      refine ⟨_, rfl, a, rfl, ⟨_, sqT_same hb s2⟩, ?_⟩
      refine for_it (walk_tup (K := K) (a := a) (xs := ts.map V.ref)) (fun i σ H2 => ∃ (x y : Option V), σ = [some (.ref a), some (.int n), some (.ref m), x, y] ∧ Same H H2 ∧ H2 m = some (.lst (msL (ps.take i) n.toNat)))
        ⟨none, none, rfl, s2, upd_same⟩ (fun i σ H2 _ p => ?_) (fun i x σ H2 H3 hi p y => ?_) (fun σ H2 p => ?_)
      · obtain ⟨_, _, _, s3, _⟩ := p
        exact sqT_same hb s3
      · obtain ⟨x0, y0, rfl, s3, hm⟩ := p
        obtain ⟨rfl, hx⟩ := y
        obtain ⟨t, pr, rfl, ht, hp, htup⟩ := hs.get hx
        obtain ⟨p0, p1, p2, p3, p4⟩ := hok pr (List.mem_of_getElem? hp)
        refine ⟨t, _, rfl, (htup.same s3).box, rfl, _, _, rfl, _, _, rfl, rfl, ?_⟩
        refine ⟨_, rfl, _, rfl, _, rfl, m, _, pr.1, pr.1.toNat, rfl, rfl, hm, ixN_in p0 (by rw [msL_len]; omega), ?_⟩
        refine ⟨_, rfl, _, rfl, _, rfl, m, _, pr.2, pr.2.toNat, rfl, rfl, upd_same, ixN_in p2 (by rw [List.length_set, msL_len]; omega), ?_⟩
        refine ⟨_, _, rfl, Same.mut (Same.mut s3 nm0) nm0, ?_⟩
        rw [upd_same, msL_take hp]
        rfl
      · obtain ⟨x0, y0, rfl, s3, hm⟩ := p
        rw [List.length_map, hs.len, List.take_length] at hm
        refine ⟨_, rfl, m, _, rfl, .inl ⟨SqL.of hm, fun r nr => ?_⟩⟩
        exact q _ _ (s3.trans (same_new nr)) (s3.free nr) upd_same
theorem has_mates_of (Tx : Txt K mg) (c : He.SaysX fa fn [] tf ex w hh K) (X : K.In hh) (GG : hh.Ns mainGlobals mg)    : Has P w K mg base "mates_of" 1 ["seams", "sides"] (sp_mates_of K) := by
  obtain ⟨fd, F⟩ := c.t.d.def_ 21 (d := d_mates_of) rfl
  exact ⟨_, fd, ok_mates_of F Tx , He.glo_ok X GG (c.t.d.fact 24 (f := .glo "mates_of") rfl), F.kp, F.bindsN fun _ _ _ _ _ _ us hl => match us, hl with | [_, _], _ => rfl⟩

end
end K04

namespace K04
open PySem PySem.Spec PyProof.Rows L2 Vf LamX
section
variable {hh : Heap} {P : Program} {w : World} {K : PySem.W.Frag} {mg : Str → Option Value} {base : Heap}
/-! ### a skin -/
theorem st_app {f : Str} {v : V} : ∀ {fs : List (Str × V)} {ns : List Str}, fs.map (·.1) = ns → f ∉ ns → putF f v fs = fs ++ [(f, v)]
  | [], _, _, _ => rfl
  | (g, x) :: r, ns, hn, hf => by
    subst hn
    have h1 : g ≠ f := fun e => hf (by rw [e]; exact List.mem_cons_self ..)
    have h2 : f ∉ r.map (·.1) := fun e => hf (List.mem_cons_of_mem _ e)
    show (if g = f then (g, v) :: r else (g, x) :: putF f v r) = _
    rw [if_neg h1, st_app rfl h2]
    rfl
def srt (p : Int × Int) : Int × Int := (if p.2 < p.1 then p.2 else p.1, if p.1 < p.2 then p.2 else p.1)
def freeB (ms : List V) (i : Nat) : Bool := match ms[i]? with
  | some .non => true
  | _ => false
def frL (ps : List (Int × Int)) (n : Nat) : List Int := ((List.range n).filter (freeB (msL ps n))).map Int.ofNat
def skF (z : Str) (n : Int) (st mt : Addr) (nb : Addr × Addr) (ft : Addr) : List (Str × V) := [("kind", .str z), ("faces", .int n), ("turn", .int (turnOf z)), ("full", .int (fullOf z)), ("sides", .int (n * turnOf z)), ("seams", .ref st), ("mates", .ref mt), ("nexts", .ref nb.1), ("backs", .ref nb.2), ("free", .ref ft)]
/-- for each side the one so many places behind it in its face -/
def tnF (t b : Int) : V → V
  | .int i => .int (i / t * t + (i + b) % t)
  | v => v
def tnL (N : Nat) (t b : Int) : List V := (List.range N).map fun i : Nat => V.int ((i : Int) / t * t + ((i : Int) + b) % t)
/-- a skin of the kind z, of n faces, with the seams ps as told -/
structure SkinIs (K : PySem.W.Frag) (H : Hp) (x : Addr) (z : Str) (n : Int) (ps : List (Int × Int)) (dx st mt ft : Addr) (us : List Addr) (qs : List (Int × Int)) : Prop where
  ins0 : ∃ nb : Addr × Addr, H x = some (.ins (He.ga K "Skin") dx (skF z n st mt nb ft)) ∧ H nb.1 = some (.tup (tnL (n * turnOf z).toNat (turnOf z) 1)) ∧ H nb.2 = some (.tup (tnL (n * turnOf z).toNat (turnOf z) (turnOf z - 1)))
  seams : H st = some (.tup (us.map V.ref))
  sts : Seams H us qs
  perm : qs.Perm (ps.map srt)
  srtd : SrtO.Srtd SrtO.lexB qs
  mates : H mt = some (.tup (msL ps (n * turnOf z).toNat))
  free : H ft = some (.tup ((frL ps (n * turnOf z).toNat).map V.int))
noncomputable def SkinIs.nb {H : Hp} {x dx st mt ft : Addr} {us : List Addr} {z : Str} {n : Int} {ps qs : List (Int × Int)} (h : SkinIs K H x z n ps dx st mt ft us qs) : Addr × Addr := Classical.choose h.ins0
theorem SkinIs.ins {H : Hp} {x dx st mt ft : Addr} {us : List Addr} {z : Str} {n : Int} {ps qs : List (Int × Int)} (h : SkinIs K H x z n ps dx st mt ft us qs) : H x = some (.ins (He.ga K "Skin") dx (skF z n st mt h.nb ft)) := (Classical.choose_spec h.ins0).1
theorem SkinIs.nexts {H : Hp} {x dx st mt ft : Addr} {us : List Addr} {z : Str} {n : Int} {ps qs : List (Int × Int)} (h : SkinIs K H x z n ps dx st mt ft us qs) : H h.nb.1 = some (.tup (tnL (n * turnOf z).toNat (turnOf z) 1)) := (Classical.choose_spec h.ins0).2.1
theorem SkinIs.backs {H : Hp} {x dx st mt ft : Addr} {us : List Addr} {z : Str} {n : Int} {ps qs : List (Int × Int)} (h : SkinIs K H x z n ps dx st mt ft us qs) : H h.nb.2 = some (.tup (tnL (n * turnOf z).toNat (turnOf z) (turnOf z - 1))) := (Classical.choose_spec h.ins0).2.2
def SkinAt (K : PySem.W.Frag) (H : Hp) (x : Addr) (z : Str) (n : Int) (ps : List (Int × Int)) : Prop := ∃ dx st mt ft us qs, SkinIs K H x z n ps dx st mt ft us qs
def SBox (K : PySem.W.Frag) (H : Hp) (a : Addr) (xs : List V) : Prop := H a = some (.lst xs) ∨ H a = some (.tup xs) ∨ (xs = [] ∧ a = dflA K)
theorem SBox.box {H : Hp} {a : Addr} {xs : List V} (Tx : Txt K mg) (h : SBox K H a xs) : Box K H a xs := by
  rcases h with h | h | ⟨rfl, rfl⟩
  · exact .inl h
  · exact .inr (SqT.of h)
  · obtain ⟨od, n, sl, e⟩ := Tx.dfl
    exact .inr (.inr ⟨_, #[], n, e, rfl, rfl, Nat.zero_le _, .nil⟩)
theorem SBox.kd {H : Hp} {a : Addr} {xs : List V} (Tx : Txt K mg) (h : SBox K H a xs) : ∃ k : Kd, KdV K H (.ref a) k ∧ k.seq = true := by
  rcases h with h | h | ⟨rfl, rfl⟩
  · exact ⟨.list, ⟨_, h⟩, rfl⟩
  · exact ⟨.tuple, .inl ⟨_, h⟩, rfl⟩
  · obtain ⟨od, n, sl, e⟩ := Tx.dfl
    exact ⟨.tuple, .inr ⟨_, e, rfl⟩, rfl⟩
theorem SBox.same {H H' : Hp} {a : Addr} {xs : List V} (h : SBox K H a xs) (s : Same H H') : SBox K H' a xs := by
  rcases h with h | h | h
  · exact .inl (s _ _ h)
  · exact .inr (.inl (s _ _ h))
  · exact .inr (.inr h)
theorem says_ok {H : Hp} {t : Addr} {p : Int × Int} {n : Int} (h : H t = some (.tup [.int p.1, .int p.2])) (hp : Pok n p) : KdV K H (.ref t) .tuple ∧ SeamSays K H (.ref t) .tuple n true := by
  obtain ⟨h0, h1, h2, h3, h4⟩ := hp
  refine ⟨.inl ⟨_, h⟩, .inr ⟨rfl, t, _, rfl, .inr h, .inr ⟨_, _, .int, .int, rfl, True.intro, True.intro, ?_⟩⟩⟩
  have e1 : bnd (.int p.1) (.int 0) (.int (n - 1)) = true := by
    show (decide (0 ≤ p.1) && decide (p.1 ≤ n - 1)) = true
    rw [decide_eq_true h0, decide_eq_true (by omega)] <;> rfl
  have e2 : bnd (.int p.2) (.int 0) (.int (n - 1)) = true := by
    show (decide (0 ≤ p.2) && decide (p.2 ≤ n - 1)) = true
    rw [decide_eq_true h2, decide_eq_true (by omega)] <;> rfl
  rw [e1, e2, decide_eq_false (fun e => h4 (by injection e))]
  rfl
theorem says_okL {H : Hp} {t : Addr} {p : Int × Int} {n : Int} (h : H t = some (.lst [.int p.1, .int p.2])) (hp : Pok n p) : KdV K H (.ref t) .list ∧ SeamSays K H (.ref t) .list n true := by
  obtain ⟨h0, h1, h2, h3, h4⟩ := hp
  refine ⟨⟨_, h⟩, .inr ⟨rfl, t, _, rfl, .inl h, .inr ⟨_, _, .int, .int, rfl, True.intro, True.intro, ?_⟩⟩⟩
  have e1 : bnd (.int p.1) (.int 0) (.int (n - 1)) = true := by
    show (decide (0 ≤ p.1) && decide (p.1 ≤ n - 1)) = true
    rw [decide_eq_true h0, decide_eq_true (by omega)] <;> rfl
  have e2 : bnd (.int p.2) (.int 0) (.int (n - 1)) = true := by
    show (decide (0 ≤ p.2) && decide (p.2 ≤ n - 1)) = true
    rw [decide_eq_true h2, decide_eq_true (by omega)] <;> rfl
  rw [e1, e2, decide_eq_false (fun e => h4 (by injection e))]
  rfl
theorem items_ok {H : Hp} {ts : List Addr} {ps : List (Int × Int)} {n : Int} (hs : SeamsB H ts ps) (hok : ∀ p ∈ ps, Pok n p) : ∀ x ∈ ts.map V.ref, ∃ kx, KdV K H x kx ∧ SeamSays K H x kx n true := fun x hx => by
  obtain ⟨i, hi, e⟩ := List.mem_iff_getElem.mp hx
  obtain ⟨t, p, rfl, ht, hp, htup⟩ := hs.get (by rw [List.getElem?_eq_getElem hi, e])
  rcases htup with h | h
  · exact ⟨.tuple, says_ok h (hok p (List.mem_of_getElem? hp))⟩
  · exact ⟨.list, says_okL h (hok p (List.mem_of_getElem? hp))⟩
theorem turn_in (z : Str) : turnOf z = 4 ∨ turnOf z = 3 := by
  unfold turnOf
  by_cases h : z = "square"
  · exact .inl (if_pos h)
  · exact .inr (if_neg h)
def pairOf (H : Hp) (v : V) : Int × Int := match v with
  | .ref t => (match H t with
    | some (.tup [.int i, .int j]) => (i, j)
    | _ => (0, 0))
  | _ => (0, 0)
def addrOf : V → Addr
  | .ref t => t
  | _ => 0
theorem pairOf_at {H : Hp} {t : Addr} {p : Int × Int} (h : H t = some (.tup [.int p.1, .int p.2])) : pairOf H (.ref t) = p := by
  unfold pairOf
  simp only [h]
theorem perm_seams {H : Hp} {ts : List Addr} {ps : List (Int × Int)} {ys : List V} (hs : Seams H ts ps) (hp : ys.Perm (ts.map V.ref)) : ∃ us qs, ys = us.map V.ref ∧ Seams H us qs ∧ qs.Perm ps ∧ qs = ys.map (pairOf H) := by
  have all : ∀ y ∈ ys, ∃ (t : Addr) (p : Int × Int), y = .ref t ∧ H t = some (.tup [.int p.1, .int p.2]) := fun y hy => by
    obtain ⟨i, hi, e⟩ := List.mem_iff_getElem.mp (hp.mem_iff.mp hy)
    obtain ⟨t, p, e1, _, _, htup⟩ := hs.get (by rw [List.getElem?_eq_getElem hi, e])
    exact ⟨t, p, e1, htup⟩
  refine ⟨ys.map addrOf, ys.map (pairOf H), ?_, ⟨by rw [List.length_map, List.length_map], fun i t p h1 h2 => ?_⟩, ?_, rfl⟩
  · rw [List.map_map]
    conv => lhs; rw [← List.map_id ys]
    refine List.map_congr_left fun y hy => ?_
    obtain ⟨t, p, rfl, _⟩ := all y hy
    rfl
  · rw [List.getElem?_map] at h1 h2
    obtain ⟨y, hy, rfl⟩ := Option.map_eq_some_iff.mp h1
    rw [hy] at h2
    obtain ⟨t, p, rfl, htup⟩ := all y (List.mem_of_getElem? hy)
    have e := Option.some.inj h2
    rw [pairOf_at htup] at e
    subst e
    exact htup
  · have e : (ts.map V.ref).map (pairOf H) = ps := by
      refine List.ext_getElem? fun i => ?_
      rw [List.getElem?_map]
      cases h : (ts.map V.ref)[i]? with
      | none =>
        rw [List.getElem?_eq_none_iff, List.length_map, hs.len] at h
        rw [Option.map_none, eq_comm, List.getElem?_eq_none_iff]
        exact h
      | some x =>
        obtain ⟨t, p, rfl, _, hp2, htup⟩ := hs.get h
        rw [Option.map_some, pairOf_at htup, hp2]
    have h2 := hp.map (pairOf H)
    rw [e] at h2
    exact h2
def fcErr (K : PySem.W.Frag) (E : XK) (H : Hp) : Prop := Rz E (He.ga K "BadSkin") [("part", .str "faces")] H
def twErr (K : PySem.W.Frag) (E : XK) (H : Hp) (t : Int) : Prop := Rz E (He.ga K "Twice") [("value", .int t)] H
def mnErr (K : PySem.W.Frag) (E : XK) (H : Hp) : Prop := Rz E (He.ga K "TooMany") [("most", .int 24), ("what", .str "faces")] H
/-- what Skin(kv, fv, sv) does: ok, when it is made, or E -/
inductive SkDo (K : PySem.W.Frag) (E : XK) (H : Hp) (kv fv sv : V) (ok : Str → Int → List (Int × Int) → Prop) : Prop where
  | kind (g : isGrid kv = false) (e : kdErr K E H)
  | faces (g : isGrid kv = true) (b : bnd fv (.int 1) .non = false) (e : fcErr K E H)
  | seams (z : Str) (n : Int) (k : Kd) (ez : kv = .str z) (g : isGrid kv = true) (en : fv = .int n) (b : 1 ≤ n) (hk : KdV K H sv k) (e : smErr K E H)
      (h : k.seq = false ∨ (k.seq = true ∧ ∃ (a : Addr) (xs : List V) (f : V → Bool), sv = .ref a ∧ Box K H a xs ∧ xs.length ≤ 1000 ∧ (∀ x ∈ xs, ∃ kx, KdV K H x kx ∧ SeamSays K H x kx (n * turnOf z) (f x)) ∧ xs.all f = false))
  | made (z : Str) (n : Int) (a : Addr) (ts : List Addr) (ps : List (Int × Int)) (ez : kv = .str z) (g : isGrid kv = true) (en : fv = .int n) (b : 1 ≤ n) (es : sv = .ref a) (hb : SBox K H a (ts.map V.ref)) (hs : SeamsB H ts ps) (hl : ps.length ≤ 400)
      (hok : ∀ p ∈ ps, Pok (n * turnOf z) p) (e1 : ∀ t, tw (flat2 ps) = some t → twErr K E H t) (e2 : tw (flat2 ps) = none → 24 < n → mnErr K E H) (q : tw (flat2 ps) = none → n ≤ 24 → ok z n ps)
def sp_Skin_init (K : PySem.W.Frag) : Sp := fun vs H Q E => ∃ (x dx : Addr) (kv fv sv : V) (k1 k2 : Kd), vs = [.ref x, kv, fv, sv] ∧ H x = some (.ins (He.ga K "Skin") dx []) ∧ KdV K H kv k1 ∧ KdV K H fv k2 ∧
  SkDo K E H kv fv sv fun z n ps => ∀ H', Kp x H H' → SkinAt K H' x z n ps → Q .non H'
/-- while the fields are stored -/
structure Stg (K : PySem.W.Frag) (x dx : Addr) (H0 H' : Hp) (fs : List (Str × V)) : Prop where
  ins : H' x = some (.ins (He.ga K "Skin") dx fs)
  kp : Kp x H0 H'
theorem Stg.put {x dx : Addr} {H0 H' : Hp} {fs : List (Str × V)} {f : Str} {v : V} {ns : List Str} (h : Stg K x dx H0 H' fs) (hn : fs.map (·.1) = ns) (hf : f ∉ ns) : Stg K x dx H0 (upd H' x (.ins (He.ga K "Skin") dx (putF f v fs))) (fs ++ [(f, v)]) :=
  ⟨by rw [upd_same, st_app hn hf], h.kp.set⟩
theorem hbl_kp {x dx a : Addr} {H H' : Hp} {xs : List V} {fs : List (Str × V)} {C : Addr} (hx : H x = some (.ins C dx fs)) (hb : H a = some (.lst xs)) (k : Kp x H H') : SqL K H' a xs := by
  refine SqL.of (k _ _ (fun e => ?_) hb)
  rw [e, hx] at hb
  cases hb
theorem hbt_kp {x dx a : Addr} {H H' : Hp} {xs : List V} {fs : List (Str × V)} {C : Addr} (hx : H x = some (.ins C dx fs)) (hb : SqT K H a xs) (k : Kp x H H') : SqT K H' a xs := by
  rcases hb with (hb | ⟨o, hb⟩) | hb
  · refine .inl (.inl (k _ _ (fun e => ?_) hb))
    rw [e, hx] at hb
    cases hb
  · refine .inl (.inr ⟨o, k _ _ (fun e => ?_) hb⟩)
    rw [e, hx] at hb
    cases hb
  · exact .inr hb
theorem seams_kp {x dx : Addr} {H H' : Hp} {ts : List Addr} {ps : List (Int × Int)} {fs : List (Str × V)} {C : Addr} (hx : H x = some (.ins C dx fs)) (hs : Seams H ts ps) (k : Kp x H H') : Seams H' ts ps :=
  ⟨hs.len, fun i t p h1 h2 => by
    have h := hs.at_ i t p h1 h2
    refine k _ _ (fun e => ?_) h
    rw [e, hx] at h
    cases h⟩
theorem seamsB_kp {x dx : Addr} {H H' : Hp} {ts : List Addr} {ps : List (Int × Int)} {fs : List (Str × V)} {C : Addr} (hx : H x = some (.ins C dx fs)) (hs : SeamsB H ts ps) (k : Kp x H H') : SeamsB H' ts ps :=
  ⟨hs.len, fun i t p h1 h2 => by
    rcases hs.at_ i t p h1 h2 with h | h
    · refine .inl (k _ _ (fun e => ?_) h)
      rw [e, hx] at h
      cases h
    · refine .inr (k _ _ (fun e => ?_) h)
      rw [e, hx] at h
      cases h⟩
theorem Seams.upd {x dx : Addr} {H : Hp} {ts : List Addr} {ps : List (Int × Int)} {fs : List (Str × V)} {C : Addr} {o : HO} (hs : Seams H ts ps) (hx : H x = some (.ins C dx fs)) : Seams (L2.upd H x o) ts ps := seams_kp hx hs (Kp.refl x H).set
theorem Seams.push {H : Hp} {us : List Addr} {ps : List (Int × Int)} {T D : Addr} {p : Int × Int} {xs ys : List V} (hs : Seams H us ps) (nT : H T = none) (hD : H D = some (.lst xs)) :
    Seams (L2.upd (L2.upd H T (.tup [.int p.1, .int p.2])) D (.lst ys)) (us ++ [T]) (ps ++ [p]) := by
  refine ⟨by rw [List.length_append, List.length_append, hs.len] <;> rfl, fun i t q h1 h2 => ?_⟩
  have hTD : T ≠ D := (ne_of_none hD nT).symm
  by_cases hi : i < us.length
  · rw [List.getElem?_append_left hi] at h1
    rw [List.getElem?_append_left (by rw [← hs.len]; exact hi)] at h2
    have h := hs.at_ i t q h1 h2
    have tD : t ≠ D := fun e => by
      rw [e, hD] at h
      cases h
    rw [upd_ne tD, upd_ne (ne_of_none h nT)]
    exact h
  · rw [List.getElem?_append_right (by omega)] at h1
    rw [List.getElem?_append_right (by rw [← hs.len]; omega)] at h2
    obtain ⟨k, hk⟩ : ∃ k, i - us.length = k := ⟨_, rfl⟩
    rw [← hs.len, hk] at h2
    rw [hk] at h1
    cases k with
    | zero =>
      cases h1
      cases h2
      rw [upd_ne hTD, upd_same]
    | succ k => simp at h1
theorem tup_upd {x dx st : Addr} {H : Hp} {xs : List V} {fs : List (Str × V)} {C : Addr} {o : HO} (hx : H x = some (.ins C dx fs)) (h : H st = some (.tup xs)) : L2.upd H x o st = some (.tup xs) := by
  rw [upd_ne fun e => ?_]
  · exact h
  · rw [e, hx] at h
    cases h
theorem box_kp {x dx a : Addr} {H H' : Hp} {xs : List V} {fs : List (Str × V)} {C : Addr} (hx : H x = some (.ins C dx fs)) (hb : Box K H a xs) (k : Kp x H H') : Box K H' a xs := by
  rcases hb with hb | hb
  · refine .inl (k _ _ (fun e => ?_) hb)
    rw [e, hx] at hb
    cases hb
  · exact .inr (hbt_kp hx hb k)
def rgL (N : Nat) : List V := (List.range N).map fun i => V.int ((0 : Int) + (i : Nat))
theorem rgL_len (N : Nat) : (rgL N).length = N := by unfold rgL; simp
theorem rgL_at {N i : Nat} (h : i < N) : (rgL N)[i]? = some (V.int ((0 : Int) + (i : Nat))) := by
  unfold rgL
  rw [List.getElem?_map, List.getElem?_range h]
  rfl
theorem rgL_get {N i : Nat} {v : V} (h : (rgL N)[i]? = some v) : i < N ∧ v = .int (i : Nat) := by
  obtain ⟨hlt, _⟩ := List.getElem?_eq_some_iff.mp h
  rw [rgL_len] at hlt
  rw [rgL_at hlt] at h
  refine ⟨hlt, ?_⟩
  rw [← Option.some.inj h, Int.zero_add]
def keepF (ms : List V) : V → Bool
  | .int i => freeB ms i.toNat
  | _ => false
theorem keepF_at {ms : List V} {i : Nat} {v : V} (h : ms[i]? = some v) : keepF ms (.int (i : Nat)) = decide (v = .non) := by
  show freeB ms (Int.toNat (i : Int)) = _
  rw [Int.toNat_natCast]
  unfold freeB
  rw [h]
  cases v <;> first | rfl | (symm; exact decide_eq_false fun e => nomatch e)
theorem rgL_keep {ps : List (Int × Int)} {N : Nat} : (rgL N).filter (keepF (msL ps N)) = (frL ps N).map V.int := by
  unfold rgL frL
  rw [List.filter_map, List.map_map]
  have e1 : (keepF (msL ps N) ∘ fun i : Nat => V.int ((0 : Int) + (i : Nat))) = freeB (msL ps N) := by
    funext i
    show freeB (msL ps N) ((0 : Int) + (i : Nat)).toNat = _
    rw [Int.zero_add, Int.toNat_natCast]
  rw [e1]
  refine List.map_congr_left fun i _ => ?_
  show V.int ((0 : Int) + (i : Nat)) = V.int (Int.ofNat i)
  rw [Int.zero_add]
  rfl
theorem rgL_tn {N : Nat} {t b : Int} : ((rgL N).filter fun _ => true).map (tnF t b) = tnL N t b := by
  rw [List.filter_eq_self.mpr fun _ _ => rfl]
  unfold rgL tnL
  rw [List.map_map]
  refine List.map_congr_left fun i _ => ?_
  show V.int ((0 + (i : Int)) / t * t + ((0 + (i : Int)) + b) % t) = _
  rw [Int.zero_add]
def sp_turned_sides (K : PySem.W.Frag) : Sp := fun vs H Q _ => ∃ (n t b : Int), vs = [.int n, .int t, .int b] ∧ 0 ≤ n ∧ n ≤ 200 ∧ 0 < t ∧ t ≤ 10 ∧ ∀ H' r, Same H H' → H r = none → H' r = some (.tup (tnL n.toNat t b)) → Q (.ref r) H'
theorem sc_turned_sides : FnScope ["sides", "turn", "by", "side"] ["sides", "turn", "by"] (defScope s_turned_sides) := ⟨rfl, rfl, rfl, by decide +kernel, rfl, by decide +kernel, by decide +kernel⟩
theorem ok_turned_sides {f : Addr} {fd : FuncData} (F : FunD K "turned_sides" "turned_sides" (defArgs s_turned_sides) (defBody s_turned_sides) (defScope s_turned_sides) [] [] f fd) (Tx : Txt K mg)    : FnOk P w K mg base CX0 1 f fd ["sides", "turn", "by"] (sp_turned_sides K) := by
  refine FunD.ok F sc_turned_sides (fun vs H Q E h => ?_) (fun cdv A outer s H vs Q E hr h => ?_)
  · obtain ⟨n, t, b, rfl, _⟩ := h
    rfl
  · obtain ⟨n, t, b, rfl, n0, n1, t0, t1, q⟩ := h
    obtain ⟨N, rfl⟩ := Int.eq_ofNat_of_zero_le n0
    refine ⟨_, PSs.nox (pss_one (ps_ret (pe_callTy call_tuple_of (by rfl) Tx.n_tuple (by decide +kernel) (pa_cons (pe_lc (own := [("side", 3)]) (g := gName 3) (tt := tYes) rfl sc_turned_sides.nd (pi_range1 (by rfl) Tx.n_range (pa_cons (pv 0) pa_nil)) (blkOk_by (own := [("side", 3)]) (N := ["sides", "turn", "by", "side"]) (sc := defScope s_turned_sides) (by decide +kernel)) (fun _ _ _ _ _ => (pg_name (i := 3) sc_turned_sides.nd rfl (Or.inl rfl))) (fun _ _ _ _ _ => pts_nil) (fun _ _ _ _ _ => (pe_op op_add (pe_op op_mul (pe_op op_fdiv (pv 3) (pv 1)) (pv 1)) (pe_op op_mod (pe_op op_add (pv 3) (pv 2)) (pv 1))))) pa_nil)))), ?_⟩
    refine ⟨_, rfl, _, rfl, by omega, by omega, fun D nD => ?_⟩
    refine lc_pure ((walk_range (lo := 0) (n := (N : Int).toNat)).mono (Y' := fun i H x H' => H' = H ∧ (rgL N)[i]? = some x) (fun _ h => h) (fun i H x H' hi _ y => ⟨y.1, by rw [y.2]; exact rgL_at hi⟩)) (rgL N) (by rw [rgL_len]; rfl) (by rw [rgL_len]; omega) (fun i H x H' y => ⟨same_of_eq y.1, y.2⟩) (tnF t b) (fun _ => true) nD (fun _ _ => True.intro) (fun i v H2 Q1 Q0 hi s2 q1 q0 => ?_) (fun H2 s2 hD => ?_)
    · refine ⟨rfl, ?_⟩
      obtain ⟨iN, rfl⟩ := rgL_get hi
      exact ⟨_, rfl, _, rfl, _, _, rfl, rfl, ⟨t0, by omega⟩, _, rfl, _, _, rfl, rfl, .inr ⟨by omega, by omega⟩, _, rfl, _, rfl, _, _, rfl, rfl, _, rfl, _, _, rfl, rfl, t0, _, _, rfl, rfl, q1 rfl _ (Same.refl _)⟩
    · rw [rgL_tn] at hD
      refine ⟨D, _, rfl, .inl ⟨SqL.of hD, fun r nr => ?_⟩⟩
      exact q _ r (s2.trans (same_new nr)) (s2.free nr) upd_same
theorem has_turned_sides (Tx : Txt K mg) (c : He.SaysX fa fn [] tf ex w hh K) (X : K.In hh) (GG : hh.Ns mainGlobals mg)    : Has P w K mg base "turned_sides" 1 ["sides", "turn", "by"] (sp_turned_sides K) := by
  obtain ⟨fd, F⟩ := c.t.d.def_ 22 (d := d_turned_sides) rfl
  exact ⟨_, fd, ok_turned_sides F Tx , He.glo_ok X GG (c.t.d.fact 25 (f := .glo "turned_sides") rfl), F.kp, F.bindsN fun _ _ _ _ _ _ us hl => match us, hl with | [_, _, _], _ => rfl⟩
theorem sc_Skin_init : FnScope ["self", "kind", "faces", "seams", "turn", "twice", "seam", "side"] ["self", "kind", "faces", "seams"] (defScope s_Skin_init) := ⟨rfl, rfl, rfl, by decide +kernel, rfl, by decide +kernel, by decide +kernel⟩
theorem ok_Skin_init {f : Addr} {fd : FuncData} (F : FunD K "__init__" "Skin.__init__" (defArgs s_Skin_init) (defBody s_Skin_init) (defScope s_Skin_init) [.ref (dflA K)] [] f fd) (Tx : Txt K mg) (h_need_kind : HasX P w K mg base "need_kind" 3 ["kind"] (sp_need_kind K)) (h_is_within : Has P w K mg base "is_within" 2 ["value", "least", "most"] (sp_is_within K)) (h_BadSkin_init : HasM P w K mg base CX0 "BadSkin" "__init__" 1 ["self", "part"] (sp_BadSkin_init K)) (h_sides_of : HasX P w K mg base "sides_of" 4 ["kind"] (sp_sides_of K)) (h_need_seams : HasX P w K mg base "need_seams" 4 ["seams", "sides"] (sp_need_seams K)) (h_first_twice : Has P w K mg base "first_twice" 1 ["values"] (sp_first_twice K)) (h_sides_in : Has P w K mg base "sides_in" 1 ["seams"] (sp_sides_in K)) (h_Twice_init : HasM P w K mg base CX0 "Twice" "__init__" 1 ["self", "value"] (sp_Twice_init K)) (h_TooMany_init : HasM P w K mg base CX0 "TooMany" "__init__" 1 ["self", "what", "most"] (sp_TooMany_init K)) (h_full_of : HasX P w K mg base "full_of" 4 ["kind"] (sp_full_of K)) (h_mates_of : Has P w K mg base "mates_of" 1 ["seams", "sides"] (sp_mates_of K)) (h_turned_sides : Has P w K mg base "turned_sides" 1 ["sides", "turn", "by"] (sp_turned_sides K))   : FnOk P w K mg base (L2.CX P w) 5 f fd ["self", "kind", "faces", "seams"] (sp_Skin_init K) := by
  obtain ⟨f_need_kind, fd_need_kind, G_need_kind, g_need_kind, k_need_kind, b_need_kind⟩ := h_need_kind
  obtain ⟨f_is_within, fd_is_within, G_is_within, g_is_within, k_is_within, b_is_within⟩ := h_is_within
  obtain ⟨fd_BadSkin_init, G_BadSkin_init, b_BadSkin_init⟩ := h_BadSkin_init
  obtain ⟨f_sides_of, fd_sides_of, G_sides_of, g_sides_of, k_sides_of, b_sides_of⟩ := h_sides_of
  obtain ⟨f_need_seams, fd_need_seams, G_need_seams, g_need_seams, k_need_seams, b_need_seams⟩ := h_need_seams
  obtain ⟨f_first_twice, fd_first_twice, G_first_twice, g_first_twice, k_first_twice, b_first_twice⟩ := h_first_twice
  obtain ⟨f_sides_in, fd_sides_in, G_sides_in, g_sides_in, k_sides_in, b_sides_in⟩ := h_sides_in
  obtain ⟨fd_Twice_init, G_Twice_init, b_Twice_init⟩ := h_Twice_init
  obtain ⟨fd_TooMany_init, G_TooMany_init, b_TooMany_init⟩ := h_TooMany_init
  obtain ⟨f_full_of, fd_full_of, G_full_of, g_full_of, k_full_of, b_full_of⟩ := h_full_of
  obtain ⟨f_mates_of, fd_mates_of, G_mates_of, g_mates_of, k_mates_of, b_mates_of⟩ := h_mates_of
  obtain ⟨f_turned_sides, fd_turned_sides, G_turned_sides, g_turned_sides, k_turned_sides, b_turned_sides⟩ := h_turned_sides
  refine FunD.ok F sc_Skin_init (fun vs H Q E h => ?_) (fun cdv A outer s H vs Q E hr h => ?_)
  · obtain ⟨x, dx, kv, fv, sv, k1, k2, rfl, _⟩ := h
    rfl
  · obtain ⟨x, dx, kv, fv, sv, k1, k2, rfl, hx, hk1, hk2, h⟩ := h
    cases h with
    | kind g e =>
      refine ⟨_, (pss_cons (ps_expr (pe_call G_need_kind (hr.mono (by decide)) (by rfl) g_need_kind k_need_kind b_need_kind .nil (passE rfl rfl rfl rfl) (pa_cons (pv 1) pa_nil)))
        (pss_cons (ps_if (pt_not (pt_val (pe_call G_is_within (hr.mono (by decide)) (by rfl) g_is_within k_is_within b_is_within .nil pass0 (pa_cons (pv 2) (pa_cons pe_int (pa_cons pe_non pa_nil)))))) (pss_one (ps_raise rfl (takes_of rfl rfl rfl rfl) (pmk_oex Tx.er_BadSkin.oex Tx.er_BadSkin.ini Tx.er_BadSkin.fn G_BadSkin_init (hr.mono (by decide)) b_BadSkin_init .nil pass0 (by rfl) Tx.g_BadSkin (pa_cons pe_str pa_nil)))) pss_nil)
        (pss_cons (ps_set (i := 4) sc_Skin_init.nd rfl (Or.inl rfl) (pe_call G_sides_of (hr.mono (by decide)) (by rfl) g_sides_of k_sides_of b_sides_of .nil (passE rfl rfl rfl rfl) (pa_cons (pv 1) pa_nil)))
        (pss_cons (ps_expr (pe_call G_need_seams (hr.mono (by decide)) (by rfl) g_need_seams k_need_seams b_need_seams .nil (passE rfl rfl rfl rfl) (pa_cons (pv 3) (pa_cons (pe_op op_mul (pv 2) (pv 4)) pa_nil))))
        (pss_cons (ps_set (i := 5) sc_Skin_init.nd rfl (Or.inl rfl) (pe_call G_first_twice (hr.mono (by decide)) (by rfl) g_first_twice k_first_twice b_first_twice .nil pass0 (pa_cons (pe_call G_sides_in (hr.mono (by decide)) (by rfl) g_sides_in k_sides_in b_sides_in .nil pass0 (pa_cons (pv 3) pa_nil)) pa_nil)))
        (pss_cons (ps_if (pt_cmpR op_notN (pv 5) pe_non (nomark _)) (pss_one (ps_raise rfl (takes_of rfl rfl rfl rfl) (pmk_oex Tx.er_Twice.oex Tx.er_Twice.ini Tx.er_Twice.fn G_Twice_init (hr.mono (by decide)) b_Twice_init .nil pass0 (by rfl) Tx.g_Twice (pa_cons (pv 5) pa_nil)))) pss_nil)
        (pss_cons (ps_if (pt_cmpR op_gt (pv 2) (pe_glob (v := .int 24) (by rfl) (Tx.c_MOST_FACES).choose_spec ⟨_, rfl⟩) (nomark _)) (pss_one (ps_raise rfl (takes_of rfl rfl rfl rfl) (pmk_oex Tx.er_TooMany.oex Tx.er_TooMany.ini Tx.er_TooMany.fn G_TooMany_init (hr.mono (by decide)) b_TooMany_init .nil pass0 (by rfl) Tx.g_TooMany (pa_cons pe_str (pa_cons (pe_glob (v := .int 24) (by rfl) (Tx.c_MOST_FACES).choose_spec ⟨_, rfl⟩) pa_nil))))) pss_nil)
        (C8.pss_cut (ps_fld (pv 0) (pv 1) rfl)
        (C8.pss_cut (ps_fld (pv 0) (pv 2) rfl)
        (C8.pss_cut (ps_fld (pv 0) (pv 4) rfl)
        (C8.pss_cut (ps_fld (pv 0) (pe_call G_full_of (hr.mono (by decide)) (by rfl) g_full_of k_full_of b_full_of .nil (passE rfl rfl rfl rfl) (pa_cons (pv 1) pa_nil)) rfl)
        (C8.pss_cut (ps_fld (pv 0) (pe_op op_mul (pv 2) (pv 4)) rfl)
        (C8.pss_cut (ps_fld (pv 0) (pe_callTy call_tuple_of (by rfl) Tx.n_tuple (by decide +kernel) (pa_cons (pe_callB cr_sortedPO (by rfl) Tx.n_sorted (by decide +kernel) (pa_cons (pe_lc (own := [("seam", 6)]) (g := gName 6) (tt := tYes) rfl sc_Skin_init.nd (pi_list (pv 3)) (blkOk_by (own := [("seam", 6)]) (N := ["self", "kind", "faces", "seams", "turn", "twice", "seam", "side"]) (sc := defScope s_Skin_init) (by decide +kernel)) (fun _ _ _ _ _ => (pg_name (i := 6) sc_Skin_init.nd rfl (Or.inl rfl))) (fun _ _ _ _ _ => pts_nil) (fun _ _ _ _ _ => (pe_tup (pa_cons (pe_callB (cr_minBK (K := K) rfl rfl hr.units) (by rfl) Tx.n_min (by decide +kernel) (pa_cons (pv 6) pa_nil)) (pa_cons (pe_callB (cr_maxBK (K := K) rfl rfl hr.units) (by rfl) Tx.n_max (by decide +kernel) (pa_cons (pv 6) pa_nil)) pa_nil))))) pa_nil)) pa_nil)) rfl)
        (C8.pss_cut (ps_fld (pv 0) (pe_call G_mates_of (hr.mono (by decide)) (by rfl) g_mates_of k_mates_of b_mates_of .nil pass0 (pa_cons (pv 3) (pa_cons (pe_fld (pv 0) rfl) pa_nil))) rfl)
        (C8.pss_cut (ps_fld (pv 0) (pe_call G_turned_sides (hr.mono (by decide)) (by rfl) g_turned_sides k_turned_sides b_turned_sides .nil pass0 (pa_cons (pe_fld (pv 0) rfl) (pa_cons (pv 4) (pa_cons pe_int pa_nil)))) rfl)
        (C8.pss_cut (ps_fld (pv 0) (pe_call G_turned_sides (hr.mono (by decide)) (by rfl) g_turned_sides k_turned_sides b_turned_sides .nil pass0 (pa_cons (pe_fld (pv 0) rfl) (pa_cons (pv 4) (pa_cons (pe_op op_sub (pv 4) pe_int) pa_nil)))) rfl)
        (pss_one (ps_fld (pv 0) (pe_callTy call_tuple_of (by rfl) Tx.n_tuple (by decide +kernel) (pa_cons (pe_lc (own := [("side", 7)]) (g := gName 7) rfl sc_Skin_init.nd (pi_range1 (by rfl) Tx.n_range (pa_cons (pe_fld (pv 0) rfl) pa_nil)) (blkOk_by (own := [("side", 7)]) (N := ["self", "kind", "faces", "seams", "turn", "twice", "seam", "side"]) (sc := defScope s_Skin_init) (by decide +kernel)) (fun _ _ _ _ _ => (pg_name (i := 7) sc_Skin_init.nd rfl (Or.inl rfl))) (fun _ _ _ _ _ => (pts_one (pt_cmpR op_isN (pe_ix (ix_tupK (K := K) rfl) (pe_fldK (K := K) rfl (pv 0) rfl) (pv 7) (fun _ _ => rfl)) pe_non (nomark _)))) (fun _ _ _ _ _ => (pv 7))) pa_nil)) rfl)))))))))))))))))), ?_⟩
      exact ⟨_, rfl, kv, k1, rfl, hk1, fun g1 => absurd g (by rw [g1]; decide), fun _ => e⟩
    | faces g b e =>
      refine ⟨_, (pss_cons (ps_expr (pe_call G_need_kind (hr.mono (by decide)) (by rfl) g_need_kind k_need_kind b_need_kind .nil (passE rfl rfl rfl rfl) (pa_cons (pv 1) pa_nil)))
        (pss_cons (ps_if (pt_not (pt_val (pe_call G_is_within (hr.mono (by decide)) (by rfl) g_is_within k_is_within b_is_within .nil pass0 (pa_cons (pv 2) (pa_cons pe_int (pa_cons pe_non pa_nil)))))) (pss_one (ps_raise rfl (takes_of rfl rfl rfl rfl) (pmk_oex Tx.er_BadSkin.oex Tx.er_BadSkin.ini Tx.er_BadSkin.fn G_BadSkin_init (hr.mono (by decide)) b_BadSkin_init .nil pass0 (by rfl) Tx.g_BadSkin (pa_cons pe_str pa_nil)))) pss_nil)
        (pss_cons (ps_set (i := 4) sc_Skin_init.nd rfl (Or.inl rfl) (pe_call G_sides_of (hr.mono (by decide)) (by rfl) g_sides_of k_sides_of b_sides_of .nil (passE rfl rfl rfl rfl) (pa_cons (pv 1) pa_nil)))
        (pss_cons (ps_expr (pe_call G_need_seams (hr.mono (by decide)) (by rfl) g_need_seams k_need_seams b_need_seams .nil (passE rfl rfl rfl rfl) (pa_cons (pv 3) (pa_cons (pe_op op_mul (pv 2) (pv 4)) pa_nil))))
        (pss_cons (ps_set (i := 5) sc_Skin_init.nd rfl (Or.inl rfl) (pe_call G_first_twice (hr.mono (by decide)) (by rfl) g_first_twice k_first_twice b_first_twice .nil pass0 (pa_cons (pe_call G_sides_in (hr.mono (by decide)) (by rfl) g_sides_in k_sides_in b_sides_in .nil pass0 (pa_cons (pv 3) pa_nil)) pa_nil)))
        (pss_cons (ps_if (pt_cmpR op_notN (pv 5) pe_non (nomark _)) (pss_one (ps_raise rfl (takes_of rfl rfl rfl rfl) (pmk_oex Tx.er_Twice.oex Tx.er_Twice.ini Tx.er_Twice.fn G_Twice_init (hr.mono (by decide)) b_Twice_init .nil pass0 (by rfl) Tx.g_Twice (pa_cons (pv 5) pa_nil)))) pss_nil)
        (pss_cons (ps_if (pt_cmpR op_gt (pv 2) (pe_glob (v := .int 24) (by rfl) (Tx.c_MOST_FACES).choose_spec ⟨_, rfl⟩) (nomark _)) (pss_one (ps_raise rfl (takes_of rfl rfl rfl rfl) (pmk_oex Tx.er_TooMany.oex Tx.er_TooMany.ini Tx.er_TooMany.fn G_TooMany_init (hr.mono (by decide)) b_TooMany_init .nil pass0 (by rfl) Tx.g_TooMany (pa_cons pe_str (pa_cons (pe_glob (v := .int 24) (by rfl) (Tx.c_MOST_FACES).choose_spec ⟨_, rfl⟩) pa_nil))))) pss_nil)
        (C8.pss_cut (ps_fld (pv 0) (pv 1) rfl)
        (C8.pss_cut (ps_fld (pv 0) (pv 2) rfl)
        (C8.pss_cut (ps_fld (pv 0) (pv 4) rfl)
        (C8.pss_cut (ps_fld (pv 0) (pe_call G_full_of (hr.mono (by decide)) (by rfl) g_full_of k_full_of b_full_of .nil (passE rfl rfl rfl rfl) (pa_cons (pv 1) pa_nil)) rfl)
        (C8.pss_cut (ps_fld (pv 0) (pe_op op_mul (pv 2) (pv 4)) rfl)
        (C8.pss_cut (ps_fld (pv 0) (pe_callTy call_tuple_of (by rfl) Tx.n_tuple (by decide +kernel) (pa_cons (pe_callB cr_sortedPO (by rfl) Tx.n_sorted (by decide +kernel) (pa_cons (pe_lc (own := [("seam", 6)]) (g := gName 6) (tt := tYes) rfl sc_Skin_init.nd (pi_list (pv 3)) (blkOk_by (own := [("seam", 6)]) (N := ["self", "kind", "faces", "seams", "turn", "twice", "seam", "side"]) (sc := defScope s_Skin_init) (by decide +kernel)) (fun _ _ _ _ _ => (pg_name (i := 6) sc_Skin_init.nd rfl (Or.inl rfl))) (fun _ _ _ _ _ => pts_nil) (fun _ _ _ _ _ => (pe_tup (pa_cons (pe_callB (cr_minBK (K := K) rfl rfl hr.units) (by rfl) Tx.n_min (by decide +kernel) (pa_cons (pv 6) pa_nil)) (pa_cons (pe_callB (cr_maxBK (K := K) rfl rfl hr.units) (by rfl) Tx.n_max (by decide +kernel) (pa_cons (pv 6) pa_nil)) pa_nil))))) pa_nil)) pa_nil)) rfl)
        (C8.pss_cut (ps_fld (pv 0) (pe_call G_mates_of (hr.mono (by decide)) (by rfl) g_mates_of k_mates_of b_mates_of .nil pass0 (pa_cons (pv 3) (pa_cons (pe_fld (pv 0) rfl) pa_nil))) rfl)
        (C8.pss_cut (ps_fld (pv 0) (pe_call G_turned_sides (hr.mono (by decide)) (by rfl) g_turned_sides k_turned_sides b_turned_sides .nil pass0 (pa_cons (pe_fld (pv 0) rfl) (pa_cons (pv 4) (pa_cons pe_int pa_nil)))) rfl)
        (C8.pss_cut (ps_fld (pv 0) (pe_call G_turned_sides (hr.mono (by decide)) (by rfl) g_turned_sides k_turned_sides b_turned_sides .nil pass0 (pa_cons (pe_fld (pv 0) rfl) (pa_cons (pv 4) (pa_cons (pe_op op_sub (pv 4) pe_int) pa_nil)))) rfl)
        (pss_one (ps_fld (pv 0) (pe_callTy call_tuple_of (by rfl) Tx.n_tuple (by decide +kernel) (pa_cons (pe_lc (own := [("side", 7)]) (g := gName 7) rfl sc_Skin_init.nd (pi_range1 (by rfl) Tx.n_range (pa_cons (pe_fld (pv 0) rfl) pa_nil)) (blkOk_by (own := [("side", 7)]) (N := ["self", "kind", "faces", "seams", "turn", "twice", "seam", "side"]) (sc := defScope s_Skin_init) (by decide +kernel)) (fun _ _ _ _ _ => (pg_name (i := 7) sc_Skin_init.nd rfl (Or.inl rfl))) (fun _ _ _ _ _ => (pts_one (pt_cmpR op_isN (pe_ix (ix_tupK (K := K) rfl) (pe_fldK (K := K) rfl (pv 0) rfl) (pv 7) (fun _ _ => rfl)) pe_non (nomark _)))) (fun _ _ _ _ _ => (pv 7))) pa_nil)) rfl)))))))))))))))))), ?_⟩
      refine ⟨_, rfl, kv, k1, rfl, hk1, fun _ => ?_, fun g1 => absurd g (by rw [g1]; decide)⟩
      refine ⟨_, rfl, fv, .int 1, .non, k2, rfl, hk2, rfl, rfl, _, rfl, ?_⟩
      rw [b]
      exact iteT (mk1 Tx.er_BadSkin.oex (Tx.er_BadSkin.no "part" (by simp)) e)
    | seams z n k ez g en b hk e hh =>
      subst ez en
      refine ⟨_, (pss_cons (ps_expr (pe_call G_need_kind (hr.mono (by decide)) (by rfl) g_need_kind k_need_kind b_need_kind .nil (passE rfl rfl rfl rfl) (pa_cons (pv 1) pa_nil)))
        (pss_cons (ps_if (pt_not (pt_val (pe_call G_is_within (hr.mono (by decide)) (by rfl) g_is_within k_is_within b_is_within .nil pass0 (pa_cons (pv 2) (pa_cons pe_int (pa_cons pe_non pa_nil)))))) (pss_one (ps_raise rfl (takes_of rfl rfl rfl rfl) (pmk_oex Tx.er_BadSkin.oex Tx.er_BadSkin.ini Tx.er_BadSkin.fn G_BadSkin_init (hr.mono (by decide)) b_BadSkin_init .nil pass0 (by rfl) Tx.g_BadSkin (pa_cons pe_str pa_nil)))) pss_nil)
        (pss_cons (ps_set (i := 4) sc_Skin_init.nd rfl (Or.inl rfl) (pe_call G_sides_of (hr.mono (by decide)) (by rfl) g_sides_of k_sides_of b_sides_of .nil (passE rfl rfl rfl rfl) (pa_cons (pv 1) pa_nil)))
        (pss_cons (ps_expr (pe_call G_need_seams (hr.mono (by decide)) (by rfl) g_need_seams k_need_seams b_need_seams .nil (passE rfl rfl rfl rfl) (pa_cons (pv 3) (pa_cons (pe_op op_mul (pv 2) (pv 4)) pa_nil))))
        (pss_cons (ps_set (i := 5) sc_Skin_init.nd rfl (Or.inl rfl) (pe_call G_first_twice (hr.mono (by decide)) (by rfl) g_first_twice k_first_twice b_first_twice .nil pass0 (pa_cons (pe_call G_sides_in (hr.mono (by decide)) (by rfl) g_sides_in k_sides_in b_sides_in .nil pass0 (pa_cons (pv 3) pa_nil)) pa_nil)))
        (pss_cons (ps_if (pt_cmpR op_notN (pv 5) pe_non (nomark _)) (pss_one (ps_raise rfl (takes_of rfl rfl rfl rfl) (pmk_oex Tx.er_Twice.oex Tx.er_Twice.ini Tx.er_Twice.fn G_Twice_init (hr.mono (by decide)) b_Twice_init .nil pass0 (by rfl) Tx.g_Twice (pa_cons (pv 5) pa_nil)))) pss_nil)
        (pss_cons (ps_if (pt_cmpR op_gt (pv 2) (pe_glob (v := .int 24) (by rfl) (Tx.c_MOST_FACES).choose_spec ⟨_, rfl⟩) (nomark _)) (pss_one (ps_raise rfl (takes_of rfl rfl rfl rfl) (pmk_oex Tx.er_TooMany.oex Tx.er_TooMany.ini Tx.er_TooMany.fn G_TooMany_init (hr.mono (by decide)) b_TooMany_init .nil pass0 (by rfl) Tx.g_TooMany (pa_cons pe_str (pa_cons (pe_glob (v := .int 24) (by rfl) (Tx.c_MOST_FACES).choose_spec ⟨_, rfl⟩) pa_nil))))) pss_nil)
        (C8.pss_cut (ps_fld (pv 0) (pv 1) rfl)
        (C8.pss_cut (ps_fld (pv 0) (pv 2) rfl)
        (C8.pss_cut (ps_fld (pv 0) (pv 4) rfl)
        (C8.pss_cut (ps_fld (pv 0) (pe_call G_full_of (hr.mono (by decide)) (by rfl) g_full_of k_full_of b_full_of .nil (passE rfl rfl rfl rfl) (pa_cons (pv 1) pa_nil)) rfl)
        (C8.pss_cut (ps_fld (pv 0) (pe_op op_mul (pv 2) (pv 4)) rfl)
        (C8.pss_cut (ps_fld (pv 0) (pe_callTy call_tuple_of (by rfl) Tx.n_tuple (by decide +kernel) (pa_cons (pe_callB cr_sortedPO (by rfl) Tx.n_sorted (by decide +kernel) (pa_cons (pe_lc (own := [("seam", 6)]) (g := gName 6) (tt := tYes) rfl sc_Skin_init.nd (pi_list (pv 3)) (blkOk_by (own := [("seam", 6)]) (N := ["self", "kind", "faces", "seams", "turn", "twice", "seam", "side"]) (sc := defScope s_Skin_init) (by decide +kernel)) (fun _ _ _ _ _ => (pg_name (i := 6) sc_Skin_init.nd rfl (Or.inl rfl))) (fun _ _ _ _ _ => pts_nil) (fun _ _ _ _ _ => (pe_tup (pa_cons (pe_callB (cr_minBK (K := K) rfl rfl hr.units) (by rfl) Tx.n_min (by decide +kernel) (pa_cons (pv 6) pa_nil)) (pa_cons (pe_callB (cr_maxBK (K := K) rfl rfl hr.units) (by rfl) Tx.n_max (by decide +kernel) (pa_cons (pv 6) pa_nil)) pa_nil))))) pa_nil)) pa_nil)) rfl)
        (C8.pss_cut (ps_fld (pv 0) (pe_call G_mates_of (hr.mono (by decide)) (by rfl) g_mates_of k_mates_of b_mates_of .nil pass0 (pa_cons (pv 3) (pa_cons (pe_fld (pv 0) rfl) pa_nil))) rfl)
        (C8.pss_cut (ps_fld (pv 0) (pe_call G_turned_sides (hr.mono (by decide)) (by rfl) g_turned_sides k_turned_sides b_turned_sides .nil pass0 (pa_cons (pe_fld (pv 0) rfl) (pa_cons (pv 4) (pa_cons pe_int pa_nil)))) rfl)
        (C8.pss_cut (ps_fld (pv 0) (pe_call G_turned_sides (hr.mono (by decide)) (by rfl) g_turned_sides k_turned_sides b_turned_sides .nil pass0 (pa_cons (pe_fld (pv 0) rfl) (pa_cons (pv 4) (pa_cons (pe_op op_sub (pv 4) pe_int) pa_nil)))) rfl)
        (pss_one (ps_fld (pv 0) (pe_callTy call_tuple_of (by rfl) Tx.n_tuple (by decide +kernel) (pa_cons (pe_lc (own := [("side", 7)]) (g := gName 7) rfl sc_Skin_init.nd (pi_range1 (by rfl) Tx.n_range (pa_cons (pe_fld (pv 0) rfl) pa_nil)) (blkOk_by (own := [("side", 7)]) (N := ["self", "kind", "faces", "seams", "turn", "twice", "seam", "side"]) (sc := defScope s_Skin_init) (by decide +kernel)) (fun _ _ _ _ _ => (pg_name (i := 7) sc_Skin_init.nd rfl (Or.inl rfl))) (fun _ _ _ _ _ => (pts_one (pt_cmpR op_isN (pe_ix (ix_tupK (K := K) rfl) (pe_fldK (K := K) rfl (pv 0) rfl) (pv 7) (fun _ _ => rfl)) pe_non (nomark _)))) (fun _ _ _ _ _ => (pv 7))) pa_nil)) rfl)))))))))))))))))), ?_⟩
      refine ⟨_, rfl, _, k1, rfl, hk1, fun _ => ?_, fun g1 => absurd g (by rw [g1]; decide)⟩
      refine ⟨_, rfl, _, .int 1, .non, k2, rfl, hk2, rfl, rfl, _, rfl, ?_⟩
      rw [show bnd (.int n) (.int 1) .non = true by show (decide (1 ≤ n) && true) = true; rw [decide_eq_true b] <;> rfl]
      refine iteF ?_
      refine ⟨_, rfl, _, k1, rfl, hk1, fun z' e' _ => ?_, fun g1 => absurd g (by rw [g1]; decide)⟩
      cases e'
      have ht := turn_in z
      refine ⟨_, rfl, _, rfl, _, rfl, _, _, rfl, rfl, .inr ⟨by omega, by omega⟩, sv, k, _, rfl, hk, ?_⟩
      rcases hh with h1 | ⟨h1, a, xs, f, es, hb, hl, hx, hf⟩
      · exact .inl ⟨h1, e⟩
      · exact .inr ⟨h1, a, xs, f, es, hb, hl, hx, fun c => absurd hf (by rw [c]; decide), fun _ => e⟩
    | made z n a ts ps ez g en b es hb hs hl hok e1 e2 q =>
      subst ez en es
      obtain ⟨k3, hk3, hseq⟩ := hb.kd Tx
      have hlt : ts.length ≤ 400 := by rw [hs.len]; exact hl
      have turn := turn_in z
      have nins : ∀ {H' : Hp} {b : Addr} {o : HO}, H' x = some (.ins (He.ga K "Skin") dx []) → H' b = some o → (∀ C d fs, o ≠ .ins C d fs) → b ≠ x := fun {H' b o} h1 h2 h3 e => by
        rw [e, h1] at h2
        exact h3 _ _ _ (Option.some.inj h2).symm
      rcases hb.box Tx with hbl | hbt
      · have sq : ∀ {H' : Hp}, Kp x H H' → SqL K H' a (ts.map V.ref) := fun {H'} k => hbl_kp hx hbl k
        refine ⟨_, (pss_cons (ps_expr (pe_call G_need_kind (hr.mono (by decide)) (by rfl) g_need_kind k_need_kind b_need_kind .nil (passE rfl rfl rfl rfl) (pa_cons (pv 1) pa_nil)))
        (pss_cons (ps_if (pt_not (pt_val (pe_call G_is_within (hr.mono (by decide)) (by rfl) g_is_within k_is_within b_is_within .nil pass0 (pa_cons (pv 2) (pa_cons pe_int (pa_cons pe_non pa_nil)))))) (pss_one (ps_raise rfl (takes_of rfl rfl rfl rfl) (pmk_oex Tx.er_BadSkin.oex Tx.er_BadSkin.ini Tx.er_BadSkin.fn G_BadSkin_init (hr.mono (by decide)) b_BadSkin_init .nil pass0 (by rfl) Tx.g_BadSkin (pa_cons pe_str pa_nil)))) pss_nil)
        (pss_cons (ps_set (i := 4) sc_Skin_init.nd rfl (Or.inl rfl) (pe_call G_sides_of (hr.mono (by decide)) (by rfl) g_sides_of k_sides_of b_sides_of .nil (passE rfl rfl rfl rfl) (pa_cons (pv 1) pa_nil)))
        (pss_cons (ps_expr (pe_call G_need_seams (hr.mono (by decide)) (by rfl) g_need_seams k_need_seams b_need_seams .nil (passE rfl rfl rfl rfl) (pa_cons (pv 3) (pa_cons (pe_op op_mul (pv 2) (pv 4)) pa_nil))))
        (pss_cons (ps_set (i := 5) sc_Skin_init.nd rfl (Or.inl rfl) (pe_call G_first_twice (hr.mono (by decide)) (by rfl) g_first_twice k_first_twice b_first_twice .nil pass0 (pa_cons (pe_call G_sides_in (hr.mono (by decide)) (by rfl) g_sides_in k_sides_in b_sides_in .nil pass0 (pa_cons (pv 3) pa_nil)) pa_nil)))
        (pss_cons (ps_if (pt_cmpR op_notN (pv 5) pe_non (nomark _)) (pss_one (ps_raise rfl (takes_of rfl rfl rfl rfl) (pmk_oex Tx.er_Twice.oex Tx.er_Twice.ini Tx.er_Twice.fn G_Twice_init (hr.mono (by decide)) b_Twice_init .nil pass0 (by rfl) Tx.g_Twice (pa_cons (pv 5) pa_nil)))) pss_nil)
        (pss_cons (ps_if (pt_cmpR op_gt (pv 2) (pe_glob (v := .int 24) (by rfl) (Tx.c_MOST_FACES).choose_spec ⟨_, rfl⟩) (nomark _)) (pss_one (ps_raise rfl (takes_of rfl rfl rfl rfl) (pmk_oex Tx.er_TooMany.oex Tx.er_TooMany.ini Tx.er_TooMany.fn G_TooMany_init (hr.mono (by decide)) b_TooMany_init .nil pass0 (by rfl) Tx.g_TooMany (pa_cons pe_str (pa_cons (pe_glob (v := .int 24) (by rfl) (Tx.c_MOST_FACES).choose_spec ⟨_, rfl⟩) pa_nil))))) pss_nil)
        (C8.pss_cut (ps_fld (pv 0) (pv 1) rfl)
        (C8.pss_cut (ps_fld (pv 0) (pv 2) rfl)
        (C8.pss_cut (ps_fld (pv 0) (pv 4) rfl)
        (C8.pss_cut (ps_fld (pv 0) (pe_call G_full_of (hr.mono (by decide)) (by rfl) g_full_of k_full_of b_full_of .nil (passE rfl rfl rfl rfl) (pa_cons (pv 1) pa_nil)) rfl)
        (C8.pss_cut (ps_fld (pv 0) (pe_op op_mul (pv 2) (pv 4)) rfl)
        (C8.pss_cut (ps_fld (pv 0) (pe_callTy call_tuple_of (by rfl) Tx.n_tuple (by decide +kernel) (pa_cons (pe_callB cr_sortedPO (by rfl) Tx.n_sorted (by decide +kernel) (pa_cons (pe_lc (own := [("seam", 6)]) (g := gName 6) (tt := tYes) rfl sc_Skin_init.nd (pi_list (pv 3)) (blkOk_by (own := [("seam", 6)]) (N := ["self", "kind", "faces", "seams", "turn", "twice", "seam", "side"]) (sc := defScope s_Skin_init) (by decide +kernel)) (fun _ _ _ _ _ => (pg_name (i := 6) sc_Skin_init.nd rfl (Or.inl rfl))) (fun _ _ _ _ _ => pts_nil) (fun _ _ _ _ _ => (pe_tup (pa_cons (pe_callB (cr_minBK (K := K) rfl rfl hr.units) (by rfl) Tx.n_min (by decide +kernel) (pa_cons (pv 6) pa_nil)) (pa_cons (pe_callB (cr_maxBK (K := K) rfl rfl hr.units) (by rfl) Tx.n_max (by decide +kernel) (pa_cons (pv 6) pa_nil)) pa_nil))))) pa_nil)) pa_nil)) rfl)
        (C8.pss_cut (ps_fld (pv 0) (pe_call G_mates_of (hr.mono (by decide)) (by rfl) g_mates_of k_mates_of b_mates_of .nil pass0 (pa_cons (pv 3) (pa_cons (pe_fld (pv 0) rfl) pa_nil))) rfl)
        (C8.pss_cut (ps_fld (pv 0) (pe_call G_turned_sides (hr.mono (by decide)) (by rfl) g_turned_sides k_turned_sides b_turned_sides .nil pass0 (pa_cons (pe_fld (pv 0) rfl) (pa_cons (pv 4) (pa_cons pe_int pa_nil)))) rfl)
        (C8.pss_cut (ps_fld (pv 0) (pe_call G_turned_sides (hr.mono (by decide)) (by rfl) g_turned_sides k_turned_sides b_turned_sides .nil pass0 (pa_cons (pe_fld (pv 0) rfl) (pa_cons (pv 4) (pa_cons (pe_op op_sub (pv 4) pe_int) pa_nil)))) rfl)
        (pss_one (ps_fld (pv 0) (pe_callTy call_tuple_of (by rfl) Tx.n_tuple (by decide +kernel) (pa_cons (pe_lc (own := [("side", 7)]) (g := gName 7) rfl sc_Skin_init.nd (pi_range1 (by rfl) Tx.n_range (pa_cons (pe_fld (pv 0) rfl) pa_nil)) (blkOk_by (own := [("side", 7)]) (N := ["self", "kind", "faces", "seams", "turn", "twice", "seam", "side"]) (sc := defScope s_Skin_init) (by decide +kernel)) (fun _ _ _ _ _ => (pg_name (i := 7) sc_Skin_init.nd rfl (Or.inl rfl))) (fun _ _ _ _ _ => (pts_one (pt_cmpR op_isN (pe_ix (ix_tupK (K := K) rfl) (pe_fldK (K := K) rfl (pv 0) rfl) (pv 7) (fun _ _ => rfl)) pe_non (nomark _)))) (fun _ _ _ _ _ => (pv 7))) pa_nil)) rfl)))))))))))))))))), ?_⟩
        refine ⟨_, rfl, _, k1, rfl, hk1, fun _ => ?_, fun g1 => absurd g (by rw [g1]; decide)⟩
        refine ⟨_, rfl, _, .int 1, .non, k2, rfl, hk2, rfl, rfl, _, rfl, ?_⟩
        rw [show bnd (.int n) (.int 1) .non = true by show (decide (1 ≤ n) && true) = true; rw [decide_eq_true b] <;> rfl]
        refine iteF ?_
        refine ⟨_, rfl, _, k1, rfl, hk1, fun z' e' _ => ?_, fun g1 => absurd g (by rw [g1]; decide)⟩
        cases e'
        refine ⟨_, rfl, _, rfl, _, rfl, _, _, rfl, rfl, .inr ⟨by omega, by omega⟩, _, k3, _, rfl, hk3, .inr ⟨hseq, a, ts.map V.ref, fun _ => true, rfl, hb.box Tx, by rw [List.length_map]; omega, items_ok hs hok, fun _ H1 s1 => ?_, fun c => ?_⟩⟩
        · refine ⟨_, rfl, a, ts, ps, rfl, (hb.box Tx).same s1, hs.same s1, hl, fun H2 r s2 nr hr => ?_⟩
          refine ⟨r, flat2 ps, rfl, SqL.of hr, by rw [flat2_len]; omega, fun H3 s3 => ?_⟩
          have s03 := (s1.trans s2).trans s3
          refine ⟨_, rfl, rfl, _, rfl, ?_⟩
          cases ht : tw (flat2 ps) with
          | some t => exact ⟨_, rfl, mk1 Tx.er_Twice.oex (Tx.er_Twice.no "value" (by simp)) ((e1 t ht).same s03)⟩
          | none =>
            refine ⟨_, rfl, _, _, rfl, rfl, _, rfl, ite2 (fun h24 => ?_) (fun h24 => ?_)⟩
            · exact mk2 Tx.er_TooMany.oex (Tx.er_TooMany.no "what" (by simp)) (Tx.er_TooMany.no "most" (by simp)) ((e2 ht (of_decide_eq_true h24)).same s03)
            · have n24 : n ≤ 24 := Int.not_lt.mp fun c => h24 (decide_eq_true c)
              have hN0 : 0 ≤ n * turnOf z := by rcases turn with e | e <;> rw [e] <;> omega
              have hN1 : n * turnOf z ≤ 96 := by rcases turn with e | e <;> rw [e] <;> omega
              let σ0 : L2.St := [some (.ref x), some (.str z), some (.int n), some (.ref a), some (.int (turnOf z)), some .non, none, none]
              refine ⟨fun σ H' => σ = σ0 ∧ Stg K x dx H H' [("kind", .str z)], ?_, ?_⟩
              · refine ⟨_, rfl, _, rfl, x, _, dx, _, rfl, s03 _ _ hx, Tx.cl_Skin, Tx.no_Skin_kind, (show 0 < 1000 by decide), rfl, ?_⟩
                exact Stg.put (ns := []) ⟨s03 _ _ hx, Kp.same s03⟩ rfl (by simp)
              · rintro σ H4 ⟨rfl, t4⟩
                refine ⟨fun σ H' => σ = σ0 ∧ Stg K x dx H H' [("kind", .str z), ("faces", .int n)], ?_, ?_⟩
                · refine ⟨_, rfl, _, rfl, x, _, dx, _, rfl, t4.ins, Tx.cl_Skin, Tx.no_Skin_faces, (show 1 < 1000 by decide), rfl, ?_⟩
                  exact Stg.put (ns := ["kind"]) t4 rfl (by decide +kernel)
                · rintro σ H5 ⟨rfl, t5⟩
                  refine ⟨fun σ H' => σ = σ0 ∧ Stg K x dx H H' [("kind", .str z), ("faces", .int n), ("turn", .int (turnOf z))], ?_, ?_⟩
                  · refine ⟨_, rfl, _, rfl, x, _, dx, _, rfl, t5.ins, Tx.cl_Skin, Tx.no_Skin_turn, (show 2 < 1000 by decide), rfl, ?_⟩
                    exact Stg.put (ns := ["kind", "faces"]) t5 rfl (by decide +kernel)
                  · rintro σ H6 ⟨rfl, t6⟩
                    refine ⟨fun σ H' => σ = σ0 ∧ Stg K x dx H H' [("kind", .str z), ("faces", .int n), ("turn", .int (turnOf z)), ("full", .int (fullOf z))], ?_, ?_⟩
                    · refine ⟨_, rfl, _, .str, rfl, True.intro, fun z' e' _ => ?_, fun g1 => absurd g (by rw [g1]; decide)⟩
                      cases e'
                      refine ⟨_, rfl, x, _, dx, _, rfl, t6.ins, Tx.cl_Skin, Tx.no_Skin_full, (show 3 < 1000 by decide), rfl, ?_⟩
                      exact Stg.put (ns := ["kind", "faces", "turn"]) t6 rfl (by decide +kernel)
                    · rintro σ H7 ⟨rfl, t7⟩
                      refine ⟨fun σ H' => σ = σ0 ∧ Stg K x dx H H' [("kind", .str z), ("faces", .int n), ("turn", .int (turnOf z)), ("full", .int (fullOf z)), ("sides", .int (n * turnOf z))], ?_, ?_⟩
                      · refine ⟨_, rfl, _, rfl, _, _, rfl, rfl, .inr ⟨by omega, by omega⟩, _, rfl, x, _, dx, _, rfl, t7.ins, Tx.cl_Skin, Tx.no_Skin_sides, (show 4 < 1000 by decide), rfl, ?_⟩
                        exact Stg.put (ns := ["kind", "faces", "turn", "full"]) t7 rfl (by decide +kernel)
                      · rintro σ H8 ⟨rfl, t8⟩
                        have hs8 : SeamsB H8 ts ps := seamsB_kp hx hs t8.kp
                        refine ⟨fun σ H' => σ = σ0 ∧ ∃ (st : Addr) (us : List Addr) (qs : List (Int × Int)), Stg K x dx H H' [("kind", .str z), ("faces", .int n), ("turn", .int (turnOf z)), ("full", .int (fullOf z)), ("sides", .int (n * turnOf z)), ("seams", .ref st)] ∧ H' st = some (.tup (us.map V.ref)) ∧ Seams H' us qs ∧ qs.Perm (ps.map srt) ∧ SrtO.Srtd SrtO.lexB qs, ?_, ?_⟩
                        · refine ⟨_, rfl, a, rfl, ⟨_, sq t8.kp⟩, fun D nD => ?_⟩
                          refine lc_it (walk_list (K := K) (a := a) (xs := ts.map V.ref)) (fun i H' => ∃ us : List Addr, Same H8 H' ∧ H' D = some (.lst (us.map V.ref)) ∧ Seams H' us ((ps.take i).map srt)) ⟨[], same_new nD, upd_same, ⟨rfl, fun i t p h => by simp at h⟩⟩ (fun i H' _ p => by obtain ⟨_, s8, _⟩ := p; exact sq (t8.kp.trans (Kp.same s8))) (fun i v H' H'' hi p y => ?_) (fun H' p => ?_)
                          · obtain ⟨us, s8, hD, hus⟩ := p
                            obtain ⟨rfl, hv⟩ := y
                            obtain ⟨t, p, rfl, htt, hp, htup⟩ := hs8.get hv
                            refine ⟨rfl, ?_⟩
                            refine ⟨_, rfl, t, p.1, p.2, rfl, (htup.same s8).box, _, rfl, t, p.1, p.2, rfl, (htup.same s8).box, le_line (n := 2) (by decide), fun T nT => ?_⟩
                            have sT : Same H'' (upd H'' T (.tup [.int (srt p).1, .int (srt p).2])) := same_new nT
                            have D8 : H8 D = none := nD
                            refine ⟨_, sT _ _ hD, ?_, us ++ [T], Same.mut (s8.trans sT) D8, by rw [upd_same, List.map_append]; rfl, ?_⟩
                            · rw [List.length_map, hus.len, List.length_map, List.length_take]
                              exact small_line (by omega)
                            · have hTD : T ≠ D := (ne_of_none hD nT).symm
                              have ep : (ps.take (i + 1)).map srt = (ps.take i).map srt ++ [srt p] := by
                                rw [List.take_add_one, hp, Option.toList_some, List.map_append]
                                rfl
                              rw [ep]
                              exact hus.push (p := srt p) (ys := us.map V.ref ++ [V.ref T]) nT hD
                          · obtain ⟨us, s8, hD, hus⟩ := p
                            have el : (ps.take (ts.map V.ref).length).map srt = ps.map srt := by rw [List.length_map, hs.len, List.take_length]
                            rw [el] at hus
                            refine ⟨D, _, pairOf H', rfl, SqL.of hD, fun v hv => ?_, fun ys p hsr hstb np => ?_⟩
                            · obtain ⟨i, hi, e⟩ := List.mem_iff_getElem.mp hv
                              obtain ⟨t, pr, rfl, _, _, htup⟩ := hus.get (by rw [List.getElem?_eq_getElem hi, e])
                              exact ⟨t, rfl, by rw [pairOf_at htup]; exact htup⟩
                            · obtain ⟨vs, qs, rfl, hvs, hq, eqs⟩ := perm_seams hus hstb.perm
                              have hsq : SrtO.Srtd SrtO.lexB qs := by rw [eqs]; exact SrtO.srtd_map (lt := SrtO.lexB) hsr
                              refine ⟨p, _, rfl, .inl ⟨SqL.of upd_same, fun st nst => ?_⟩⟩
                              have s9 : Same H8 _ := s8.trans ((same_new np).trans (same_new (o := .tup (vs.map V.ref)) nst))
                              have t9 : Stg K x dx H _ _ := ⟨s9 _ _ t8.ins, t8.kp.trans (Kp.same s9)⟩
                              refine ⟨_, rfl, x, _, dx, _, rfl, t9.ins, Tx.cl_Skin, Tx.no_Skin_seams, (show 5 < 1000 by decide), rfl, st, vs, qs, ?_, ?_, ?_, hq, hsq⟩
                              · exact Stg.put (ns := ["kind", "faces", "turn", "full", "sides"]) t9 rfl (by decide +kernel)
                              · rw [upd_ne (fun e => ?_), upd_same]
                                rw [e] at nst
                                have := ((s8.trans (same_new np)) _ _ t8.ins).symm.trans nst
                                cases this
                              · have h9 : Seams _ vs qs := (hvs.same (same_new np)).same (same_new (o := .tup (vs.map V.ref)) nst)
                                exact h9.upd t9.ins
                        · rintro σ H9 ⟨rfl, st, us, qs, t9, h9, hus, hq, hsq⟩
                          refine ⟨fun σ H' => σ = σ0 ∧ ∃ (mt : Addr), Stg K x dx H H' [("kind", .str z), ("faces", .int n), ("turn", .int (turnOf z)), ("full", .int (fullOf z)), ("sides", .int (n * turnOf z)), ("seams", .ref st), ("mates", .ref mt)] ∧ H' st = some (.tup (us.map V.ref)) ∧ Seams H' us qs ∧ H' mt = some (.tup (msL ps (n * turnOf z).toNat)), ?_, ?_⟩
                          · refine ⟨_, rfl, _, rfl, x, _, dx, _, _, rfl, t9.ins, Tx.cl_Skin, Tx.no_Skin_sides, rfl, a, ts, ps, _, rfl, box_kp hx (hb.box Tx) t9.kp, seamsB_kp hx hs t9.kp, hok, hN0, by omega, fun H10 mt s10 nmt hmt => ?_⟩
                            have t10 : Stg K x dx H H10 _ := ⟨s10 _ _ t9.ins, t9.kp.trans (Kp.same s10)⟩
                            refine ⟨_, rfl, x, _, dx, _, rfl, t10.ins, Tx.cl_Skin, Tx.no_Skin_mates, (show 6 < 1000 by decide), rfl, mt, ?_, ?_, ?_, ?_⟩
                            · exact Stg.put (ns := ["kind", "faces", "turn", "full", "sides", "seams"]) t10 rfl (by decide +kernel)
                            · exact tup_upd t10.ins (s10 _ _ h9)
                            · exact (hus.same s10).upd t10.ins
                            · exact tup_upd t10.ins hmt
                          · rintro σ H11 ⟨rfl, mt, t11, h11, hus11, hmt⟩
                            refine ⟨fun σ H' => σ = σ0 ∧ ∃ (nt : Addr), Stg K x dx H H' [("kind", .str z), ("faces", .int n), ("turn", .int (turnOf z)), ("full", .int (fullOf z)), ("sides", .int (n * turnOf z)), ("seams", .ref st), ("mates", .ref mt), ("nexts", .ref nt)] ∧ H' st = some (.tup (us.map V.ref)) ∧ Seams H' us qs ∧ H' mt = some (.tup (msL ps (n * turnOf z).toNat)) ∧ H' nt = some (.tup (tnL (n * turnOf z).toNat (turnOf z) 1)), ?_, ?_⟩
                            · refine ⟨_, rfl, x, _, dx, _, _, rfl, t11.ins, Tx.cl_Skin, Tx.no_Skin_sides, rfl, _, rfl, n * turnOf z, turnOf z, 1, rfl, hN0, by omega, by omega, by omega, fun H12 nt s12 nnt hnt => ?_⟩
                              have t12 : Stg K x dx H H12 _ := ⟨s12 _ _ t11.ins, t11.kp.trans (Kp.same s12)⟩
                              refine ⟨_, rfl, x, _, dx, _, rfl, t12.ins, Tx.cl_Skin, Tx.no_Skin_nexts, (show 7 < 1000 by decide), rfl, nt, ?_, ?_, ?_, ?_, ?_⟩
                              · exact Stg.put (ns := ["kind", "faces", "turn", "full", "sides", "seams", "mates"]) t12 rfl (by decide +kernel)
                              · exact tup_upd t12.ins (s12 _ _ h11)
                              · exact (hus11.same s12).upd t12.ins
                              · exact tup_upd t12.ins (s12 _ _ hmt)
                              · exact tup_upd t12.ins hnt
                            rintro σ H11 ⟨rfl, nt, t11, h11, hus11, hmt, hnt⟩
                            refine ⟨fun σ H' => σ = σ0 ∧ ∃ (bt : Addr), Stg K x dx H H' [("kind", .str z), ("faces", .int n), ("turn", .int (turnOf z)), ("full", .int (fullOf z)), ("sides", .int (n * turnOf z)), ("seams", .ref st), ("mates", .ref mt), ("nexts", .ref nt), ("backs", .ref bt)] ∧ H' st = some (.tup (us.map V.ref)) ∧ Seams H' us qs ∧ H' mt = some (.tup (msL ps (n * turnOf z).toNat)) ∧ H' nt = some (.tup (tnL (n * turnOf z).toNat (turnOf z) 1)) ∧ H' bt = some (.tup (tnL (n * turnOf z).toNat (turnOf z) (turnOf z - 1))), ?_, ?_⟩
                            · refine ⟨_, rfl, x, _, dx, _, _, rfl, t11.ins, Tx.cl_Skin, Tx.no_Skin_sides, rfl, _, rfl, _, rfl, _, _, rfl, rfl, n * turnOf z, turnOf z, turnOf z - 1, rfl, hN0, by omega, by omega, by omega, fun H12 bt s12 nbt hbk => ?_⟩
                              have t12 : Stg K x dx H H12 _ := ⟨s12 _ _ t11.ins, t11.kp.trans (Kp.same s12)⟩
                              refine ⟨_, rfl, x, _, dx, _, rfl, t12.ins, Tx.cl_Skin, Tx.no_Skin_backs, (show 8 < 1000 by decide), rfl, bt, ?_, ?_, ?_, ?_, ?_, ?_⟩
                              · exact Stg.put (ns := ["kind", "faces", "turn", "full", "sides", "seams", "mates", "nexts"]) t12 rfl (by decide +kernel)
                              · exact tup_upd t12.ins (s12 _ _ h11)
                              · exact (hus11.same s12).upd t12.ins
                              · exact tup_upd t12.ins (s12 _ _ hmt)
                              · exact tup_upd t12.ins (s12 _ _ hnt)
                              · exact tup_upd t12.ins hbk
                            · rintro σ H11 ⟨rfl, bt, t11, h11, hus11, hmt, hnt, hbk⟩
                              obtain ⟨N, hN⟩ := Int.eq_ofNat_of_zero_le hN0
                              rw [hN] at hmt t11 hnt hbk
                              have hmt' : H11 mt = some (.tup (msL ps N)) := hmt
                              refine ⟨_, rfl, x, _, dx, _, _, rfl, t11.ins, Tx.cl_Skin, Tx.no_Skin_sides, rfl, _, rfl, by omega, by omega, fun D nD => ?_⟩
                              refine lc_pure ((walk_range (lo := 0) (n := (N : Int).toNat)).mono (Y' := fun i H x H' => H' = H ∧ (rgL N)[i]? = some x) (fun _ h => h) (fun i H x H' hi _ y => ⟨y.1, by rw [y.2]; exact rgL_at hi⟩)) (rgL N) (by rw [rgL_len]; rfl) (by rw [rgL_len]; omega) (fun i H x H' y => ⟨same_of_eq y.1, y.2⟩) (fun x => x) (keepF (msL ps N)) nD (fun _ _ => True.intro) (fun i v H2 Q1 Q0 hi s2 q1 q0 => ?_) (fun H2 s2 hD => ?_)
                              · refine ⟨rfl, ?_⟩
                                obtain ⟨iN, rfl⟩ := rgL_get hi
                                have hlt : i < (msL ps N).length := by rw [msL_len]; exact iN
                                refine ⟨_, rfl, x, _, dx, _, _, rfl, s2 _ _ t11.ins, Tx.cl_Skin, Tx.no_Skin_mates, rfl, _, rfl, mt, _, _, (msL ps N)[i], rfl, rfl, SqT.of (s2 _ _ hmt'), atI_nat (List.getElem?_eq_getElem hlt), rfl, _, rfl, ?_⟩
                                have ek := keepF_at (List.getElem?_eq_getElem hlt)
                                refine ite2 (fun e => ?_) (fun e => ?_)
                                · exact ⟨_, rfl, q1 (ek.trans e) _ (Same.refl _)⟩
                                · exact q0 (ek.trans (Bool.eq_false_iff.mpr e)) _ (Same.refl _)
                              · rw [List.map_id', rgL_keep] at hD
                                refine ⟨D, _, rfl, .inl ⟨SqL.of hD, fun ft nft => ?_⟩⟩
                                have s12 : Same H11 _ := s2.trans (same_new (o := .tup ((frL ps N).map V.int)) nft)
                                have t12 : Stg K x dx H _ _ := ⟨s12 _ _ t11.ins, t11.kp.trans (Kp.same s12)⟩
                                refine ⟨_, rfl, x, _, dx, _, rfl, t12.ins, Tx.cl_Skin, Tx.no_Skin_free, (show 9 < 1000 by decide), ?_⟩
                                have t13 := Stg.put (f := "free") (v := .ref ft) (ns := ["kind", "faces", "turn", "full", "sides", "seams", "mates", "nexts", "backs"]) t12 rfl (by decide +kernel)
                                refine q ht n24 _ t13.kp ⟨dx, st, mt, ft, us, qs, ⟨(nt, bt), ?_, ?_, ?_⟩, ?_, ?_, hq, hsq, ?_, ?_⟩
                                · rw [t13.ins, ← hN]
                                  rfl
                                · rw [hN]
                                  exact tup_upd t12.ins (s12 _ _ hnt)
                                · rw [hN]
                                  exact tup_upd t12.ins (s12 _ _ hbk)
                                · exact tup_upd t12.ins (s12 _ _ h11)
                                · exact (hus11.same s12).upd t12.ins
                                · rw [hN]
                                  exact tup_upd t12.ins (s12 _ _ hmt')
                                · rw [hN]
                                  exact tup_upd t12.ins upd_same
        · cases c.symm.trans (show ((ts.map V.ref).all fun _ => true) = true from List.all_eq_true.mpr fun _ _ => rfl)
      · have sq : ∀ {H' : Hp}, Kp x H H' → SqT K H' a (ts.map V.ref) := fun {H'} k => hbt_kp hx hbt k
        refine ⟨_, (pss_cons (ps_expr (pe_call G_need_kind (hr.mono (by decide)) (by rfl) g_need_kind k_need_kind b_need_kind .nil (passE rfl rfl rfl rfl) (pa_cons (pv 1) pa_nil)))
        (pss_cons (ps_if (pt_not (pt_val (pe_call G_is_within (hr.mono (by decide)) (by rfl) g_is_within k_is_within b_is_within .nil pass0 (pa_cons (pv 2) (pa_cons pe_int (pa_cons pe_non pa_nil)))))) (pss_one (ps_raise rfl (takes_of rfl rfl rfl rfl) (pmk_oex Tx.er_BadSkin.oex Tx.er_BadSkin.ini Tx.er_BadSkin.fn G_BadSkin_init (hr.mono (by decide)) b_BadSkin_init .nil pass0 (by rfl) Tx.g_BadSkin (pa_cons pe_str pa_nil)))) pss_nil)
        (pss_cons (ps_set (i := 4) sc_Skin_init.nd rfl (Or.inl rfl) (pe_call G_sides_of (hr.mono (by decide)) (by rfl) g_sides_of k_sides_of b_sides_of .nil (passE rfl rfl rfl rfl) (pa_cons (pv 1) pa_nil)))
        (pss_cons (ps_expr (pe_call G_need_seams (hr.mono (by decide)) (by rfl) g_need_seams k_need_seams b_need_seams .nil (passE rfl rfl rfl rfl) (pa_cons (pv 3) (pa_cons (pe_op op_mul (pv 2) (pv 4)) pa_nil))))
        (pss_cons (ps_set (i := 5) sc_Skin_init.nd rfl (Or.inl rfl) (pe_call G_first_twice (hr.mono (by decide)) (by rfl) g_first_twice k_first_twice b_first_twice .nil pass0 (pa_cons (pe_call G_sides_in (hr.mono (by decide)) (by rfl) g_sides_in k_sides_in b_sides_in .nil pass0 (pa_cons (pv 3) pa_nil)) pa_nil)))
        (pss_cons (ps_if (pt_cmpR op_notN (pv 5) pe_non (nomark _)) (pss_one (ps_raise rfl (takes_of rfl rfl rfl rfl) (pmk_oex Tx.er_Twice.oex Tx.er_Twice.ini Tx.er_Twice.fn G_Twice_init (hr.mono (by decide)) b_Twice_init .nil pass0 (by rfl) Tx.g_Twice (pa_cons (pv 5) pa_nil)))) pss_nil)
        (pss_cons (ps_if (pt_cmpR op_gt (pv 2) (pe_glob (v := .int 24) (by rfl) (Tx.c_MOST_FACES).choose_spec ⟨_, rfl⟩) (nomark _)) (pss_one (ps_raise rfl (takes_of rfl rfl rfl rfl) (pmk_oex Tx.er_TooMany.oex Tx.er_TooMany.ini Tx.er_TooMany.fn G_TooMany_init (hr.mono (by decide)) b_TooMany_init .nil pass0 (by rfl) Tx.g_TooMany (pa_cons pe_str (pa_cons (pe_glob (v := .int 24) (by rfl) (Tx.c_MOST_FACES).choose_spec ⟨_, rfl⟩) pa_nil))))) pss_nil)
        (C8.pss_cut (ps_fld (pv 0) (pv 1) rfl)
        (C8.pss_cut (ps_fld (pv 0) (pv 2) rfl)
        (C8.pss_cut (ps_fld (pv 0) (pv 4) rfl)
        (C8.pss_cut (ps_fld (pv 0) (pe_call G_full_of (hr.mono (by decide)) (by rfl) g_full_of k_full_of b_full_of .nil (passE rfl rfl rfl rfl) (pa_cons (pv 1) pa_nil)) rfl)
        (C8.pss_cut (ps_fld (pv 0) (pe_op op_mul (pv 2) (pv 4)) rfl)
        (C8.pss_cut (ps_fld (pv 0) (pe_callTy call_tuple_of (by rfl) Tx.n_tuple (by decide +kernel) (pa_cons (pe_callB cr_sortedPO (by rfl) Tx.n_sorted (by decide +kernel) (pa_cons (pe_lc (own := [("seam", 6)]) (g := gName 6) (tt := tYes) rfl sc_Skin_init.nd (pi_tup (pv 3)) (blkOk_by (own := [("seam", 6)]) (N := ["self", "kind", "faces", "seams", "turn", "twice", "seam", "side"]) (sc := defScope s_Skin_init) (by decide +kernel)) (fun _ _ _ _ _ => (pg_name (i := 6) sc_Skin_init.nd rfl (Or.inl rfl))) (fun _ _ _ _ _ => pts_nil) (fun _ _ _ _ _ => (pe_tup (pa_cons (pe_callB (cr_minBK (K := K) rfl rfl hr.units) (by rfl) Tx.n_min (by decide +kernel) (pa_cons (pv 6) pa_nil)) (pa_cons (pe_callB (cr_maxBK (K := K) rfl rfl hr.units) (by rfl) Tx.n_max (by decide +kernel) (pa_cons (pv 6) pa_nil)) pa_nil))))) pa_nil)) pa_nil)) rfl)
        (C8.pss_cut (ps_fld (pv 0) (pe_call G_mates_of (hr.mono (by decide)) (by rfl) g_mates_of k_mates_of b_mates_of .nil pass0 (pa_cons (pv 3) (pa_cons (pe_fld (pv 0) rfl) pa_nil))) rfl)
        (C8.pss_cut (ps_fld (pv 0) (pe_call G_turned_sides (hr.mono (by decide)) (by rfl) g_turned_sides k_turned_sides b_turned_sides .nil pass0 (pa_cons (pe_fld (pv 0) rfl) (pa_cons (pv 4) (pa_cons pe_int pa_nil)))) rfl)
        (C8.pss_cut (ps_fld (pv 0) (pe_call G_turned_sides (hr.mono (by decide)) (by rfl) g_turned_sides k_turned_sides b_turned_sides .nil pass0 (pa_cons (pe_fld (pv 0) rfl) (pa_cons (pv 4) (pa_cons (pe_op op_sub (pv 4) pe_int) pa_nil)))) rfl)
        (pss_one (ps_fld (pv 0) (pe_callTy call_tuple_of (by rfl) Tx.n_tuple (by decide +kernel) (pa_cons (pe_lc (own := [("side", 7)]) (g := gName 7) rfl sc_Skin_init.nd (pi_range1 (by rfl) Tx.n_range (pa_cons (pe_fld (pv 0) rfl) pa_nil)) (blkOk_by (own := [("side", 7)]) (N := ["self", "kind", "faces", "seams", "turn", "twice", "seam", "side"]) (sc := defScope s_Skin_init) (by decide +kernel)) (fun _ _ _ _ _ => (pg_name (i := 7) sc_Skin_init.nd rfl (Or.inl rfl))) (fun _ _ _ _ _ => (pts_one (pt_cmpR op_isN (pe_ix (ix_tupK (K := K) rfl) (pe_fldK (K := K) rfl (pv 0) rfl) (pv 7) (fun _ _ => rfl)) pe_non (nomark _)))) (fun _ _ _ _ _ => (pv 7))) pa_nil)) rfl)))))))))))))))))), ?_⟩
        refine ⟨_, rfl, _, k1, rfl, hk1, fun _ => ?_, fun g1 => absurd g (by rw [g1]; decide)⟩
        refine ⟨_, rfl, _, .int 1, .non, k2, rfl, hk2, rfl, rfl, _, rfl, ?_⟩
        rw [show bnd (.int n) (.int 1) .non = true by show (decide (1 ≤ n) && true) = true; rw [decide_eq_true b] <;> rfl]
        refine iteF ?_
        refine ⟨_, rfl, _, k1, rfl, hk1, fun z' e' _ => ?_, fun g1 => absurd g (by rw [g1]; decide)⟩
        cases e'
        refine ⟨_, rfl, _, rfl, _, rfl, _, _, rfl, rfl, .inr ⟨by omega, by omega⟩, _, k3, _, rfl, hk3, .inr ⟨hseq, a, ts.map V.ref, fun _ => true, rfl, hb.box Tx, by rw [List.length_map]; omega, items_ok hs hok, fun _ H1 s1 => ?_, fun c => ?_⟩⟩
        · refine ⟨_, rfl, a, ts, ps, rfl, (hb.box Tx).same s1, hs.same s1, hl, fun H2 r s2 nr hr => ?_⟩
          refine ⟨r, flat2 ps, rfl, SqL.of hr, by rw [flat2_len]; omega, fun H3 s3 => ?_⟩
          have s03 := (s1.trans s2).trans s3
          refine ⟨_, rfl, rfl, _, rfl, ?_⟩
          cases ht : tw (flat2 ps) with
          | some t => exact ⟨_, rfl, mk1 Tx.er_Twice.oex (Tx.er_Twice.no "value" (by simp)) ((e1 t ht).same s03)⟩
          | none =>
            refine ⟨_, rfl, _, _, rfl, rfl, _, rfl, ite2 (fun h24 => ?_) (fun h24 => ?_)⟩
            · exact mk2 Tx.er_TooMany.oex (Tx.er_TooMany.no "what" (by simp)) (Tx.er_TooMany.no "most" (by simp)) ((e2 ht (of_decide_eq_true h24)).same s03)
            · have n24 : n ≤ 24 := Int.not_lt.mp fun c => h24 (decide_eq_true c)
              have hN0 : 0 ≤ n * turnOf z := by rcases turn with e | e <;> rw [e] <;> omega
              have hN1 : n * turnOf z ≤ 96 := by rcases turn with e | e <;> rw [e] <;> omega
              let σ0 : L2.St := [some (.ref x), some (.str z), some (.int n), some (.ref a), some (.int (turnOf z)), some .non, none, none]
              refine ⟨fun σ H' => σ = σ0 ∧ Stg K x dx H H' [("kind", .str z)], ?_, ?_⟩
              · refine ⟨_, rfl, _, rfl, x, _, dx, _, rfl, s03 _ _ hx, Tx.cl_Skin, Tx.no_Skin_kind, (show 0 < 1000 by decide), rfl, ?_⟩
                exact Stg.put (ns := []) ⟨s03 _ _ hx, Kp.same s03⟩ rfl (by simp)
              · rintro σ H4 ⟨rfl, t4⟩
                refine ⟨fun σ H' => σ = σ0 ∧ Stg K x dx H H' [("kind", .str z), ("faces", .int n)], ?_, ?_⟩
                · refine ⟨_, rfl, _, rfl, x, _, dx, _, rfl, t4.ins, Tx.cl_Skin, Tx.no_Skin_faces, (show 1 < 1000 by decide), rfl, ?_⟩
                  exact Stg.put (ns := ["kind"]) t4 rfl (by decide +kernel)
                · rintro σ H5 ⟨rfl, t5⟩
                  refine ⟨fun σ H' => σ = σ0 ∧ Stg K x dx H H' [("kind", .str z), ("faces", .int n), ("turn", .int (turnOf z))], ?_, ?_⟩
                  · refine ⟨_, rfl, _, rfl, x, _, dx, _, rfl, t5.ins, Tx.cl_Skin, Tx.no_Skin_turn, (show 2 < 1000 by decide), rfl, ?_⟩
                    exact Stg.put (ns := ["kind", "faces"]) t5 rfl (by decide +kernel)
                  · rintro σ H6 ⟨rfl, t6⟩
                    refine ⟨fun σ H' => σ = σ0 ∧ Stg K x dx H H' [("kind", .str z), ("faces", .int n), ("turn", .int (turnOf z)), ("full", .int (fullOf z))], ?_, ?_⟩
                    · refine ⟨_, rfl, _, .str, rfl, True.intro, fun z' e' _ => ?_, fun g1 => absurd g (by rw [g1]; decide)⟩
                      cases e'
                      refine ⟨_, rfl, x, _, dx, _, rfl, t6.ins, Tx.cl_Skin, Tx.no_Skin_full, (show 3 < 1000 by decide), rfl, ?_⟩
                      exact Stg.put (ns := ["kind", "faces", "turn"]) t6 rfl (by decide +kernel)
                    · rintro σ H7 ⟨rfl, t7⟩
                      refine ⟨fun σ H' => σ = σ0 ∧ Stg K x dx H H' [("kind", .str z), ("faces", .int n), ("turn", .int (turnOf z)), ("full", .int (fullOf z)), ("sides", .int (n * turnOf z))], ?_, ?_⟩
                      · refine ⟨_, rfl, _, rfl, _, _, rfl, rfl, .inr ⟨by omega, by omega⟩, _, rfl, x, _, dx, _, rfl, t7.ins, Tx.cl_Skin, Tx.no_Skin_sides, (show 4 < 1000 by decide), rfl, ?_⟩
                        exact Stg.put (ns := ["kind", "faces", "turn", "full"]) t7 rfl (by decide +kernel)
                      · rintro σ H8 ⟨rfl, t8⟩
                        have hs8 : SeamsB H8 ts ps := seamsB_kp hx hs t8.kp
                        refine ⟨fun σ H' => σ = σ0 ∧ ∃ (st : Addr) (us : List Addr) (qs : List (Int × Int)), Stg K x dx H H' [("kind", .str z), ("faces", .int n), ("turn", .int (turnOf z)), ("full", .int (fullOf z)), ("sides", .int (n * turnOf z)), ("seams", .ref st)] ∧ H' st = some (.tup (us.map V.ref)) ∧ Seams H' us qs ∧ qs.Perm (ps.map srt) ∧ SrtO.Srtd SrtO.lexB qs, ?_, ?_⟩
                        · refine ⟨_, rfl, a, rfl, ⟨_, sq t8.kp⟩, fun D nD => ?_⟩
                          refine lc_it (walk_tup (K := K) (a := a) (xs := ts.map V.ref)) (fun i H' => ∃ us : List Addr, Same H8 H' ∧ H' D = some (.lst (us.map V.ref)) ∧ Seams H' us ((ps.take i).map srt)) ⟨[], same_new nD, upd_same, ⟨rfl, fun i t p h => by simp at h⟩⟩ (fun i H' _ p => by obtain ⟨_, s8, _⟩ := p; exact sq (t8.kp.trans (Kp.same s8))) (fun i v H' H'' hi p y => ?_) (fun H' p => ?_)
                          · obtain ⟨us, s8, hD, hus⟩ := p
                            obtain ⟨rfl, hv⟩ := y
                            obtain ⟨t, p, rfl, htt, hp, htup⟩ := hs8.get hv
                            refine ⟨rfl, ?_⟩
                            refine ⟨_, rfl, t, p.1, p.2, rfl, (htup.same s8).box, _, rfl, t, p.1, p.2, rfl, (htup.same s8).box, le_line (n := 2) (by decide), fun T nT => ?_⟩
                            have sT : Same H'' (upd H'' T (.tup [.int (srt p).1, .int (srt p).2])) := same_new nT
                            have D8 : H8 D = none := nD
                            refine ⟨_, sT _ _ hD, ?_, us ++ [T], Same.mut (s8.trans sT) D8, by rw [upd_same, List.map_append]; rfl, ?_⟩
                            · rw [List.length_map, hus.len, List.length_map, List.length_take]
                              exact small_line (by omega)
                            · have hTD : T ≠ D := (ne_of_none hD nT).symm
                              have ep : (ps.take (i + 1)).map srt = (ps.take i).map srt ++ [srt p] := by
                                rw [List.take_add_one, hp, Option.toList_some, List.map_append]
                                rfl
                              rw [ep]
                              exact hus.push (p := srt p) (ys := us.map V.ref ++ [V.ref T]) nT hD
                          · obtain ⟨us, s8, hD, hus⟩ := p
                            have el : (ps.take (ts.map V.ref).length).map srt = ps.map srt := by rw [List.length_map, hs.len, List.take_length]
                            rw [el] at hus
                            refine ⟨D, _, pairOf H', rfl, SqL.of hD, fun v hv => ?_, fun ys p hsr hstb np => ?_⟩
                            · obtain ⟨i, hi, e⟩ := List.mem_iff_getElem.mp hv
                              obtain ⟨t, pr, rfl, _, _, htup⟩ := hus.get (by rw [List.getElem?_eq_getElem hi, e])
                              exact ⟨t, rfl, by rw [pairOf_at htup]; exact htup⟩
                            · obtain ⟨vs, qs, rfl, hvs, hq, eqs⟩ := perm_seams hus hstb.perm
                              have hsq : SrtO.Srtd SrtO.lexB qs := by rw [eqs]; exact SrtO.srtd_map (lt := SrtO.lexB) hsr
                              refine ⟨p, _, rfl, .inl ⟨SqL.of upd_same, fun st nst => ?_⟩⟩
                              have s9 : Same H8 _ := s8.trans ((same_new np).trans (same_new (o := .tup (vs.map V.ref)) nst))
                              have t9 : Stg K x dx H _ _ := ⟨s9 _ _ t8.ins, t8.kp.trans (Kp.same s9)⟩
                              refine ⟨_, rfl, x, _, dx, _, rfl, t9.ins, Tx.cl_Skin, Tx.no_Skin_seams, (show 5 < 1000 by decide), rfl, st, vs, qs, ?_, ?_, ?_, hq, hsq⟩
                              · exact Stg.put (ns := ["kind", "faces", "turn", "full", "sides"]) t9 rfl (by decide +kernel)
                              · rw [upd_ne (fun e => ?_), upd_same]
                                rw [e] at nst
                                have := ((s8.trans (same_new np)) _ _ t8.ins).symm.trans nst
                                cases this
                              · have h9 : Seams _ vs qs := (hvs.same (same_new np)).same (same_new (o := .tup (vs.map V.ref)) nst)
                                exact h9.upd t9.ins
                        · rintro σ H9 ⟨rfl, st, us, qs, t9, h9, hus, hq, hsq⟩
                          refine ⟨fun σ H' => σ = σ0 ∧ ∃ (mt : Addr), Stg K x dx H H' [("kind", .str z), ("faces", .int n), ("turn", .int (turnOf z)), ("full", .int (fullOf z)), ("sides", .int (n * turnOf z)), ("seams", .ref st), ("mates", .ref mt)] ∧ H' st = some (.tup (us.map V.ref)) ∧ Seams H' us qs ∧ H' mt = some (.tup (msL ps (n * turnOf z).toNat)), ?_, ?_⟩
                          · refine ⟨_, rfl, _, rfl, x, _, dx, _, _, rfl, t9.ins, Tx.cl_Skin, Tx.no_Skin_sides, rfl, a, ts, ps, _, rfl, box_kp hx (hb.box Tx) t9.kp, seamsB_kp hx hs t9.kp, hok, hN0, by omega, fun H10 mt s10 nmt hmt => ?_⟩
                            have t10 : Stg K x dx H H10 _ := ⟨s10 _ _ t9.ins, t9.kp.trans (Kp.same s10)⟩
                            refine ⟨_, rfl, x, _, dx, _, rfl, t10.ins, Tx.cl_Skin, Tx.no_Skin_mates, (show 6 < 1000 by decide), rfl, mt, ?_, ?_, ?_, ?_⟩
                            · exact Stg.put (ns := ["kind", "faces", "turn", "full", "sides", "seams"]) t10 rfl (by decide +kernel)
                            · exact tup_upd t10.ins (s10 _ _ h9)
                            · exact (hus.same s10).upd t10.ins
                            · exact tup_upd t10.ins hmt
                          · rintro σ H11 ⟨rfl, mt, t11, h11, hus11, hmt⟩
                            refine ⟨fun σ H' => σ = σ0 ∧ ∃ (nt : Addr), Stg K x dx H H' [("kind", .str z), ("faces", .int n), ("turn", .int (turnOf z)), ("full", .int (fullOf z)), ("sides", .int (n * turnOf z)), ("seams", .ref st), ("mates", .ref mt), ("nexts", .ref nt)] ∧ H' st = some (.tup (us.map V.ref)) ∧ Seams H' us qs ∧ H' mt = some (.tup (msL ps (n * turnOf z).toNat)) ∧ H' nt = some (.tup (tnL (n * turnOf z).toNat (turnOf z) 1)), ?_, ?_⟩
                            · refine ⟨_, rfl, x, _, dx, _, _, rfl, t11.ins, Tx.cl_Skin, Tx.no_Skin_sides, rfl, _, rfl, n * turnOf z, turnOf z, 1, rfl, hN0, by omega, by omega, by omega, fun H12 nt s12 nnt hnt => ?_⟩
                              have t12 : Stg K x dx H H12 _ := ⟨s12 _ _ t11.ins, t11.kp.trans (Kp.same s12)⟩
                              refine ⟨_, rfl, x, _, dx, _, rfl, t12.ins, Tx.cl_Skin, Tx.no_Skin_nexts, (show 7 < 1000 by decide), rfl, nt, ?_, ?_, ?_, ?_, ?_⟩
                              · exact Stg.put (ns := ["kind", "faces", "turn", "full", "sides", "seams", "mates"]) t12 rfl (by decide +kernel)
                              · exact tup_upd t12.ins (s12 _ _ h11)
                              · exact (hus11.same s12).upd t12.ins
                              · exact tup_upd t12.ins (s12 _ _ hmt)
                              · exact tup_upd t12.ins hnt
                            rintro σ H11 ⟨rfl, nt, t11, h11, hus11, hmt, hnt⟩
                            refine ⟨fun σ H' => σ = σ0 ∧ ∃ (bt : Addr), Stg K x dx H H' [("kind", .str z), ("faces", .int n), ("turn", .int (turnOf z)), ("full", .int (fullOf z)), ("sides", .int (n * turnOf z)), ("seams", .ref st), ("mates", .ref mt), ("nexts", .ref nt), ("backs", .ref bt)] ∧ H' st = some (.tup (us.map V.ref)) ∧ Seams H' us qs ∧ H' mt = some (.tup (msL ps (n * turnOf z).toNat)) ∧ H' nt = some (.tup (tnL (n * turnOf z).toNat (turnOf z) 1)) ∧ H' bt = some (.tup (tnL (n * turnOf z).toNat (turnOf z) (turnOf z - 1))), ?_, ?_⟩
                            · refine ⟨_, rfl, x, _, dx, _, _, rfl, t11.ins, Tx.cl_Skin, Tx.no_Skin_sides, rfl, _, rfl, _, rfl, _, _, rfl, rfl, n * turnOf z, turnOf z, turnOf z - 1, rfl, hN0, by omega, by omega, by omega, fun H12 bt s12 nbt hbk => ?_⟩
                              have t12 : Stg K x dx H H12 _ := ⟨s12 _ _ t11.ins, t11.kp.trans (Kp.same s12)⟩
                              refine ⟨_, rfl, x, _, dx, _, rfl, t12.ins, Tx.cl_Skin, Tx.no_Skin_backs, (show 8 < 1000 by decide), rfl, bt, ?_, ?_, ?_, ?_, ?_, ?_⟩
                              · exact Stg.put (ns := ["kind", "faces", "turn", "full", "sides", "seams", "mates", "nexts"]) t12 rfl (by decide +kernel)
                              · exact tup_upd t12.ins (s12 _ _ h11)
                              · exact (hus11.same s12).upd t12.ins
                              · exact tup_upd t12.ins (s12 _ _ hmt)
                              · exact tup_upd t12.ins (s12 _ _ hnt)
                              · exact tup_upd t12.ins hbk
                            · rintro σ H11 ⟨rfl, bt, t11, h11, hus11, hmt, hnt, hbk⟩
                              obtain ⟨N, hN⟩ := Int.eq_ofNat_of_zero_le hN0
                              rw [hN] at hmt t11 hnt hbk
                              have hmt' : H11 mt = some (.tup (msL ps N)) := hmt
                              refine ⟨_, rfl, x, _, dx, _, _, rfl, t11.ins, Tx.cl_Skin, Tx.no_Skin_sides, rfl, _, rfl, by omega, by omega, fun D nD => ?_⟩
                              refine lc_pure ((walk_range (lo := 0) (n := (N : Int).toNat)).mono (Y' := fun i H x H' => H' = H ∧ (rgL N)[i]? = some x) (fun _ h => h) (fun i H x H' hi _ y => ⟨y.1, by rw [y.2]; exact rgL_at hi⟩)) (rgL N) (by rw [rgL_len]; rfl) (by rw [rgL_len]; omega) (fun i H x H' y => ⟨same_of_eq y.1, y.2⟩) (fun x => x) (keepF (msL ps N)) nD (fun _ _ => True.intro) (fun i v H2 Q1 Q0 hi s2 q1 q0 => ?_) (fun H2 s2 hD => ?_)
                              · refine ⟨rfl, ?_⟩
                                obtain ⟨iN, rfl⟩ := rgL_get hi
                                have hlt : i < (msL ps N).length := by rw [msL_len]; exact iN
                                refine ⟨_, rfl, x, _, dx, _, _, rfl, s2 _ _ t11.ins, Tx.cl_Skin, Tx.no_Skin_mates, rfl, _, rfl, mt, _, _, (msL ps N)[i], rfl, rfl, SqT.of (s2 _ _ hmt'), atI_nat (List.getElem?_eq_getElem hlt), rfl, _, rfl, ?_⟩
                                have ek := keepF_at (List.getElem?_eq_getElem hlt)
                                refine ite2 (fun e => ?_) (fun e => ?_)
                                · exact ⟨_, rfl, q1 (ek.trans e) _ (Same.refl _)⟩
                                · exact q0 (ek.trans (Bool.eq_false_iff.mpr e)) _ (Same.refl _)
                              · rw [List.map_id', rgL_keep] at hD
                                refine ⟨D, _, rfl, .inl ⟨SqL.of hD, fun ft nft => ?_⟩⟩
                                have s12 : Same H11 _ := s2.trans (same_new (o := .tup ((frL ps N).map V.int)) nft)
                                have t12 : Stg K x dx H _ _ := ⟨s12 _ _ t11.ins, t11.kp.trans (Kp.same s12)⟩
                                refine ⟨_, rfl, x, _, dx, _, rfl, t12.ins, Tx.cl_Skin, Tx.no_Skin_free, (show 9 < 1000 by decide), ?_⟩
                                have t13 := Stg.put (f := "free") (v := .ref ft) (ns := ["kind", "faces", "turn", "full", "sides", "seams", "mates", "nexts", "backs"]) t12 rfl (by decide +kernel)
                                refine q ht n24 _ t13.kp ⟨dx, st, mt, ft, us, qs, ⟨(nt, bt), ?_, ?_, ?_⟩, ?_, ?_, hq, hsq, ?_, ?_⟩
                                · rw [t13.ins, ← hN]
                                  rfl
                                · rw [hN]
                                  exact tup_upd t12.ins (s12 _ _ hnt)
                                · rw [hN]
                                  exact tup_upd t12.ins (s12 _ _ hbk)
                                · exact tup_upd t12.ins (s12 _ _ h11)
                                · exact (hus11.same s12).upd t12.ins
                                · rw [hN]
                                  exact tup_upd t12.ins (s12 _ _ hmt')
                                · rw [hN]
                                  exact tup_upd t12.ins upd_same
        · cases c.symm.trans (show ((ts.map V.ref).all fun _ => true) = true from List.all_eq_true.mpr fun _ _ => rfl)
theorem has_Skin_init (Tx : Txt K mg) (c : He.SaysX fa fn [] tf ex w hh K) (X : K.In hh) (GG : hh.Ns mainGlobals mg) (h_need_kind : HasX P w K mg base "need_kind" 3 ["kind"] (sp_need_kind K)) (h_is_within : Has P w K mg base "is_within" 2 ["value", "least", "most"] (sp_is_within K)) (h_BadSkin_init : HasM P w K mg base CX0 "BadSkin" "__init__" 1 ["self", "part"] (sp_BadSkin_init K)) (h_sides_of : HasX P w K mg base "sides_of" 4 ["kind"] (sp_sides_of K)) (h_need_seams : HasX P w K mg base "need_seams" 4 ["seams", "sides"] (sp_need_seams K)) (h_first_twice : Has P w K mg base "first_twice" 1 ["values"] (sp_first_twice K)) (h_sides_in : Has P w K mg base "sides_in" 1 ["seams"] (sp_sides_in K)) (h_Twice_init : HasM P w K mg base CX0 "Twice" "__init__" 1 ["self", "value"] (sp_Twice_init K)) (h_TooMany_init : HasM P w K mg base CX0 "TooMany" "__init__" 1 ["self", "what", "most"] (sp_TooMany_init K)) (h_full_of : HasX P w K mg base "full_of" 4 ["kind"] (sp_full_of K)) (h_mates_of : Has P w K mg base "mates_of" 1 ["seams", "sides"] (sp_mates_of K)) (h_turned_sides : Has P w K mg base "turned_sides" 1 ["sides", "turn", "by"] (sp_turned_sides K))   : HasI P w K mg base 5 (sp_Skin_init K) := by
  obtain ⟨fd, F⟩ := c.t.d.def_ 23 (d := d_Skin_init) rfl
  exact ⟨fd, ok_Skin_init F Tx h_need_kind h_is_within h_BadSkin_init h_sides_of h_need_seams h_first_twice h_sides_in h_Twice_init h_TooMany_init h_full_of h_mates_of h_turned_sides, bindsI F⟩

end
end K04

namespace K04
open PySem PySem.Spec PyProof.Rows L2 Vf LamX
section
variable {hh : Heap} {P : Program} {w : World} {K : PySem.W.Frag} {mg : Str → Option Value} {base : Heap}
/-! ### a skin's methods -/
theorem ini_NoSide (Tx : Txt K mg) : PySem.W.findIn K (.ref (He.ga K "NoSide")) "__init__" = some (some (.ref (He.ma K (He.ga K "Missing") "__init__"))) := Tx.er_NoSide.ini.trans (by rw [Tx.ih_NoSide])
def inS (v : V) (n : Int) : Bool := bnd v (.int 0) (.int (n - 1))
theorem inS_int {v : V} {n : Int} (h : inS v n = true) : ∃ i, v = .int i ∧ 0 ≤ i ∧ i < n := by
  unfold inS at h
  cases v with
  | int i =>
    have h' : (decide (0 ≤ i) && decide (i ≤ n - 1)) = true := h
    rw [Bool.and_eq_true, decide_eq_true_iff, decide_eq_true_iff] at h'
    exact ⟨i, rfl, h'.1, by omega⟩
  | _ => cases h
theorem inS_of {i n : Int} (h0 : 0 ≤ i) (h1 : i < n) : inS (.int i) n = true := by
  show (decide (0 ≤ i) && decide (i ≤ n - 1)) = true
  rw [decide_eq_true h0, decide_eq_true (show i ≤ n - 1 by omega)] <;> rfl
theorem at_some {α : Type} {xs : List α} {j : Nat} (h : j < xs.length) : ∃ w, xs[j]? = some w := ⟨_, List.getElem?_eq_getElem h⟩
theorem tnL_len (N : Nat) (t b : Int) : (tnL N t b).length = N := by unfold tnL; simp
def sp_Skin_need_side (K : PySem.W.Frag) : Sp := fun vs H Q E => ∃ (x : Addr) (z : Str) (n : Int) (ps : List (Int × Int)) (v : V) (k : Kd), vs = [.ref x, v] ∧ SkinAt K H x z n ps ∧ KdV K H v k ∧
  (inS v (n * turnOf z) = true → Q .non H) ∧ (inS v (n * turnOf z) = false → Rz E (He.ga K "NoSide") [("value", v)] H)
theorem sc_Skin_need_side : FnScope ["self", "side"] ["self", "side"] (defScope s_Skin_need_side) := ⟨rfl, rfl, rfl, by decide +kernel, rfl, by decide +kernel, by decide +kernel⟩
theorem ok_Skin_need_side {f : Addr} {fd : FuncData} (F : FunD K "need_side" "Skin.need_side" (defArgs s_Skin_need_side) (defBody s_Skin_need_side) (defScope s_Skin_need_side) [] [] f fd) (Tx : Txt K mg) (h_is_within : Has P w K mg base "is_within" 2 ["value", "least", "most"] (sp_is_within K)) (h_Missing_init : HasM P w K mg base CX0 "Missing" "__init__" 1 ["self", "value"] (sp_Missing_init K))   : FnOk P w K mg base (L2.CX P w) 3 f fd ["self", "side"] (sp_Skin_need_side K) := by
  obtain ⟨f_is_within, fd_is_within, G_is_within, g_is_within, k_is_within, b_is_within⟩ := h_is_within
  obtain ⟨fd_Missing_init, G_Missing_init, b_Missing_init⟩ := h_Missing_init
  refine FunD.ok F sc_Skin_need_side (fun vs H Q E h => ?_) (fun cdv A outer s H vs Q E hr h => ?_)
  · obtain ⟨x, z, n, ps, v, k, rfl, _⟩ := h
    rfl
  · obtain ⟨x, z, n, ps, v, k, rfl, ⟨dx, st, mt, ft, us, qs, hx⟩, hk, q, r⟩ := h
    refine ⟨_, (pss_one (ps_if (pt_not (pt_val (pe_call G_is_within (hr.mono (by decide)) (by rfl) g_is_within k_is_within b_is_within .nil pass0 (pa_cons (pv 1) (pa_cons pe_int (pa_cons (pe_op op_sub (pe_fld (pv 0) rfl) pe_int) pa_nil)))))) (pss_one (ps_raise rfl (takes_of rfl rfl rfl rfl) (pmk_oex Tx.er_NoSide.oex (ini_NoSide Tx) Tx.er_Missing.fn G_Missing_init (hr.mono (by decide)) b_Missing_init .nil pass0 (by rfl) Tx.g_NoSide (pa_cons (pv 1) pa_nil)))) pss_nil)), ?_⟩
    refine ⟨_, rfl, _, rfl, x, _, dx, _, _, rfl, hx.ins, Tx.cl_Skin, Tx.no_Skin_sides, rfl, _, _, rfl, rfl, v, .int 0, _, k, rfl, hk, rfl, rfl, _, rfl, ?_⟩
    cases e : inS v (n * turnOf z) with
    | true =>
      rw [show bnd v (.int 0) (.int (n * turnOf z - 1)) = true from e]
      exact iteF (q e)
    | false =>
      rw [show bnd v (.int 0) (.int (n * turnOf z - 1)) = false from e]
      exact iteT ⟨_, rfl, mk1 Tx.er_NoSide.oex (Tx.er_NoSide.no "value" (by simp)) (r e)⟩
theorem has_Skin_need_side (Tx : Txt K mg) (c : He.SaysX fa fn [] tf ex w hh K) (X : K.In hh) (GG : hh.Ns mainGlobals mg) (h_is_within : Has P w K mg base "is_within" 2 ["value", "least", "most"] (sp_is_within K)) (h_Missing_init : HasM P w K mg base CX0 "Missing" "__init__" 1 ["self", "value"] (sp_Missing_init K))   : HasM P w K mg base (L2.CX P w) "Skin" "need_side" 3 ["self", "side"] (sp_Skin_need_side K) := by
  obtain ⟨fd, F⟩ := c.t.d.def_ 24 (d := d_Skin_need_side) rfl
  exact ⟨fd, ok_Skin_need_side F Tx h_is_within h_Missing_init, F.bindsN fun _ _ _ _ _ _ us hl => match us, hl with | [_, _], _ => rfl⟩
def sp_Skin_mate (K : PySem.W.Frag) : Sp := fun vs H Q E => ∃ (x : Addr) (z : Str) (n : Int) (ps : List (Int × Int)) (v : V) (k : Kd), vs = [.ref x, v] ∧ SkinAt K H x z n ps ∧ KdV K H v k ∧
  (∀ i r, v = .int i → 0 ≤ i → i < n * turnOf z → (msL ps (n * turnOf z).toNat)[i.toNat]? = some r → Q r H) ∧ (inS v (n * turnOf z) = false → Rz E (He.ga K "NoSide") [("value", v)] H)
theorem sc_Skin_mate : FnScope ["self", "side"] ["self", "side"] (defScope s_Skin_mate) := ⟨rfl, rfl, rfl, by decide +kernel, rfl, by decide +kernel, by decide +kernel⟩
theorem ok_Skin_mate {f : Addr} {fd : FuncData} (F : FunD K "mate" "Skin.mate" (defArgs s_Skin_mate) (defBody s_Skin_mate) (defScope s_Skin_mate) [] [] f fd) (Tx : Txt K mg) (h_Skin_need_side : HasM P w K mg base (L2.CX P w) "Skin" "need_side" 3 ["self", "side"] (sp_Skin_need_side K))   : FnOk P w K mg base (L2.CX P w) 4 f fd ["self", "side"] (sp_Skin_mate K) := by
  obtain ⟨fd_Skin_need_side, G_Skin_need_side, b_Skin_need_side⟩ := h_Skin_need_side
  refine FunD.ok F sc_Skin_mate (fun vs H Q E h => ?_) (fun cdv A outer s H vs Q E hr h => ?_)
  · obtain ⟨x, z, n, ps, v, k, rfl, _⟩ := h
    rfl
  · obtain ⟨x, z, n, ps, v, k, rfl, hs, hk, q, r⟩ := h
    obtain ⟨dx, st, mt, ft, us, qs, hx⟩ := id hs
    refine ⟨_, (pss_cons (ps_expr (pe_meth (pv 0) Tx.cl_Skin Tx.me_Skin_need_side G_Skin_need_side (hr.mono (by decide)) b_Skin_need_side .nil (passE rfl rfl rfl rfl) (pa_cons (pv 1) pa_nil)))
        (pss_one (ps_ret (pe_ix ix_tup (pe_fld (pv 0) rfl) (pv 1) (fun _ _ => rfl))))), ?_⟩
    refine ⟨_, rfl, x, dx, _, rfl, hx.ins, rfl, _, rfl, x, z, n, ps, v, k, rfl, hs, hk, fun e => ?_, r⟩
    obtain ⟨i, rfl, i0, i1⟩ := inS_int e
    obtain ⟨j, rfl⟩ := Int.eq_ofNat_of_zero_le i0
    obtain ⟨w, hw⟩ := at_some (xs := msL ps (n * turnOf z).toNat) (j := j) (by rw [msL_len]; omega)
    exact ⟨_, rfl, x, _, dx, _, _, rfl, hx.ins, Tx.cl_Skin, Tx.no_Skin_mates, rfl, _, rfl, _, _, _, w, rfl, rfl, SqT.of hx.mates, atI_nat hw, q _ w rfl i0 i1 hw⟩
theorem has_Skin_mate (Tx : Txt K mg) (c : He.SaysX fa fn [] tf ex w hh K) (X : K.In hh) (GG : hh.Ns mainGlobals mg) (h_Skin_need_side : HasM P w K mg base (L2.CX P w) "Skin" "need_side" 3 ["self", "side"] (sp_Skin_need_side K))   : HasM P w K mg base (L2.CX P w) "Skin" "mate" 4 ["self", "side"] (sp_Skin_mate K) := by
  obtain ⟨fd, F⟩ := c.t.d.def_ 25 (d := d_Skin_mate) rfl
  exact ⟨fd, ok_Skin_mate F Tx h_Skin_need_side, F.bindsN fun _ _ _ _ _ _ us hl => match us, hl with | [_, _], _ => rfl⟩
def sp_Skin_next (K : PySem.W.Frag) : Sp := fun vs H Q E => ∃ (x : Addr) (z : Str) (n : Int) (ps : List (Int × Int)) (v : V) (k : Kd), vs = [.ref x, v] ∧ SkinAt K H x z n ps ∧ KdV K H v k ∧
  (∀ i r, v = .int i → 0 ≤ i → i < n * turnOf z → (tnL (n * turnOf z).toNat (turnOf z) 1)[i.toNat]? = some r → Q r H) ∧ (inS v (n * turnOf z) = false → Rz E (He.ga K "NoSide") [("value", v)] H)
theorem sc_Skin_next : FnScope ["self", "side"] ["self", "side"] (defScope s_Skin_next) := ⟨rfl, rfl, rfl, by decide +kernel, rfl, by decide +kernel, by decide +kernel⟩
theorem ok_Skin_next {f : Addr} {fd : FuncData} (F : FunD K "next" "Skin.next" (defArgs s_Skin_next) (defBody s_Skin_next) (defScope s_Skin_next) [] [] f fd) (Tx : Txt K mg) (h_Skin_need_side : HasM P w K mg base (L2.CX P w) "Skin" "need_side" 3 ["self", "side"] (sp_Skin_need_side K))   : FnOk P w K mg base (L2.CX P w) 4 f fd ["self", "side"] (sp_Skin_next K) := by
  obtain ⟨fd_Skin_need_side, G_Skin_need_side, b_Skin_need_side⟩ := h_Skin_need_side
  refine FunD.ok F sc_Skin_next (fun vs H Q E h => ?_) (fun cdv A outer s H vs Q E hr h => ?_)
  · obtain ⟨x, z, n, ps, v, k, rfl, _⟩ := h
    rfl
  · obtain ⟨x, z, n, ps, v, k, rfl, hs, hk, q, r⟩ := h
    obtain ⟨dx, st, mt, ft, us, qs, hx⟩ := id hs
    refine ⟨_, (pss_cons (ps_expr (pe_meth (pv 0) Tx.cl_Skin Tx.me_Skin_need_side G_Skin_need_side (hr.mono (by decide)) b_Skin_need_side .nil (passE rfl rfl rfl rfl) (pa_cons (pv 1) pa_nil)))
        (pss_one (ps_ret (pe_ix ix_tup (pe_fld (pv 0) rfl) (pv 1) (fun _ _ => rfl))))), ?_⟩
    refine ⟨_, rfl, x, dx, _, rfl, hx.ins, rfl, _, rfl, x, z, n, ps, v, k, rfl, hs, hk, fun e => ?_, r⟩
    obtain ⟨i, rfl, i0, i1⟩ := inS_int e
    obtain ⟨j, rfl⟩ := Int.eq_ofNat_of_zero_le i0
    obtain ⟨w, hw⟩ := at_some (xs := tnL (n * turnOf z).toNat (turnOf z) 1) (j := j) (by rw [tnL_len]; omega)
    exact ⟨_, rfl, x, _, dx, _, _, rfl, hx.ins, Tx.cl_Skin, Tx.no_Skin_nexts, rfl, _, rfl, _, _, _, w, rfl, rfl, SqT.of hx.nexts, atI_nat hw, q _ w rfl i0 i1 hw⟩
theorem has_Skin_next (Tx : Txt K mg) (c : He.SaysX fa fn [] tf ex w hh K) (X : K.In hh) (GG : hh.Ns mainGlobals mg) (h_Skin_need_side : HasM P w K mg base (L2.CX P w) "Skin" "need_side" 3 ["self", "side"] (sp_Skin_need_side K))   : HasM P w K mg base (L2.CX P w) "Skin" "next" 4 ["self", "side"] (sp_Skin_next K) := by
  obtain ⟨fd, F⟩ := c.t.d.def_ 26 (d := d_Skin_next) rfl
  exact ⟨fd, ok_Skin_next F Tx h_Skin_need_side, F.bindsN fun _ _ _ _ _ _ us hl => match us, hl with | [_, _], _ => rfl⟩
def sp_Skin_back (K : PySem.W.Frag) : Sp := fun vs H Q E => ∃ (x : Addr) (z : Str) (n : Int) (ps : List (Int × Int)) (v : V) (k : Kd), vs = [.ref x, v] ∧ SkinAt K H x z n ps ∧ KdV K H v k ∧
  (∀ i r, v = .int i → 0 ≤ i → i < n * turnOf z → (tnL (n * turnOf z).toNat (turnOf z) (turnOf z - 1))[i.toNat]? = some r → Q r H) ∧ (inS v (n * turnOf z) = false → Rz E (He.ga K "NoSide") [("value", v)] H)
theorem sc_Skin_back : FnScope ["self", "side"] ["self", "side"] (defScope s_Skin_back) := ⟨rfl, rfl, rfl, by decide +kernel, rfl, by decide +kernel, by decide +kernel⟩
theorem ok_Skin_back {f : Addr} {fd : FuncData} (F : FunD K "back" "Skin.back" (defArgs s_Skin_back) (defBody s_Skin_back) (defScope s_Skin_back) [] [] f fd) (Tx : Txt K mg) (h_Skin_need_side : HasM P w K mg base (L2.CX P w) "Skin" "need_side" 3 ["self", "side"] (sp_Skin_need_side K))   : FnOk P w K mg base (L2.CX P w) 4 f fd ["self", "side"] (sp_Skin_back K) := by
  obtain ⟨fd_Skin_need_side, G_Skin_need_side, b_Skin_need_side⟩ := h_Skin_need_side
  refine FunD.ok F sc_Skin_back (fun vs H Q E h => ?_) (fun cdv A outer s H vs Q E hr h => ?_)
  · obtain ⟨x, z, n, ps, v, k, rfl, _⟩ := h
    rfl
  · obtain ⟨x, z, n, ps, v, k, rfl, hs, hk, q, r⟩ := h
    obtain ⟨dx, st, mt, ft, us, qs, hx⟩ := id hs
    refine ⟨_, (pss_cons (ps_expr (pe_meth (pv 0) Tx.cl_Skin Tx.me_Skin_need_side G_Skin_need_side (hr.mono (by decide)) b_Skin_need_side .nil (passE rfl rfl rfl rfl) (pa_cons (pv 1) pa_nil)))
        (pss_one (ps_ret (pe_ix ix_tup (pe_fld (pv 0) rfl) (pv 1) (fun _ _ => rfl))))), ?_⟩
    refine ⟨_, rfl, x, dx, _, rfl, hx.ins, rfl, _, rfl, x, z, n, ps, v, k, rfl, hs, hk, fun e => ?_, r⟩
    obtain ⟨i, rfl, i0, i1⟩ := inS_int e
    obtain ⟨j, rfl⟩ := Int.eq_ofNat_of_zero_le i0
    obtain ⟨w, hw⟩ := at_some (xs := tnL (n * turnOf z).toNat (turnOf z) (turnOf z - 1)) (j := j) (by rw [tnL_len]; omega)
    exact ⟨_, rfl, x, _, dx, _, _, rfl, hx.ins, Tx.cl_Skin, Tx.no_Skin_backs, rfl, _, rfl, _, _, _, w, rfl, rfl, SqT.of hx.backs, atI_nat hw, q _ w rfl i0 i1 hw⟩
theorem has_Skin_back (Tx : Txt K mg) (c : He.SaysX fa fn [] tf ex w hh K) (X : K.In hh) (GG : hh.Ns mainGlobals mg) (h_Skin_need_side : HasM P w K mg base (L2.CX P w) "Skin" "need_side" 3 ["self", "side"] (sp_Skin_need_side K))   : HasM P w K mg base (L2.CX P w) "Skin" "back" 4 ["self", "side"] (sp_Skin_back K) := by
  obtain ⟨fd, F⟩ := c.t.d.def_ 27 (d := d_Skin_back) rfl
  exact ⟨fd, ok_Skin_back F Tx h_Skin_need_side, F.bindsN fun _ _ _ _ _ _ us hl => match us, hl with | [_, _], _ => rfl⟩
def sp_Skin_face (K : PySem.W.Frag) : Sp := fun vs H Q E => ∃ (x : Addr) (z : Str) (n : Int) (ps : List (Int × Int)) (v : V) (k : Kd), vs = [.ref x, v] ∧ SkinAt K H x z n ps ∧ KdV K H v k ∧
  (∀ i, v = .int i → 0 ≤ i → i < n * turnOf z → Q (.int (i / turnOf z)) H) ∧ (inS v (n * turnOf z) = false → Rz E (He.ga K "NoSide") [("value", v)] H)
theorem sc_Skin_face : FnScope ["self", "side"] ["self", "side"] (defScope s_Skin_face) := ⟨rfl, rfl, rfl, by decide +kernel, rfl, by decide +kernel, by decide +kernel⟩
theorem ok_Skin_face {f : Addr} {fd : FuncData} (F : FunD K "face" "Skin.face" (defArgs s_Skin_face) (defBody s_Skin_face) (defScope s_Skin_face) [] [] f fd) (Tx : Txt K mg) (h_Skin_need_side : HasM P w K mg base (L2.CX P w) "Skin" "need_side" 3 ["self", "side"] (sp_Skin_need_side K))   : FnOk P w K mg base (L2.CX P w) 4 f fd ["self", "side"] (sp_Skin_face K) := by
  obtain ⟨fd_Skin_need_side, G_Skin_need_side, b_Skin_need_side⟩ := h_Skin_need_side
  refine FunD.ok F sc_Skin_face (fun vs H Q E h => ?_) (fun cdv A outer s H vs Q E hr h => ?_)
  · obtain ⟨x, z, n, ps, v, k, rfl, _⟩ := h
    rfl
  · obtain ⟨x, z, n, ps, v, k, rfl, hs, hk, q, r⟩ := h
    obtain ⟨dx, st, mt, ft, us, qs, hx⟩ := id hs
    refine ⟨_, (pss_cons (ps_expr (pe_meth (pv 0) Tx.cl_Skin Tx.me_Skin_need_side G_Skin_need_side (hr.mono (by decide)) b_Skin_need_side .nil (passE rfl rfl rfl rfl) (pa_cons (pv 1) pa_nil)))
        (pss_one (ps_ret (pe_op op_fdiv (pv 1) (pe_fld (pv 0) rfl))))), ?_⟩
    refine ⟨_, rfl, x, dx, _, rfl, hx.ins, rfl, _, rfl, x, z, n, ps, v, k, rfl, hs, hk, fun e => ?_, r⟩
    obtain ⟨i, rfl, i0, i1⟩ := inS_int e
    have tz := turn_in z
    refine ⟨_, rfl, _, rfl, x, _, dx, _, _, rfl, hx.ins, Tx.cl_Skin, Tx.no_Skin_turn, rfl, _, _, rfl, rfl, ⟨by omega, by omega⟩, q _ rfl i0 i1⟩
theorem has_Skin_face (Tx : Txt K mg) (c : He.SaysX fa fn [] tf ex w hh K) (X : K.In hh) (GG : hh.Ns mainGlobals mg) (h_Skin_need_side : HasM P w K mg base (L2.CX P w) "Skin" "need_side" 3 ["self", "side"] (sp_Skin_need_side K))   : HasM P w K mg base (L2.CX P w) "Skin" "face" 4 ["self", "side"] (sp_Skin_face K) := by
  obtain ⟨fd, F⟩ := c.t.d.def_ 28 (d := d_Skin_face) rfl
  exact ⟨fd, ok_Skin_face F Tx h_Skin_need_side, F.bindsN fun _ _ _ _ _ _ us hl => match us, hl with | [_, _], _ => rfl⟩
/-! ### texts -/
def smT (p : Int × Int) : Str := ((Str.empty ++ Str.ofString (toString p.1)) ++ (" " : Str)) ++ Str.ofString (toString p.2)
def skW (z : Str) (n : Int) (qs : List (Int × Int)) : List Str := [z, Str.ofString (toString n), ":"] ++ (if qs = [] then [] else [Txt.join " / " (qs.map smT)])
def skT (z : Str) (n : Int) (qs : List (Int × Int)) : Str := Txt.join " " (skW z n qs)
def Small (i : Int) : Prop := 0 ≤ i ∧ i ≤ 100
theorem small_log {i : Int} (h : Small i) : i.natAbs.log2 < 1920 := by
  have h1 := Nat.log2_le_self i.natAbs
  have := h.1
  have := h.2
  omega
theorem small_txt {i : Int} (h : Small i) : (Str.ofString (toString i)).length ≤ 102 := by
  have h1 := len_str_of_int i
  have := h.1
  have := h.2
  omega
theorem smT_len {p : Int × Int} (h : Small p.1) (g : Small p.2) : (smT p).length ≤ 205 := by
  unfold smT
  rw [app_len, app_len, app_len]
  have h1 := small_txt h
  have h2 := small_txt g
  have h3 : (" " : Str).length = 1 := by decide +kernel
  have h4 : Str.empty.length = 0 := by decide +kernel
  omega
theorem sum_le {α : Type} {f : α → Nat} {b : Nat} : ∀ {xs : List α}, (∀ x ∈ xs, f x ≤ b) → (xs.map f).sum ≤ xs.length * b
  | [], _ => Nat.zero_le _
  | x :: r, h => by
    have h1 := h x (List.mem_cons_self ..)
    have h2 := sum_le (xs := r) fun y hy => h y (List.mem_cons_of_mem _ hy)
    rw [List.map_cons, List.sum_cons, List.length_cons, Nat.succ_mul]
    omega
def sp_skin_words (K : PySem.W.Frag) : Sp := fun vs H Q _ => ∃ (x dx st mt ft : Addr) (us : List Addr) (z : Str) (n : Int) (ps qs : List (Int × Int)), vs = [.ref x] ∧ SkinIs K H x z n ps dx st mt ft us qs ∧ Small n ∧ (∀ q ∈ qs, Small q.1 ∧ Small q.2) ∧ qs.length ≤ 400 ∧
  ∀ H' r, Same H H' → H' r = some (.lst ((skW z n qs).map V.str)) → Q (.ref r) H'
theorem sc_skin_words : FnScope ["skin", "head", "one", "other"] ["skin"] (defScope s_skin_words) := ⟨rfl, rfl, rfl, by decide +kernel, rfl, by decide +kernel, by decide +kernel⟩
theorem ok_skin_words {f : Addr} {fd : FuncData} (F : FunD K "skin_words" "skin_words" (defArgs s_skin_words) (defBody s_skin_words) (defScope s_skin_words) [] [] f fd) (Tx : Txt K mg)    : FnOk P w K mg base CX0 1 f fd ["skin"] (sp_skin_words K) := by
  refine FunD.ok F sc_skin_words (fun vs H Q E h => ?_) (fun cdv A outer s H vs Q E hr h => ?_)
  · obtain ⟨x, dx, st, mt, ft, us, z, n, ps, qs, rfl, _⟩ := h
    rfl
  · obtain ⟨x, dx, st, mt, ft, us, z, n, ps, qs, rfl, hx, hn, hq, hl, q⟩ := h
    refine ⟨_, PSs.nox (pss_cons (ps_set (i := 1) sc_skin_words.nd rfl (Or.inl rfl) (pe_lst (pa_cons (pe_fld (pv 0) rfl) (pa_cons (pe_callTy call_str_int (by rfl) Tx.n_str (by decide +kernel) (pa_cons (pe_fld (pv 0) rfl) pa_nil)) (pa_cons pe_str pa_nil)))))
        (pss_cons (ps_if (pt_not (pt_truth (pe_fld (pv 0) rfl) (by intro _; rfl))) (pss_one (ps_ret (pv 1))) pss_nil)
        (pss_one (ps_ret (pe_op op_cat (pv 1) (pe_lst (pa_cons (pe_join pe_str (pe_lc (own := [("one", 2), ("other", 3)]) (g := _) (tt := tYes) rfl sc_skin_words.nd (pi_tup (pe_fld (pv 0) rfl)) (blkOk_by (own := [("one", 2), ("other", 3)]) (N := ["skin", "head", "one", "other"]) (sc := defScope s_skin_words) (by decide +kernel)) (fun _ _ _ _ _ => (pg_tupK (K := K) (n := 2) rfl rfl (pgs_cons (pg_name (i := 2) sc_skin_words.nd rfl (Or.inl rfl)) (pgs_cons (pg_name (i := 3) sc_skin_words.nd rfl (Or.inl rfl)) pgs_nil)))) (fun _ _ _ _ _ => pts_nil) (fun _ _ _ _ _ => (pe_joined (.cons (pe_fmt (pv 2)) (.cons pe_str (.cons (pe_fmt (pv 3)) .nil))))))) pa_nil))))))), ?_⟩
    refine ⟨_, rfl, x, _, dx, _, _, rfl, hx.ins, Tx.cl_Skin, Tx.no_Skin_kind, rfl, _, rfl, x, _, dx, _, _, rfl, hx.ins, Tx.cl_Skin, Tx.no_Skin_faces, rfl, n, rfl, small_log hn, le_line (n := 3) (by decide), fun h nh => ?_⟩
    have s1 : Same H (upd H h (.lst [.str z, .str (Str.ofString (toString n)), .str ":"])) := same_new nh
    refine ⟨_, rfl, x, _, dx, _, _, rfl, s1 _ _ hx.ins, Tx.cl_Skin, Tx.no_Skin_seams, rfl, _, .inr (.inl ⟨_, SqT.of (s1 _ _ hx.seams), rfl⟩), ?_⟩
    cases us with
    | nil =>
      have e : qs = [] := List.length_eq_zero_iff.mp hx.sts.len.symm
      subst e
      exact ⟨_, rfl, q _ _ s1 upd_same⟩
    | cons u us =>
      have ne : qs ≠ [] := fun e => by
        have := hx.sts.len
        rw [e] at this
        cases this
      have hq' : (qs.map smT).length = qs.length := List.length_map ..
      refine ⟨_, rfl, ⟨_, rfl⟩, _, rfl, x, _, dx, _, _, rfl, s1 _ _ hx.ins, Tx.cl_Skin, Tx.no_Skin_seams, rfl, st, rfl, ⟨_, SqT.of (s1 _ _ hx.seams)⟩, fun D nD => ?_⟩
      have nD0 : H D = none := s1.free nD
      refine run_it (walk_tup (K := K) (a := st) (xs := (u :: us).map V.ref)) (fun i H' => Same (upd H h (.lst [.str z, .str (Str.ofString (toString n)), .str ":"])) H' ∧ H' D = some (.lst (((qs.take i).map smT).map V.str))) ⟨same_new nD, upd_same⟩ (fun i H' _ p => SqT.of (p.1 _ _ (s1 _ _ hx.seams))) (fun i v H' H'' hi p y => ?_) (fun H' p => ?_)
      · obtain ⟨rfl, hv⟩ := y
        obtain ⟨t, pr, rfl, htt, hp, htup⟩ := hx.sts.get hv
        obtain ⟨m1, m2⟩ := hq pr (List.mem_of_getElem? hp)
        refine ⟨t, _, rfl, SqT.of (p.1 _ _ (s1 _ _ htup)), rfl, _, _, rfl, _, _, rfl, rfl, rfl, ?_⟩
        have l1 := small_txt m1
        have l2 := smT_len m1 m2
        have l4 : Str.empty.length = 0 := by decide +kernel
        have l3 : (" " : Str).length = 1 := by decide +kernel
        refine ⟨_, rfl, .inr ⟨_, rfl, small_log m1, _, rfl, le_line (by rw [app_len]; omega), _, rfl, le_line (by rw [app_len, app_len]; omega), _, rfl, .inr ⟨_, rfl, small_log m2, _, rfl, le_line (Nat.le_trans l2 (by decide)), ?_⟩⟩⟩
        refine ⟨_, p.2, ?_, Same.mut p.1 nD, ?_⟩
        · rw [List.length_map, List.length_map, List.length_take]
          exact small_line (by omega)
        · rw [upd_same, List.take_add_one, hp, Option.toList_some, List.map_append, List.map_append]
          rfl
      · have el : qs.take ((u :: us).map V.ref).length = qs := by rw [List.length_map, hx.sts.len, List.take_length]
        have p2 := p.2
        rw [el] at p2
        have bound : ((qs.map smT).map (·.length)).sum + (qs.map smT).length * (" / " : Str).length ≤ 16777216 := by
          have h1 : ((qs.map smT).map (·.length)).sum ≤ (qs.map smT).length * 205 := sum_le fun y hy => by
            obtain ⟨pr, hpr, rfl⟩ := List.mem_map.mp hy
            exact smT_len (hq pr hpr).1 (hq pr hpr).2
          have h2 : (" / " : Str).length = 3 := by decide +kernel
          rw [hq'] at h1 ⊢
          rw [h2]
          omega
        refine ⟨_, D, qs.map smT, rfl, rfl, .inl (SqL.of p2), bound, le_line (n := 1) (by decide), fun l nl => ?_⟩
        have s3 := p.1.trans (same_new (o := .lst [.str (Txt.join " / " (qs.map smT))]) nl)
        refine ⟨h, l, _, _, rfl, rfl, s3 _ _ upd_same, upd_same, le_line (n := 4) (by decide), fun r nr => ?_⟩
        refine q _ _ ((s1.trans s3).trans (same_new nr)) ?_
        rw [upd_same]
        unfold skW
        rw [if_neg ne]
        rfl
theorem has_skin_words (Tx : Txt K mg) (c : He.SaysX fa fn [] tf ex w hh K) (X : K.In hh) (GG : hh.Ns mainGlobals mg)    : Has P w K mg base "skin_words" 1 ["skin"] (sp_skin_words K) := by
  obtain ⟨fd, F⟩ := c.t.d.def_ 34 (d := d_skin_words) rfl
  exact ⟨_, fd, ok_skin_words F Tx , He.glo_ok X GG (c.t.d.fact 27 (f := .glo "skin_words") rfl), F.kp, F.bindsN fun _ _ _ _ _ _ us hl => match us, hl with | [_], _ => rfl⟩
def sp_Skin_str (K : PySem.W.Frag) : Sp := fun vs H Q _ => ∃ (x dx st mt ft : Addr) (us : List Addr) (z : Str) (n : Int) (ps qs : List (Int × Int)), vs = [.ref x] ∧ SkinIs K H x z n ps dx st mt ft us qs ∧ Small n ∧ z.length ≤ 100 ∧ (∀ q ∈ qs, Small q.1 ∧ Small q.2) ∧ qs.length ≤ 400 ∧
  ∀ H', Same H H' → Q (.str (skT z n qs)) H'
theorem skW_size {z : Str} {n : Int} {qs : List (Int × Int)} (hz : z.length ≤ 100) (hn : Small n) (hq : ∀ q ∈ qs, Small q.1 ∧ Small q.2) (hl : qs.length ≤ 400) : ((skW z n qs).map (·.length)).sum + (skW z n qs).length * (" " : Str).length ≤ 16777216 := by
  have l1 : (" " : Str).length = 1 := by decide +kernel
  have l2 : (":" : Str).length = 1 := by decide +kernel
  have l3 := small_txt hn
  unfold skW
  by_cases h : qs = []
  · rw [if_pos h, l1]
    simp only [List.append_nil, List.map_cons, List.map_nil, List.sum_cons, List.sum_nil, List.length_cons, List.length_nil]
    omega
  · rw [if_neg h, l1]
    simp only [List.cons_append, List.nil_append, List.map_cons, List.map_nil, List.sum_cons, List.sum_nil, List.length_cons, List.length_nil]
    have l4 : (Txt.join " / " (qs.map smT)).length ≤ 200000 := by
      have h0 : (Txt.join " / " (qs.map smT)).length = ((qs.map smT).map (·.length)).sum + ((qs.map smT).length - 1) * (" / " : Str).length := size_glued _ _
      have h1 : ((qs.map smT).map (·.length)).sum ≤ (qs.map smT).length * 205 := sum_le fun y hy => by
        obtain ⟨pr, hpr, rfl⟩ := List.mem_map.mp hy
        exact smT_len (hq pr hpr).1 (hq pr hpr).2
      have h2 : (" / " : Str).length = 3 := by decide +kernel
      rw [List.length_map] at h0 h1
      rw [h0, h2]
      omega
    omega
theorem sc_Skin_str : FnScope ["self"] ["self"] (defScope s_Skin_str) := ⟨rfl, rfl, rfl, by decide +kernel, rfl, by decide +kernel, by decide +kernel⟩
theorem ok_Skin_str {f : Addr} {fd : FuncData} (F : FunD K "__str__" "Skin.__str__" (defArgs s_Skin_str) (defBody s_Skin_str) (defScope s_Skin_str) [] [] f fd) (Tx : Txt K mg) (h_skin_words : Has P w K mg base "skin_words" 1 ["skin"] (sp_skin_words K))   : FnOk P w K mg base CX0 2 f fd ["self"] (sp_Skin_str K) := by
  obtain ⟨f_skin_words, fd_skin_words, G_skin_words, g_skin_words, k_skin_words, b_skin_words⟩ := h_skin_words
  refine FunD.ok F sc_Skin_str (fun vs H Q E h => ?_) (fun cdv A outer s H vs Q E hr h => ?_)
  · obtain ⟨x, dx, st, mt, ft, us, z, n, ps, qs, rfl, _⟩ := h
    rfl
  · obtain ⟨x, dx, st, mt, ft, us, z, n, ps, qs, rfl, hx, hn, hz, hq, hl, q⟩ := h
    refine ⟨_, PSs.nox (pss_one (ps_ret (pe_join pe_str (pe_call G_skin_words (hr.mono (by decide)) (by rfl) g_skin_words k_skin_words b_skin_words .nil pass0 (pa_cons (pv 0) pa_nil))))), ?_⟩
    refine ⟨⟨_, rfl⟩, _, rfl, x, dx, st, mt, ft, us, z, n, ps, qs, rfl, hx, hn, hq, hl, fun H' r s1 hr => ?_⟩
    exact ⟨_, r, skW z n qs, rfl, rfl, .inl (SqL.of hr), skW_size hz hn hq hl, q _ s1⟩
theorem has_Skin_str (Tx : Txt K mg) (c : He.SaysX fa fn [] tf ex w hh K) (X : K.In hh) (GG : hh.Ns mainGlobals mg) (h_skin_words : Has P w K mg base "skin_words" 1 ["skin"] (sp_skin_words K))   : HasM P w K mg base CX0 "Skin" "__str__" 2 ["self"] (sp_Skin_str K) := by
  obtain ⟨fd, F⟩ := c.t.d.def_ 33 (d := d_Skin_str) rfl
  exact ⟨fd, ok_Skin_str F Tx h_skin_words, F.bindsN fun _ _ _ _ _ _ us hl => match us, hl with | [_], _ => rfl⟩

end
end K04

namespace K04
open PySem PySem.Spec PyProof.Rows L2 Vf LamX
section
variable {hh : Heap} {P : Program} {w : World} {K : PySem.W.Frag} {mg : Str → Option Value} {base : Heap}
/-! ### with_seams -/
theorem Seams.append {H : Hp} {us ts : List Addr} {qs rs : List (Int × Int)} (h : Seams H us qs) (g : Seams H ts rs) : Seams H (us ++ ts) (qs ++ rs) := by
  refine ⟨by rw [List.length_append, List.length_append, h.len, g.len], fun i t p h1 h2 => ?_⟩
  by_cases hi : i < us.length
  · rw [List.getElem?_append_left hi] at h1
    rw [List.getElem?_append_left (by rw [← h.len]; exact hi)] at h2
    exact h.at_ i t p h1 h2
  · rw [List.getElem?_append_right (by omega)] at h1
    rw [List.getElem?_append_right (by rw [← h.len]; omega), ← h.len] at h2
    exact g.at_ _ t p h1 h2
theorem SeamsB.append {H : Hp} {us ts : List Addr} {qs rs : List (Int × Int)} (h : SeamsB H us qs) (g : SeamsB H ts rs) : SeamsB H (us ++ ts) (qs ++ rs) := by
  refine ⟨by rw [List.length_append, List.length_append, h.len, g.len], fun i t p h1 h2 => ?_⟩
  by_cases hi : i < us.length
  · rw [List.getElem?_append_left hi] at h1
    rw [List.getElem?_append_left (by rw [← h.len]; exact hi)] at h2
    exact h.at_ i t p h1 h2
  · rw [List.getElem?_append_right (by omega)] at h1
    rw [List.getElem?_append_right (by rw [← h.len]; omega), ← h.len] at h2
    exact g.at_ _ t p h1 h2
theorem SkinIs.same {H H' : Hp} {x dx st mt ft : Addr} {us : List Addr} {z : Str} {n : Int} {ps qs : List (Int × Int)} (h : SkinIs K H x z n ps dx st mt ft us qs) (s : Same H H') : SkinIs K H' x z n ps dx st mt ft us qs :=
  ⟨⟨h.nb, s _ _ h.ins, s _ _ h.nexts, s _ _ h.backs⟩, s _ _ h.seams, h.sts.same s, h.perm, h.srtd, s _ _ h.mates, s _ _ h.free⟩
theorem rCat2.mono {K : PySem.W.Frag} {x y : V} {H : Hp} {Q Q' : VK} (h : rCat2 K x y H Q) (m : ∀ w H', Q w H' → Q' w H') : rCat2 K x y H Q' := by
  obtain ⟨a, b, xs, ys, e1, e2, h1, h2, h3, q0, q1, q2⟩ := h
  exact ⟨a, b, xs, ys, e1, e2, h1, h2, h3, fun e => m _ _ (q0 e), fun e g => m _ _ (q1 e g), fun e g p n => m _ _ (q2 e g p n)⟩
def sp_Skin_with_seams (K : PySem.W.Frag) : Sp := fun vs H Q _ => ∃ (x dx st mt ft : Addr) (us : List Addr) (z : Str) (n : Int) (ps qs : List (Int × Int)) (a : Addr) (ts : List Addr) (rs : List (Int × Int)), vs = [.ref x, .ref a] ∧ SkinIs K H x z n ps dx st mt ft us qs ∧ isGrid (.str z) = true ∧ 1 ≤ n ∧ n ≤ 24 ∧
  (H a = some (.lst (ts.map V.ref)) ∨ H a = some (.tup (ts.map V.ref))) ∧ SeamsB H ts rs ∧ (∀ p ∈ qs ++ rs, Pok (n * turnOf z) p) ∧ (qs ++ rs).length ≤ 400 ∧ tw (flat2 (qs ++ rs)) = none ∧ ∀ H' y, Same H H' → H y = none → SkinAt K H' y z n (qs ++ rs) → Q (.ref y) H'
theorem same_made {H H1 : Hp} {y dy C : Addr} (ny : H y = none) (nd : H dy = none) (ne : dy ≠ y) (k : Kp y (upd (upd H dy (.own y)) y (.ins C dy [])) H1) : Same H H1 := fun b o e => by
  have h1 := ne_of_none e ny
  refine k b o h1 ?_
  rw [upd_ne h1, upd_ne (ne_of_none e nd)]
  exact e
theorem sc_Skin_with_seams : FnScope ["self", "seams"] ["self", "seams"] (defScope s_Skin_with_seams) := ⟨rfl, rfl, rfl, by decide +kernel, rfl, by decide +kernel, by decide +kernel⟩
theorem ok_Skin_with_seams {f : Addr} {fd : FuncData} (F : FunD K "with_seams" "Skin.with_seams" (defArgs s_Skin_with_seams) (defBody s_Skin_with_seams) (defScope s_Skin_with_seams) [] [] f fd) (Tx : Txt K mg) (h_need_seams : HasX P w K mg base "need_seams" 4 ["seams", "sides"] (sp_need_seams K)) (h_Skin_init : HasI P w K mg base 5 (sp_Skin_init K))   : FnOk P w K mg base (L2.CX P w) 7 f fd ["self", "seams"] (sp_Skin_with_seams K) := by
  obtain ⟨f_need_seams, fd_need_seams, G_need_seams, g_need_seams, k_need_seams, b_need_seams⟩ := h_need_seams
  obtain ⟨fd_Skin_init, G_Skin_init, b_Skin_init, ⟨ds2_Skin_init, v2_Skin_init, b2_Skin_init⟩, ⟨ds1_Skin_init, kb_Skin_init_kind_faces⟩, ⟨dd1_Skin_init, kb_Skin_init_seams_faces_kind⟩⟩ := h_Skin_init
  refine FunD.ok F sc_Skin_with_seams (fun vs H Q E h => ?_) (fun cdv A outer s H vs Q E hr h => ?_)
  · obtain ⟨x, dx, st, mt, ft, us, z, n, ps, qs, a, ts, rs, rfl, _⟩ := h
    rfl
  · obtain ⟨x, dx, st, mt, ft, us, z, n, ps, qs, a, ts, rs, rfl, hx, hg, n1, n24, ha, hts, hok, hl, htw, q⟩ := h
    have hlt : ts.length ≤ 400 := by
      rw [hts.len]
      rw [List.length_append] at hl
      omega
    have hu : us.length + ts.length ≤ 400 := by
      rw [hts.len, hx.sts.len]
      rw [List.length_append] at hl
      omega
    have fin : ∀ (H2 : Hp) (c : Addr), Same H H2 → H2 c = some (.tup ((us ++ ts).map V.ref)) → ∀ y dy, H2 y = none → H2 dy = none → dy ≠ y →
        sp_Skin_init K [.ref y, .str z, .int n, .ref c] (upd (upd H2 dy (.own y)) y (.ins (He.ga K "Skin") dy [])) (fun v H' => v = .non ∧ Q (.ref y) H') E := by
      intro H2 c s2 hc y dy ny ndy ney
      have sY : Same H2 (upd (upd H2 dy (.own y)) y (.ins (He.ga K "Skin") dy [])) := (same_new (o := .own y) ndy).trans (same_new (o := .ins (He.ga K "Skin") dy []) (by rw [upd_ne ney.symm]; exact ny))
      refine ⟨y, dy, _, _, _, .str, .int, rfl, upd_same, True.intro, True.intro, ?_⟩
      refine .made z n c (us ++ ts) (qs ++ rs) rfl hg rfl n1 rfl (.inr (.inl (sY _ _ hc))) ((hx.sts.b.append hts).same (s2.trans sY)) hl hok (fun t ht => absurd (ht.symm.trans htw) (by simp)) (fun _ c => absurd c (by omega)) (fun _ _ H' k' hy => ⟨rfl, ?_⟩)
      exact q H' y (s2.trans (same_made ny ndy ney k')) (s2.free ny) hy
    have bx : Box K H a (ts.map V.ref) := ha.elim .inl fun e => .inr (SqT.of e)
    obtain ⟨k, hk, hseq⟩ : ∃ k : Kd, KdV K H (.ref a) k ∧ k.seq = true := by
      rcases ha with e | e
      · exact ⟨.list, ⟨_, e⟩, rfl⟩
      · exact ⟨.tuple, .inl ⟨_, e⟩, rfl⟩
    -- behind tuple(seams), at c
    have two : ∀ (H1 : Hp) (c : Addr), Same H H1 → H1 c = some (.tup (ts.map V.ref)) → rCat2 K (.ref st) (.ref c) H1
        (fun w H' => ∃ c', w = .ref c' ∧ ∀ y dy, H' y = none → H' dy = none → dy ≠ y → sp_Skin_init K [.ref y, .str z, .int n, w] (upd (upd H' dy (.own y)) y (.ins (He.ga K "Skin") dy [])) (fun v H' => v = .non ∧ Q (.ref y) H') E) := by
      intro H1 c s1 hc
      refine ⟨st, c, _, _, rfl, rfl, SqT.of (s1 _ _ hx.seams), SqT.of hc, le_line (by rw [List.length_map, List.length_map]; omega), fun e => ⟨c, rfl, fin H1 c s1 ?_⟩, fun _ e => ⟨st, rfl, fin H1 st s1 ?_⟩, fun _ _ U nU => ⟨U, rfl, fin _ U (s1.trans (same_new nU)) ?_⟩⟩
      · rw [List.map_eq_nil_iff.mp e]
        exact hc
      · rw [List.map_eq_nil_iff.mp e, List.append_nil]
        exact s1 _ _ hx.seams
      · rw [upd_same, List.map_append]
    refine ⟨_, (pss_cons (ps_expr (pe_call G_need_seams (hr.mono (by decide)) (by rfl) g_need_seams k_need_seams b_need_seams .nil (passE rfl rfl rfl rfl) (pa_cons (pv 1) (pa_cons (pe_fld (pv 0) rfl) pa_nil))))
        (pss_one (ps_ret (pe_make Tx.mk_Skin G_Skin_init (hr.mono (by decide)) (by rfl) Tx.g_Skin b_Skin_init .nil (passE rfl rfl rfl rfl) (pa_cons (pe_fld (pv 0) rfl) (pa_cons (pe_fld (pv 0) rfl) (pa_cons (pe_op op_cat2 (pe_fld (pv 0) rfl) (pe_callTy call_tuple_of (by rfl) Tx.n_tuple (by decide +kernel) (pa_cons (pv 1) pa_nil))) pa_nil))))))), ?_⟩
    refine ⟨_, rfl, _, rfl, x, _, dx, _, _, rfl, hx.ins, Tx.cl_Skin, Tx.no_Skin_sides, rfl, _, k, _, rfl, hk, .inr ⟨hseq, a, ts.map V.ref, fun _ => true, rfl, bx, by rw [List.length_map]; omega, items_ok hts (fun p hp => hok p (List.mem_append_right _ hp)), fun _ H1 s1 => ?_, fun c => ?_⟩⟩
    · have hx1 := hx.same s1
      refine ⟨_, rfl, x, _, dx, _, _, rfl, hx1.ins, Tx.cl_Skin, Tx.no_Skin_kind, rfl, _, rfl, x, _, dx, _, _, rfl, hx1.ins, Tx.cl_Skin, Tx.no_Skin_faces, rfl, _, rfl, x, _, dx, _, _, rfl, hx1.ins, Tx.cl_Skin, Tx.no_Skin_seams, rfl, _, rfl, a, ts.map V.ref, rfl, ?_⟩
      rcases ha with ha | ha
      · refine .inl ⟨SqL.of (s1 _ _ ha), fun T nT => ?_⟩
        refine rCat2.mono (two _ T (s1.trans (same_new nT)) upd_same) fun w H' hw => ?_
        obtain ⟨c, rfl, hw⟩ := hw
        exact hw
      · refine .inr ⟨SqT.of (s1 _ _ ha), ?_⟩
        refine rCat2.mono (two _ a s1 (s1 _ _ ha)) fun w H' hw => ?_
        obtain ⟨c, rfl, hw⟩ := hw
        exact hw
    · cases c.symm.trans (show ((ts.map V.ref).all fun _ => true) = true from List.all_eq_true.mpr fun _ _ => rfl)
theorem has_Skin_with_seams (Tx : Txt K mg) (c : He.SaysX fa fn [] tf ex w hh K) (X : K.In hh) (GG : hh.Ns mainGlobals mg) (h_need_seams : HasX P w K mg base "need_seams" 4 ["seams", "sides"] (sp_need_seams K)) (h_Skin_init : HasI P w K mg base 5 (sp_Skin_init K))   : HasM P w K mg base (L2.CX P w) "Skin" "with_seams" 7 ["self", "seams"] (sp_Skin_with_seams K) := by
  obtain ⟨fd, F⟩ := c.t.d.def_ 29 (d := d_Skin_with_seams) rfl
  exact ⟨fd, ok_Skin_with_seams F Tx h_need_seams h_Skin_init, F.bindsN fun _ _ _ _ _ _ us hl => match us, hl with | [_, _], _ => rfl⟩

end
end K04

namespace K04
open PySem PySem.Spec PyProof.Rows L2 Vf LamX
section
variable {hh : Heap} {P : Program} {w : World} {K : PySem.W.Frag} {mg : Str → Option Value} {base : Heap}
/-! ### a skin mirrored, == of skins -/
def mrS (t i : Int) : Int := i / t * t + t - 1 - i % t
def sp_Skin_mirror_of (K : PySem.W.Frag) : Sp := fun vs H Q _ => ∃ (x : Addr) (z : Str) (n : Int) (ps : List (Int × Int)) (i : Int), vs = [.ref x, .int i] ∧ SkinAt K H x z n ps ∧ 0 ≤ i ∧ i ≤ 1000 ∧ Q (.int (mrS (turnOf z) i)) H
theorem sc_Skin_mirror_of : FnScope ["self", "side"] ["self", "side"] (defScope s_Skin_mirror_of) := ⟨rfl, rfl, rfl, by decide +kernel, rfl, by decide +kernel, by decide +kernel⟩
theorem ok_Skin_mirror_of {f : Addr} {fd : FuncData} (F : FunD K "mirror_of" "Skin.mirror_of" (defArgs s_Skin_mirror_of) (defBody s_Skin_mirror_of) (defScope s_Skin_mirror_of) [] [] f fd) (Tx : Txt K mg)    : FnOk P w K mg base CX0 1 f fd ["self", "side"] (sp_Skin_mirror_of K) := by
  refine FunD.ok F sc_Skin_mirror_of (fun vs H Q E h => ?_) (fun cdv A outer s H vs Q E hr h => ?_)
  · obtain ⟨x, z, n, ps, i, rfl, _⟩ := h
    rfl
  · obtain ⟨x, z, n, ps, i, rfl, hs, i0, i1, q⟩ := h
    obtain ⟨dx, st, mt, ft, us, qs, hx⟩ := id hs
    have tz := turn_in z
    have d0 : 0 ≤ i / turnOf z := Int.ediv_nonneg i0 (by omega)
    have d1 : i / turnOf z ≤ 1000 := Int.le_trans (Int.ediv_le_self _ i0) i1
    refine ⟨_, PSs.nox (pss_one (ps_ret (pe_op op_sub (pe_op op_sub (pe_op op_add (pe_op op_mul (pe_op op_fdiv (pv 1) (pe_fld (pv 0) rfl)) (pe_fld (pv 0) rfl)) (pe_fld (pv 0) rfl)) pe_int) (pe_op op_mod (pv 1) (pe_fld (pv 0) rfl))))), ?_⟩
    exact ⟨_, rfl, _, rfl, x, _, dx, _, _, rfl, hx.ins, Tx.cl_Skin, Tx.no_Skin_turn, rfl, _, _, rfl, rfl, ⟨by omega, by omega⟩, _, rfl, x, _, dx, _, _, rfl, hx.ins, Tx.cl_Skin, Tx.no_Skin_turn, rfl, _, _, rfl, rfl, .inr ⟨by omega, by omega⟩, _, rfl, x, _, dx, _, _, rfl, hx.ins, Tx.cl_Skin, Tx.no_Skin_turn, rfl, _, _, rfl, rfl, _, _, rfl, rfl, _, rfl, _, rfl, x, _, dx, _, _, rfl, hx.ins, Tx.cl_Skin, Tx.no_Skin_turn, rfl, _, _, rfl, rfl, by omega, _, _, rfl, rfl, q⟩
theorem has_Skin_mirror_of (Tx : Txt K mg) (c : He.SaysX fa fn [] tf ex w hh K) (X : K.In hh) (GG : hh.Ns mainGlobals mg)    : HasM P w K mg base CX0 "Skin" "mirror_of" 1 ["self", "side"] (sp_Skin_mirror_of K) := by
  obtain ⟨fd, F⟩ := c.t.d.def_ 31 (d := d_Skin_mirror_of) rfl
  exact ⟨fd, ok_Skin_mirror_of F Tx , F.bindsN fun _ _ _ _ _ _ us hl => match us, hl with | [_, _], _ => rfl⟩
theorem dpAll_seams {H : Hp} : ∀ {us : List Addr} {qs : List (Int × Int)}, Seams H us qs → DpAll K H (us.map V.ref) (qs.map fun q => PyData.tuple [.int q.1, .int q.2])
  | [], [], _ => .nil
  | [], q :: qs, h => by cases h.len
  | u :: us, [], h => by cases h.len
  | u :: us, q :: qs, h => .cons (.tup (SqT.of (h.at_ 0 u q rfl rfl)) (.cons (.int _) (.cons (.int _) .nil))) (dpAll_seams ⟨by have := h.len; simpa using this, fun i t p h1 h2 => h.at_ (i + 1) t p h1 h2⟩)
theorem shaped_seams (qs : List (Int × Int)) : SeqAt.shaped (.tuple (qs.map fun q => PyData.tuple [.int q.1, .int q.2])) = true := by
  have h1 : ∀ l : List (Int × Int), PyData.canLayAll0 (l.map fun q => PyData.tuple [.int q.1, .int q.2]) = true := fun l => by
    induction l with
    | nil => simp only [List.map_nil, PyData.canLayAll0]
    | cons a r ih => simp only [List.map_cons, PyData.canLayAll0, PyData.canLay0, ih, Bool.and_true]
  have h2 : ∀ l : List (Int × Int), PyData.depthAll (l.map fun q => PyData.tuple [.int q.1, .int q.2]) ≤ 3 := fun l => by
    induction l with
    | nil => simp [PyData.depthAll]
    | cons a r ih =>
      simp only [List.map_cons, PyData.depthAll, PyData.depth]
      omega
  unfold SeqAt.shaped
  rw [show PyData.canLay0 (.tuple (qs.map fun q => PyData.tuple [.int q.1, .int q.2])) = true by simp only [PyData.canLay0]; exact h1 qs, Bool.true_and]
  refine decide_eq_true ?_
  have := h2 qs
  simp only [PyData.depth]
  omega
abbrev pdt (q : Int × Int) : PyData := PyData.tuple [.int q.1, .int q.2]
theorem eqv_pdt (p q : Int × Int) : PyData.eqv (pdt p) (pdt q) = decide (p = q) := by
  obtain ⟨a, b⟩ := p
  obtain ⟨c, d⟩ := q
  have e : PyData.eqv (pdt (a, b)) (pdt (c, d)) = ((a == c) && ((b == d) && true)) := by simp only [pdt, PyData.eqv, PyData.eqvAll]
  rw [e, Bool.and_true, Bool.eq_iff_iff]
  simp
theorem eqv_pdts : ∀ qs rs : List (Int × Int), PyData.eqvAll (qs.map pdt) (rs.map pdt) = decide (qs = rs)
  | [], [] => by simp [PyData.eqvAll]
  | [], _ :: _ => by simp [PyData.eqvAll]
  | _ :: _, [] => by simp [PyData.eqvAll]
  | p :: qs, q :: rs => by
    rw [List.map_cons, List.map_cons, PyData.eqvAll, eqv_pdt, eqv_pdts qs rs, Bool.eq_iff_iff]
    simp
theorem eqv_seams (qs rs : List (Int × Int)) : PyData.eqv (.tuple (qs.map pdt)) (.tuple (rs.map pdt)) = decide (qs = rs) := by
  rw [PyData.eqv, eqv_pdts]
theorem dp_seams {H : Hp} {st : Addr} {us : List Addr} {qs : List (Int × Int)} (h : H st = some (.tup (us.map V.ref))) (hs : Seams H us qs) : Dp K H (.ref st) (.tuple (qs.map pdt)) := .tup (SqT.of h) (dpAll_seams hs)
def SkinEq (K : PySem.W.Frag) (H : Hp) (x : Addr) (y : V) (b : Bool) : Prop := ∃ (dx st mt ft : Addr) (us : List Addr) (z : Str) (n : Int) (ps qs : List (Int × Int)), SkinIs K H x z n ps dx st mt ft us qs ∧
  ((∃ (t : Value), L2.TyX K H y t ∧ PySem.W.kitOne K t (.ref (He.ga K "Skin")) = some false ∧ b = false) ∨
   ∃ (y' dx' st' mt' ft' : Addr) (us' : List Addr) (z' : Str) (n' : Int) (ps' qs' : List (Int × Int)), y = .ref y' ∧ SkinIs K H y' z' n' ps' dx' st' mt' ft' us' qs' ∧ b = (decide (z = z') && (decide (n = n') && decide (qs = qs'))))
def sp_Skin_eq (K : PySem.W.Frag) : Sp := fun vs H Q _ => ∃ (x : Addr) (y : V) (b : Bool), vs = [.ref x, y] ∧ SkinEq K H x y b ∧ ∀ H', Same H H' → Q (.bl b) H'
theorem sc_Skin_eq : FnScope ["self", "other"] ["self", "other"] (defScope s_Skin_eq) := ⟨rfl, rfl, rfl, by decide +kernel, rfl, by decide +kernel, by decide +kernel⟩
theorem ok_Skin_eq {f : Addr} {fd : FuncData} (F : FunD K "__eq__" "Skin.__eq__" (defArgs s_Skin_eq) (defBody s_Skin_eq) (defScope s_Skin_eq) [] [] f fd) (Tx : Txt K mg)    : FnOk P w K mg base CX0 1 f fd ["self", "other"] (sp_Skin_eq K) := by
  refine FunD.ok F sc_Skin_eq (fun vs H Q E h => ?_) (fun cdv A outer s H vs Q E hr h => ?_)
  · obtain ⟨x, y, b, rfl, _⟩ := h
    rfl
  · obtain ⟨x, y, b, rfl, ⟨dx, st, mt, ft, us, z, n, ps, qs, hx, hy⟩, q⟩ := h
    rcases hy with ⟨t, ty, kn, rfl⟩ | ⟨y', dx', st', mt', ft', us', z', n', ps', qs', rfl, hy, rfl⟩
    · refine ⟨_, PSs.nox (pss_one (ps_ret (pe_and (pe_callB call_isi (by rfl) Tx.n_isinstance (by decide +kernel) (pa_cons (pv 1) (pa_cons (pe_glob (v := .ref (He.ga K "Skin")) (by rfl) Tx.g_Skin rfl) pa_nil))) (pe_and (pe_cmpR op_eq (pe_fld (pv 0) rfl) (pe_fld (pv 1) rfl) (nomark _)) (pe_and (pe_cmpR op_eq (pe_fld (pv 0) rfl) (pe_fld (pv 1) rfl) (nomark _)) (pe_one (pe_cmpR (op_eqD hr.units) (pe_fld (pv 0) rfl) (pe_fld (pv 1) rfl) (nomark _)))))))), ?_⟩
      exact ⟨_, rfl, y, _, t, _, false, rfl, .own _, ty, kn, _, rfl, q _ (Same.refl _)⟩
    · have ic := insC_of Tx.cl_Skin Tx.is_Skin
      refine ⟨_, PSs.nox (pss_one (ps_ret (pe_and (pe_callB call_isi (by rfl) Tx.n_isinstance (by decide +kernel) (pa_cons (pv 1) (pa_cons (pe_glob (v := .ref (He.ga K "Skin")) (by rfl) Tx.g_Skin rfl) pa_nil))) (pe_and (pe_cmpR op_eq (pe_fld (pv 0) rfl) (pe_fld (pv 1) rfl) (nomark _)) (pe_and (pe_cmpR op_eq (pe_fld (pv 0) rfl) (pe_fld (pv 1) rfl) (nomark _)) (pe_one (pe_cmpR (op_eqD hr.units) (pe_fld (pv 0) rfl) (pe_fld (pv 1) rfl) (nomark _)))))))), ?_⟩
      refine ⟨_, rfl, _, _, _, _, true, rfl, .own _, .base (.ins hy.ins ic.cl ic.ha ic.hn ic.htk ic.hm), ic.me, _, rfl, ?_⟩
      refine ⟨_, rfl, x, _, dx, _, _, rfl, hx.ins, Tx.cl_Skin, Tx.no_Skin_kind, rfl, _, rfl, y', _, dx', _, _, rfl, hy.ins, Tx.cl_Skin, Tx.no_Skin_kind, rfl, rfl, _, rfl, ?_⟩
      have q0 := q _ (Same.refl _)
      refine ite2 (fun e1 => ?_) (fun e1 => ?_)
      · have ez : z = z' := by injection (of_decide_eq_true e1)
        rw [decide_eq_true ez, Bool.true_and] at q0
        refine ⟨_, rfl, x, _, dx, _, _, rfl, hx.ins, Tx.cl_Skin, Tx.no_Skin_faces, rfl, _, rfl, y', _, dx', _, _, rfl, hy.ins, Tx.cl_Skin, Tx.no_Skin_faces, rfl, rfl, _, rfl, ite2 (fun e2 => ?_) (fun e2 => ?_)⟩
        · have en : n = n' := by injection (of_decide_eq_true e2)
          rw [decide_eq_true en, Bool.true_and] at q0
          refine ⟨_, rfl, x, _, dx, _, _, rfl, hx.ins, Tx.cl_Skin, Tx.no_Skin_seams, rfl, _, rfl, y', _, dx', _, _, rfl, hy.ins, Tx.cl_Skin, Tx.no_Skin_seams, rfl, _, _, dp_seams hx.seams hx.sts, dp_seams hy.seams hy.sts, shaped_seams _, shaped_seams _, ?_⟩
          rw [eqv_seams]
          exact q0
        · rw [decide_eq_false (fun en => e2 (decide_eq_true (by rw [en]))), Bool.false_and] at q0
          exact q0
      · rw [decide_eq_false (fun ez => e1 (decide_eq_true (by rw [ez]))), Bool.false_and] at q0
        exact q0
theorem has_Skin_eq (Tx : Txt K mg) (c : He.SaysX fa fn [] tf ex w hh K) (X : K.In hh) (GG : hh.Ns mainGlobals mg)    : HasM P w K mg base CX0 "Skin" "__eq__" 1 ["self", "other"] (sp_Skin_eq K) := by
  obtain ⟨fd, F⟩ := c.t.d.def_ 32 (d := d_Skin_eq) rfl
  exact ⟨fd, ok_Skin_eq F Tx , F.bindsN fun _ _ _ _ _ _ us hl => match us, hl with | [_, _], _ => rfl⟩

end
end K04

namespace K04
open PySem PySem.Spec PyProof.Rows L2 Vf LamX
section
variable {hh : Heap} {P : Program} {w : World} {K : PySem.W.Frag} {mg : Str → Option Value} {base : Heap}
abbrev sp_law_draw : Sp := spDraw
theorem cpow18 : CPow 10 18 := ⟨by decide, by decide, by decide⟩
theorem mix_small {n x : Int} (h0 : 0 ≤ n) (h1 : n ≤ 1000000) (x0 : 0 ≤ x) (x1 : x < 2147483629) : 0 ≤ x * (2 * n + 2111) + 60107 * n * n + 73019 ∧ x * (2 * n + 2111) + 60107 * n * n + 73019 ≤ 100000000000000000 := by
  have a1 : 0 ≤ x * (2 * n + 2111) := Int.mul_nonneg x0 (by omega)
  have a2 : x * (2 * n + 2111) ≤ 2147483647 * 2002111 := Int.mul_le_mul (by omega) (by omega) (by omega) (by decide)
  have a3 : 0 ≤ 60107 * n * n := Int.mul_nonneg (by omega) h0
  have a4 : 60107 * n * n ≤ 60107000000 * 1000000 := Int.mul_le_mul (by omega) h1 h0 (by decide)
  omega
theorem cdiv64 {i : Int} : CDiv i 64 := ⟨by decide, by decide⟩
theorem sc_law_draw : FnScope ["_law_pen_here", "_law_many", "_law_digit", "_law_at", "_law_cell", "_law_great", "_law_mixed"] ["_law_pen_here", "_law_many"] (defScope s_law_draw) := ⟨rfl, rfl, rfl, by decide +kernel, rfl, by decide +kernel, by decide +kernel⟩
theorem ok_law_draw {f : Addr} {fd : FuncData} (F : FunD K "_law_draw" "_law_draw" (defArgs s_law_draw) (defBody s_law_draw) (defScope s_law_draw) [] [] f fd) (Tx : Txt K mg)    : FnOk P w K mg base CX0 1 f fd ["_law_pen_here", "_law_many"] sp_law_draw := by
  refine FunD.ok F sc_law_draw (fun vs H Q E h => ?_) (fun cdv A outer s H vs Q E hr h => ?_)
  · obtain ⟨p, c, many, b, rfl, _⟩ := h
    rfl
  · obtain ⟨p, c, m, b, rfl, ⟨ns, n, g, hp, hc, n0, nb⟩, m0, m2, k⟩ := h
    have cp : c ≠ p := fun e => by
      rw [e, hp] at hc
      injection hc with z
      injection z with z
      exact ref_ints z
    refine ⟨_, PSs.nox (pss_cons (ps_if (pt_cmpR op_gt (pe_ix ix_list (pv 0) pe_int (fun _ _ => rfl)) pe_int (nomark _)) (pss_cons (ps_set (i := 2) sc_law_draw.nd rfl (Or.inl rfl) (pe_op op_mod (pe_callTy call_int1 (by rfl) Tx.n_int (by decide +kernel) (pa_cons (pe_ix ix_list (pv 0) pe_int (fun _ _ => rfl)) pa_nil)) (pv 1)))
        (pss_cons (ps_asg (pe_op op_fdivW (pe_callTy call_int1 (by rfl) Tx.n_int (by decide +kernel) (pa_cons (pe_ix ix_list (pv 0) pe_int (fun _ _ => rfl)) pa_nil)) (pv 1)) (pg_sub (pv 0) pe_int set_list))
        (pss_one (ps_ret (pv 2))))) pss_nil)
        (pss_cons (ps_set (i := 3) sc_law_draw.nd rfl (Or.inl rfl) (pe_ix ix_list (pv 0) pe_int (fun _ _ => rfl)))
        (pss_cons (ps_asg (pe_op op_add (pv 3) pe_int) (pg_sub (pv 0) pe_int set_list))
        (pss_cons (ps_set (i := 4) sc_law_draw.nd rfl (Or.inl rfl) (pe_op op_add (pe_op op_mul pe_int (pv 3)) pe_int))
        (C8.pss_cut (ps_if (pt_cmpR (op_neD hr.units) (pe_ix ix_list (pv 0) pe_int (fun _ _ => rfl)) (pe_lst pa_nil) (nomark _)) (pss_one (ps_set (i := 4) sc_law_draw.nd rfl (Or.inl rfl) (pe_ix ix_list (pe_ix ix_list (pv 0) pe_int (fun _ _ => rfl)) (pe_op op_mod (pe_callTy call_int1 (by rfl) Tx.n_int (by decide +kernel) (pa_cons (pv 3) pa_nil)) (pe_callB call_len_seq (by rfl) Tx.n_len (by decide +kernel) (pa_cons (pe_ix ix_list (pv 0) pe_int (fun _ _ => rfl)) pa_nil))) (fun _ _ => rfl)))) pss_nil)
        (C8.pss_cut (ps_if (PW.pt (pw_and (pt_cmpR op_lt (pv 3) (pe_callB call_len_seq (by rfl) Tx.n_len (by decide +kernel) (pa_cons (pe_ix ix_list (pv 0) pe_int (fun _ _ => rfl)) pa_nil)) (nomark _)) (pw_and1 (pt_cmpR op_ge (pe_callB call_abs (by rfl) Tx.n_abs (by decide +kernel) (pa_cons (pv 4) pa_nil)) (pe_op op_pow pe_int pe_int) (nomark _))))) (pss_cons (ps_set (i := 5) sc_law_draw.nd rfl (Or.inl rfl) (pe_op op_sub (pe_callB call_abs (by rfl) Tx.n_abs (by decide +kernel) (pa_cons (pv 4) pa_nil)) (pe_op op_pow pe_int pe_int)))
        (pss_cons (ps_asg (pe_op op_fdivW (pe_callTy call_int1 (by rfl) Tx.n_int (by decide +kernel) (pa_cons (pv 5) pa_nil)) (pv 1)) (pg_sub (pv 0) pe_int set_list))
        (pss_one (ps_ret (pe_op op_mod (pe_callTy call_int1 (by rfl) Tx.n_int (by decide +kernel) (pa_cons (pv 5) pa_nil)) (pv 1)))))) pss_nil)
        (C8.pss_cut (ps_set (i := 6) sc_law_draw.nd rfl (Or.inl rfl) (pe_op op_mod (pe_callTy call_int1 (by rfl) Tx.n_int (by decide +kernel) (pa_cons (pe_op op_pow (pe_op op_add (pe_op op_add (pe_op op_mod (pe_callTy call_int1 (by rfl) Tx.n_int (by decide +kernel) (pa_cons (pv 4) pa_nil)) pe_int) (pe_op op_mul pe_int (pv 3))) pe_int) pe_int) pa_nil)) pe_int))
        (pss_cons (ps_set (i := 6) sc_law_draw.nd rfl (Or.inl rfl) (pe_op op_mod (pe_callTy call_int1 (by rfl) Tx.n_int (by decide +kernel) (pa_cons (pe_op op_pow (pe_op op_add (pe_op op_add (pe_op op_mul (pv 6) (pe_op op_add (pe_op op_mul pe_int (pv 3)) pe_int)) (pe_op op_mul (pe_op op_mul pe_int (pv 3)) (pv 3))) pe_int) pe_int) pa_nil)) pe_int))
        (pss_one (ps_ret (pe_op op_mod (pe_callTy call_int1 (by rfl) Tx.n_int (by decide +kernel) (pa_cons (pe_op op_fdiv (pv 6) pe_int) pa_nil)) (pv 1)))))))))))), ?_⟩
    -- if pen[2] > 0
    refine ⟨_, rfl, p, _, 2, .int g, rfl, rfl, SqL.of hp, rfl, _, _, rfl, rfl, _, rfl, ite2 (fun hg => ?_) (fun hg => ?_)⟩
    · refine ⟨_, rfl, p, _, 2, .int g, rfl, rfl, SqL.of hp, rfl, .inl ⟨_, rfl, ?_⟩⟩
      refine ⟨_, rfl, _, _, rfl, rfl, m0, ?_⟩
      refine ⟨_, rfl, p, _, 2, .int g, rfl, rfl, SqL.of hp, rfl, .inl ⟨_, rfl, ?_⟩⟩
      refine ⟨_, rfl, _, _, rfl, rfl, many_div m0 m2, ?_⟩
      refine ⟨_, rfl, p, _, 2, 2, rfl, rfl, hp, rfl, ?_⟩
      refine ⟨_, rfl, ?_⟩
      refine k _ _ ⟨ns, n, g / m, upd_same, by rw [upd_ne cp]; exact hc, n0, by omega⟩ (Kp.refl _ _).set (Int.emod_nonneg _ (by omega)) (Int.emod_lt_of_pos _ m0)
    · -- at = pen[1]; pen[1] = at + 1
      refine ⟨_, rfl, p, _, 1, .int n, rfl, rfl, SqL.of hp, rfl, ?_⟩
      refine ⟨_, rfl, _, _, rfl, rfl, _, rfl, p, _, 1, 1, rfl, rfl, hp, rfl, ?_⟩
      have hp1 : upd H p (.lst ([V.ref c, V.int n, V.int g].set 1 (.int (n + 1)))) p = some (.lst [V.ref c, V.int (n + 1), V.int g]) := upd_same
      have hc1 : upd H p (.lst ([V.ref c, V.int n, V.int g].set 1 (.int (n + 1)))) c = some (.lst (ns.map V.int)) := by rw [upd_ne cp]; exact hc
      have k1 : Kp p H (upd H p (.lst ([V.ref c, V.int n, V.int g].set 1 (.int (n + 1))))) := (Kp.refl _ _).set
      revert hp1 hc1 k1
      generalize upd H p (.lst ([V.ref c, V.int n, V.int g].set 1 (.int (n + 1)))) = H1
      intro hp1 hc1 k1
      -- cell = 41719 * at + 1327
      refine ⟨_, rfl, _, _, rfl, rfl, .inl ⟨by decide, by decide⟩, _, _, rfl, rfl, ?_⟩
      -- if pen[0] != []: cell = pen[0][..]
      refine ⟨fun σ H2 => ∃ z : Int, σ = [some (.ref p), some (.int m), none, some (.int n), some (.int z), none, none] ∧ Same H1 H2, ?_, ?_⟩
      · refine ⟨_, rfl, p, _, 0, .ref c, rfl, rfl, SqL.of hp1, rfl, Nat.zero_le _, fun q nq => ?_⟩
        have s2 : Same H1 (upd H1 q (.lst [])) := same_new nq
        refine ⟨_, _, .lst (SqL.of (s2 _ _ hc1)) (dpAll_flat (flat_ints ns)), .lst (SqL.of upd_same) .nil, shaped_list (flat_ints ns), rfl, _, rfl, ite2 (fun e => ?_) (fun e => ?_)⟩
        · rw [eqv_nil] at e
          have ne : ns.map V.int ≠ [] := fun z => by
            rw [z] at e
            cases e
          obtain ⟨x, hx, hat⟩ := at_mod (n := n) ne
          obtain ⟨z, _, rfl⟩ := List.mem_map.mp hx
          refine ⟨_, rfl, p, _, 0, .ref c, rfl, rfl, SqL.of (s2 _ _ hp1), rfl, _, rfl, .inl ⟨_, rfl, _, rfl, p, _, 0, .ref c, rfl, rfl, SqL.of (s2 _ _ hp1), rfl, c, _, rfl, .inl (SqL.of (s2 _ _ hc1)), _, _, rfl, rfl, ?_, c, _, _, .int z, rfl, rfl, SqL.of (s2 _ _ hc1), hat, z, rfl, s2⟩⟩
          have := List.length_pos_iff.mpr ne
          omega
        · exact ⟨_, rfl, s2⟩
      · rintro σ H2 ⟨z, rfl, s2⟩
        have hc2 := s2 _ _ hc1
        have hp2 := s2 _ _ hp1
        have k2 : Kp p H H2 := k1.trans (Kp.same s2)
        -- if at < len(pen[0]) and abs(cell) >= 10 ** 18
        refine ⟨fun σ H3 => σ = [some (.ref p), some (.int m), none, some (.int n), some (.int z), none, none] ∧ H3 = H2, ?_, ?_⟩
        · refine ⟨_, rfl, _, rfl, p, _, 0, .ref c, rfl, rfl, SqL.of hp2, rfl, c, _, rfl, .inl (SqL.of hc2), _, _, rfl, rfl, _, rfl, ite2 (fun _ => ?_) (fun _ => iteF ⟨rfl, rfl⟩)⟩
          refine ⟨_, rfl, z, rfl, _, _, rfl, rfl, cpow18, _, _, rfl, rfl, _, rfl, ite2 (fun _ => ?_) (fun _ => ⟨rfl, rfl⟩)⟩
          refine ⟨_, rfl, z, rfl, _, _, rfl, rfl, cpow18, _, _, rfl, rfl, ?_⟩
          refine ⟨_, rfl, .inl ⟨_, rfl, _, rfl, _, _, rfl, rfl, many_div m0 m2, _, rfl, p, _, 2, 2, rfl, rfl, hp2, rfl, ?_⟩⟩
          refine ⟨_, rfl, .inl ⟨_, rfl, _, rfl, _, _, rfl, rfl, m0, ?_⟩⟩
          refine k _ _ ⟨ns, n + 1, _, upd_same, by rw [upd_ne cp]; exact hc2, by omega, by omega⟩ k2.set (Int.emod_nonneg _ (by omega)) (Int.emod_lt_of_pos _ m0)
        · rintro σ H3 ⟨rfl, rfl⟩
          have z0 := Int.emod_nonneg z (b := 2147483587) (by decide)
          have z1 := Int.emod_lt_of_pos z (b := 2147483587) (by decide)
          refine ⟨fun σ H4 => ∃ x : Int, 0 ≤ x ∧ x < 2147483629 ∧ σ = [some (.ref p), some (.int m), none, some (.int n), some (.int z), none, some (.int x)] ∧ H4 = H3, ?_, ?_⟩
          · refine ⟨_, rfl, .inl ⟨_, rfl, _, _, rfl, rfl, (show (0 : Int) < 2147483587 by decide), _, rfl, _, _, rfl, rfl, .inl ⟨by decide, by decide⟩, _, _, rfl, rfl, _, _, rfl, rfl, _, _, rfl, rfl, ⟨by decide, by decide, by omega⟩, .inl ⟨_, rfl, _, _, rfl, rfl, (show (0 : Int) < 2147483629 by decide), ?_⟩⟩⟩
            exact ⟨_, Int.emod_nonneg _ (by decide), Int.emod_lt_of_pos _ (by decide), rfl, rfl⟩
          · rintro σ H4 ⟨x, x0, x1, rfl, rfl⟩
            obtain ⟨y0, y1⟩ := mix_small n0 (show n ≤ 1000000 by omega) x0 x1
            refine ⟨_, rfl, _, rfl, _, _, rfl, rfl, .inl ⟨by decide, by decide⟩, _, _, rfl, rfl, _, _, rfl, rfl, .inl ⟨by omega, by omega⟩, _, rfl, _, _, rfl, rfl, .inl ⟨by decide, by decide⟩, _, rfl, _, _, rfl, rfl, .inr ⟨by omega, by omega⟩, _, _, rfl, rfl, _, _, rfl, rfl, _, _, rfl, rfl, ⟨by decide, by decide, by omega⟩, .inl ⟨_, rfl, _, _, rfl, rfl, (show (0 : Int) < 2147483563 by decide), ?_⟩⟩
            refine ⟨_, rfl, _, _, rfl, rfl, cdiv64, .inl ⟨_, rfl, _, rfl, _, _, rfl, rfl, m0, ?_⟩⟩
            exact k _ _ ⟨ns, n + 1, g, hp2, hc2, by omega, by omega⟩ k2 (Int.emod_nonneg _ (by omega)) (Int.emod_lt_of_pos _ m0)
theorem has_law_draw (Tx : Txt K mg) (c : He.SaysX fa fn [] tf ex w hh K) (X : K.In hh) (GG : hh.Ns mainGlobals mg)    : Has P w K mg base "_law_draw" 1 ["_law_pen_here", "_law_many"] sp_law_draw := by
  obtain ⟨fd, F⟩ := c.t.d.def_ 37 (d := d_law_draw) rfl
  exact ⟨_, fd, ok_law_draw F Tx , He.glo_ok X GG (c.t.d.fact 30 (f := .glo "_law_draw") rfl), F.kp, F.bindsN fun _ _ _ _ _ _ us hl => match us, hl with | [_, _], _ => rfl⟩
/-! ### the law's draws -/
theorem cut_ints (ns : List Int) (lo hi : Option Int) : ∃ ms : List Int, cutV (ns.map V.int) lo hi = ms.map V.int ∧ ms.length ≤ ns.length := by
  unfold cutV
  rw [← List.map_drop, ← List.map_take]
  refine ⟨_, rfl, ?_⟩
  rw [List.length_take, List.length_drop]
  omega
def sp_law_pen (K : PySem.W.Frag) : Sp := fun vs H Q _ => ∃ (a : Addr) (ns : List Int), vs = [.ref a] ∧ SqL K H a (ns.map V.int) ∧ ns.length ≤ 63 ∧ ∀ H' p c, Same H H' → H p = none → H c = none → PenAt H' p c 900000 → Q (.ref p) H'
theorem sc_law_pen : FnScope ["_law_script", "_law_cell"] ["_law_script"] (defScope s_law_pen) := ⟨rfl, rfl, rfl, by decide +kernel, rfl, by decide +kernel, by decide +kernel⟩
theorem ok_law_pen {f : Addr} {fd : FuncData} (F : FunD K "_law_pen" "_law_pen" (defArgs s_law_pen) (defBody s_law_pen) (defScope s_law_pen) [] [] f fd) (Tx : Txt K mg)    : FnOk P w K mg base CX0 1 f fd ["_law_script"] (sp_law_pen K) := by
  refine FunD.ok F sc_law_pen (fun vs H Q E h => ?_) (fun cdv A outer s H vs Q E hr h => ?_)
  · obtain ⟨a, ns, rfl, _⟩ := h
    rfl
  · obtain ⟨a, ns, rfl, ha, hl, q⟩ := h
    refine ⟨_, PSs.nox (pss_one (ps_ret (pe_lst (pa_cons (pe_lc (own := [("_law_cell", 1)]) (g := gName 1) (tt := tYes) rfl sc_law_pen.nd (pi_list (pe_slice sl_list (pv 0) po_none (po_some pe_int))) (blkOk_by (own := [("_law_cell", 1)]) (N := ["_law_script", "_law_cell"]) (sc := defScope s_law_pen) (by decide +kernel)) (fun _ _ _ _ _ => (pg_name (i := 1) sc_law_pen.nd rfl (Or.inl rfl))) (fun _ _ _ _ _ => pts_nil) (fun _ _ _ _ _ => (pe_callTy call_int1 (by rfl) Tx.n_int (by decide +kernel) (pa_cons (pv 1) pa_nil)))) (pa_cons pe_int (pa_cons pe_int pa_nil)))))), ?_⟩
    refine ⟨_, rfl, _, rfl, a, _, rfl, ha, fun c nc => ?_⟩
    obtain ⟨ms, em, lm⟩ := cut_ints ns none (some 60)
    have s1 : Same H (upd H c (.lst (cutV (ns.map V.int) none (some 60)))) := same_new nc
    refine ⟨c, rfl, ⟨_, SqL.of upd_same⟩, fun D nD => ?_⟩
    refine lc_pure (walk_list (K := K) (a := c) (xs := ms.map V.int)) (ms.map V.int) rfl (by rw [List.length_map]; omega) (fun i H x H' y => ⟨same_of_eq y.1, y.2⟩) (fun x => x) (fun _ => true) nD (fun H2 s => SqL.of (s _ _ (by rw [upd_same, em]))) (fun i x H2 Q1 Q0 hi s2 q1 q0 => ?_) (fun H2 s2 hD => ?_)
    · refine ⟨rfl, ?_⟩
      obtain ⟨z, _, rfl⟩ := List.mem_map.mp (List.mem_of_getElem? hi)
      exact ⟨_, rfl, .inl ⟨_, rfl, q1 rfl _ (Same.refl _)⟩⟩
    · rw [List.filter_eq_self.mpr fun _ _ => rfl, List.map_id'] at hD
      refine ⟨le_line (n := 3) (by decide), fun p np => ?_⟩
      have hp : H p = none := s1.free (s2.free np)
      have ne : D ≠ p := ne_of_none hD np
      refine q _ p D ((s1.trans s2).trans (same_new np)) hp (s1.free nD) ⟨ms, 0, 0, upd_same, ?_, by decide, by decide⟩
      rw [upd_ne ne]
      exact hD
theorem has_law_pen (Tx : Txt K mg) (c : He.SaysX fa fn [] tf ex w hh K) (X : K.In hh) (GG : hh.Ns mainGlobals mg)    : Has P w K mg base "_law_pen" 1 ["_law_script"] (sp_law_pen K) := by
  obtain ⟨fd, F⟩ := c.t.d.def_ 36 (d := d_law_pen) rfl
  exact ⟨_, fd, ok_law_pen F Tx , He.glo_ok X GG (c.t.d.fact 29 (f := .glo "_law_pen") rfl), F.kp, F.bindsN fun _ _ _ _ _ _ us hl => match us, hl with | [_], _ => rfl⟩

end
end K04

namespace K04
open PySem PySem.Spec PyProof.Rows L2 Vf LamX
section
variable {hh : Heap} {P : Program} {w : World} {K : PySem.W.Frag} {mg : Str → Option Value} {base : Heap}
/-! ### picking and pairing -/
def sp_law_pick (K : PySem.W.Frag) : Sp := fun vs H Q _ => ∃ (p c a : Addr) (b : Nat) (xs : List V), vs = [.ref p, .ref a] ∧ PenAt H p c (b + 1) ∧ (H a = some (.lst xs) ∨ H a = some (.tup xs)) ∧ a ≠ p ∧ xs ≠ [] ∧ xs.length ≤ 1000 ∧
  ∀ H' x, x ∈ xs → PenAt H' p c b → Kp p H H' → Q x H'
theorem lt200 {n : Nat} (h : n ≤ 1000) : (n : Int) < 2 ^ 200 := by
  have : (1000 : Int) < 2 ^ 200 := by decide
  omega
theorem sc_law_pick : FnScope ["_law_pen_here", "_law_some"] ["_law_pen_here", "_law_some"] (defScope s_law_pick) := ⟨rfl, rfl, rfl, by decide +kernel, rfl, by decide +kernel, by decide +kernel⟩
theorem ok_law_pick {f : Addr} {fd : FuncData} (F : FunD K "_law_pick" "_law_pick" (defArgs s_law_pick) (defBody s_law_pick) (defScope s_law_pick) [] [] f fd) (Tx : Txt K mg) (h_law_draw : Has P w K mg base "_law_draw" 1 ["_law_pen_here", "_law_many"] sp_law_draw)   : FnOk P w K mg base CX0 2 f fd ["_law_pen_here", "_law_some"] (sp_law_pick K) := by
  obtain ⟨f_law_draw, fd_law_draw, G_law_draw, g_law_draw, k_law_draw, b_law_draw⟩ := h_law_draw
  refine FunD.ok F sc_law_pick (fun vs H Q E h => ?_) (fun cdv A outer s H vs Q E hr h => ?_)
  · obtain ⟨p, c, a, b, xs, rfl, _⟩ := h
    rfl
  · obtain ⟨p, c, a, b, xs, rfl, hp, ha, nap, hne, hl, q⟩ := h
    have lp : 0 < xs.length := List.length_pos_iff.mpr hne
    rcases ha with ha | ha
    · refine ⟨_, PSs.nox (pss_one (ps_ret (pe_ix ix_list (pv 1) (pe_call G_law_draw (hr.mono (by decide)) (by rfl) g_law_draw k_law_draw b_law_draw .nil pass0 (pa_cons (pv 0) (pa_cons (pe_callB call_len_seq (by rfl) Tx.n_len (by decide +kernel) (pa_cons (pv 1) pa_nil)) pa_nil))) (fun _ _ => rfl)))), ?_⟩
      refine ⟨_, rfl, _, rfl, _, rfl, a, _, rfl, .inl (SqL.of ha), p, c, _, b, rfl, hp, by omega, lt200 hl, fun H1 d h1 k1 d0 d1 => ?_⟩
      obtain ⟨x, hx, hat⟩ := at_in d0 d1
      exact ⟨a, _, d, x, rfl, rfl, SqL.of (k1 _ _ nap ha), hat, q _ x hx h1 k1⟩
    · refine ⟨_, PSs.nox (pss_one (ps_ret (pe_ix ix_tup (pv 1) (pe_call G_law_draw (hr.mono (by decide)) (by rfl) g_law_draw k_law_draw b_law_draw .nil pass0 (pa_cons (pv 0) (pa_cons (pe_callB call_len_seq (by rfl) Tx.n_len (by decide +kernel) (pa_cons (pv 1) pa_nil)) pa_nil))) (fun _ _ => rfl)))), ?_⟩
      refine ⟨_, rfl, _, rfl, _, rfl, a, _, rfl, .inr (SqT.of ha), p, c, _, b, rfl, hp, by omega, lt200 hl, fun H1 d h1 k1 d0 d1 => ?_⟩
      obtain ⟨x, hx, hat⟩ := at_in d0 d1
      exact ⟨a, _, d, x, rfl, rfl, SqT.of (k1 _ _ nap ha), hat, q _ x hx h1 k1⟩
theorem has_law_pick (Tx : Txt K mg) (c : He.SaysX fa fn [] tf ex w hh K) (X : K.In hh) (GG : hh.Ns mainGlobals mg) (h_law_draw : Has P w K mg base "_law_draw" 1 ["_law_pen_here", "_law_many"] sp_law_draw)   : Has P w K mg base "_law_pick" 2 ["_law_pen_here", "_law_some"] (sp_law_pick K) := by
  obtain ⟨fd, F⟩ := c.t.d.def_ 38 (d := d_law_pick) rfl
  exact ⟨_, fd, ok_law_pick F Tx h_law_draw, He.glo_ok X GG (c.t.d.fact 31 (f := .glo "_law_pick") rfl), F.kp, F.bindsN fun _ _ _ _ _ _ us hl => match us, hl with | [_, _], _ => rfl⟩
def rgI (n : Int) : List Int := (List.range n.toNat).map Int.ofNat
theorem rgI_mem {n i : Int} (h : i ∈ rgI n) : 0 ≤ i ∧ i < n := by
  obtain ⟨j, hj, rfl⟩ := List.mem_map.mp h
  have := List.mem_range.mp hj
  show 0 ≤ (j : Int) ∧ (j : Int) < n
  omega
theorem rgI_nodup (n : Int) : (rgI n).Nodup := by
  exact List.pairwise_map.mpr (List.Pairwise.imp (fun h e => h (Int.ofNat.inj e)) List.nodup_range)
theorem rgI_len {n : Int} : (rgI n).length = n.toNat := by unfold rgI; simp
theorem rgV_eq {n : Int} : rgV 0 n = (rgI n).map V.int := by
  unfold rgV rgI
  rw [List.map_map, Int.sub_zero]
  refine List.map_congr_left fun i _ => ?_
  show V.int ((0 : Int) + (i : Nat)) = V.int (Int.ofNat i)
  rw [Int.zero_add]
  rfl
/-- pairs of different sides, no side twice -/
structure Apart (n : Int) (ps : List (Int × Int)) : Prop where
  nd : (flat2 ps).Nodup
  ok : ∀ p ∈ ps, Pok n p
theorem flat2_snoc (ps : List (Int × Int)) (p : Int × Int) : flat2 (ps ++ [p]) = flat2 ps ++ [p.1, p.2] := by
  unfold flat2
  rw [List.flatMap_append]
  rfl
theorem flat2_mem {ps : List (Int × Int)} {p : Int × Int} (h : p ∈ ps) : p.1 ∈ flat2 ps ∧ p.2 ∈ flat2 ps := by
  unfold flat2
  exact ⟨List.mem_flatMap.mpr ⟨p, h, List.mem_cons_self ..⟩, List.mem_flatMap.mpr ⟨p, h, List.mem_cons_of_mem _ (List.mem_cons_self ..)⟩⟩
theorem flat2_ne : ∀ {ps : List (Int × Int)} {p : Int × Int}, p ∈ ps → (flat2 ps).Nodup → p.1 ≠ p.2
  | q :: r, p, h, hn => by
    have e : flat2 (q :: r) = q.1 :: q.2 :: flat2 r := rfl
    rw [e] at hn
    rcases List.mem_cons.mp h with rfl | h
    · exact fun z => (List.nodup_cons.mp hn).1 (by rw [z]; exact List.mem_cons_self ..)
    · exact flat2_ne h (List.nodup_cons.mp (List.nodup_cons.mp hn).2).2
theorem apart_of {n : Int} {ns : List Int} {ps : List (Int × Int)} (h : (ns ++ flat2 ps).Perm (rgI n)) : Apart n ps := by
  have hn : (flat2 ps).Nodup := (List.nodup_append.mp (h.nodup_iff.mpr (rgI_nodup n))).2.1
  refine ⟨hn, fun p hp => ?_⟩
  obtain ⟨h1, h2⟩ := flat2_mem hp
  obtain ⟨a1, a2⟩ := rgI_mem (h.mem_iff.mp (List.mem_append_right _ h1))
  obtain ⟨b1, b2⟩ := rgI_mem (h.mem_iff.mp (List.mem_append_right _ h2))
  exact ⟨a1, a2, b1, b2, flat2_ne hp hn⟩
theorem erase_map (f : Int → V) : ∀ (ms : List Int) (i : Nat), (ms.map f).eraseIdx i = (ms.eraseIdx i).map f
  | [], _ => rfl
  | _ :: _, 0 => rfl
  | a :: r, i + 1 => by
    show f a :: (r.map f).eraseIdx i = f a :: (r.eraseIdx i).map f
    rw [erase_map f r i]
theorem erase_perm : ∀ {ms : List Int} {i : Nat} (h : i < ms.length), (ms[i] :: ms.eraseIdx i).Perm ms
  | [], _, h => absurd h (Nat.not_lt_zero _)
  | a :: r, 0, _ => .refl _
  | a :: r, i + 1, h => by
    show (r[i]'(Nat.lt_of_succ_lt_succ h) :: a :: r.eraseIdx i).Perm (a :: r)
    exact (List.Perm.swap ..).trans ((erase_perm (Nat.lt_of_succ_lt_succ h)).cons a)
def sp_law_pairs (K : PySem.W.Frag) : Sp := fun vs H Q _ => ∃ (p c : Addr) (b m : Nat) (n : Int), vs = [.ref p, .int n, .int (m : Nat)] ∧ 2 * (m : Int) ≤ n ∧ n ≤ 100 ∧ PenAt H p c (b + 2 * m) ∧
  ∀ H' l ts ps, Kp p H H' → PenAt H' p c b → H l = none → H' l = some (.lst (ts.map V.ref)) → Seams H' ts ps → ps.length = m → Apart n ps → (∀ t ∈ ts, H t = none) → Q (.ref l) H'
theorem sc_law_pairs : FnScope ["_law_pen_here", "_law_sides", "_law_many", "_law_left", "_law_found", "_law_one"] ["_law_pen_here", "_law_sides", "_law_many"] (defScope s_law_pairs) := ⟨rfl, rfl, rfl, by decide +kernel, rfl, by decide +kernel, by decide +kernel⟩
theorem ok_law_pairs {f : Addr} {fd : FuncData} (F : FunD K "_law_pairs" "_law_pairs" (defArgs s_law_pairs) (defBody s_law_pairs) (defScope s_law_pairs) [] [] f fd) (Tx : Txt K mg) (h_law_draw : Has P w K mg base "_law_draw" 1 ["_law_pen_here", "_law_many"] sp_law_draw)   : FnOk P w K mg base CX0 2 f fd ["_law_pen_here", "_law_sides", "_law_many"] (sp_law_pairs K) := by
  obtain ⟨f_law_draw, fd_law_draw, G_law_draw, g_law_draw, k_law_draw, b_law_draw⟩ := h_law_draw
  refine FunD.ok F sc_law_pairs (fun vs H Q E h => ?_) (fun cdv A outer s H vs Q E hr h => ?_)
  · obtain ⟨p, c, b, m, n, rfl, _⟩ := h
    rfl
  · obtain ⟨p, c, b, m, n, rfl, hmn, hn, hp, q⟩ := h
    refine ⟨_, PSs.nox (pss_cons (ps_par (i := 3) (j := 4) (by rfl) sc_law_pairs.nd rfl rfl (by decide) rfl rfl (pa_cons (pe_listRg rfl (by rfl) Tx.n_list (prg_1 (by rfl) Tx.n_range (pv 1))) (pa_cons (pe_lst pa_nil) pa_nil)) (by rfl))
        (pss_cons (ps_while PassesOwn.never (pt_cmpR op_lt (pe_callB call_len_seq (by rfl) Tx.n_len (by decide +kernel) (pa_cons (pv 4) pa_nil)) (pv 2) (nomark _)) (pss_cons (ps_set (i := 5) sc_law_pairs.nd rfl (Or.inl rfl) (pe_bm PySem.F.plainAttrs_list PySem.F.slot_list_pop PySem.F.type_list_pop mt_popAt (pv 3) (pa_cons (pe_call G_law_draw (hr.mono (by decide)) (by rfl) g_law_draw k_law_draw b_law_draw .nil pass0 (pa_cons (pv 0) (pa_cons (pe_callB call_len_seq (by rfl) Tx.n_len (by decide +kernel) (pa_cons (pv 3) pa_nil)) pa_nil))) pa_nil)))
        (pss_one (ps_expr (pe_bm PySem.F.plainAttrs_list PySem.F.slot_list_append PySem.F.type_list_append mt_append (pv 4) (pa_cons (pe_tup (pa_cons (pv 5) (pa_cons (pe_bm PySem.F.plainAttrs_list PySem.F.slot_list_pop PySem.F.type_list_pop mt_popAt (pv 3) (pa_cons (pe_call G_law_draw (hr.mono (by decide)) (by rfl) g_law_draw k_law_draw b_law_draw .nil pass0 (pa_cons (pv 0) (pa_cons (pe_callB call_len_seq (by rfl) Tx.n_len (by decide +kernel) (pa_cons (pv 3) pa_nil)) pa_nil))) pa_nil)) pa_nil))) pa_nil))))))
        (pss_one (ps_ret (pv 4))))), ?_⟩
    refine ⟨_, rfl, _, rfl, ⟨by omega, by omega, by omega, by omega, by omega⟩, fun L nL => ?_⟩
    obtain ⟨Lp, Lc⟩ := hp.new nL
    have s1 : Same H (upd H L (.lst (rgV 0 n))) := same_new nL
    refine ⟨Nat.zero_le _, fun F nF => ?_⟩
    have nF0 : H F = none := s1.free nF
    have FL : F ≠ L := fun e => by
      rw [e, upd_same] at nF
      cases nF
    obtain ⟨Fp, Fc⟩ := hp.new nF0
    let Pv : Nat → L2.St → Hp → Prop := fun k σ H' => ∃ (o : Option V) (ns : List Int) (ts : List Addr) (ps : List (Int × Int)), σ = [some (.ref p), some (.int n), some (.int (m : Nat)), some (.ref L), some (.ref F), o] ∧ Kp p H H' ∧ PenAt H' p c (b + 2 * k) ∧
      H' L = some (.lst (ns.map V.int)) ∧ H' F = some (.lst (ts.map V.ref)) ∧ Seams H' ts ps ∧ ps.length + k = m ∧ (ns ++ flat2 ps).Perm (rgI n) ∧ (∀ t ∈ ts, H t = none)
    refine ⟨_, _, rfl, Pv, ⟨m, none, rgI n, [], [], rfl, ?_, ?_, ?_, upd_same, ⟨rfl, fun i t p h => by simp at h⟩, Nat.zero_add m, by rw [show flat2 [] = [] from rfl, List.append_nil], fun t h => by cases h⟩, ?_⟩
    · exact ((Kp.refl p H).new nL).new nF
    · exact (hp.mut Lp Lc).mut Fp Fc
    · rw [upd_ne FL.symm, upd_same, rgV_eq]
    · rintro k σ H1 ⟨o, ns, ts, ps, rfl, k1, hp1, hL, hF, hs, hk, hperm, hfr⟩
      have hlen : ns.length + 2 * ps.length = n.toNat := by
        have := hperm.length_eq
        rw [List.length_append, flat2_len, rgI_len] at this
        exact this
      refine ⟨_, rfl, F, _, rfl, .inl (SqL.of hF), _, rfl, _, _, rfl, rfl, _, rfl, ite2 (fun e => ?_) (fun e => ?_)⟩
      · have e1 := of_decide_eq_true e
        rw [List.length_map, hs.len] at e1
        obtain ⟨j, rfl⟩ : ∃ j, k = j + 1 := ⟨k - 1, by omega⟩
        have hb : b + 2 * (j + 1) = (b + 2 * j + 1) + 1 := by omega
        rw [hb] at hp1
        refine ⟨Pv j, fun σ' H' h => ⟨j, by omega, h⟩, ?_⟩
        refine ⟨_, rfl, .inl ⟨rfl, _, SqL.of hL⟩, _, rfl, _, rfl, L, _, rfl, .inl (SqL.of hL), p, c, _, _, rfl, hp1, by rw [List.length_map]; omega, lt200 (by rw [List.length_map]; omega), fun H2 d h2 k2 d0 d1 => ?_⟩
        have hL2 := k2 _ _ Lp hL
        obtain ⟨i, rfl⟩ := Int.eq_ofNat_of_zero_le d0
        rw [List.length_map] at d1
        have hi : i < ns.length := by omega
        have er : ∀ (ms : List Int) (i : Nat), (ms.map V.int).eraseIdx i = (ms.eraseIdx i).map V.int := fun ms i => erase_map V.int ms i
        refine ⟨L, _, _, i, .int ns[i], rfl, rfl, hL2, by omega, by omega, PySem.seqIndex_of (by omega) (by rw [List.length_map]; omega), by rw [List.getElem?_map, List.getElem?_eq_getElem hi]; rfl, ?_⟩
        have hL3 : upd H2 L (.lst ((ns.map V.int).eraseIdx i)) L = some (.lst ((ns.eraseIdx i).map V.int)) := by rw [upd_same, er]
        have hF3 : upd H2 L (.lst ((ns.map V.int).eraseIdx i)) F = some (.lst (ts.map V.ref)) := by rw [upd_ne FL]; exact k2 _ _ Fp hF
        have hp3 := h2.mut Lp Lc (o := .lst ((ns.map V.int).eraseIdx i))
        have k3 := (k1.trans k2).mut (o := .lst ((ns.map V.int).eraseIdx i)) nL
        have hs3 : Seams (upd H2 L (.lst ((ns.map V.int).eraseIdx i))) ts ps := ⟨hs.len, fun i t q h1 h2 => by
          have h := hs.at_ i t q h1 h2
          have tp : t ≠ p := fun e => by
            obtain ⟨xs, hx⟩ := hp1.at
            rw [e, hx] at h
            cases h
          have tL : t ≠ L := fun e => by
            rw [e, hL] at h
            cases h
          rw [upd_ne tL]
          exact k2 _ _ tp h⟩
        revert hL3 hF3 hp3 k3 hs3
        generalize upd H2 L (.lst ((ns.map V.int).eraseIdx i)) = H3
        intro hL3 hF3 hp3 k3 hs3
        have hi2 : (ns.eraseIdx i).length = ns.length - 1 := List.length_eraseIdx_of_lt hi
        refine ⟨_, rfl, .inl ⟨rfl, _, SqL.of hF3⟩, _, rfl, _, rfl, .inl ⟨rfl, _, SqL.of hL3⟩, _, rfl, _, rfl, L, _, rfl, .inl (SqL.of hL3), p, c, _, _, rfl, hp3, by rw [List.length_map, hi2]; omega, lt200 (by rw [List.length_map, hi2]; omega), fun H4 d h4 k4 d0 d1 => ?_⟩
        have hL4 := k4 _ _ Lp hL3
        have hF4 := k4 _ _ Fp hF3
        obtain ⟨l, rfl⟩ := Int.eq_ofNat_of_zero_le d0
        rw [List.length_map] at d1
        have hl : l < (ns.eraseIdx i).length := by omega
        refine ⟨L, _, _, l, .int (ns.eraseIdx i)[l], rfl, rfl, hL4, by omega, by omega, PySem.seqIndex_of (by omega) (by rw [List.length_map]; omega), by rw [List.getElem?_map, List.getElem?_eq_getElem hl]; rfl, ?_⟩
        have hp5 := h4.mut Lp Lc (o := .lst (((ns.eraseIdx i).map V.int).eraseIdx l))
        have k5 := (k3.trans k4).mut (o := .lst (((ns.eraseIdx i).map V.int).eraseIdx l)) nL
        have hL5 : upd H4 L (.lst (((ns.eraseIdx i).map V.int).eraseIdx l)) L = some (.lst (((ns.eraseIdx i).eraseIdx l).map V.int)) := by rw [upd_same, er]
        have hF5 : upd H4 L (.lst (((ns.eraseIdx i).map V.int).eraseIdx l)) F = some (.lst (ts.map V.ref)) := by rw [upd_ne FL]; exact hF4
        have hs5 : Seams (upd H4 L (.lst (((ns.eraseIdx i).map V.int).eraseIdx l))) ts ps := ⟨hs3.len, fun i t q h1 h2 => by
          have h := hs3.at_ i t q h1 h2
          have tp : t ≠ p := fun e => by
            obtain ⟨xs, hx⟩ := hp3.at
            rw [e, hx] at h
            cases h
          have tL : t ≠ L := fun e => by
            rw [e, hL3] at h
            cases h
          rw [upd_ne tL]
          exact k4 _ _ tp h⟩
        revert hp5 k5 hL5 hF5 hs5
        generalize upd H4 L (.lst (((ns.eraseIdx i).map V.int).eraseIdx l)) = H5
        intro hp5 k5 hL5 hF5 hs5
        refine ⟨le_line (n := 2) (by decide), fun T nT => ?_⟩
        have sT : Same H5 (upd H5 T (.tup [.int ns[i], .int (ns.eraseIdx i)[l]])) := same_new nT
        refine ⟨F, _, _, rfl, rfl, sT _ _ hF5, small_line (by rw [List.length_map, hs.len]; omega), ?_⟩
        have nT0 : H T = none := by
          cases e : H T with
          | none => rfl
          | some o =>
            have Tp : T ≠ p := fun e2 => by
              obtain ⟨xs, hx⟩ := hp5.at
              rw [e2, hx] at nT
              cases nT
            rw [k5 T o Tp e] at nT
            cases nT
        refine ⟨_, (ns.eraseIdx i).eraseIdx l, ts ++ [T], ps ++ [(ns[i], (ns.eraseIdx i)[l])], rfl, (k5.new nT).mut nF0, ((hp5.same sT).mut Fp Fc), ?_, ?_, ?_, by rw [List.length_append]; show ps.length + 1 + j = m; omega, ?_, fun t ht => ?_⟩
        · rw [upd_ne FL.symm]
          exact sT _ _ hL5
        · rw [upd_same, List.map_append]
          rfl
        · exact hs5.push (p := (ns[i], (ns.eraseIdx i)[l])) nT hF5
        · rw [flat2_snoc]
          refine List.Perm.trans ?_ hperm
          have p1 : (ns[i] :: ns.eraseIdx i).Perm ns := erase_perm hi
          have p2 : ((ns.eraseIdx i)[l] :: (ns.eraseIdx i).eraseIdx l).Perm (ns.eraseIdx i) := erase_perm hl
          have p3 : ((ns.eraseIdx i).eraseIdx l ++ [ns[i], (ns.eraseIdx i)[l]]).Perm ns := by
            refine List.perm_append_comm.trans ?_
            exact ((p2.cons ns[i])).trans p1
          refine List.Perm.trans ?_ (p3.append_right (flat2 ps))
          rw [List.append_assoc]
          exact List.perm_append_comm.append_left _
        · rcases List.mem_append.mp ht with h | h
          · exact hfr t h
          · rw [List.mem_singleton.mp h]
            exact nT0
      · have e1 : ¬ ((ts.map V.ref).length : Int) < (m : Int) := fun c => e (decide_eq_true c)
        rw [List.length_map, hs.len] at e1
        have hk0 : k = 0 := by omega
        subst hk0
        exact ⟨_, rfl, q _ _ ts ps k1 hp1 nF0 hF hs (by omega) (apart_of hperm) hfr⟩
theorem has_law_pairs (Tx : Txt K mg) (c : He.SaysX fa fn [] tf ex w hh K) (X : K.In hh) (GG : hh.Ns mainGlobals mg) (h_law_draw : Has P w K mg base "_law_draw" 1 ["_law_pen_here", "_law_many"] sp_law_draw)   : Has P w K mg base "_law_pairs" 2 ["_law_pen_here", "_law_sides", "_law_many"] (sp_law_pairs K) := by
  obtain ⟨fd, F⟩ := c.t.d.def_ 39 (d := d_law_pairs) rfl
  exact ⟨_, fd, ok_law_pairs F Tx h_law_draw, He.glo_ok X GG (c.t.d.fact 32 (f := .glo "_law_pairs") rfl), F.kp, F.bindsN fun _ _ _ _ _ _ us hl => match us, hl with | [_, _, _], _ => rfl⟩
theorem inV_int {i : Int} {ns : List Int} : inV (.int i) (ns.map V.int) = decide (i ∈ ns) := by
  unfold inV
  rw [List.any_map]
  induction ns with
  | nil => rfl
  | cons a r ih =>
    rw [List.any_cons, ih]
    show (eqV (.int a) (.int i) || decide (i ∈ r)) = _
    have e : eqV (.int a) (.int i) = decide (a = i) := rfl
    rw [e]
    by_cases h : a = i
    · subst h
      simp
    · have h2 : ¬ i = a := fun z => h z.symm
      simp [h, h2]

end
end K04

namespace K04
open PySem PySem.Spec PyProof.Rows L2 Vf LamX
section
variable {hh : Heap} {P : Program} {w : World} {K : PySem.W.Frag} {mg : Str → Option Value} {base : Heap}
/-! ### a skin mirrored -/
def mrP (t : Int) (p : Int × Int) : Int × Int := (mrS t p.1, mrS t p.2)
def mrV (t : Int) : V → V
  | .int i => .int (mrS t i)
  | v => v
theorem SeamsB.push {H : Hp} {vs : List Addr} {ps : List (Int × Int)} {T D : Addr} {p : Int × Int} {ys : List V} (hs : SeamsB H vs ps) (hD : H D = some (.lst (vs.map V.ref))) (hT : Pr2 H T p) : SeamsB (upd H D (.lst ys)) (vs ++ [T]) (ps ++ [p]) := by
  have ne : ∀ {t : Addr} {q : Int × Int}, Pr2 H t q → t ≠ D := fun {t q} h e => by
    subst e
    rcases h with h | h
    · rw [hD] at h
      cases h
    · rw [hD] at h
      have h' := Option.some.inj h
      injection h' with h'
      cases vs with
      | nil => cases h'
      | cons a r => cases h'
  have keep : ∀ {t : Addr} {q : Int × Int}, Pr2 H t q → Pr2 (upd H D (.lst ys)) t q := fun {t q} h => by
    rcases h with h | h
    · exact .inl (by rw [upd_ne (ne (.inl h))]; exact h)
    · exact .inr (by rw [upd_ne (ne (.inr h))]; exact h)
  refine ⟨by rw [List.length_append, List.length_append, hs.len] <;> rfl, fun i t q h1 h2 => ?_⟩
  by_cases hi : i < vs.length
  · rw [List.getElem?_append_left hi] at h1
    rw [List.getElem?_append_left (by rw [← hs.len]; exact hi)] at h2
    exact keep (hs.at_ i t q h1 h2)
  · rw [List.getElem?_append_right (by omega)] at h1
    rw [List.getElem?_append_right (by rw [← hs.len]; omega), ← hs.len] at h2
    obtain ⟨k, hk⟩ : ∃ k, i - vs.length = k := ⟨_, rfl⟩
    rw [hk] at h1 h2
    cases k with
    | zero =>
      cases h1
      cases h2
      exact keep hT
    | succ k => simp at h1
def sp_Skin_mirrored (K : PySem.W.Frag) : Sp := fun vs H Q _ => ∃ (x dx st mt ft : Addr) (us : List Addr) (z : Str) (n : Int) (ps qs : List (Int × Int)), vs = [.ref x] ∧ SkinIs K H x z n ps dx st mt ft us qs ∧ isGrid (.str z) = true ∧ 1 ≤ n ∧ n ≤ 24 ∧ qs.length ≤ 400 ∧ (∀ p ∈ qs, Pok (n * turnOf z) p) ∧
  (∀ p ∈ qs.map (mrP (turnOf z)), Pok (n * turnOf z) p) ∧ tw (flat2 (qs.map (mrP (turnOf z)))) = none ∧ ∀ H' y, Same H H' → H y = none → SkinAt K H' y z n (qs.map (mrP (turnOf z))) → Q (.ref y) H'
theorem sc_Skin_mirrored : FnScope ["self", "seams", "seam", "side"] ["self"] (defScope s_Skin_mirrored) := ⟨rfl, rfl, rfl, by decide +kernel, rfl, by decide +kernel, by decide +kernel⟩
theorem ok_Skin_mirrored {f : Addr} {fd : FuncData} (F : FunD K "mirrored" "Skin.mirrored" (defArgs s_Skin_mirrored) (defBody s_Skin_mirrored) (defScope s_Skin_mirrored) [] [] f fd) (Tx : Txt K mg) (h_Skin_mirror_of : HasM P w K mg base CX0 "Skin" "mirror_of" 1 ["self", "side"] (sp_Skin_mirror_of K)) (h_Skin_init : HasI P w K mg base 5 (sp_Skin_init K))   : FnOk P w K mg base (L2.CX P w) 7 f fd ["self"] (sp_Skin_mirrored K) := by
  obtain ⟨fd_Skin_mirror_of, G_Skin_mirror_of, b_Skin_mirror_of⟩ := h_Skin_mirror_of
  obtain ⟨fd_Skin_init, G_Skin_init, b_Skin_init, ⟨ds2_Skin_init, v2_Skin_init, b2_Skin_init⟩, ⟨ds1_Skin_init, kb_Skin_init_kind_faces⟩, ⟨dd1_Skin_init, kb_Skin_init_seams_faces_kind⟩⟩ := h_Skin_init
  refine FunD.ok F sc_Skin_mirrored (fun vs H Q E h => ?_) (fun cdv A outer s H vs Q E hr h => ?_)
  · obtain ⟨x, dx, st, mt, ft, us, z, n, ps, qs, rfl, _⟩ := h
    rfl
  · obtain ⟨x, dx, st, mt, ft, us, z, n, ps, qs, rfl, hx, hg, n1, n24, hl, hok, hok2, htw, q⟩ := h
    have tz := turn_in z
    have hN : n * turnOf z ≤ 96 := by rcases tz with e | e <;> rw [e] <;> omega
    have hlt : us.length ≤ 400 := by rw [hx.sts.len]; exact hl
    have fin : ∀ (H2 : Hp) (c : Addr) (vs : List Addr), Same H H2 → H2 c = some (.lst (vs.map V.ref)) → SeamsB H2 vs (qs.map (mrP (turnOf z))) → ∀ y dy, H2 y = none → H2 dy = none → dy ≠ y →
        sp_Skin_init K [.ref y, .str z, .int n, .ref c] (upd (upd H2 dy (.own y)) y (.ins (He.ga K "Skin") dy [])) (fun v H' => v = .non ∧ Q (.ref y) H') E := by
      intro H2 c vs s2 hc hvs y dy ny ndy ney
      have sY : Same H2 (upd (upd H2 dy (.own y)) y (.ins (He.ga K "Skin") dy [])) := (same_new (o := .own y) ndy).trans (same_new (o := .ins (He.ga K "Skin") dy []) (by rw [upd_ne ney.symm]; exact ny))
      refine ⟨y, dy, _, _, _, .str, .int, rfl, upd_same, True.intro, True.intro, ?_⟩
      refine .made z n c vs _ rfl hg rfl n1 rfl (.inl (sY _ _ hc)) (hvs.same sY) (by rw [List.length_map]; exact hl) hok2 (fun t ht => absurd (ht.symm.trans htw) (by simp)) (fun _ c => absurd c (by omega)) (fun _ _ H' k' hy => ⟨rfl, ?_⟩)
      exact q H' y (s2.trans (same_made ny ndy ney k')) (s2.free ny) hy
    refine ⟨_, (pss_cons (ps_setLc (i := 1) (own := [("seam", 2)]) (g := gName 2) (tt := tYes) rfl sc_Skin_mirrored.nd rfl rfl (sw_true rfl rfl rfl (by decide +kernel)) (pi_tup (pe_fld (pv 0) rfl)) (blkOk_by (own := [("seam", 2)]) (N := ["self", "seams", "seam", "side"]) (sc := defScope s_Skin_mirrored) (by decide +kernel)) (fun _ _ _ _ _ => (pg_name (i := 2) sc_Skin_mirrored.nd rfl (Or.inl rfl))) (fun _ _ _ _ _ => pts_nil) (fun _ _ _ _ _ => (pe_lc (own := [("side", 3)]) (g := gName 3) (wi := iTup K (tVar 2)) (tt := tYes) rfl sc_Skin_mirrored.nd (pi_tup (pv 2)) (blkOk_by (own := [("side", 3)]) (N := ["self", "seams", "seam", "side"]) (sc := ⟨.function, [(".0", .local), ("seam", .local), ("self", .cell)], false, false, []⟩) (by decide +kernel)) (fun _ _ _ _ _ => (pg_name (i := 3) sc_Skin_mirrored.nd rfl (Or.inl rfl))) (fun _ _ _ _ _ => pts_nil) (fun _ _ _ _ _ => (pe_meth (pv 0) Tx.cl_Skin Tx.me_Skin_mirror_of G_Skin_mirror_of (hr.mono (by decide)) b_Skin_mirror_of .nil pass0 (pa_cons (pv 3) pa_nil))))))
        (pss_one (ps_ret (pe_make Tx.mk_Skin G_Skin_init (hr.mono (by decide)) (by rfl) Tx.g_Skin b_Skin_init .nil (passE rfl rfl rfl rfl) (pa_cons (pe_fld (pv 0) rfl) (pa_cons (pe_fld (pv 0) rfl) (pa_cons (pv 1) pa_nil))))))), ?_⟩
    refine ⟨_, rfl, x, _, dx, _, _, rfl, hx.ins, Tx.cl_Skin, Tx.no_Skin_seams, rfl, st, rfl, ⟨_, SqT.of hx.seams⟩, fun D nD => ?_⟩
    refine lc_it (walk_tup (K := K) (a := st) (xs := us.map V.ref)) (fun i H' => ∃ vs : List Addr, Same H H' ∧ H' D = some (.lst (vs.map V.ref)) ∧ SeamsB H' vs ((qs.take i).map (mrP (turnOf z)))) ⟨[], same_new nD, upd_same, ⟨rfl, fun i t p h => by simp at h⟩⟩ (fun i H' _ p => by obtain ⟨_, s8, _⟩ := p; exact SqT.of (s8 _ _ hx.seams)) (fun i v H' H'' hi p y => ?_) (fun H' p => ?_)
    · obtain ⟨vs, s8, hD, hvs⟩ := p
      obtain ⟨rfl, hv⟩ := y
      obtain ⟨t, p, rfl, htt, hp, htup⟩ := hx.sts.get hv
      obtain ⟨p0, p1, p2, p3, _⟩ := hok p (List.mem_of_getElem? hp)
      refine ⟨rfl, ?_⟩
      refine ⟨_, rfl, t, rfl, ⟨_, SqT.of (s8 _ _ htup)⟩, fun T nT => ?_⟩
      have sT : Same H'' (upd H'' T (.lst [])) := same_new nT
      refine lc_pure (walk_tup (K := K) (a := t) (xs := [.int p.1, .int p.2])) [.int p.1, .int p.2] rfl (show 2 ≤ 100000 by decide) (fun i H x H' y => ⟨same_of_eq y.1, y.2⟩) (mrV (turnOf z)) (fun _ => true) nT (fun H3 s3 => SqT.of (s3 _ _ (s8 _ _ htup))) (fun i v H2 Q1 Q0 hi s2 q1 q0 => ?_) (fun H2 s2 hT => ?_)
      · refine ⟨rfl, ?_⟩
        have hx2 := hx.same (s8.trans s2)
        obtain ⟨m, rfl, m0, m1⟩ : ∃ m : Int, v = .int m ∧ 0 ≤ m ∧ m ≤ 1000 := by
          match i, hi with
          | 0, h => exact ⟨p.1, (Option.some.inj h).symm, p0, by omega⟩
          | 1, h => exact ⟨p.2, (Option.some.inj h).symm, p2, by omega⟩
          | j + 2, h => simp at h
        exact ⟨_, rfl, x, dx, _, rfl, hx2.ins, rfl, _, rfl, x, z, n, ps, m, rfl, ⟨dx, st, mt, ft, us, qs, hx2⟩, m0, m1, q1 rfl _ (Same.refl _)⟩
      · have hT' : H2 T = some (.lst [.int (mrP (turnOf z) p).1, .int (mrP (turnOf z) p).2]) := hT
        refine ⟨_, s2 _ _ hD, ?_, vs ++ [T], Same.mut (s8.trans s2) nD, by rw [upd_same, List.map_append] <;> rfl, ?_⟩
        · rw [List.length_map, hvs.len, List.length_map, List.length_take]
          exact small_line (by omega)
        · have ep : (qs.take (i + 1)).map (mrP (turnOf z)) = (qs.take i).map (mrP (turnOf z)) ++ [mrP (turnOf z) p] := by
            rw [List.take_add_one, hp, Option.toList_some, List.map_append]
            rfl
          rw [ep]
          exact (hvs.same s2).push (s2 _ _ hD) (.inr hT')
    · obtain ⟨vs, s8, hD, hvs⟩ := p
      have hx1 := hx.same s8
      have el : (qs.take (us.map V.ref).length).map (mrP (turnOf z)) = qs.map (mrP (turnOf z)) := by rw [List.length_map, hx.sts.len, List.take_length]
      rw [el] at hvs
      exact ⟨_, rfl, x, _, dx, _, _, rfl, hx1.ins, Tx.cl_Skin, Tx.no_Skin_kind, rfl, _, rfl, x, _, dx, _, _, rfl, hx1.ins, Tx.cl_Skin, Tx.no_Skin_faces, rfl, _, rfl, fin H' D vs s8 hD hvs⟩
theorem has_Skin_mirrored (Tx : Txt K mg) (c : He.SaysX fa fn [] tf ex w hh K) (X : K.In hh) (GG : hh.Ns mainGlobals mg) (h_Skin_mirror_of : HasM P w K mg base CX0 "Skin" "mirror_of" 1 ["self", "side"] (sp_Skin_mirror_of K)) (h_Skin_init : HasI P w K mg base 5 (sp_Skin_init K))   : HasM P w K mg base (L2.CX P w) "Skin" "mirrored" 7 ["self"] (sp_Skin_mirrored K) := by
  obtain ⟨fd, F⟩ := c.t.d.def_ 30 (d := d_Skin_mirrored) rfl
  exact ⟨fd, ok_Skin_mirrored F Tx h_Skin_mirror_of h_Skin_init, F.bindsN fun _ _ _ _ _ _ us hl => match us, hl with | [_], _ => rfl⟩

end
end K04

namespace K04
open PySem PySem.Spec PyProof.Rows L2 Vf LamX
section
variable {hh : Heap} {P : Program} {w : World} {K : PySem.W.Frag} {mg : Str → Option Value} {base : Heap}
/-! ### the mates by the law -/
theorem un1 {n : Nat} (h : n + 64 < cLine) : n + 1 < cLine := by omega
/-- what d tells of the sides: the mates -/
def mtK (kvs : List (Key × V)) (p : Int × Int) : List (Key × V) := putK (putK kvs (.inl p.1) (.int p.2)) (.inl p.2) (.int p.1)
def mtD (ps : List (Int × Int)) : List (Key × V) := ps.foldl mtK []
theorem putK_len {kvs : List (Key × V)} {k : Key} {v : V} : (putK kvs k v).length ≤ kvs.length + 1 := by
  unfold putK
  split
  · rw [List.length_map]
    omega
  · rw [List.length_append]
    exact Nat.le_refl _
theorem mtK_len {kvs : List (Key × V)} {p : Int × Int} : (mtK kvs p).length ≤ kvs.length + 2 := by
  unfold mtK
  have h1 := putK_len (kvs := putK kvs (.inl p.1) (.int p.2)) (k := .inl p.2) (v := .int p.1)
  have h2 := putK_len (kvs := kvs) (k := .inl p.1) (v := .int p.2)
  omega
theorem mtD_take {ps : List (Int × Int)} {i : Nat} {p : Int × Int} (h : ps[i]? = some p) : mtD (ps.take (i + 1)) = mtK (mtD (ps.take i)) p := by
  unfold mtD
  rw [List.take_add_one, h, Option.toList_some, List.foldl_append]
  rfl
theorem mtD_len (ps : List (Int × Int)) : (mtD ps).length ≤ 2 * ps.length := by
  unfold mtD
  suffices h : ∀ kvs : List (Key × V), (ps.foldl mtK kvs).length ≤ kvs.length + 2 * ps.length by simpa using h []
  induction ps with
  | nil => intro kvs; simp
  | cons p r ih =>
    intro kvs
    rw [List.foldl_cons]
    have h1 := ih (mtK kvs p)
    have h2 := mtK_len (kvs := kvs) (p := p)
    rw [List.length_cons]
    omega
def sp_law_mates (K : PySem.W.Frag) : Sp := fun vs H Q _ => ∃ (a : Addr) (ts : List Addr) (ps : List (Int × Int)), vs = [.ref a] ∧ H a = some (.lst (ts.map V.ref)) ∧ SeamsB H ts ps ∧ ps.length ≤ 400 ∧ ∀ H' r, Same H H' → H r = none → H' r = some (.dK (mtD ps)) → Q (.ref r) H'
theorem sc_law_mates : FnScope ["_law_pairs_here", "_law_mates_here", "_law_one", "_law_other"] ["_law_pairs_here"] (defScope s_law_mates) := ⟨rfl, rfl, rfl, by decide +kernel, rfl, by decide +kernel, by decide +kernel⟩
theorem ok_law_mates {f : Addr} {fd : FuncData} (F : FunD K "_law_mates" "_law_mates" (defArgs s_law_mates) (defBody s_law_mates) (defScope s_law_mates) [] [] f fd) (Tx : Txt K mg)    : FnOk P w K mg base CX0 1 f fd ["_law_pairs_here"] (sp_law_mates K) := by
  refine FunD.ok F sc_law_mates (fun vs H Q E h => ?_) (fun cdv A outer s H vs Q E hr h => ?_)
  · obtain ⟨a, ts, ps, rfl, _⟩ := h
    rfl
  · obtain ⟨a, ts, ps, rfl, ha, hs, hl, q⟩ := h
    refine ⟨_, PSs.nox (pss_cons (ps_set (i := 1) sc_law_mates.nd rfl (Or.inl rfl) pe_dnewK)
        (pss_cons (ps_for PassesOwn.never rfl (pi_list (pv 0)) (pg_box (by rfl) (pgs_cons (pg_name (i := 2) sc_law_mates.nd rfl (Or.inl rfl)) (pgs_cons (pg_name (i := 3) sc_law_mates.nd rfl (Or.inl rfl)) pgs_nil))) (pss_cons (ps_dput (un1 hr.units) (pv 1) (pv 2) (pv 3) rfl)
        (pss_one (ps_dput (un1 hr.units) (pv 1) (pv 3) (pv 2) rfl))))
        (pss_one (ps_ret (pv 1))))), ?_⟩
    refine fun m nm => ?_
    have s1 : Same H (upd H m (.dK [])) := same_new nm
    have ln : ∀ i, (mtD (ps.take i)).length ≤ 800 := fun i => by
      have h1 := mtD_len (ps.take i)
      have h2 : (ps.take i).length ≤ ps.length := by rw [List.length_take]; omega
      omega
    refine ⟨_, rfl, a, rfl, ⟨_, SqL.of (s1 _ _ ha)⟩, ?_⟩
    refine for_it (walk_list (K := K) (a := a) (xs := ts.map V.ref)) (fun i σ H2 => ∃ (x y : Option V), σ = [some (.ref a), some (.ref m), x, y] ∧ Same H H2 ∧ H2 m = some (.dK (mtD (ps.take i))))
      ⟨none, none, rfl, s1, upd_same⟩ (fun i σ H2 _ p => ?_) (fun i x σ H2 H3 hi p y => ?_) (fun σ H2 p => ?_)
    · obtain ⟨_, _, _, s3, _⟩ := p
      exact SqL.of (s3 _ _ ha)
    · obtain ⟨x0, y0, rfl, s3, hm⟩ := p
      obtain ⟨rfl, hx⟩ := y
      obtain ⟨t, pr, rfl, ht, hp, htup⟩ := hs.get hx
      refine ⟨t, _, rfl, (htup.same s3).box, rfl, _, _, rfl, _, _, rfl, rfl, ?_⟩
      refine ⟨_, rfl, _, rfl, _, rfl, m, _, rfl, .inl ⟨_, .inl pr.1, hm, rfl, small_line (by have := ln i; omega), rfl⟩, ?_⟩
      refine ⟨_, rfl, _, rfl, _, rfl, m, _, rfl, .inl ⟨_, .inl pr.2, upd_same, rfl, small_line (by have := ln i; have := putK_len (kvs := mtD (ps.take i)) (k := .inl pr.1) (v := .int pr.2); omega), rfl⟩, ?_⟩
      refine ⟨_, _, rfl, Same.mut (Same.mut s3 nm) nm, ?_⟩
      rw [upd_same, mtD_take hp]
      rfl
    · obtain ⟨x0, y0, rfl, s3, hm⟩ := p
      rw [List.length_map, hs.len, List.take_length] at hm
      exact ⟨_, rfl, q _ _ s3 nm hm⟩
theorem has_law_mates (Tx : Txt K mg) (c : He.SaysX fa fn [] tf ex w hh K) (X : K.In hh) (GG : hh.Ns mainGlobals mg)    : Has P w K mg base "_law_mates" 1 ["_law_pairs_here"] (sp_law_mates K) := by
  obtain ⟨fd, F⟩ := c.t.d.def_ 40 (d := d_law_mates) rfl
  exact ⟨_, fd, ok_law_mates F Tx , He.glo_ok X GG (c.t.d.fact 33 (f := .glo "_law_mates") rfl), F.kp, F.bindsN fun _ _ _ _ _ _ us hl => match us, hl with | [_], _ => rfl⟩

end
end K04

namespace K04
open PySem PySem.Spec PyProof.Rows L2 Vf LamX
section
variable {hh : Heap} {P : Program} {w : World} {K : PySem.W.Frag} {mg : Str → Option Value} {base : Heap}
/-! ### how pairs are told -/
def rListOf (K : PySem.W.Frag) : List V → Hp → VK → Prop := fun xs H Q => ∃ p ys, xs = [V.ref p] ∧ (SqL K H p ys ∨ SqT K H p ys) ∧ ∀ l, H l = none → Q (.ref l) (upd H l (.lst ys))
theorem call_list_ofK {X : Cx} (hK : X.K = K) : CallR X (.type "list") (rListOf K) := by
  subst hK
  exact call_list_of
theorem pr2_pen {H : Hp} {p c t : Addr} {b : Nat} {q : Int × Int} (hp : PenAt H p c b) (h : Pr2 H t q) : t ≠ p := fun e => by
  subst e
  obtain ⟨ns, n, g, e, _⟩ := hp
  rcases h with h | h
  · rw [e] at h
    cases h
  · rw [e] at h
    cases h
theorem SeamsB.kp {H H' : Hp} {p c : Addr} {b : Nat} {vs : List Addr} {ps : List (Int × Int)} (h : SeamsB H vs ps) (hp : PenAt H p c b) (k : Kp p H H') : SeamsB H' vs ps :=
  ⟨h.len, fun i t q h1 h2 => by
    have z := h.at_ i t q h1 h2
    have ne := pr2_pen hp z
    exact z.elim (fun e => .inl (k _ _ ne e)) (fun e => .inr (k _ _ ne e))⟩
theorem refs_pen {H : Hp} {p c a : Addr} {b : Nat} {ts : List Addr} (hp : PenAt H p c b) (h : H a = some (.lst (ts.map V.ref))) : a ≠ p := fun e => by
  subst e
  obtain ⟨ns, n, g, e, _⟩ := hp
  rw [e] at h
  have h' := Option.some.inj h
  injection h' with h'
  match ts, h' with
  | [_, _, _], h' => simp at h'
def sp_law_told (K : PySem.W.Frag) : Sp := fun vs H Q _ => ∃ (p c a : Addr) (b : Nat) (ts : List Addr) (ps : List (Int × Int)), vs = [.ref p, .ref a] ∧ H a = some (.lst (ts.map V.ref)) ∧ Seams H ts ps ∧ ps.length ≤ 400 ∧ PenAt H p c (b + ps.length) ∧
  ∀ H' l us, Kp p H H' → PenAt H' p c b → H l = none → H' l = some (.lst (us.map V.ref)) → SeamsB H' us ps → (∀ v ∈ us, v ∈ ts ∨ H v = none) → Q (.ref l) H'
theorem sc_law_told : FnScope ["_law_pen_here", "_law_pairs_here", "_law_pair"] ["_law_pen_here", "_law_pairs_here"] (defScope s_law_told) := ⟨rfl, rfl, rfl, by decide +kernel, rfl, by decide +kernel, by decide +kernel⟩
theorem ok_law_told {f : Addr} {fd : FuncData} (F : FunD K "_law_told" "_law_told" (defArgs s_law_told) (defBody s_law_told) (defScope s_law_told) [] [] f fd) (Tx : Txt K mg) (h_law_draw : Has P w K mg base "_law_draw" 1 ["_law_pen_here", "_law_many"] sp_law_draw)   : FnOk P w K mg base CX0 2 f fd ["_law_pen_here", "_law_pairs_here"] (sp_law_told K) := by
  obtain ⟨f_law_draw, fd_law_draw, G_law_draw, g_law_draw, k_law_draw, b_law_draw⟩ := h_law_draw
  refine FunD.ok F sc_law_told (fun vs H Q E h => ?_) (fun cdv A outer s H vs Q E hr h => ?_)
  · obtain ⟨p, c, a, b, ts, ps, rfl, _⟩ := h
    rfl
  · obtain ⟨p, c, a, b, ts, ps, rfl, ha, hs, hl, hp, q⟩ := h
    have nap := refs_pen hp ha
    have hlt : ts.length ≤ 400 := by rw [hs.len]; exact hl
    refine ⟨_, PSs.nox (pss_one (ps_ret (pe_lc (own := [("_law_pair", 2)]) (g := gName 2) (tt := tYes) rfl sc_law_told.nd (pi_list (pv 1)) (blkOk_by (own := [("_law_pair", 2)]) (N := ["_law_pen_here", "_law_pairs_here", "_law_pair"]) (sc := defScope s_law_told) (by decide +kernel)) (fun _ _ _ _ _ => (pg_name (i := 2) sc_law_told.nd rfl (Or.inl rfl))) (fun _ _ _ _ _ => pts_nil) (fun _ _ _ _ _ => (pe_ifExp (pt_cmpR op_eq (pe_call G_law_draw (hr.mono (by decide)) (by rfl) g_law_draw k_law_draw b_law_draw .nil pass0 (pa_cons (pv 0) (pa_cons pe_int pa_nil))) pe_int (nomark _)) (pe_callTy (call_list_ofK (K := K) rfl) (by rfl) Tx.n_list (by decide +kernel) (pa_cons (pv 2) pa_nil)) (pv 2)))))), ?_⟩
    refine ⟨_, rfl, a, rfl, ⟨_, SqL.of ha⟩, fun D nD => ?_⟩
    refine lc_it (walk_list (K := K) (a := a) (xs := ts.map V.ref)) (fun i H2 => ∃ us : List Addr, H2 D = some (.lst (us.map V.ref)) ∧ SeamsB H2 us (ps.take i) ∧ Kp p H H2 ∧ PenAt H2 p c (b + ps.length - i) ∧ (∀ v ∈ us, v ∈ ts ∨ H v = none))
      ⟨[], upd_same, ⟨rfl, fun i t p h => by simp at h⟩, (Kp.refl p H).new nD, hp.same (same_new nD), fun v h => by cases h⟩ (fun i H' _ p => by obtain ⟨_, _, _, k, _⟩ := p; exact SqL.of (k _ _ nap ha)) (fun i v H' H'' hi pp y => ?_) (fun H' pp => ?_)
    · obtain ⟨us, hD, hus, k, hp2, hfr⟩ := pp
      obtain ⟨rfl, hv⟩ := y
      obtain ⟨t, pr, rfl, htt, hpr, htup⟩ := hs.get hv
      refine ⟨rfl, ?_⟩
      have hi' : i < ps.length := (List.getElem?_eq_some_iff.mp hpr).1
      have nDp : D ≠ p := (hp.new nD).1
      have len : (us.map V.ref).length < sizeLine := by
        rw [List.length_map, hus.len, List.length_take]
        exact small_line (by omega)
      refine ⟨_, rfl, p, c, 2, b + ps.length - (i + 1), rfl, hp2.less (by omega), by decide, by decide, fun H4 d hp4 k4 d0 d1 => ⟨rfl, ?_⟩⟩
      have hD4 : H4 D = some (.lst (us.map V.ref)) := k4 _ _ nDp hD
      have hus4 := hus.kp hp2 k4
      have kk := k.trans k4
      have ntp : t ≠ p := pr2_pen hp (.inl htup)
      have ep : ps.take (i + 1) = ps.take i ++ [pr] := by
        rw [List.take_add_one, hpr]
        rfl
      have fin : ∀ (H5 : Hp) (T : Addr), Same H4 H5 → Pr2 H5 T pr → (T ∈ ts ∨ H T = none) → ∃ acc, H5 D = some (.lst acc) ∧ acc.length < sizeLine ∧ ∃ us, upd H5 D (.lst (acc ++ [V.ref T])) D = some (.lst (us.map V.ref)) ∧ SeamsB (upd H5 D (.lst (acc ++ [V.ref T]))) us (ps.take (i + 1)) ∧
          Kp p H (upd H5 D (.lst (acc ++ [V.ref T]))) ∧ PenAt (upd H5 D (.lst (acc ++ [V.ref T]))) p c (b + ps.length - (i + 1)) ∧ ∀ v ∈ us, v ∈ ts ∨ H v = none := by
        intro H5 T s5 hT hf
        refine ⟨_, s5 _ _ hD4, len, us ++ [T], by rw [upd_same, List.map_append] <;> rfl, ?_, (kk.trans (Kp.same s5)).mut nD, (hp4.same s5).mut nDp (hp.new nD).2, fun v hv => ?_⟩
        · rw [ep]
          exact (hus4.same s5).push (s5 _ _ hD4) hT
        · rcases List.mem_append.mp hv with h | h
          · exact hfr v h
          · rw [List.mem_singleton.mp h]
            exact hf
      refine ⟨_, rfl, ite2 (fun _ => ?_) (fun _ => ?_)⟩
      · refine ⟨_, rfl, t, _, rfl, .inr (SqT.of (kk _ _ ntp htup)), fun L nL => ?_⟩
        refine fin _ L (same_new nL) (.inr upd_same) (.inr ?_)
        cases e : H L with
        | none => rfl
        | some o =>
          have z := kk _ _ (hp4.new nL).1 e
          rw [nL] at z
          cases z
      · refine ⟨_, rfl, ?_⟩
        exact fin _ t (Same.refl _) (.inl (kk _ _ ntp htup)) (.inl (List.mem_of_getElem? htt))
    · obtain ⟨us, hD, hus, k, hp2, hfr⟩ := pp
      rw [List.length_map, hs.len, List.take_length] at hus
      rw [List.length_map, hs.len] at hp2
      exact q _ _ _ k (hp2.less (by omega)) nD hD hus hfr
theorem has_law_told (Tx : Txt K mg) (c : He.SaysX fa fn [] tf ex w hh K) (X : K.In hh) (GG : hh.Ns mainGlobals mg) (h_law_draw : Has P w K mg base "_law_draw" 1 ["_law_pen_here", "_law_many"] sp_law_draw)   : Has P w K mg base "_law_told" 2 ["_law_pen_here", "_law_pairs_here"] (sp_law_told K) := by
  obtain ⟨fd, F⟩ := c.t.d.def_ 42 (d := d_law_told) rfl
  exact ⟨_, fd, ok_law_told F Tx h_law_draw, He.glo_ok X GG (c.t.d.fact 35 (f := .glo "_law_told") rfl), F.kp, F.bindsN fun _ _ _ _ _ _ us hl => match us, hl with | [_, _], _ => rfl⟩

end
end K04

namespace K04
open PySem PySem.Spec PyProof.Rows L2 Vf LamX
section
variable {hh : Heap} {P : Program} {w : World} {K : PySem.W.Frag} {mg : Str → Option Value} {base : Heap}
/-! ### what is heard -/
/-- the answer told: a new list of one -/
def ToldL (Q : VK) (H : Hp) (v : V) : Prop := ∀ H' t, Same H H' → H t = none → H' t = some (.lst [v]) → Q (.ref t) H'
theorem ToldL.same {Q : VK} {H H1 : Hp} {v : V} (h : ToldL Q H v) (s : Same H H1) : ToldL Q H1 v := fun H' t s2 n e => h H' t (s.trans s2) (s.free n) e
def EH (K : PySem.W.Frag) (Q : VK) : XK := fun cls d H => ∃ (dd : Addr) (v : V), cls = .ref (He.ga K "NoSide") ∧ d = some dd ∧ H dd = some (.xd [("value", v)]) ∧ ToldL Q H v
theorem eh_side {Q : VK} {H : Hp} {v : V} (h : ToldL Q H v) : Rz (EH K Q) (He.ga K "NoSide") [("value", v)] H := fun H' d s _ e => ⟨d, v, rfl, rfl, e, h.same s⟩
/-- the def that hears; here something is raised always -/
def TTh (K : PySem.W.Frag) : (XK → Hp → VK → Prop) → Hp → VK → Prop := fun tl H Q => ∀ t0, H t0 = none → ∀ N : VK, tl (EH K Q) (upd H t0 (.lst [])) N
theorem kit2 {t a b : Value} (h1 : PySem.W.kitOne K t a = some false) (h2 : PySem.W.kitOne K t b = some false) : PySem.W.kitAny K t [a, b] = some false :=
  kitAny_cons h1 (fun _ => kitAny_cons h2 (fun _ => kitAny_nil) fun e => by cases e) fun e => by cases e
theorem takes_len {X : Cx} {W : WX} (tk : Takes X W) : Takes X (fun cls d σ H => σ.length = X.N.length → W cls d σ H) := fun u s' x => by
  obtain ⟨a, B, sI, pins, σ, H, cls, d, h1, I, h2, h3, h4, h5, h6, h7, h8⟩ := x
  exact tk u s' ⟨a, B, sI, pins, σ, H, cls, d, h1, I, h2, h3, h4, h5, h6, h7, h8 I.len⟩
theorem sc_law_heard : FnScope ["_law_ask", "_law_found", "error"] ["_law_ask"] (defScope s_law_heard) := ⟨rfl, rfl, rfl, by decide +kernel, rfl, by decide +kernel, by decide +kernel⟩
theorem heard_gives {X : Cx} {g : Addr} {cdg : Value} {qA : Str} (hK : K = X.K) (hmg : mg = X.mg) (Tx : Txt K mg) : GivesTo X ["_law_ask", "_law_found", "error"] "_law_heard" (defScope s_law_heard) g cdg (defBody s_law_heard) "_law_ask" qA (TTh K) := by
  obtain ⟨prog0, w0, K0, mg0, base0, A0, N0, s00, H00, env0, outer0, stack0, ex0, fn0, calm0, pn0, xe0⟩ := X
  have hK' : K = K0 := hK
  have hmg' : mg = mg0 := hmg
  subst hK' hmg'
  intro fA cA s H Q tl act hc h
  refine ⟨_, (pss_cons (ps_set (i := 1) sc_law_heard.nd rfl (Or.inl rfl) (pe_lst pa_nil))
        (pss_cons (ps_try_as (i := 2) (c := .ref (He.ga K "SewError")) (tb := fun W D σ H => ∃ Ech : XK, (∀ cls d σ' H', σ'.length = 3 → Ech cls d H' → W cls d σ' H') ∧ σ[0]? = some (some (.ref fA)) ∧ H cA = some (CodeO cA qA) ∧ tl Ech H fun _ H' => D.nx σ H') rfl rfl sc_law_heard.nd rfl rfl ⟨rfl, by decide, .inl Tx.g_SewError⟩ takes_no (fun W pn xe tk _ => by
        refine pss_one ⟨fun pins s' σ H' D I h' => ?_⟩
        obtain ⟨Ech, hW, h1, h2, h3⟩ := h'
        exact (ps_expr (act _ pn xe Ech _ _ (takes_len tk) fun cls d σ' H' e hl => hW cls d σ' H' hl e)).run pins s' σ H' D I ⟨h1, h2, h3⟩) (fun a oe cls d pn hz hf => (pss_cons (ps_set (i := 1) sc_law_heard.nd rfl (Or.inl rfl) pe_non)
        (pss_one (ps_if (PW.pt (pw_and (pt_val (pe_callB (call_isZ hz hf) (by rfl) Tx.n_isinstance (by decide +kernel) (pa_cons (pv 2) (pa_cons (pe_glob (v := .ref (He.ga K "NoSide")) (by rfl) Tx.g_NoSide rfl) pa_nil)))) (pw_and (pt_val (pe_callB (call_isZ hz hf) (by rfl) Tx.n_isinstance (by decide +kernel) (pa_cons (pv 2) (pa_cons (pe_glob (v := .ref (He.ga K "Missing")) (by rfl) Tx.g_Missing rfl) pa_nil)))) (pw_and1 (pt_not (pt_val (pe_callB (call_isZT hz hf) (by rfl) Tx.n_isinstance (by decide +kernel) (pa_cons (pv 2) (pa_cons (pe_tup (pa_cons (pe_glob (v := .ref (He.ga K "NoFace")) (by rfl) Tx.g_NoFace rfl) (pa_cons (pe_glob (v := .ref (He.ga K "BadSkin")) (by rfl) Tx.g_BadSkin rfl) pa_nil))) pa_nil))))))))) (pss_one (ps_set (i := 1) sc_law_heard.nd rfl (Or.inl rfl) (pe_lst (pa_cons (pe_xf Tx.er_NoSide.xf (Tx.er_NoSide.no "value" (by simp)) hz hf (pv 2) rfl) pa_nil)))) pss_nil)))))
        (pss_one (ps_ret (pv 1))))), ?_⟩
  refine ⟨Nat.zero_le _, fun t0 n0 => ⟨EH K Q, fun cls d σ' H' hl e => ?_, rfl, same_new n0 _ _ hc, ?_⟩⟩
  · obtain ⟨dd, v, rfl, rfl, hd, ht⟩ := e
    match σ', hl with
    | [x0, x1, x2], _ =>
      refine ⟨true, Tx.ex_NoSide, fun _ a na => ?_, fun z => Bool.noConfusion z⟩
      refine ⟨_, rfl, _, _, _, dd, _, true, rfl, .own _, rfl, rfl, hd, Tx.er_NoSide.exc, (Tx.ki_NoSide.own ("NoSide", true) (by simp)), _, rfl, iteT ?_⟩
      refine ⟨_, rfl, _, _, _, dd, _, true, rfl, .own _, rfl, rfl, hd, Tx.er_NoSide.exc, (Tx.ki_NoSide.own ("Missing", true) (by simp)), _, rfl, iteT ?_⟩
      refine ⟨_, rfl, le_line (n := 2) (by decide), fun t3 n3 => ?_⟩
      have s3 : Same H' _ := same_new (o := .tup [.ref (He.ga K "NoFace"), .ref (He.ga K "BadSkin")]) n3
      refine ⟨t3, _, _, _, dd, _, false, rfl, upd_same, .cons (.own _) (.cons (.own _) .nil), rfl, rfl, s3 _ _ hd, Tx.er_NoSide.exc, kit2 (Tx.ki_NoSide.own ("NoFace", false) (by simp)) (Tx.ki_NoSide.own ("BadSkin", false) (by simp)), _, rfl, iteT ?_⟩
      refine ⟨_, rfl, rfl, rfl, dd, _, v, rfl, s3 _ _ hd, rfl, le_line (n := 1) (by decide), fun t4 n4 => ?_⟩
      have s4 := s3.trans (same_new (o := .lst [v]) n4)
      exact ⟨_, rfl, ht _ t4 s4 (s3.free n4) upd_same⟩
  · exact h t0 n0 _

end
end K04

namespace K04
open PySem PySem.Spec PyProof.Rows L2 Vf LamX
section
variable {hh : Heap} {P : Program} {w : World} {K : PySem.W.Frag} {mg : Str → Option Value} {base : Heap}
/-! ### the mates by the skin and by the law -/
theorem srt_uniq : ∀ {l m : List (Int × Int)}, SrtO.Srtd SrtO.lexB l → SrtO.Srtd SrtO.lexB m → l.Perm m → l = m
  | [], _, _, _, p => p.nil_eq
  | x :: l, [], _, _, p => absurd p.length_eq (by simp)
  | x :: l, y :: m, hl, hm, p => by
    have hl' := List.pairwise_cons.mp hl
    have hm' := List.pairwise_cons.mp hm
    have e : x = y := by
      apply Classical.byContradiction
      intro ne
      have h1 : x ∈ m := by
        rcases List.mem_cons.mp (p.mem_iff.mp (List.mem_cons_self ..)) with h | h
        · exact absurd h ne
        · exact h
      have h2 : y ∈ l := by
        rcases List.mem_cons.mp (p.mem_iff.mpr (List.mem_cons_self ..)) with h | h
        · exact absurd h.symm ne
        · exact h
      have a := SrtO.lexB_no.mp (hl'.1 y h2)
      have b := SrtO.lexB_no.mp (hm'.1 x h1)
      obtain ⟨x1, x2⟩ := x
      obtain ⟨y1, y2⟩ := y
      simp only at a b
      exact ne (by rw [Prod.mk.injEq]; omega)
    subst e
    rw [srt_uniq hl'.2 hm'.2 (p.cons_inv)]
/-- the list of mates and the dict of mates tell alike -/
structure MtAg (N : Nat) (ms : List V) (kvs : List (Key × V)) : Prop where
  len : ms.length = N
  at_ : ∀ i, i < N → ms[i]? = some ((valV kvs (.inl (i : Int))).getD .non)
  int : ∀ k v, valV kvs k = some v → ∃ j : Int, v = .int j
theorem MtAg.put {N : Nat} {ms : List V} {kvs : List (Key × V)} (h : MtAg N ms kvs) {k : Nat} (hk : k < N) (j : Int) : MtAg N (ms.set k (.int j)) (putK kvs (.inl (k : Int)) (.int j)) := by
  refine ⟨by rw [List.length_set]; exact h.len, fun i hi => ?_, fun k' v e => ?_⟩
  · rw [valV_put]
    by_cases e : i = k
    · subst e
      rw [if_pos rfl, List.getElem?_set_self (by rw [h.len]; exact hi)]
      rfl
    · rw [if_neg (fun z => e (by injection z with z; exact Int.ofNat.inj z)), List.getElem?_set_ne (fun z => e z.symm)]
      exact h.at_ i hi
  · rw [valV_put] at e
    by_cases z : k' = .inl (k : Int)
    · rw [if_pos z] at e
      exact ⟨j, (Option.some.inj e).symm⟩
    · rw [if_neg z] at e
      exact h.int k' v e
theorem MtAg.step {N : Nat} {ms : List V} {kvs : List (Key × V)} {p : Int × Int} (h : MtAg N ms kvs) (hp : Pok N p) : MtAg N (msF ms p) (mtK kvs p) := by
  obtain ⟨a, b⟩ := p
  obtain ⟨a0, a1, b0, b1, _⟩ := hp
  obtain ⟨m, rfl⟩ := Int.eq_ofNat_of_zero_le a0
  obtain ⟨k, rfl⟩ := Int.eq_ofNat_of_zero_le b0
  have h1 := h.put (k := m) (by simpa using a1) (k : Int)
  exact h1.put (k := k) (by simpa using b1) (m : Int)
theorem mtAg {N : Nat} {ps : List (Int × Int)} (hok : ∀ p ∈ ps, Pok N p) : MtAg N (msL ps N) (mtD ps) := by
  unfold msL mtD
  suffices h : ∀ (ps : List (Int × Int)) (ms : List V) (kvs : List (Key × V)), (∀ p ∈ ps, Pok N p) → MtAg N ms kvs → MtAg N (ps.foldl msF ms) (ps.foldl mtK kvs) by
    refine h ps _ _ hok ⟨by simp, fun i hi => ?_, fun k v e => by simp [valV] at e⟩
    rw [List.getElem?_replicate, if_pos hi]
    rfl
  intro ps
  induction ps with
  | nil => exact fun _ _ _ h => h
  | cons p r ih => exact fun ms kvs hk h => ih _ _ (fun q hq => hk q (List.mem_cons_of_mem _ hq)) (h.step (hk p (List.mem_cons_self ..)))
theorem MtAg.free {N : Nat} {ms : List V} {kvs : List (Key × V)} (h : MtAg N ms kvs) {i : Nat} (hi : i < N) : freeB ms i = !(valV kvs (.inl (i : Int))).isSome := by
  unfold freeB
  rw [h.at_ i hi]
  cases e : valV kvs (.inl (i : Int)) with
  | none => rfl
  | some v =>
    obtain ⟨j, rfl⟩ := h.int _ _ e
    rfl
/-! ### tuples and lists of flat data -/
theorem shaped_tup {xs : List V} (h : ∀ v ∈ xs, flatS v = true) : SeqAt.shaped (.tuple (xs.map fdat)) = true := by
  unfold SeqAt.shaped
  have h1 := depthAll_flat xs
  have h2 : PyData.canLay0 (.tuple (xs.map fdat)) = true := by simp only [PyData.canLay0]; exact canLayAll_flat h
  rw [h2, Bool.true_and]
  refine decide_eq_true ?_
  simp only [PyData.depth]
  omega
theorem dp_tup {H : Hp} {a : Addr} {xs : List V} (h : H a = some (.tup xs)) (f : ∀ v ∈ xs, flatS v = true) : Dp K H (.ref a) (.tuple (xs.map fdat)) := .tup (SqT.of h) (dpAll_flat f)
theorem eqv_same {d : PyData} (h : SeqAt.shaped d = true) : PyData.eqv d d = true := SeqAt.eqv_refl d (SeqAt.canLay_of_shaped h)
theorem ne_tup {H : Hp} {a b : Addr} {xs : List V} {Q : VK} (ha : H a = some (.tup xs)) (hb : H b = some (.tup xs)) (f : ∀ v ∈ xs, flatS v = true) (q : Q (.bl false) H) : rNeD K (.ref a) (.ref b) H Q :=
  ⟨_, _, dp_tup ha f, dp_tup hb f, shaped_tup f, shaped_tup f, by rw [eqv_same (shaped_tup f)]; exact q⟩
theorem dp_lst {H : Hp} {a : Addr} {xs : List V} (h : H a = some (.lst xs)) (f : ∀ v ∈ xs, flatS v = true) : Dp K H (.ref a) (.list (xs.map fdat)) := .lst (SqL.of h) (dpAll_flat f)
theorem ne_lst {H : Hp} {a b : Addr} {xs : List V} {Q : VK} (ha : H a = some (.lst xs)) (hb : H b = some (.lst xs)) (f : ∀ v ∈ xs, flatS v = true) (q : Q (.bl false) H) : rNeD K (.ref a) (.ref b) H Q :=
  ⟨_, _, dp_lst ha f, dp_lst hb f, shaped_list f, shaped_list f, by rw [eqv_same (shaped_list f)]; exact q⟩
theorem flat_ints (is : List Int) : ∀ v ∈ is.map V.int, flatS v = true := fun v hv => by
  obtain ⟨i, _, rfl⟩ := List.mem_map.mp hv
  rfl
/-! ### the sides of a face -/
def rowI (t f : Int) : List Int := (List.range t.toNat).map fun s : Nat => f * t + (s : Int)
def addF (c : Int) : V → V
  | .int s => .int (c + s)
  | v => v
theorem row_map {t f : Int} : ((rgL t.toNat).filter fun _ => true).map (addF (f * t)) = (rowI t f).map V.int := by
  rw [List.filter_eq_self.mpr fun _ _ => rfl]
  unfold rgL rowI
  rw [List.map_map, List.map_map]
  refine List.map_congr_left fun s _ => ?_
  show V.int (f * t + (0 + (s : Int))) = V.int (f * t + (s : Int))
  rw [Int.zero_add]
theorem rowI_len {t f : Int} : (rowI t f).length = t.toNat := by unfold rowI; simp
theorem rowI_get {t f : Int} {j : Nat} {v : V} (h : ((rowI t f).map V.int)[j]? = some v) : ∃ s : Nat, s < t.toNat ∧ v = .int (f * t + (s : Int)) := by
  unfold rowI at h
  rw [List.map_map, List.getElem?_map] at h
  obtain ⟨s, hs, rfl⟩ := Option.map_eq_some_iff.mp h
  have hm := List.mem_of_getElem? hs
  exact ⟨s, List.mem_range.mp hm, rfl⟩
theorem face_of {t f s : Int} (ht : 0 < t) (h0 : 0 ≤ s) (h1 : s < t) : (f * t + s) / t = f := by
  rw [Int.add_comm, Int.add_mul_ediv_right _ _ (by omega), Int.ediv_eq_zero_of_lt h0 h1, Int.zero_add]
theorem rep_v (v : V) (n : Nat) : (List.replicate n [v]).flatten = List.replicate n v := by
  induction n with
  | zero => rfl
  | succ n ih => rw [List.replicate_succ, List.flatten_cons, ih, List.replicate_succ]; rfl
theorem tnL_at {N j : Nat} {t b : Int} {r : V} (h : (tnL N t b)[j]? = some r) : r = tnF t b (.int (j : Nat)) := by
  unfold tnL at h
  rw [List.getElem?_map] at h
  obtain ⟨k, hk, rfl⟩ := Option.map_eq_some_iff.mp h
  obtain ⟨hlt, e⟩ := List.getElem?_eq_some_iff.mp hk
  rw [List.getElem_range] at e
  subst e
  rfl
theorem row3 (f : Int) : rowI 3 f = [f * 3 + 0, f * 3 + 1, f * 3 + 2] := rfl
theorem row4 (f : Int) : rowI 4 f = [f * 4 + 0, f * 4 + 1, f * 4 + 2, f * 4 + 3] := rfl
theorem row_next {t f : Int} (ht : t = 4 ∨ t = 3) : ((rowI t f).map V.int).map (tnF t 1) = ((rowI t f).map V.int).drop 1 ++ ((rowI t f).map V.int).take 1 := by
  rcases ht with rfl | rfl
  · rw [row4]
    simp only [List.map_cons, List.map_nil, tnF, List.drop_succ_cons, List.drop_zero, List.take_succ_cons, List.take_zero, List.cons_append, List.nil_append]
    congr 1 <;> first | (congr 1; omega) | skip
    congr 1 <;> first | (congr 1; omega) | skip
    congr 1 <;> first | (congr 1; omega) | skip
    congr 1 <;> first | (congr 1; omega) | skip
  · rw [row3]
    simp only [List.map_cons, List.map_nil, tnF, List.drop_succ_cons, List.drop_zero, List.take_succ_cons, List.take_zero, List.cons_append, List.nil_append]
    congr 1 <;> first | (congr 1; omega) | skip
    congr 1 <;> first | (congr 1; omega) | skip
    congr 1 <;> first | (congr 1; omega) | skip
theorem row_back {t f : Int} (ht : t = 4 ∨ t = 3) : ((rowI t f).map V.int).map (tnF t (t - 1)) = ((rowI t f).map V.int).drop (t.toNat - 1) ++ ((rowI t f).map V.int).take (t.toNat - 1) := by
  rcases ht with rfl | rfl
  · rw [row4]
    show [V.int ((f * 4 + 0) / 4 * 4 + ((f * 4 + 0) + 3) % 4), .int ((f * 4 + 1) / 4 * 4 + ((f * 4 + 1) + 3) % 4), .int ((f * 4 + 2) / 4 * 4 + ((f * 4 + 2) + 3) % 4), .int ((f * 4 + 3) / 4 * 4 + ((f * 4 + 3) + 3) % 4)] = [V.int (f * 4 + 3), .int (f * 4 + 0), .int (f * 4 + 1), .int (f * 4 + 2)]
    rw [show (f * 4 + 0) / 4 * 4 + ((f * 4 + 0) + 3) % 4 = f * 4 + 3 by omega, show (f * 4 + 1) / 4 * 4 + ((f * 4 + 1) + 3) % 4 = f * 4 + 0 by omega, show (f * 4 + 2) / 4 * 4 + ((f * 4 + 2) + 3) % 4 = f * 4 + 1 by omega, show (f * 4 + 3) / 4 * 4 + ((f * 4 + 3) + 3) % 4 = f * 4 + 2 by omega]
  · rw [row3]
    show [V.int ((f * 3 + 0) / 3 * 3 + ((f * 3 + 0) + 2) % 3), .int ((f * 3 + 1) / 3 * 3 + ((f * 3 + 1) + 2) % 3), .int ((f * 3 + 2) / 3 * 3 + ((f * 3 + 2) + 2) % 3)] = [V.int (f * 3 + 2), .int (f * 3 + 0), .int (f * 3 + 1)]
    rw [show (f * 3 + 0) / 3 * 3 + ((f * 3 + 0) + 2) % 3 = f * 3 + 2 by omega, show (f * 3 + 1) / 3 * 3 + ((f * 3 + 1) + 2) % 3 = f * 3 + 0 by omega, show (f * 3 + 2) / 3 * 3 + ((f * 3 + 2) + 2) % 3 = f * 3 + 1 by omega]
theorem cut_next {t f : Int} (ht : t = 4 ∨ t = 3) : cutV ((rowI t f).map V.int) (some 1) none ++ cutV ((rowI t f).map V.int) none (some 1) = ((rowI t f).map V.int).drop 1 ++ ((rowI t f).map V.int).take 1 := by
  rcases ht with rfl | rfl
  · rw [row4]
    rfl
  · rw [row3]
    rfl
theorem cut_back {t f : Int} (ht : t = 4 ∨ t = 3) : cutV ((rowI t f).map V.int) (some (-1)) none ++ cutV ((rowI t f).map V.int) none (some (-1)) = ((rowI t f).map V.int).drop (t.toNat - 1) ++ ((rowI t f).map V.int).take (t.toNat - 1) := by
  rcases ht with rfl | rfl
  · rw [row4]
    rfl
  · rw [row3]
    rfl
theorem flat_tn {t b : Int} (is : List Int) : ∀ v ∈ (is.map V.int).map (tnF t b), flatS v = true := fun v hv => by
  obtain ⟨w, hw, rfl⟩ := List.mem_map.mp hv
  obtain ⟨m, _, rfl⟩ := List.mem_map.mp hw
  rfl

end
end K04

namespace K04
open PySem PySem.Spec PyProof.Rows L2 Vf LamX
section
variable {hh : Heap} {P : Program} {w : World} {K : PySem.W.Frag} {mg : Str → Option Value} {base : Heap}
theorem call_isiQ {X : Cx} (hK : X.K = K) : CallR X (.builtin "isinstance") (rIsi K) := by
  subst hK
  exact call_isi
def mtV (ms : List V) : V → V
  | .int k => (ms[k.toNat]?).getD .non
  | v => v
def sp_law_tells_right (K : PySem.W.Frag) : Sp := fun vs H Q _ => ∃ (x a : Addr) (z : Str) (n : Int) (ts : List Addr) (ps : List (Int × Int)), vs = [.ref x, .str z, .int n, .ref a] ∧ SkinAt K H x z n ps ∧ isGrid (.str z) = true ∧ 1 ≤ n ∧ n ≤ 24 ∧ H a = some (.lst (ts.map V.ref)) ∧ Seams H ts ps ∧ (∀ p ∈ ps, Pok (n * turnOf z) p) ∧ ps.length ≤ 100 ∧ tw (flat2 ps) = none ∧ ∀ H', Same H H' → Q (.bl true) H'
theorem sc_law_tells_right : FnScope ["_law_skin", "_law_kind", "_law_faces", "_law_pairs_here", "_law_turn", "_law_mates_here", "_law_seams", "_law_free", "_law_face", "_law_row", "_law_one", "_law_other", "_law_side", "_law_spot"] ["_law_skin", "_law_kind", "_law_faces", "_law_pairs_here"] (defScope s_law_tells_right) := ⟨rfl, rfl, rfl, by decide +kernel, rfl, by decide +kernel, by decide +kernel⟩
theorem ok_law_tells_right {f : Addr} {fd : FuncData} (F : FunD K "_law_tells_right" "_law_tells_right" (defArgs s_law_tells_right) (defBody s_law_tells_right) (defScope s_law_tells_right) [] [] f fd) (Tx : Txt K mg) (h_law_mates : Has P w K mg base "_law_mates" 1 ["_law_pairs_here"] (sp_law_mates K)) (h_Skin_face : HasM P w K mg base (L2.CX P w) "Skin" "face" 4 ["self", "side"] (sp_Skin_face K)) (h_Skin_next : HasM P w K mg base (L2.CX P w) "Skin" "next" 4 ["self", "side"] (sp_Skin_next K)) (h_Skin_back : HasM P w K mg base (L2.CX P w) "Skin" "back" 4 ["self", "side"] (sp_Skin_back K)) (h_Skin_mate : HasM P w K mg base (L2.CX P w) "Skin" "mate" 4 ["self", "side"] (sp_Skin_mate K))   : FnOk P w K mg base CX0 5 f fd ["_law_skin", "_law_kind", "_law_faces", "_law_pairs_here"] (sp_law_tells_right K) := by
  obtain ⟨f_law_mates, fd_law_mates, G_law_mates, g_law_mates, k_law_mates, b_law_mates⟩ := h_law_mates
  obtain ⟨fd_Skin_face, G_Skin_face, b_Skin_face⟩ := h_Skin_face
  obtain ⟨fd_Skin_next, G_Skin_next, b_Skin_next⟩ := h_Skin_next
  obtain ⟨fd_Skin_back, G_Skin_back, b_Skin_back⟩ := h_Skin_back
  obtain ⟨fd_Skin_mate, G_Skin_mate, b_Skin_mate⟩ := h_Skin_mate
  refine FunD.ok F sc_law_tells_right (fun vs H Q E h => ?_) (fun cdv A outer s H vs Q E hr h => ?_)
  · obtain ⟨x, a, z, n, ts, ps, rfl, _⟩ := h
    rfl
  · obtain ⟨x, a, z, n, ts, ps, rfl, hx, hg, n1, n24, ha, hs, hok, hl, htw, q⟩ := h
    refine ⟨_, PSs.nox (C8.pss_cut (ps_set (i := 4) sc_law_tells_right.nd rfl (Or.inr rfl) (pe_ifExp (pt_cmpR op_eq (pv 1) pe_str (nomark _)) pe_int pe_int))
        (C8.pss_cut (ps_set (i := 5) sc_law_tells_right.nd rfl (Or.inr rfl) (pe_call G_law_mates (hr.mono (by decide)) (by rfl) g_law_mates k_law_mates b_law_mates .nil pass0 (pa_cons (pv 3) pa_nil)))
        (C8.pss_cut (ps_set (i := 6) sc_law_tells_right.nd rfl (Or.inl rfl) (pe_callB cr_sortedPO (by rfl) Tx.n_sorted (by decide +kernel) (pa_cons (pe_lc (own := [("_law_one", 10), ("_law_other", 11)]) (g := _) (tt := tYes) rfl sc_law_tells_right.nd (pi_list (pv 3)) (blkOk_by (own := [("_law_one", 10), ("_law_other", 11)]) (N := ["_law_skin", "_law_kind", "_law_faces", "_law_pairs_here", "_law_turn", "_law_mates_here", "_law_seams", "_law_free", "_law_face", "_law_row", "_law_one", "_law_other", "_law_side", "_law_spot"]) (sc := defScope s_law_tells_right) (by decide +kernel)) (fun _ _ _ _ _ => (pg_tupK (K := K) (n := 2) rfl rfl (pgs_cons (pg_name (i := 10) sc_law_tells_right.nd rfl (Or.inl rfl)) (pgs_cons (pg_name (i := 11) sc_law_tells_right.nd rfl (Or.inl rfl)) pgs_nil)))) (fun _ _ _ _ _ => pts_nil) (fun _ _ _ _ _ => (pe_ifExp (pt_cmpR op_lt (pv 10) (pv 11) (nomark _)) (pe_tup (pa_cons (pv 10) (pa_cons (pv 11) pa_nil))) (pe_tup (pa_cons (pv 11) (pa_cons (pv 10) pa_nil)))))) pa_nil)))
        (C8.pss_cut (ps_setLc (i := 7) (own := [("_law_side", 12)]) (g := gName 12) rfl sc_law_tells_right.nd rfl rfl (sw_true rfl rfl rfl (by decide +kernel)) (pi_range1 (by rfl) Tx.n_range (pa_cons (pe_op op_mul (pv 2) (pv 4)) pa_nil)) (blkOk_by (own := [("_law_side", 12)]) (N := ["_law_skin", "_law_kind", "_law_faces", "_law_pairs_here", "_law_turn", "_law_mates_here", "_law_seams", "_law_free", "_law_face", "_law_row", "_law_one", "_law_other", "_law_side", "_law_spot"]) (sc := defScope s_law_tells_right) (by decide +kernel)) (fun _ _ _ _ _ => (pg_name (i := 12) sc_law_tells_right.nd rfl (Or.inl rfl))) (fun _ _ _ _ _ => (pts_one (pt_cmp (pc_dnotin (un1 hr.units) (pv 12) (pv 5))))) (fun _ _ _ _ _ => (pv 12)))
        (C8.pss_cut (ps_if (PW.pt (pw_or (pt_cmpR op_ne (pe_fld (pv 0) rfl) (pv 1) (nomark _)) (pw_or (pt_cmpR op_ne (pe_fld (pv 0) rfl) (pv 2) (nomark _)) (pw_or (pt_cmpR (op_neD hr.units) (pe_fld (pv 0) rfl) (pe_callTy call_tuple_of (by rfl) Tx.n_tuple (by decide +kernel) (pa_cons (pv 6) pa_nil)) (nomark _)) (pw_or1 (pt_cmpR (op_neD hr.units) (pe_fld (pv 0) rfl) (pe_callTy call_tuple_of (by rfl) Tx.n_tuple (by decide +kernel) (pa_cons (pv 7) pa_nil)) (nomark _))))))) (pss_one (ps_ret pe_bl)) pss_nil)
        (C8.pss_cut (ps_if (pt_cmpR (op_neD hr.units) (pe_lst (pa_cons (pe_fld (pv 0) rfl) (pa_cons (pe_fld (pv 0) rfl) (pa_cons (pe_fld (pv 0) rfl) pa_nil)))) (pe_lst (pa_cons (pv 4) (pa_cons (pe_ifExp (pt_cmpR op_eq (pv 4) pe_int (nomark _)) pe_int pe_int) (pa_cons (pe_op op_mul (pv 2) (pv 4)) pa_nil)))) (nomark _)) (pss_one (ps_ret pe_bl)) pss_nil)
        (C8.pss_cut (ps_if (pt_cmpR (op_neD hr.units) (pe_lc (own := [("_law_one", 10)]) (g := gName 10) rfl sc_law_tells_right.nd (pi_tup (pe_tup (pa_cons (pe_fld (pv 0) rfl) (pa_cons (pe_fld (pv 0) rfl) (pa_cons (pe_fld (pv 0) rfl) (pa_cons (pe_fld (pv 0) rfl) pa_nil)))))) (blkOk_by (own := [("_law_one", 10)]) (N := ["_law_skin", "_law_kind", "_law_faces", "_law_pairs_here", "_law_turn", "_law_mates_here", "_law_seams", "_law_free", "_law_face", "_law_row", "_law_one", "_law_other", "_law_side", "_law_spot"]) (sc := defScope s_law_tells_right) (by decide +kernel)) (fun _ _ _ _ _ => (pg_name (i := 10) sc_law_tells_right.nd rfl (Or.inl rfl))) (fun _ _ _ _ _ => (pts_one (PW.pt (pw_or (pt_not (pt_val (pe_callB (call_isiQ (K := K) rfl) (by rfl) Tx.n_isinstance (by decide +kernel) (pa_cons (pv 10) (pa_cons (pe_bltn (v := .ty "int") (by rfl) Tx.n_int (by decide +kernel) rfl) pa_nil))))) (pw_or1 (pt_val (pe_callB (call_isiQ (K := K) rfl) (by rfl) Tx.n_isinstance (by decide +kernel) (pa_cons (pv 10) (pa_cons (pe_bltn (v := .ty "bool") (by rfl) Tx.n_bool (by decide +kernel) rfl) pa_nil))))))))) (fun _ _ _ _ _ => (pv 10))) (pe_lst pa_nil) (nomark _)) (pss_one (ps_ret pe_bl)) pss_nil)
        (pss_cons (ps_for PassesOwn.never rfl (pi_range1 (by rfl) Tx.n_range (pa_cons (pv 2) pa_nil)) (pg_name (i := 8) sc_law_tells_right.nd rfl (Or.inr rfl)) (pss_cons (ps_setLc (i := 9) (own := [("_law_spot", 13)]) (g := gName 13) (tt := tYes) rfl sc_law_tells_right.nd rfl rfl (sw_true rfl rfl rfl (by decide +kernel)) (pi_range1 (by rfl) Tx.n_range (pa_cons (pv 4) pa_nil)) (blkOk_by (own := [("_law_spot", 13)]) (N := ["_law_skin", "_law_kind", "_law_faces", "_law_pairs_here", "_law_turn", "_law_mates_here", "_law_seams", "_law_free", "_law_face", "_law_row", "_law_one", "_law_other", "_law_side", "_law_spot"]) (sc := defScope s_law_tells_right) (by decide +kernel)) (fun _ _ _ _ _ => (pg_name (i := 13) sc_law_tells_right.nd rfl (Or.inl rfl))) (fun _ _ _ _ _ => pts_nil) (fun _ _ _ _ _ => (pe_op op_add (pe_op op_mul (pv 8) (pv 4)) (pv 13))))
        (pss_cons (ps_if (PW.pt (pw_or (pt_cmpR (op_neD hr.units) (pe_lc (own := [("_law_side", 12)]) (g := gName 12) (tt := tYes) rfl sc_law_tells_right.nd (pi_list (pv 9)) (blkOk_by (own := [("_law_side", 12)]) (N := ["_law_skin", "_law_kind", "_law_faces", "_law_pairs_here", "_law_turn", "_law_mates_here", "_law_seams", "_law_free", "_law_face", "_law_row", "_law_one", "_law_other", "_law_side", "_law_spot"]) (sc := defScope s_law_tells_right) (by decide +kernel)) (fun _ _ _ _ _ => (pg_name (i := 12) sc_law_tells_right.nd rfl (Or.inl rfl))) (fun _ _ _ _ _ => pts_nil) (fun _ _ _ _ _ => (pe_meth (pv 0) Tx.cl_Skin Tx.me_Skin_face G_Skin_face (hr.mono (by decide)) b_Skin_face .nil passN (pa_cons (pv 12) pa_nil)))) (pe_op op_rep (pe_lst (pa_cons (pv 8) pa_nil)) (pv 4)) (nomark _)) (pw_or1 (pt_cmpR (op_neD hr.units) (pe_lc (own := [("_law_side", 12)]) (g := gName 12) (tt := tYes) rfl sc_law_tells_right.nd (pi_list (pv 9)) (blkOk_by (own := [("_law_side", 12)]) (N := ["_law_skin", "_law_kind", "_law_faces", "_law_pairs_here", "_law_turn", "_law_mates_here", "_law_seams", "_law_free", "_law_face", "_law_row", "_law_one", "_law_other", "_law_side", "_law_spot"]) (sc := defScope s_law_tells_right) (by decide +kernel)) (fun _ _ _ _ _ => (pg_name (i := 12) sc_law_tells_right.nd rfl (Or.inl rfl))) (fun _ _ _ _ _ => pts_nil) (fun _ _ _ _ _ => (pe_meth (pv 0) Tx.cl_Skin Tx.me_Skin_next G_Skin_next (hr.mono (by decide)) b_Skin_next .nil passN (pa_cons (pv 12) pa_nil)))) (pe_op op_cat (pe_slice sl_list (pv 9) (po_some pe_int) po_none) (pe_slice sl_list (pv 9) po_none (po_some pe_int))) (nomark _))))) (pss_one (ps_ret pe_bl)) pss_nil)
        (pss_one (ps_if (PW.pt (pw_or (pt_cmpR (op_neD hr.units) (pe_lc (own := [("_law_side", 12)]) (g := gName 12) (tt := tYes) rfl sc_law_tells_right.nd (pi_list (pv 9)) (blkOk_by (own := [("_law_side", 12)]) (N := ["_law_skin", "_law_kind", "_law_faces", "_law_pairs_here", "_law_turn", "_law_mates_here", "_law_seams", "_law_free", "_law_face", "_law_row", "_law_one", "_law_other", "_law_side", "_law_spot"]) (sc := defScope s_law_tells_right) (by decide +kernel)) (fun _ _ _ _ _ => (pg_name (i := 12) sc_law_tells_right.nd rfl (Or.inl rfl))) (fun _ _ _ _ _ => pts_nil) (fun _ _ _ _ _ => (pe_meth (pv 0) Tx.cl_Skin Tx.me_Skin_back G_Skin_back (hr.mono (by decide)) b_Skin_back .nil passN (pa_cons (pv 12) pa_nil)))) (pe_op op_cat (pe_slice sl_list (pv 9) (po_some (pe_un un_neg pe_int)) po_none) (pe_slice sl_list (pv 9) po_none (po_some (pe_un un_neg pe_int)))) (nomark _)) (pw_or1 (pt_cmpR (op_neD hr.units) (pe_lc (own := [("_law_side", 12)]) (g := gName 12) (tt := tYes) rfl sc_law_tells_right.nd (pi_list (pv 9)) (blkOk_by (own := [("_law_side", 12)]) (N := ["_law_skin", "_law_kind", "_law_faces", "_law_pairs_here", "_law_turn", "_law_mates_here", "_law_seams", "_law_free", "_law_face", "_law_row", "_law_one", "_law_other", "_law_side", "_law_spot"]) (sc := defScope s_law_tells_right) (by decide +kernel)) (fun _ _ _ _ _ => (pg_name (i := 12) sc_law_tells_right.nd rfl (Or.inl rfl))) (fun _ _ _ _ _ => pts_nil) (fun _ _ _ _ _ => (pe_meth (pv 0) Tx.cl_Skin Tx.me_Skin_mate G_Skin_mate (hr.mono (by decide)) b_Skin_mate .nil passN (pa_cons (pv 12) pa_nil)))) (pe_lc (own := [("_law_side", 12)]) (g := gName 12) (tt := tYes) rfl sc_law_tells_right.nd (pi_list (pv 9)) (blkOk_by (own := [("_law_side", 12)]) (N := ["_law_skin", "_law_kind", "_law_faces", "_law_pairs_here", "_law_turn", "_law_mates_here", "_law_seams", "_law_free", "_law_face", "_law_row", "_law_one", "_law_other", "_law_side", "_law_spot"]) (sc := defScope s_law_tells_right) (by decide +kernel)) (fun _ _ _ _ _ => (pg_name (i := 12) sc_law_tells_right.nd rfl (Or.inl rfl))) (fun _ _ _ _ _ => pts_nil) (fun _ _ _ _ _ => (pe_dget1 (un1 hr.units) (pv 5) (pv 12) ⟨rfl, rfl, rfl, rfl⟩))) (nomark _))))) (pss_one (ps_ret pe_bl)) pss_nil)))))
        (pss_one (ps_ret pe_bl)))))))))), ?_⟩
    obtain ⟨dx, st, mt, ft, us, qs, hx⟩ := hx
    have tz := turn_in z
    have hN0 : 0 ≤ n * turnOf z := by rcases tz with e | e <;> rw [e] <;> omega
    have hN1 : n * turnOf z ≤ 96 := by rcases tz with e | e <;> rw [e] <;> omega
    obtain ⟨N, hN⟩ := Int.eq_ofNat_of_zero_le hN0
    have ag : MtAg N (msL ps N) (mtD ps) := mtAg (by rw [← hN]; exact hok)
    -- the sides of a face
    refine ⟨fun σ H' => σ = [some (.ref x), some (.str z), some (.int n), some (.ref a), some (.int (turnOf z)), none, none, none, none, none, none, none, none, none] ∧ H' = H, ?_, ?_⟩
    · refine ⟨_, rfl, rfl, _, rfl, ite2 (fun e => ?_) (fun e => ?_)⟩
      · have ez : z = "square" := by injection (of_decide_eq_true e)
        have et : turnOf z = 4 := by unfold turnOf; rw [if_pos ez]
        exact ⟨by rw [et] <;> rfl, rfl⟩
      · have et : turnOf z = 3 := by unfold turnOf; rw [if_neg (fun ez => e (decide_eq_true (by rw [ez])))]
        exact ⟨by rw [et] <;> rfl, rfl⟩
    rintro σ H1 ⟨rfl, rfl⟩
    -- the mates
    refine ⟨fun σ H' => ∃ md : Addr, σ = [some (.ref x), some (.str z), some (.int n), some (.ref a), some (.int (turnOf z)), some (.ref md), none, none, none, none, none, none, none, none] ∧ Same H1 H' ∧ H' md = some (.dK (mtD ps)), ?_, ?_⟩
    · exact ⟨_, rfl, a, ts, ps, rfl, ha, hs.b, by omega, fun H2 r s2 nr hr => ⟨r, rfl, s2, hr⟩⟩
    rintro σ H2 ⟨md, rfl, s2, hmd⟩
    -- the seams
    refine ⟨fun σ H' => ∃ (sm : Addr) (vs : List Addr), σ = [some (.ref x), some (.str z), some (.int n), some (.ref a), some (.int (turnOf z)), some (.ref md), some (.ref sm), none, none, none, none, none, none, none] ∧ Same H2 H' ∧ H' sm = some (.lst (vs.map V.ref)) ∧ Seams H' vs qs, ?_, ?_⟩
    · have hs2 := hs.same s2
      have ha2 := s2 _ _ ha
      refine ⟨_, rfl, a, rfl, ⟨_, SqL.of ha2⟩, fun D nD => ?_⟩
      refine lc_it (walk_list (K := K) (a := a) (xs := ts.map V.ref)) (fun i H' => ∃ us : List Addr, Same H2 H' ∧ H' D = some (.lst (us.map V.ref)) ∧ Seams H' us ((ps.take i).map srt)) ⟨[], same_new nD, upd_same, ⟨rfl, fun i t p h => by simp at h⟩⟩ (fun i H' _ p => by obtain ⟨_, s8, _⟩ := p; exact SqL.of (s8 _ _ ha2)) (fun i v H' H'' hi p y => ?_) (fun H' p => ?_)
      · obtain ⟨us, s8, hD, hus⟩ := p
        obtain ⟨rfl, hv⟩ := y
        obtain ⟨t, p, rfl, htt, hp, htup⟩ := hs2.get hv
        obtain ⟨_, _, _, _, pne⟩ := hok p (List.mem_of_getElem? hp)
        have ep : (ps.take (i + 1)).map srt = (ps.take i).map srt ++ [srt p] := by
          rw [List.take_add_one, hp, Option.toList_some, List.map_append]
          rfl
        have len : (us.map V.ref).length < sizeLine := by
          rw [List.length_map, hus.len, List.length_map, List.length_take]
          exact small_line (by omega)
        have fin : ∀ (T : Addr) (q : Int × Int), q = srt p → H'' T = none → ∃ acc, upd H'' T (.tup [.int q.1, .int q.2]) D = some (.lst acc) ∧ acc.length < sizeLine ∧ ∃ us, Same H2 (upd (upd H'' T (.tup [.int q.1, .int q.2])) D (.lst (acc ++ [V.ref T]))) ∧
            upd (upd H'' T (.tup [.int q.1, .int q.2])) D (.lst (acc ++ [V.ref T])) D = some (.lst (us.map V.ref)) ∧ Seams (upd (upd H'' T (.tup [.int q.1, .int q.2])) D (.lst (acc ++ [V.ref T]))) us ((ps.take (i + 1)).map srt) := by
          intro T q eq nT
          have sT : Same H'' (upd H'' T (.tup [.int q.1, .int q.2])) := same_new nT
          refine ⟨_, sT _ _ hD, len, us ++ [T], Same.mut (s8.trans sT) nD, by rw [upd_same, List.map_append] <;> rfl, ?_⟩
          rw [ep, ← eq]
          exact hus.push (p := q) (ys := us.map V.ref ++ [V.ref T]) nT hD
        refine ⟨t, _, rfl, SqT.of (s8 _ _ htup), rfl, _, _, rfl, _, _, rfl, rfl, ?_⟩
        refine ⟨rfl, _, rfl, _, rfl, _, _, rfl, rfl, _, rfl, ite2 (fun e => ?_) (fun e => ?_)⟩
        · have lt : p.1 < p.2 := of_decide_eq_true e
          refine ⟨_, rfl, _, rfl, le_line (n := 2) (by decide), fun T nT => ?_⟩
          exact fin T (p.1, p.2) (by unfold srt; rw [if_neg (by omega), if_pos lt]) nT
        · have lt : ¬ p.1 < p.2 := fun h => e (decide_eq_true h)
          refine ⟨_, rfl, _, rfl, le_line (n := 2) (by decide), fun T nT => ?_⟩
          exact fin T (p.2, p.1) (by unfold srt; rw [if_pos (by omega), if_neg lt]) nT
      · obtain ⟨us', s8, hD, hus⟩ := p
        have el : (ps.take (ts.map V.ref).length).map srt = ps.map srt := by rw [List.length_map, hs.len, List.take_length]
        rw [el] at hus
        refine ⟨D, _, pairOf H', rfl, SqL.of hD, fun v hv => ?_, fun ys p hsr hstb np => ?_⟩
        · obtain ⟨i, hi, e⟩ := List.mem_iff_getElem.mp hv
          obtain ⟨t, pr, rfl, _, _, htup⟩ := hus.get (by rw [List.getElem?_eq_getElem hi, e])
          exact ⟨t, rfl, by rw [pairOf_at htup]; exact htup⟩
        · obtain ⟨vs, rs, rfl, hvs, hq, eqs⟩ := perm_seams hus hstb.perm
          have hsq : SrtO.Srtd SrtO.lexB rs := by rw [eqs]; exact SrtO.srtd_map (lt := SrtO.lexB) hsr
          have er : rs = qs := srt_uniq hsq hx.srtd (hq.trans hx.perm.symm)
          subst er
          exact ⟨p, vs, rfl, s8.trans (same_new np), upd_same, hvs.same (same_new np)⟩
    rintro σ H3 ⟨sm, vs, rfl, s3, hsm, hvs⟩
    -- the free sides
    refine ⟨fun σ H' => ∃ fr : Addr, σ = [some (.ref x), some (.str z), some (.int n), some (.ref a), some (.int (turnOf z)), some (.ref md), some (.ref sm), some (.ref fr), none, none, none, none, none, none] ∧ Same H3 H' ∧ H' fr = some (.lst ((frL ps N).map V.int)), ?_, ?_⟩
    · have hNn : (n * turnOf z).toNat = N := by rw [hN]; rfl
      have hmd3 := s3 _ _ hmd
      refine ⟨_, rfl, _, rfl, _, _, rfl, rfl, .inr ⟨by omega, by omega⟩, _, rfl, by omega, by omega, fun D nD => ?_⟩
      refine lc_pure ((walk_range (lo := 0) (n := (n * turnOf z).toNat)).mono (Y' := fun i H x H' => H' = H ∧ (rgL N)[i]? = some x) (fun _ h => h) (fun i H x H' hi _ y => ⟨y.1, by rw [y.2]; exact rgL_at (by omega)⟩)) (rgL N) (by rw [rgL_len, hNn]) (by rw [rgL_len]; omega) (fun i H x H' y => ⟨same_of_eq y.1, y.2⟩) (fun x => x) (keepF (msL ps N)) nD (fun _ _ => True.intro) (fun i v H5 Q1 Q0 hi s5 q1 q0 => ?_) (fun H5 s5 hD => ?_)
      · refine ⟨rfl, ?_⟩
        obtain ⟨iN, rfl⟩ := rgL_get hi
        have ek : keepF (msL ps N) (.int (i : Nat)) = !(valV (mtD ps) (.inl (i : Int))).isSome := by
          show freeB (msL ps N) (Int.toNat (i : Int)) = _
          rw [Int.toNat_natCast]
          exact ag.free iN
        refine ⟨_, rfl, _, rfl, md, _, rfl, DGet.k (k := .inl (i : Int)) (s5 _ _ hmd3), _, rfl, ite2 (fun e => ?_) (fun e => ?_)⟩
        · exact ⟨_, rfl, q1 (ek.trans e) _ (Same.refl _)⟩
        · exact q0 (ek.trans (Bool.eq_false_iff.mpr e)) _ (Same.refl _)
      · rw [List.map_id', rgL_keep] at hD
        exact ⟨D, rfl, s5, hD⟩
    rintro σ H4 ⟨fr, rfl, s4, hfr⟩
    have hx4 := ((hx.same s2).same s3).same s4
    have hsm4 := s4 _ _ hsm
    have hvs4 := hvs.same s4
    -- the fields
    refine ⟨fun σ H' => σ = [some (.ref x), some (.str z), some (.int n), some (.ref a), some (.int (turnOf z)), some (.ref md), some (.ref sm), some (.ref fr), none, none, none, none, none, none] ∧ Same H4 H', ?_, ?_⟩
    · refine ⟨_, rfl, x, _, dx, _, _, rfl, hx4.ins, Tx.cl_Skin, Tx.no_Skin_kind, rfl, _, rfl, rfl, _, rfl, ite2 (fun e => ?_) (fun _ => ?_)⟩
      · simp at e
      refine ⟨_, rfl, x, _, dx, _, _, rfl, hx4.ins, Tx.cl_Skin, Tx.no_Skin_faces, rfl, _, rfl, rfl, _, rfl, ite2 (fun e => ?_) (fun _ => ?_)⟩
      · simp at e
      refine ⟨_, rfl, x, _, dx, _, _, rfl, hx4.ins, Tx.cl_Skin, Tx.no_Skin_seams, rfl, _, rfl, sm, _, rfl, .inl ⟨SqL.of hsm4, fun T nT => ?_⟩⟩
      have sT : Same H4 (upd H4 T (.tup (vs.map V.ref))) := same_new nT
      refine ⟨_, _, dp_seams (sT _ _ hx4.seams) (hx4.sts.same sT), dp_seams upd_same (hvs4.same sT), shaped_seams _, shaped_seams _, _, rfl, ite2 (fun e => ?_) (fun _ => ?_)⟩
      · rw [eqv_seams, decide_eq_true rfl] at e
        simp at e
      have hx5 := hx4.same sT
      refine ⟨_, rfl, x, _, dx, _, _, rfl, hx5.ins, Tx.cl_Skin, Tx.no_Skin_free, rfl, _, rfl, fr, _, rfl, .inl ⟨SqL.of (sT _ _ hfr), fun U nU => ?_⟩⟩
      have sU := same_new (o := .tup ((frL ps N).map V.int)) nU
      have hft := sU _ _ hx5.free
      rw [show (n * turnOf z).toNat = N by rw [hN]; rfl] at hft
      exact ne_tup hft upd_same (flat_ints _) ⟨_, rfl, iteF ⟨rfl, sT.trans sU⟩⟩
    rintro σ H5 ⟨rfl, s5⟩
    have hx5 := hx4.same s5
    -- the numbers
    refine ⟨fun σ H' => σ = [some (.ref x), some (.str z), some (.int n), some (.ref a), some (.int (turnOf z)), some (.ref md), some (.ref sm), some (.ref fr), none, none, none, none, none, none] ∧ Same H5 H', ?_, ?_⟩
    · refine ⟨_, rfl, x, _, dx, _, _, rfl, hx5.ins, Tx.cl_Skin, Tx.no_Skin_turn, rfl, _, rfl, x, _, dx, _, _, rfl, hx5.ins, Tx.cl_Skin, Tx.no_Skin_full, rfl, _, rfl, x, _, dx, _, _, rfl, hx5.ins, Tx.cl_Skin, Tx.no_Skin_sides, rfl, le_line (n := 3) (by decide), fun L nL => ?_⟩
      have sL : Same H5 _ := same_new (o := .lst [.int (turnOf z), .int (fullOf z), .int (n * turnOf z)]) nL
      have fin : ∀ fv : Int, fv = fullOf z → ∀ M, upd H5 L (.lst [.int (turnOf z), .int (fullOf z), .int (n * turnOf z)]) M = none → ∀ Q' : VK, Q' (.bl false) (upd (upd H5 L (.lst [.int (turnOf z), .int (fullOf z), .int (n * turnOf z)])) M (.lst [.int (turnOf z), .int fv, .int (n * turnOf z)])) →
          rNeD K (.ref L) (.ref M) (upd (upd H5 L (.lst [.int (turnOf z), .int (fullOf z), .int (n * turnOf z)])) M (.lst [.int (turnOf z), .int fv, .int (n * turnOf z)])) Q' := by
        rintro fv rfl M nM Q' hq
        exact ne_lst (same_new nM _ _ upd_same) upd_same (flat_ints [turnOf z, fullOf z, n * turnOf z]) hq
      refine ⟨_, rfl, _, rfl, rfl, _, rfl, ite2 (fun e => ?_) (fun e => ?_)⟩
      · have e4 : turnOf z = 4 := by injection (of_decide_eq_true e)
        have ef : (4 : Int) = fullOf z := by
          unfold turnOf at e4
          unfold fullOf
          by_cases h : z = "square"
          · rw [if_pos h]
          · rw [if_neg h] at e4
            cases e4
        exact ⟨_, rfl, _, rfl, _, _, rfl, rfl, .inr ⟨by omega, by omega⟩, le_line (n := 3) (by decide), fun M nM => fin 4 ef M nM _ ⟨_, rfl, iteF ⟨rfl, sL.trans (same_new nM)⟩⟩⟩
      · have e4 : turnOf z ≠ 4 := fun h => e (decide_eq_true (by rw [h]))
        have ef : (6 : Int) = fullOf z := by
          unfold turnOf at e4
          unfold fullOf
          by_cases h : z = "square"
          · rw [if_pos h] at e4
            exact absurd rfl e4
          · rw [if_neg h]
        exact ⟨_, rfl, _, rfl, _, _, rfl, rfl, .inr ⟨by omega, by omega⟩, le_line (n := 3) (by decide), fun M nM => fin 6 ef M nM _ ⟨_, rfl, iteF ⟨rfl, sL.trans (same_new nM)⟩⟩⟩
    rintro σ H6 ⟨rfl, s6⟩
    have hx6 := hx5.same s6
    -- integers all
    refine ⟨fun σ H' => σ = [some (.ref x), some (.str z), some (.int n), some (.ref a), some (.int (turnOf z)), some (.ref md), some (.ref sm), some (.ref fr), none, none, none, none, none, none] ∧ Same H6 H', ?_, ?_⟩
    · refine ⟨_, rfl, x, _, dx, _, _, rfl, hx6.ins, Tx.cl_Skin, Tx.no_Skin_faces, rfl, _, rfl, x, _, dx, _, _, rfl, hx6.ins, Tx.cl_Skin, Tx.no_Skin_turn, rfl, _, rfl, x, _, dx, _, _, rfl, hx6.ins, Tx.cl_Skin, Tx.no_Skin_full, rfl, _, rfl, x, _, dx, _, _, rfl, hx6.ins, Tx.cl_Skin, Tx.no_Skin_sides, rfl, le_line (n := 4) (by decide), fun T nT => ⟨T, rfl, ⟨_, SqT.of upd_same⟩, fun D nD => ?_⟩⟩
      have sT : Same H6 _ := same_new (o := .tup [.int n, .int (turnOf z), .int (fullOf z), .int (n * turnOf z)]) nT
      refine lc_pure (walk_tup (K := K) (a := T) (xs := [.int n, .int (turnOf z), .int (fullOf z), .int (n * turnOf z)])) [.int n, .int (turnOf z), .int (fullOf z), .int (n * turnOf z)] rfl (show 4 ≤ 100000 by decide) (fun i H x H' y => ⟨same_of_eq y.1, y.2⟩) (fun v => v) (fun _ => false) nD (fun H3 s3 => SqT.of (s3 _ _ upd_same)) (fun i v H7 Q1 Q0 hi s7 q1 q0 => ?_) (fun H7 s7 hD => ?_)
      · refine ⟨rfl, ?_⟩
        obtain ⟨m, rfl⟩ : ∃ m : Int, v = .int m := by
          match i, hi with
          | 0, h => exact ⟨_, (Option.some.inj h).symm⟩
          | 1, h => exact ⟨_, (Option.some.inj h).symm⟩
          | 2, h => exact ⟨_, (Option.some.inj h).symm⟩
          | 3, h => exact ⟨_, (Option.some.inj h).symm⟩
          | j + 4, h => simp at h
        have hk : KdV K H7 (.int m) .int := True.intro
        refine ⟨_, rfl, .int m, _, _, _, _, rfl, .ty "int", hk.ty, kd_is (by decide), _, rfl, ?_⟩
        rw [kd_int hk]
        refine iteF ?_
        refine ⟨_, rfl, .int m, _, _, _, _, rfl, .ty "bool", hk.ty, kd_is (by decide), _, rfl, ?_⟩
        rw [kd_bool hk]
        exact iteF (q0 rfl _ (Same.refl _))
      · have hD' : H7 D = some (.lst []) := by simpa using hD
        exact ⟨Nat.zero_le _, fun L nL => ne_lst (same_new nL _ _ hD') upd_same (fun v h => by cases h) ⟨_, rfl, iteF ⟨rfl, (sT.trans s7).trans (same_new nL)⟩⟩⟩
    rintro σ H7 ⟨rfl, s7⟩
    have hx7 := hx6.same s7
    have s17 := ((((s2.trans s3).trans s4).trans s5).trans s6).trans s7
    have hmd7 := (((((s3.trans s4).trans s5).trans s6).trans s7)) _ _ hmd
    -- face by face
    refine ⟨_, rfl, _, rfl, by omega, by omega, ?_⟩
    refine for_it (walk_range (lo := 0) (n := n.toNat)) (fun i σ H' => ∃ (x8 x9 : Option V), σ = [some (.ref x), some (.str z), some (.int n), some (.ref a), some (.int (turnOf z)), some (.ref md), some (.ref sm), some (.ref fr), x8, x9, none, none, none, none] ∧ Same H7 H') ⟨none, none, rfl, Same.refl _⟩ (fun _ _ _ _ _ => True.intro) (fun i v σ H' H8 hi p y => ?_) (fun σ H' p => ?_)
    · obtain ⟨x8, x9, rfl, s8⟩ := p
      obtain ⟨rfl, rfl⟩ := y
      have hi' : (i : Int) < n := by omega
      have hx8 := hx7.same s8
      have hmd8 := s8 _ _ hmd7
      refine ⟨_, rfl, _, rfl, by omega, by omega, fun D nD => ?_⟩
      obtain ⟨F, hF⟩ : ∃ F : Int, F = 0 + (i : Int) := ⟨_, rfl⟩
      have t0 : 0 < turnOf z := by omega
      have F0 : 0 ≤ F := by omega
      have F1 : F + 1 ≤ n := by omega
      have Fm : (F + 1) * turnOf z ≤ n * turnOf z := Int.mul_le_mul_of_nonneg_right F1 (by omega)
      have Fe : (F + 1) * turnOf z = F * turnOf z + turnOf z := by rw [Int.add_mul, Int.one_mul]
      have Fn : 0 ≤ F * turnOf z := Int.mul_nonneg F0 (by omega)
      refine lc_pure ((walk_range (lo := 0) (n := (turnOf z).toNat)).mono (Y' := fun i H x H' => H' = H ∧ (rgL (turnOf z).toNat)[i]? = some x) (fun _ h => h) (fun i H x H' hi _ y => ⟨y.1, by rw [y.2]; exact rgL_at hi⟩)) (rgL (turnOf z).toNat) (by rw [rgL_len]) (by rw [rgL_len]; omega) (fun i H x H' y => ⟨same_of_eq y.1, y.2⟩) (addF (F * turnOf z)) (fun _ => true) nD (fun _ _ => True.intro) (fun j v H9 Q1 Q0 hj s9 q1 q0 => ?_) (fun H9 s9 hD => ?_)
      · refine ⟨rfl, ?_⟩
        obtain ⟨jN, rfl⟩ := rgL_get hj
        rw [hF] at q1
        exact ⟨_, rfl, _, rfl, _, _, rfl, rfl, .inr ⟨by omega, by omega⟩, _, rfl, _, _, rfl, rfl, q1 rfl _ (Same.refl _)⟩
      rw [row_map] at hD
      have s79 := s8.trans s9
      have hx9 := hx8.same s9
      have hmd9 := s9 _ _ hmd8
      have rl : ((rowI (turnOf z) F).map V.int).length ≤ 100000 := by
        rw [List.length_map, rowI_len]
        omega
      -- faces
      refine ⟨_, rfl, D, rfl, ⟨_, SqL.of hD⟩, fun D1 n1 => ?_⟩
      refine lc_pure (walk_list (K := K) (a := D) (xs := (rowI (turnOf z) F).map V.int)) ((rowI (turnOf z) F).map V.int) rfl rl (fun i H x H' y => ⟨same_of_eq y.1, y.2⟩) (fun _ => V.int F) (fun _ => true) n1 (fun H3 s3 => SqL.of (s3 _ _ hD)) (fun j v H10 Q1 Q0 hj s10 q1 q0 => ?_) (fun H10 s10 hD1 => ?_)
      · refine ⟨rfl, ?_⟩
        obtain ⟨sN, s1, rfl⟩ := rowI_get hj
        have hxx := hx9.same s10
        refine ⟨_, rfl, x, dx, _, rfl, hxx.ins, rfl, _, rfl, x, z, n, ps, _, .int, rfl, ⟨dx, st, mt, ft, us, qs, hxx⟩, True.intro, fun i' e _ _ => ?_, fun e => ?_⟩
        · cases e
          rw [face_of t0 (by omega) (by omega)]
          exact q1 rfl _ (Same.refl _)
        · rw [inS_of (by omega) (by omega)] at e
          cases e
      have hf1 : (((rowI (turnOf z) F).map V.int).filter fun _ => true).map (fun _ => V.int F) = List.replicate (turnOf z).toNat (V.int F) := by
        rw [List.filter_eq_self.mpr fun _ _ => rfl, List.map_const', List.length_map, rowI_len]
      rw [hf1] at hD1
      refine ⟨_, rfl, le_line (n := 1) (by decide), fun l nl => ⟨_, rfl, l, turnOf z, _, rfl, rfl, upd_same, by omega, by omega, le_line (by show 1 * (turnOf z).toNat ≤ 100000; omega), fun m nm => ?_⟩⟩
      have nl' : H10 l = none := nl
      have sl : Same H10 _ := same_new (o := .lst [V.int (0 + (i : Int))]) nl'
      have sm' : Same H10 _ := sl.trans (same_new (o := .lst ((List.replicate (turnOf z).toNat [V.int (0 + (i : Int))]).flatten)) nm)
      refine ne_lst (xs := List.replicate (turnOf z).toNat (V.int F)) (sm' _ _ hD1) (by rw [upd_same, rep_v, hF]) (fun v hv => by rw [List.eq_of_mem_replicate hv]; rfl) ⟨_, rfl, iteF ?_⟩
      -- the next ones
      have s911 := s10.trans sm'
      have hD11 := s911 _ _ hD
      have hx11 := hx9.same s911
      refine ⟨_, rfl, D, rfl, ⟨_, SqL.of hD11⟩, fun D2 nD2 => ?_⟩
      refine lc_pure (walk_list (K := K) (a := D) (xs := (rowI (turnOf z) F).map V.int)) ((rowI (turnOf z) F).map V.int) rfl rl (fun i H x H' y => ⟨same_of_eq y.1, y.2⟩) (tnF (turnOf z) 1) (fun _ => true) nD2 (fun H3 s3 => SqL.of (s3 _ _ hD11)) (fun j v Hc Q1 Q0 hj sc q1 q0 => ?_) (fun HD2 sD2 hD2 => ?_)
      · refine ⟨rfl, ?_⟩
        obtain ⟨sN, s1, rfl⟩ := rowI_get hj
        have hxx := hx11.same sc
        refine ⟨_, rfl, x, dx, _, rfl, hxx.ins, rfl, _, rfl, x, z, n, ps, _, .int, rfl, ⟨dx, st, mt, ft, us, qs, hxx⟩, True.intro, fun i' r e i0 i1 hr => ?_, fun e => ?_⟩
        · cases e
          have hr' := tnL_at hr
          rw [show (((F * turnOf z + (sN : Int)).toNat : Nat) : Int) = F * turnOf z + (sN : Int) by omega] at hr'
          rw [hr']
          exact q1 rfl _ (Same.refl _)
        · rw [inS_of (by omega) (by omega)] at e
          cases e
      rw [List.filter_eq_self.mpr fun _ _ => rfl] at hD2
      have hDa := sD2 _ _ hD11
      refine ⟨_, rfl, _, rfl, D, _, rfl, SqL.of hDa, fun L1 nL1 => ?_⟩
      have sa := same_new (o := .lst (cutV ((rowI (turnOf z) F).map V.int) (some 1) none)) nL1
      refine ⟨_, rfl, _, rfl, D, _, rfl, SqL.of (sa _ _ hDa), fun L2 nL2 => ?_⟩
      have sb := same_new (o := .lst (cutV ((rowI (turnOf z) F).map V.int) none (some 1))) nL2
      refine ⟨L1, L2, _, _, rfl, rfl, sb _ _ upd_same, upd_same, ?_, fun M nM => ?_⟩
      · have h1 := cutV_length ((rowI (turnOf z) F).map V.int) (some 1) none
        have h2 := cutV_length ((rowI (turnOf z) F).map V.int) none (some 1)
        rw [List.length_map, rowI_len] at h1 h2
        exact le_line (by omega)
      have sc := same_new (o := .lst (cutV ((rowI (turnOf z) F).map V.int) (some 1) none ++ cutV ((rowI (turnOf z) F).map V.int) none (some 1))) nM
      refine ne_lst (sc _ _ (sb _ _ (sa _ _ hD2))) (by rw [upd_same, cut_next tz, row_next tz]) (flat_tn _) ⟨_, rfl, iteF ?_⟩
      have s9m := s911.trans (sD2.trans (sa.trans (sb.trans sc)))
      have hDm := s9m _ _ hD
      have hxm := hx9.same s9m
      have hmdm := s9m _ _ hmd9
      -- the ones behind
      refine ⟨_, rfl, D, rfl, ⟨_, SqL.of hDm⟩, fun D3 nD3 => ?_⟩
      refine lc_pure (walk_list (K := K) (a := D) (xs := (rowI (turnOf z) F).map V.int)) ((rowI (turnOf z) F).map V.int) rfl rl (fun i H x H' y => ⟨same_of_eq y.1, y.2⟩) (tnF (turnOf z) (turnOf z - 1)) (fun _ => true) nD3 (fun H3 s3 => SqL.of (s3 _ _ hDm)) (fun j v Hc Q1 Q0 hj sc q1 q0 => ?_) (fun HD3 sD3 hD3 => ?_)
      · refine ⟨rfl, ?_⟩
        obtain ⟨sN, s1, rfl⟩ := rowI_get hj
        have hxx := hxm.same sc
        refine ⟨_, rfl, x, dx, _, rfl, hxx.ins, rfl, _, rfl, x, z, n, ps, _, .int, rfl, ⟨dx, st, mt, ft, us, qs, hxx⟩, True.intro, fun i' r e i0 i1 hr => ?_, fun e => ?_⟩
        · cases e
          have hr' := tnL_at hr
          rw [show (((F * turnOf z + (sN : Int)).toNat : Nat) : Int) = F * turnOf z + (sN : Int) by omega] at hr'
          rw [hr']
          exact q1 rfl _ (Same.refl _)
        · rw [inS_of (by omega) (by omega)] at e
          cases e
      rw [List.filter_eq_self.mpr fun _ _ => rfl] at hD3
      have hDb := sD3 _ _ hDm
      refine ⟨_, rfl, _, rfl, _, rfl, D, _, rfl, SqL.of hDb, fun K1 nK1 => ?_⟩
      have ka := same_new (o := .lst (cutV ((rowI (turnOf z) F).map V.int) (some (-1)) none)) nK1
      refine ⟨_, rfl, _, rfl, _, rfl, D, _, rfl, SqL.of (ka _ _ hDb), fun K2 nK2 => ?_⟩
      have kb := same_new (o := .lst (cutV ((rowI (turnOf z) F).map V.int) none (some (-1)))) nK2
      refine ⟨K1, K2, _, _, rfl, rfl, kb _ _ upd_same, upd_same, ?_, fun M3 nM3 => ?_⟩
      · have h1 := cutV_length ((rowI (turnOf z) F).map V.int) (some (-1)) none
        have h2 := cutV_length ((rowI (turnOf z) F).map V.int) none (some (-1))
        rw [List.length_map, rowI_len] at h1 h2
        exact le_line (by omega)
      have kc := same_new (o := .lst (cutV ((rowI (turnOf z) F).map V.int) (some (-1)) none ++ cutV ((rowI (turnOf z) F).map V.int) none (some (-1)))) nM3
      refine ne_lst (kc _ _ (kb _ _ (ka _ _ hD3))) (by rw [upd_same, cut_back tz, row_back tz]) (flat_tn _) ⟨_, rfl, iteF ?_⟩
      have sem := s9m.trans (sD3.trans (ka.trans (kb.trans kc)))
      have hDe := sem _ _ hD
      have hxe := hx9.same sem
      have hmde := sem _ _ hmd9
      -- the mates
      refine ⟨_, rfl, D, rfl, ⟨_, SqL.of hDe⟩, fun D4 nD4 => ?_⟩
      refine lc_pure (walk_list (K := K) (a := D) (xs := (rowI (turnOf z) F).map V.int)) ((rowI (turnOf z) F).map V.int) rfl rl (fun i H x H' y => ⟨same_of_eq y.1, y.2⟩) (mtV (msL ps N)) (fun _ => true) nD4 (fun H3 s3 => SqL.of (s3 _ _ hDe)) (fun j v Hc Q1 Q0 hj sc q1 q0 => ?_) (fun HD4 sD4 hD4 => ?_)
      · refine ⟨rfl, ?_⟩
        obtain ⟨sN, s1, rfl⟩ := rowI_get hj
        have hxx := hxe.same sc
        refine ⟨_, rfl, x, dx, _, rfl, hxx.ins, rfl, _, rfl, x, z, n, ps, _, .int, rfl, ⟨dx, st, mt, ft, us, qs, hxx⟩, True.intro, fun i' r e i0 i1 hr => ?_, fun e => ?_⟩
        · cases e
          rw [show (n * turnOf z).toNat = N by omega] at hr
          have e1 : mtV (msL ps N) (.int (F * turnOf z + (sN : Int))) = r := by
            show ((msL ps N)[(F * turnOf z + (sN : Int)).toNat]?).getD .non = r
            rw [hr]
            rfl
          rw [← e1]
          exact q1 rfl _ (Same.refl _)
        · rw [inS_of (by omega) (by omega)] at e
          cases e
      have hDf := sD4 _ _ hDe
      refine ⟨_, rfl, D, rfl, ⟨_, SqL.of hDf⟩, fun D5 nD5 => ?_⟩
      refine lc_pure (walk_list (K := K) (a := D) (xs := (rowI (turnOf z) F).map V.int)) ((rowI (turnOf z) F).map V.int) rfl rl (fun i H x H' y => ⟨same_of_eq y.1, y.2⟩) (mtV (msL ps N)) (fun _ => true) nD5 (fun H3 s3 => SqL.of (s3 _ _ hDf)) (fun j v Hc Q1 Q0 hj sc q1 q0 => ?_) (fun HD5 sD5 hD5 => ?_)
      · refine ⟨rfl, ?_⟩
        obtain ⟨sN, s1, rfl⟩ := rowI_get hj
        have hmdc := (sD4.trans sc) _ _ hmde
        refine ⟨_, rfl, md, rfl, .inl ⟨_, .inl hmdc⟩, _, rfl, (valV (mtD ps) (.inl (F * turnOf z + (sN : Int)))), .inl ⟨_, .inl (F * turnOf z + (sN : Int)), .inl hmdc, rfl, rfl⟩, ?_⟩
        have hb := ag.at_ (F * turnOf z + (sN : Int)).toNat (by omega)
        rw [show (((F * turnOf z + (sN : Int)).toNat : Nat) : Int) = F * turnOf z + (sN : Int) by omega] at hb
        have e1 : mtV (msL ps N) (.int (F * turnOf z + (sN : Int))) = (valV (mtD ps) (.inl (F * turnOf z + (sN : Int)))).getD .non := by
          show ((msL ps N)[(F * turnOf z + (sN : Int)).toNat]?).getD .non = _
          rw [hb]
          rfl
        rw [← e1]
        exact q1 rfl _ (Same.refl _)
      rw [List.filter_eq_self.mpr fun _ _ => rfl] at hD5
      have hD4' := sD5 _ _ hD4
      rw [List.filter_eq_self.mpr fun _ _ => rfl] at hD4'
      refine ne_lst hD4' hD5 ?_ ⟨_, rfl, iteF ?_⟩
      · intro v hv
        obtain ⟨u, hu, rfl⟩ := List.mem_map.mp hv
        obtain ⟨k, hk, rfl⟩ := List.mem_map.mp hu
        show flatS (((msL ps N)[k.toNat]?).getD .non) = true
        by_cases hlt : k.toNat < N
        · rw [ag.at_ _ hlt]
          cases e : valV (mtD ps) (.inl ((k.toNat : Nat) : Int)) with
          | none => rfl
          | some w =>
            obtain ⟨j, rfl⟩ := ag.int _ _ e
            rfl
        · rw [List.getElem?_eq_none (by rw [ag.len]; omega)]
          rfl
      · exact ⟨_, _, rfl, s8.trans (s9.trans (sem.trans (sD4.trans sD5)))⟩
    · obtain ⟨x8, x9, rfl, s8⟩ := p
      exact q _ (s17.trans s8)
theorem has_law_tells_right (Tx : Txt K mg) (c : He.SaysX fa fn [] tf ex w hh K) (X : K.In hh) (GG : hh.Ns mainGlobals mg) (h_law_mates : Has P w K mg base "_law_mates" 1 ["_law_pairs_here"] (sp_law_mates K)) (h_Skin_face : HasM P w K mg base (L2.CX P w) "Skin" "face" 4 ["self", "side"] (sp_Skin_face K)) (h_Skin_next : HasM P w K mg base (L2.CX P w) "Skin" "next" 4 ["self", "side"] (sp_Skin_next K)) (h_Skin_back : HasM P w K mg base (L2.CX P w) "Skin" "back" 4 ["self", "side"] (sp_Skin_back K)) (h_Skin_mate : HasM P w K mg base (L2.CX P w) "Skin" "mate" 4 ["self", "side"] (sp_Skin_mate K))   : Has P w K mg base "_law_tells_right" 5 ["_law_skin", "_law_kind", "_law_faces", "_law_pairs_here"] (sp_law_tells_right K) := by
  obtain ⟨fd, F⟩ := c.t.d.def_ 43 (d := d_law_tells_right) rfl
  exact ⟨_, fd, ok_law_tells_right F Tx h_law_mates h_Skin_face h_Skin_next h_Skin_back h_Skin_mate, He.glo_ok X GG (c.t.d.fact 36 (f := .glo "_law_tells_right") rfl), F.kp, F.bindsN fun _ _ _ _ _ _ us hl => match us, hl with | [_, _, _, _], _ => rfl⟩

end
end K04

namespace K04
open PySem PySem.Spec PyProof.Rows L2 Vf LamX
section
variable {hh : Heap} {P : Program} {w : World} {K : PySem.W.Frag} {mg : Str → Option Value} {base : Heap}
/-! ### a skin's pairs in another order, or turned round -/
theorem twF_none : ∀ (l seen : List Int), twF seen l = none → l.Nodup ∧ ∀ x ∈ l, x ∉ seen
  | [], _, _ => ⟨List.nodup_nil, fun _ h => nomatch h⟩
  | x :: r, seen, h => by
    unfold twF at h
    by_cases m : x ∈ seen
    · rw [if_pos m] at h
      cases h
    · rw [if_neg m] at h
      obtain ⟨a, b⟩ := twF_none r _ h
      refine ⟨List.nodup_cons.mpr ⟨fun q => b x q (List.mem_cons_self ..), a⟩, fun y hy => ?_⟩
      rcases List.mem_cons.mp hy with e | hy
      · rw [e]
        exact m
      · exact fun q => b y hy (List.mem_cons_of_mem _ q)
theorem mem_flat2 {ps : List (Int × Int)} {p : Int × Int} (h : p ∈ ps) : p.1 ∈ flat2 ps ∧ p.2 ∈ flat2 ps :=
  ⟨List.mem_flatMap.mpr ⟨p, h, List.mem_cons_self ..⟩, List.mem_flatMap.mpr ⟨p, h, List.mem_cons_of_mem _ (List.mem_cons_self ..)⟩⟩
theorem apart2 : ∀ {ps : List (Int × Int)}, (flat2 ps).Nodup → ∀ x ∈ ps, ∀ y ∈ ps, x = y ∨ (x.1 ≠ y.1 ∧ x.1 ≠ y.2 ∧ x.2 ≠ y.1 ∧ x.2 ≠ y.2)
  | [], _, _, hx => nomatch hx
  | p :: r, h, x, hx => fun y hy => by
    have h' : (p.1 :: p.2 :: flat2 r).Nodup := h
    obtain ⟨a, h2⟩ := List.nodup_cons.mp h'
    obtain ⟨b, h3⟩ := List.nodup_cons.mp h2
    have one : ∀ q ∈ r, p.1 ≠ q.1 ∧ p.1 ≠ q.2 ∧ p.2 ≠ q.1 ∧ p.2 ≠ q.2 := fun q hq =>
      ⟨fun e => a (by rw [e]; exact List.mem_cons_of_mem _ (mem_flat2 hq).1), fun e => a (by rw [e]; exact List.mem_cons_of_mem _ (mem_flat2 hq).2), fun e => b (by rw [e]; exact (mem_flat2 hq).1), fun e => b (by rw [e]; exact (mem_flat2 hq).2)⟩
    rcases List.mem_cons.mp hx with ex | hx
    · rcases List.mem_cons.mp hy with ey | hy
      · exact .inl (ex.trans ey.symm)
      · rw [ex]
        exact .inr (one y hy)
    · rcases List.mem_cons.mp hy with ey | hy
      · rw [ey]
        obtain ⟨c1, c2, c3, c4⟩ := one x hx
        exact .inr ⟨c1.symm, c3.symm, c2.symm, c4.symm⟩
      · exact apart2 h3 x hx y hy
theorem msF_srt {N : Int} {ms : List V} {p : Int × Int} (h : Pok N p) : msF ms (srt p) = msF ms p := by
  obtain ⟨p1, p2⟩ := p
  obtain ⟨a, _, b, _, ne⟩ := h
  simp only at a b ne
  by_cases lt : p1 < p2
  · have e : srt (p1, p2) = (p1, p2) := by unfold srt; rw [if_neg (by simp only; omega), if_pos (by simp only; omega)]
    rw [e]
  · have e : srt (p1, p2) = (p2, p1) := by unfold srt; rw [if_pos (by simp only; omega), if_neg (by simp only; omega)]
    rw [e]
    show (ms.set p2.toNat (.int p1)).set p1.toNat (.int p2) = (ms.set p1.toNat (.int p2)).set p2.toNat (.int p1)
    exact List.set_comm _ _ (by omega)
theorem msF_comm {N : Int} {ms : List V} {x y : Int × Int} (hx : Pok N x) (hy : Pok N y) (h : x = y ∨ (x.1 ≠ y.1 ∧ x.1 ≠ y.2 ∧ x.2 ≠ y.1 ∧ x.2 ≠ y.2)) : msF (msF ms x) y = msF (msF ms y) x := by
  rcases h with e | ⟨h1, h2, h3, h4⟩
  · rw [e]
  · obtain ⟨a, _, b, _, _⟩ := hx
    obtain ⟨c, _, d, _, _⟩ := hy
    unfold msF
    rw [List.set_comm (i := x.2.toNat) (j := y.1.toNat) _ _ (by omega), List.set_comm (i := x.1.toNat) (j := y.1.toNat) _ _ (by omega), List.set_comm (i := x.2.toNat) (j := y.2.toNat) _ _ (by omega), List.set_comm (i := x.1.toNat) (j := y.2.toNat) _ _ (by omega)]
theorem foldl_srt {N : Int} : ∀ {ps : List (Int × Int)} (ms : List V), (∀ p ∈ ps, Pok N p) → (ps.map srt).foldl msF ms = ps.foldl msF ms
  | [], _, _ => rfl
  | p :: r, ms, h => by
    rw [List.map_cons, List.foldl_cons, List.foldl_cons, msF_srt (h p (List.mem_cons_self ..))]
    exact foldl_srt _ fun q hq => h q (List.mem_cons_of_mem _ hq)
theorem msL_same {N : Int} {n : Nat} {ps ps' : List (Int × Int)} (hok : ∀ p ∈ ps, Pok N p) (hok' : ∀ p ∈ ps', Pok N p) (htw : tw (flat2 ps) = none) (hp : (ps.map srt).Perm (ps'.map srt)) : msL ps n = msL ps' n := by
  have nd := (twF_none _ _ htw).1
  unfold msL
  rw [← foldl_srt _ hok, ← foldl_srt _ hok']
  refine hp.foldl_eq' (fun x hx y hy ms => ?_) _
  obtain ⟨x', hx', rfl⟩ := List.mem_map.mp hx
  obtain ⟨y', hy', rfl⟩ := List.mem_map.mp hy
  rw [msF_srt (hok x' hx'), msF_srt (hok y' hy'), msF_srt (hok y' hy'), msF_srt (hok x' hx')]
  exact msF_comm (hok x' hx') (hok y' hy') (apart2 nd x' hx' y' hy')
theorem SkinIs.order {H : Hp} {x dx st mt ft : Addr} {us : List Addr} {z : Str} {n : Int} {ps ps' qs : List (Int × Int)} (h : SkinIs K H x z n ps dx st mt ft us qs) (hok : ∀ p ∈ ps, Pok (n * turnOf z) p) (hok' : ∀ p ∈ ps', Pok (n * turnOf z) p)
    (htw : tw (flat2 ps) = none) (hp : (ps.map srt).Perm (ps'.map srt)) : SkinIs K H x z n ps' dx st mt ft us qs := by
  have e : msL ps (n * turnOf z).toNat = msL ps' (n * turnOf z).toNat := msL_same hok hok' htw hp
  obtain ⟨i0, s0, s1, p0, s2, m0, f0⟩ := h
  refine ⟨i0, s0, s1, p0.trans hp, s2, by rw [← e]; exact m0, ?_⟩
  unfold frL at f0 ⊢
  rw [← e]
  exact f0
theorem SkinAt.order {H : Hp} {x : Addr} {z : Str} {n : Int} {ps ps' : List (Int × Int)} (h : SkinAt K H x z n ps) (hok : ∀ p ∈ ps, Pok (n * turnOf z) p) (hok' : ∀ p ∈ ps', Pok (n * turnOf z) p)
    (htw : tw (flat2 ps) = none) (hp : (ps.map srt).Perm (ps'.map srt)) : SkinAt K H x z n ps' := by
  obtain ⟨dx, st, mt, ft, us, qs, hx⟩ := h
  exact ⟨dx, st, mt, ft, us, qs, hx.order hok hok' htw hp⟩
theorem nodup_tw : ∀ (l seen : List Int), l.Nodup → (∀ x ∈ l, x ∉ seen) → twF seen l = none
  | [], _, _, _ => rfl
  | x :: r, seen, h, q => by
    obtain ⟨a, b⟩ := List.nodup_cons.mp h
    unfold twF
    rw [if_neg (q x (List.mem_cons_self ..))]
    refine nodup_tw r _ b fun y hy m => ?_
    rcases List.mem_cons.mp m with e | m
    · exact a (e ▸ hy)
    · exact q y (List.mem_cons_of_mem _ hy) m
theorem flat2_srt {N : Int} : ∀ {ps : List (Int × Int)}, (∀ p ∈ ps, Pok N p) → (flat2 (ps.map srt)).Perm (flat2 ps)
  | [], _ => .refl _
  | p :: r, h => by
    have ih := flat2_srt (ps := r) fun q hq => h q (List.mem_cons_of_mem _ hq)
    obtain ⟨p1, p2⟩ := p
    obtain ⟨a, _, b, _, ne⟩ := h (p1, p2) (List.mem_cons_self ..)
    simp only at a b ne
    by_cases lt : p1 < p2
    · have e : srt (p1, p2) = (p1, p2) := by unfold srt; rw [if_neg (by simp only; omega), if_pos (by simp only; omega)]
      rw [List.map_cons, e]
      exact (ih.cons p2).cons p1
    · have e : srt (p1, p2) = (p2, p1) := by unfold srt; rw [if_pos (by simp only; omega), if_neg (by simp only; omega)]
      rw [List.map_cons, e]
      exact (List.Perm.swap p1 p2 _).trans ((ih.cons p2).cons p1)
theorem flat2_perm {ps qs : List (Int × Int)} (h : ps.Perm qs) : (flat2 ps).Perm (flat2 qs) := h.flatMap_right _
theorem flat2_mr {t : Int} : ∀ (ps : List (Int × Int)), flat2 (ps.map (mrP t)) = (flat2 ps).map (mrS t)
  | [] => rfl
  | p :: r => by
    show mrS t p.1 :: mrS t p.2 :: flat2 (r.map (mrP t)) = mrS t p.1 :: mrS t p.2 :: (flat2 r).map (mrS t)
    rw [flat2_mr r]
theorem mrS_inj {t a b : Int} (tz : t = 4 ∨ t = 3) (h : mrS t a = mrS t b) : a = b := by
  unfold mrS at h
  rcases tz with rfl | rfl <;> omega
theorem mrS_in {t n i : Int} (tz : t = 4 ∨ t = 3) (h0 : 0 ≤ i) (h1 : i < n * t) : 0 ≤ mrS t i ∧ mrS t i < n * t := by
  unfold mrS
  rcases tz with rfl | rfl <;> omega
theorem mrS_mrS {t i : Int} (tz : t = 4 ∨ t = 3) : mrS t (mrS t i) = i := by
  unfold mrS
  rcases tz with rfl | rfl <;> omega
theorem mrP_ok {t n : Int} {p : Int × Int} (tz : t = 4 ∨ t = 3) (h : Pok (n * t) p) : Pok (n * t) (mrP t p) := by
  obtain ⟨a, b, c, d, ne⟩ := h
  obtain ⟨a', b'⟩ := mrS_in tz a b
  obtain ⟨c', d'⟩ := mrS_in tz c d
  exact ⟨a', b', c', d', fun e => ne (mrS_inj tz e)⟩
theorem srt_swap (a b : Int) : srt (a, b) = srt (b, a) := by
  unfold srt
  simp only
  by_cases h1 : a < b
  · rw [if_neg (by omega), if_pos h1, if_pos h1, if_neg (by omega)]
  · by_cases h2 : b < a
    · rw [if_pos h2, if_neg h1, if_neg h1, if_pos h2]
    · rw [if_neg h2, if_neg h1, if_neg h1, if_neg h2, show a = b by omega]
theorem srt_mr {t : Int} (p : Int × Int) : srt (mrP t (srt p)) = srt (mrP t p) := by
  obtain ⟨a, b⟩ := p
  by_cases lt : b < a
  · have e : srt (a, b) = (b, a) := by unfold srt; rw [if_pos (by simp only; omega), if_neg (by simp only; omega)]
    rw [e]
    exact srt_swap _ _
  · by_cases l2 : a < b
    · have e : srt (a, b) = (a, b) := by unfold srt; rw [if_neg (by simp only; omega), if_pos (by simp only; omega)]
      rw [e]
    · have e0 : a = b := by omega
      subst e0
      have e : srt (a, a) = (a, a) := by unfold srt; simp
      rw [e]
theorem srt_ok {N : Int} {p : Int × Int} (h : Pok N p) : Pok N (srt p) := by
  obtain ⟨a, b⟩ := p
  obtain ⟨a0, a1, b0, b1, ne⟩ := h
  simp only at a0 a1 b0 b1 ne
  by_cases lt : b < a
  · have e : srt (a, b) = (b, a) := by unfold srt; rw [if_pos (by simp only; omega), if_neg (by simp only; omega)]
    rw [e]
    exact ⟨b0, b1, a0, a1, ne.symm⟩
  · have e : srt (a, b) = (a, b) := by unfold srt; rw [if_neg (by simp only; omega), if_pos (by simp only; omega)]
    rw [e]
    exact ⟨a0, a1, b0, b1, ne⟩
theorem tw_mr {t : Int} {ps : List (Int × Int)} (tz : t = 4 ∨ t = 3) (h : tw (flat2 ps) = none) : tw (flat2 (ps.map (mrP t))) = none := by
  have nd := (twF_none _ _ h).1
  refine nodup_tw _ _ ?_ fun _ _ m => nomatch m
  rw [flat2_mr]
  exact List.pairwise_map.mpr (nd.imp fun ne e => ne (mrS_inj tz e))
theorem tw_perm {N : Int} {ps qs : List (Int × Int)} (hok : ∀ p ∈ ps, Pok N p) (hp : qs.Perm (ps.map srt)) (h : tw (flat2 ps) = none) : tw (flat2 qs) = none := by
  have nd := (twF_none _ _ h).1
  refine nodup_tw _ _ ?_ fun _ _ m => nomatch m
  exact ((flat2_perm hp).trans (flat2_srt hok)).nodup_iff.mpr nd

end
end K04

namespace K04
open PySem PySem.Spec PyProof.Rows L2 Vf LamX
section
variable {hh : Heap} {P : Program} {w : World} {K : PySem.W.Frag} {mg : Str → Option Value} {base : Heap}
def sp_law_mirrored_right (K : PySem.W.Frag) : Sp := fun vs H Q _ => ∃ (x a : Addr) (z : Str) (n : Int) (ts : List Addr) (ps : List (Int × Int)), vs = [.ref x, .str z, .int n, .ref a] ∧ SkinAt K H x z n ps ∧ isGrid (.str z) = true ∧ 1 ≤ n ∧ n ≤ 24 ∧ H a = some (.lst (ts.map V.ref)) ∧ Seams H ts ps ∧ (∀ p ∈ ps, Pok (n * turnOf z) p) ∧ ps.length ≤ 100 ∧ tw (flat2 ps) = none ∧ ∀ H', Same H H' → Q (.bl true) H'
theorem sc_law_mirrored_right : FnScope ["_law_skin", "_law_kind", "_law_faces", "_law_pairs_here", "_law_turn", "_law_back", "_law_flipped", "_law_mirrored", "_law_side", "_law_one", "_law_other"] ["_law_skin", "_law_kind", "_law_faces", "_law_pairs_here"] (defScope s_law_mirrored_right) := ⟨rfl, rfl, rfl, by decide +kernel, rfl, by decide +kernel, by decide +kernel⟩
theorem ok_law_mirrored_right {f : Addr} {fd : FuncData} (F : FunD K "_law_mirrored_right" "_law_mirrored_right" (defArgs s_law_mirrored_right) (defBody s_law_mirrored_right) (defScope s_law_mirrored_right) [] [] f fd) (Tx : Txt K mg) (h_Skin_mirrored : HasM P w K mg base (L2.CX P w) "Skin" "mirrored" 7 ["self"] (sp_Skin_mirrored K)) (h_law_tells_right : Has P w K mg base "_law_tells_right" 5 ["_law_skin", "_law_kind", "_law_faces", "_law_pairs_here"] (sp_law_tells_right K)) (h_Skin_init : HasI P w K mg base 5 (sp_Skin_init K)) (h_Skin_str : HasM P w K mg base CX0 "Skin" "__str__" 2 ["self"] (sp_Skin_str K)) (h_Skin_eq : HasM P w K mg base CX0 "Skin" "__eq__" 1 ["self", "other"] (sp_Skin_eq K))   : FnOk P w K mg base CX0 8 f fd ["_law_skin", "_law_kind", "_law_faces", "_law_pairs_here"] (sp_law_mirrored_right K) := by
  obtain ⟨fd_Skin_mirrored, G_Skin_mirrored, b_Skin_mirrored⟩ := h_Skin_mirrored
  obtain ⟨f_law_tells_right, fd_law_tells_right, G_law_tells_right, g_law_tells_right, k_law_tells_right, b_law_tells_right⟩ := h_law_tells_right
  obtain ⟨fd_Skin_init, G_Skin_init, b_Skin_init, ⟨ds2_Skin_init, v2_Skin_init, b2_Skin_init⟩, ⟨ds1_Skin_init, kb_Skin_init_kind_faces⟩, ⟨dd1_Skin_init, kb_Skin_init_seams_faces_kind⟩⟩ := h_Skin_init
  obtain ⟨fd_Skin_str, G_Skin_str, b_Skin_str⟩ := h_Skin_str
  obtain ⟨fd_Skin_eq, G_Skin_eq, b_Skin_eq⟩ := h_Skin_eq
  refine FunD.ok F sc_law_mirrored_right (fun vs H Q E h => ?_) (fun cdv A outer s H vs Q E hr h => ?_)
  · obtain ⟨x, a, z, n, ts, ps, rfl, _⟩ := h
    rfl
  · obtain ⟨x, a, z, n, ts, ps, rfl, hx, hg, n1, n24, ha, hs, hok, hl, htw, q⟩ := h
    refine ⟨_, PSs.nox (C8.pss_cut (ps_set (i := 4) sc_law_mirrored_right.nd rfl (Or.inr rfl) (pe_ifExp (pt_cmpR op_eq (pv 1) pe_str (nomark _)) pe_int pe_int))
        (C8.pss_cut (ps_set (i := 5) sc_law_mirrored_right.nd rfl (Or.inr rfl) (pe_lc (own := [("_law_side", 8)]) (g := gName 8) (tt := tYes) rfl sc_law_mirrored_right.nd (pi_range1 (by rfl) Tx.n_range (pa_cons (pe_op op_mul (pv 2) (pv 4)) pa_nil)) (blkOk_by (own := [("_law_side", 8)]) (N := ["_law_skin", "_law_kind", "_law_faces", "_law_pairs_here", "_law_turn", "_law_back", "_law_flipped", "_law_mirrored", "_law_side", "_law_one", "_law_other"]) (sc := defScope s_law_mirrored_right) (by decide +kernel)) (fun _ _ _ _ _ => (pg_name (i := 8) sc_law_mirrored_right.nd rfl (Or.inl rfl))) (fun _ _ _ _ _ => pts_nil) (fun _ _ _ _ _ => (pe_op op_sub (pe_op op_sub (pe_op op_add (pe_op op_mul (pe_op op_fdiv (pv 8) (pv 4)) (pv 4)) (pv 4)) pe_int) (pe_op op_mod (pe_callTy call_int1 (by rfl) Tx.n_int (by decide +kernel) (pa_cons (pv 8) pa_nil)) (pv 4))))))
        (C8.pss_cut (ps_setLc (i := 6) (own := [("_law_one", 9), ("_law_other", 10)]) (g := _) (tt := tYes) rfl sc_law_mirrored_right.nd rfl rfl (sw_true rfl rfl rfl (by decide +kernel)) (pi_list (pv 3)) (blkOk_by (own := [("_law_one", 9), ("_law_other", 10)]) (N := ["_law_skin", "_law_kind", "_law_faces", "_law_pairs_here", "_law_turn", "_law_back", "_law_flipped", "_law_mirrored", "_law_side", "_law_one", "_law_other"]) (sc := defScope s_law_mirrored_right) (by decide +kernel)) (fun _ _ _ _ _ => (pg_tupK (K := K) (n := 2) rfl rfl (pgs_cons (pg_name (i := 9) sc_law_mirrored_right.nd rfl (Or.inl rfl)) (pgs_cons (pg_name (i := 10) sc_law_mirrored_right.nd rfl (Or.inl rfl)) pgs_nil)))) (fun _ _ _ _ _ => pts_nil) (fun _ _ _ _ _ => (pe_tup (pa_cons (pe_ix (ix_listK (K := K) rfl) (pv 5) (pv 9) (fun _ _ => rfl)) (pa_cons (pe_ix (ix_listK (K := K) rfl) (pv 5) (pv 10) (fun _ _ => rfl)) pa_nil)))))
        (C8.pss_cut (ps_set (i := 7) sc_law_mirrored_right.nd rfl (Or.inl rfl) (pe_meth0 (pv 0) Tx.cl_Skin Tx.me_Skin_mirrored G_Skin_mirrored (hr.mono (by decide)) b_Skin_mirrored .nil passN))
        (C8.pss_cut (ps_if (PW.pt (pw_or (pt_not (pt_val (pe_call G_law_tells_right (hr.mono (by decide)) (by rfl) g_law_tells_right k_law_tells_right b_law_tells_right .nil pass0 (pa_cons (pv 7) (pa_cons (pv 1) (pa_cons (pv 2) (pa_cons (pv 6) pa_nil))))))) (pw_or1 (pt_not (pt_val (pe_call G_law_tells_right (hr.mono (by decide)) (by rfl) g_law_tells_right k_law_tells_right b_law_tells_right .nil pass0 (pa_cons (pv 0) (pa_cons (pv 1) (pa_cons (pv 2) (pa_cons (pv 3) pa_nil)))))))))) (pss_one (ps_ret pe_bl)) pss_nil)
        (pss_one (ps_ret (pe_and (pe_cmpR (op_eqO G_Skin_eq (hr.mono (by decide)) Tx.me_Skin_eq.1 Tx.me_Skin_eq.2 b_Skin_eq pass0) (pv 7) (pe_make Tx.mk_Skin G_Skin_init (hr.mono (by decide)) (by rfl) Tx.g_Skin b_Skin_init .nil passN (pa_cons (pv 1) (pa_cons (pv 2) (pa_cons (pv 6) pa_nil)))) (nomark _)) (pe_and (pe_cmpR (op_eqO G_Skin_eq (hr.mono (by decide)) Tx.me_Skin_eq.1 Tx.me_Skin_eq.2 b_Skin_eq pass0) (pe_meth0 (pv 7) Tx.cl_Skin Tx.me_Skin_mirrored G_Skin_mirrored (hr.mono (by decide)) b_Skin_mirrored .nil passN) (pv 0) (nomark _)) (pe_one (pe_cmpR op_eq (pe_callTy (call_strO Tx.me_Skin_str G_Skin_str b_Skin_str (hr.mono (by decide))) (by rfl) Tx.n_str (by decide +kernel) (pa_cons (pe_meth0 (pv 7) Tx.cl_Skin Tx.me_Skin_mirrored G_Skin_mirrored (hr.mono (by decide)) b_Skin_mirrored .nil passN) pa_nil)) (pe_callTy (call_strO Tx.me_Skin_str G_Skin_str b_Skin_str (hr.mono (by decide))) (by rfl) Tx.n_str (by decide +kernel) (pa_cons (pv 0) pa_nil)) (nomark _)))))))))))), ?_⟩
    have tz := turn_in z
    have hN0 : 0 ≤ n * turnOf z := by rcases tz with e | e <;> rw [e] <;> omega
    have hN1 : n * turnOf z ≤ 96 := by rcases tz with e | e <;> rw [e] <;> omega
    obtain ⟨N, hN⟩ := Int.eq_ofNat_of_zero_le hN0
    refine ⟨fun σ H' => σ = [some (.ref x), some (.str z), some (.int n), some (.ref a), some (.int (turnOf z)), none, none, none, none, none, none] ∧ H' = H, ?_, ?_⟩
    · refine ⟨_, rfl, rfl, _, rfl, ite2 (fun e => ?_) (fun e => ?_)⟩
      · have ez : z = "square" := by injection (of_decide_eq_true e)
        have et : turnOf z = 4 := by unfold turnOf; rw [if_pos ez]
        exact ⟨by rw [et] <;> rfl, rfl⟩
      · have et : turnOf z = 3 := by unfold turnOf; rw [if_neg (fun ez => e (decide_eq_true (by rw [ez])))]
        exact ⟨by rw [et] <;> rfl, rfl⟩
    rintro σ H1 ⟨rfl, rfl⟩
    -- the sides mirrored
    refine ⟨fun σ H' => ∃ bk : Addr, σ = [some (.ref x), some (.str z), some (.int n), some (.ref a), some (.int (turnOf z)), some (.ref bk), none, none, none, none, none] ∧ Same H1 H' ∧ H' bk = some (.lst ((List.range N).map fun i : Nat => V.int (mrS (turnOf z) i))), ?_, ?_⟩
    · refine ⟨_, rfl, _, rfl, _, _, rfl, rfl, .inr ⟨by omega, by omega⟩, _, rfl, by omega, by omega, fun D nD => ?_⟩
      have hNn : (n * turnOf z).toNat = N := by omega
      refine lc_pure ((walk_range (lo := 0) (n := (n * turnOf z).toNat)).mono (Y' := fun i H x H' => H' = H ∧ (rgL N)[i]? = some x) (fun _ h => h) (fun i H x H' hi _ y => ⟨y.1, by rw [y.2]; exact rgL_at (by omega)⟩)) (rgL N) (by rw [rgL_len, hNn]) (by rw [rgL_len]; omega) (fun i H x H' y => ⟨same_of_eq y.1, y.2⟩) (mrV (turnOf z)) (fun _ => true) nD (fun _ _ => True.intro) (fun i v H5 Q1 Q0 hi s5 q1 q0 => ?_) (fun H5 s5 hD => ?_)
      · refine ⟨rfl, ?_⟩
        obtain ⟨iN, rfl⟩ := rgL_get hi
        exact ⟨_, rfl, _, rfl, _, _, rfl, rfl, ⟨by omega, by omega⟩, _, rfl, _, _, rfl, rfl, .inr ⟨by omega, by omega⟩, _, rfl, _, _, rfl, rfl, _, _, rfl, rfl, _, rfl, .inl ⟨_, rfl, _, rfl, _, _, rfl, rfl, by omega, _, _, rfl, rfl, q1 rfl _ (Same.refl _)⟩⟩
      · refine ⟨D, rfl, s5, ?_⟩
        rw [hD, List.filter_eq_self.mpr fun _ _ => rfl]
        unfold rgL
        rw [List.map_map]
        congr 2
        refine List.map_congr_left fun i _ => ?_
        show V.int (mrS (turnOf z) (0 + (i : Int))) = V.int (mrS (turnOf z) (i : Int))
        rw [Int.zero_add]
    rintro σ H2 ⟨bk, rfl, s2, hbk⟩
    -- the pairs mirrored
    refine ⟨fun σ H' => ∃ (fl : Addr) (vs : List Addr), σ = [some (.ref x), some (.str z), some (.int n), some (.ref a), some (.int (turnOf z)), some (.ref bk), some (.ref fl), none, none, none, none] ∧ Same H2 H' ∧ H' fl = some (.lst (vs.map V.ref)) ∧ Seams H' vs (ps.map (mrP (turnOf z))), ?_, ?_⟩
    · have hs2 := hs.same s2
      have ha2 := s2 _ _ ha
      refine ⟨_, rfl, a, rfl, ⟨_, SqL.of ha2⟩, fun D nD => ?_⟩
      refine lc_it (walk_list (K := K) (a := a) (xs := ts.map V.ref)) (fun i H' => ∃ us : List Addr, Same H2 H' ∧ H' D = some (.lst (us.map V.ref)) ∧ Seams H' us ((ps.take i).map (mrP (turnOf z)))) ⟨[], same_new nD, upd_same, ⟨rfl, fun i t p h => by simp at h⟩⟩ (fun i H' _ p => by obtain ⟨_, s8, _⟩ := p; exact SqL.of (s8 _ _ ha2)) (fun i v H' H'' hi p y => ?_) (fun H' p => ?_)
      · obtain ⟨us, s8, hD, hus⟩ := p
        obtain ⟨rfl, hv⟩ := y
        obtain ⟨t, p, rfl, htt, hp, htup⟩ := hs2.get hv
        obtain ⟨p0, p1, p2, p3, pne⟩ := hok p (List.mem_of_getElem? hp)
        have ep : (ps.take (i + 1)).map (mrP (turnOf z)) = (ps.take i).map (mrP (turnOf z)) ++ [mrP (turnOf z) p] := by
          rw [List.take_add_one, hp, Option.toList_some, List.map_append]
          rfl
        have len : (us.map V.ref).length < sizeLine := by
          rw [List.length_map, hus.len, List.length_map, List.length_take]
          exact small_line (by omega)
        refine ⟨t, _, rfl, SqT.of (s8 _ _ htup), rfl, _, _, rfl, _, _, rfl, rfl, ?_⟩
        refine ⟨rfl, ?_⟩
        obtain ⟨j1, e1⟩ := Int.eq_ofNat_of_zero_le p0
        obtain ⟨j2, e2⟩ := Int.eq_ofNat_of_zero_le p2
        have w1 : ((List.range N).map fun i : Nat => V.int (mrS (turnOf z) i))[j1]? = some (.int (mrS (turnOf z) p.1)) := by
          rw [List.getElem?_map, List.getElem?_range (by omega), e1]
          rfl
        have w2 : ((List.range N).map fun i : Nat => V.int (mrS (turnOf z) i))[j2]? = some (.int (mrS (turnOf z) p.2)) := by
          rw [List.getElem?_map, List.getElem?_range (by omega), e2]
          rfl
        have hbk8 := s8 _ _ hbk
        refine ⟨_, rfl, _, rfl, _, _, _, _, rfl, rfl, SqL.of hbk8, by rw [e1]; exact atI_nat w1, _, rfl, _, rfl, _, _, _, _, rfl, rfl, SqL.of hbk8, by rw [e2]; exact atI_nat w2, le_line (n := 2) (by decide), fun T nT => ?_⟩
        have sT : Same H'' (upd H'' T (.tup [.int (mrS (turnOf z) p.1), .int (mrS (turnOf z) p.2)])) := same_new nT
        refine ⟨_, sT _ _ hD, len, us ++ [T], Same.mut (s8.trans sT) nD, by rw [upd_same, List.map_append] <;> rfl, ?_⟩
        rw [ep]
        exact hus.push (p := mrP (turnOf z) p) (ys := us.map V.ref ++ [V.ref T]) nT hD
      · obtain ⟨us', s8, hD, hus⟩ := p
        have el : (ps.take (ts.map V.ref).length).map (mrP (turnOf z)) = ps.map (mrP (turnOf z)) := by rw [List.length_map, hs.len, List.take_length]
        rw [el] at hus
        exact ⟨D, us', rfl, s8, hD, hus⟩
    rintro σ H3 ⟨fl, vs, rfl, s3, hfl, hvs⟩
    obtain ⟨dx, st, mt, ft, us, qs, hx⟩ := hx
    have hokq : ∀ p ∈ qs, Pok (n * turnOf z) p := fun p hp => by
      obtain ⟨p', hp', rfl⟩ := List.mem_map.mp (hx.perm.mem_iff.mp hp)
      exact srt_ok (hok p' hp')
    have hokm : ∀ p ∈ ps.map (mrP (turnOf z)), Pok (n * turnOf z) p := fun p hp => by
      obtain ⟨p', hp', rfl⟩ := List.mem_map.mp hp
      exact mrP_ok tz (hok p' hp')
    have hokqm : ∀ p ∈ qs.map (mrP (turnOf z)), Pok (n * turnOf z) p := fun p hp => by
      obtain ⟨p', hp', rfl⟩ := List.mem_map.mp hp
      exact mrP_ok tz (hokq p' hp')
    have hlq : qs.length ≤ 100 := by rw [hx.perm.length_eq, List.length_map]; exact hl
    have htq : tw (flat2 qs) = none := tw_perm hok hx.perm htw
    have htm : tw (flat2 (ps.map (mrP (turnOf z)))) = none := tw_mr tz htw
    have htqm : tw (flat2 (qs.map (mrP (turnOf z)))) = none := tw_mr tz htq
    have permM : ((qs.map (mrP (turnOf z))).map srt).Perm ((ps.map (mrP (turnOf z))).map srt) := by
      have h1 := (hx.perm.map (mrP (turnOf z))).map srt
      refine h1.trans (.of_eq ?_)
      rw [List.map_map, List.map_map, List.map_map]
      exact List.map_congr_left fun p _ => srt_mr p
    have s13 := s2.trans s3
    -- the skin mirrored
    refine ⟨fun σ H' => ∃ y : Addr, σ = [some (.ref x), some (.str z), some (.int n), some (.ref a), some (.int (turnOf z)), some (.ref bk), some (.ref fl), some (.ref y), none, none, none] ∧ Same H3 H' ∧ SkinAt K H' y z n (ps.map (mrP (turnOf z))), ?_, ?_⟩
    · have hx3 := hx.same s13
      exact ⟨_, rfl, x, dx, _, rfl, hx3.ins, rfl, x, dx, st, mt, ft, us, z, n, ps, qs, rfl, hx3, hg, n1, n24, by omega, hokq, hokqm, htqm, fun H' y s ny hy => ⟨y, rfl, s, hy.order hokqm hokm htqm permM⟩⟩
    rintro σ H4 ⟨y, rfl, s4, hy⟩
    -- both told
    refine ⟨fun σ H' => σ = [some (.ref x), some (.str z), some (.int n), some (.ref a), some (.int (turnOf z)), some (.ref bk), some (.ref fl), some (.ref y), none, none, none] ∧ Same H4 H', ?_, ?_⟩
    · have hfl4 := s4 _ _ hfl
      have hvs4 := hvs.same s4
      refine ⟨_, rfl, _, rfl, _, rfl, _, rfl, y, fl, z, n, vs, ps.map (mrP (turnOf z)), rfl, hy, hg, n1, n24, hfl4, hvs4, hokm, by rw [List.length_map]; exact hl, htm, fun H6 s6 => ⟨_, rfl, ?_⟩⟩
      have s16 := s13.trans (s4.trans s6)
      refine iteF ?_
      refine ⟨_, rfl, _, rfl, _, rfl, _, rfl, x, a, z, n, ts, ps, rfl, ⟨dx, st, mt, ft, us, qs, hx.same s16⟩, hg, n1, n24, s16 _ _ ha, hs.same s16, hok, hl, htw, fun H7 s7 => ⟨_, rfl, ?_⟩⟩
      refine iteF ?_
      exact ⟨rfl, s6.trans s7⟩
    rintro σ H5 ⟨rfl, s5⟩
    have hfl5 := s5 _ _ (s4 _ _ hfl)
    have hvs5 := (hvs.same s4).same s5
    obtain ⟨dy, sty, mty, fty, uy, qy, hy⟩ := hy
    have hy5 := hy.same s5
    have s15 := s13.trans (s4.trans s5)
    have hx5 := hx.same s15
    refine ⟨_, rfl, _, rfl, _, rfl, _, rfl, fun w dw nw ndw new => ?_⟩
    have sY : Same H5 (upd (upd H5 dw (.own w)) w (.ins (He.ga K "Skin") dw [])) := (same_new (o := .own w) ndw).trans (same_new (o := .ins (He.ga K "Skin") dw []) (by rw [upd_ne new.symm]; exact nw))
    refine ⟨w, dw, _, _, _, .str, .int, rfl, upd_same, True.intro, True.intro, ?_⟩
    refine .made z n fl vs (ps.map (mrP (turnOf z))) rfl hg rfl n1 rfl (.inl (sY _ _ hfl5)) (hvs5.same sY).b (by rw [List.length_map]; omega) hokm (fun t ht => absurd (ht.symm.trans htm) (by simp)) (fun _ c => absurd c (by omega)) (fun _ _ H6 k6 hw => ⟨rfl, ?_⟩)
    have s56 : Same H5 H6 := same_made nw ndw new k6
    have hy6 := hy5.same s56
    obtain ⟨dw', stw, mtw, ftw, uw, qw, hw⟩ := hw
    have eqw : qy = qw := srt_uniq hy5.srtd hw.srtd (hy5.perm.trans hw.perm.symm)
    refine ⟨y, dy, _, rfl, hy6.ins, .own w dw' _ hw.ins, y, .ref w, _, rfl, ⟨dy, sty, mty, fty, uy, z, n, ps.map (mrP (turnOf z)), qy, hy6, .inr ⟨w, dw', stw, mtw, ftw, uw, z, n, ps.map (mrP (turnOf z)), qw, rfl, hw, rfl⟩⟩, fun H7 s7 => ⟨_, rfl, _, rfl, ?_⟩⟩
    rw [if_pos (by simp [eqw])]
    have hy7 := hy6.same s7
    have hokqy : ∀ p ∈ qy, Pok (n * turnOf z) p := fun p hp => by
      obtain ⟨p', hp', rfl⟩ := List.mem_map.mp (hy5.perm.mem_iff.mp hp)
      exact srt_ok (hokm p' hp')
    have hokqym : ∀ p ∈ qy.map (mrP (turnOf z)), Pok (n * turnOf z) p := fun p hp => by
      obtain ⟨p', hp', rfl⟩ := List.mem_map.mp hp
      exact mrP_ok tz (hokqy p' hp')
    have hlqy : qy.length ≤ 100 := by rw [hy5.perm.length_eq, List.length_map, List.length_map]; exact hl
    have htqy : tw (flat2 qy) = none := tw_perm hokm hy5.perm htm
    have htqym : tw (flat2 (qy.map (mrP (turnOf z)))) = none := tw_mr tz htqy
    have permB : ((qy.map (mrP (turnOf z))).map srt).Perm (ps.map srt) := by
      have h1 := (hy5.perm.map (mrP (turnOf z))).map srt
      refine h1.trans (.of_eq ?_)
      rw [List.map_map, List.map_map, List.map_map]
      refine List.map_congr_left fun p _ => ?_
      show srt (mrP (turnOf z) (srt (mrP (turnOf z) p))) = srt p
      rw [srt_mr]
      show srt (mrS (turnOf z) (mrS (turnOf z) p.1), mrS (turnOf z) (mrS (turnOf z) p.2)) = srt p
      rw [mrS_mrS tz, mrS_mrS tz]
    refine ⟨_, rfl, y, dy, _, rfl, hy7.ins, rfl, y, dy, sty, mty, fty, uy, z, n, ps.map (mrP (turnOf z)), qy, rfl, hy7, hg, n1, n24, by omega, hokqy, hokqym, htqym, fun H8 m s8 nm hm => ?_⟩
    obtain ⟨dm, stm, mtm, ftm, um, qm, hm⟩ := hm
    have hx8 := ((hx5.same s56).same s7).same s8
    have eqm : qm = qs := srt_uniq hm.srtd hx8.srtd ((hm.perm.trans permB).trans hx8.perm.symm)
    refine ⟨_, rfl, m, dm, _, rfl, hm.ins, .own x dx _ hx8.ins, m, .ref x, _, rfl, ⟨dm, stm, mtm, ftm, um, z, n, qy.map (mrP (turnOf z)), qm, hm, .inr ⟨x, dx, st, mt, ft, us, z, n, ps, qs, rfl, hx8, rfl⟩⟩, fun H9 s9 => ⟨_, rfl, _, rfl, ?_⟩⟩
    rw [if_pos (by simp [eqm])]
    have hy9 := (hy7.same s8).same s9
    refine ⟨_, rfl, y, dy, _, rfl, hy9.ins, rfl, y, dy, sty, mty, fty, uy, z, n, ps.map (mrP (turnOf z)), qy, rfl, hy9, hg, n1, n24, by omega, hokqy, hokqym, htqym, fun H10 o s10 no ho => ?_⟩
    obtain ⟨do', sto, mto, fto, uo, qo, ho⟩ := ho
    have hx10 := (hx8.same s9).same s10
    have eqo : qo = qs := srt_uniq ho.srtd hx10.srtd ((ho.perm.trans permB).trans hx10.perm.symm)
    have hz : z.length ≤ 100 := by
      have h0 := hg
      simp [isGrid, isS, inV] at h0
      rcases h0 with e | e <;> (simp [eqV] at e; subst e; decide +kernel)
    have hsq : ∀ q ∈ qs, Small q.1 ∧ Small q.2 := fun q hq => by
      obtain ⟨a0, a1, b0, b1, _⟩ := hokq q hq
      exact ⟨⟨a0, by omega⟩, ⟨b0, by omega⟩⟩
    refine ⟨o, do', _, rfl, ho.ins, o, do', sto, mto, fto, uo, z, n, qy.map (mrP (turnOf z)), qo, rfl, ho, ⟨by omega, by omega⟩, hz, by rw [eqo]; exact hsq, by rw [eqo]; omega, fun H11 s11 => ⟨_, rfl, ?_⟩⟩
    have hx11 := hx10.same s11
    refine ⟨_, rfl, x, dx, _, rfl, hx11.ins, x, dx, st, mt, ft, us, z, n, ps, qs, rfl, hx11, ⟨by omega, by omega⟩, hz, hsq, by omega, fun H12 s12 => ⟨_, rfl, ?_⟩⟩
    have qq := q H12 (s15.trans (s56.trans (s7.trans (s8.trans (s9.trans (s10.trans (s11.trans s12)))))))
    rw [eqo]
    refine ⟨rfl, ?_⟩
    have eb : decide (V.str (skT z n qs) = V.str (skT z n qs)) = true := decide_eq_true rfl
    first
      | (rw [eb]; exact qq)
      | exact eb ▸ qq
theorem has_law_mirrored_right (Tx : Txt K mg) (c : He.SaysX fa fn [] tf ex w hh K) (X : K.In hh) (GG : hh.Ns mainGlobals mg) (h_Skin_mirrored : HasM P w K mg base (L2.CX P w) "Skin" "mirrored" 7 ["self"] (sp_Skin_mirrored K)) (h_law_tells_right : Has P w K mg base "_law_tells_right" 5 ["_law_skin", "_law_kind", "_law_faces", "_law_pairs_here"] (sp_law_tells_right K)) (h_Skin_init : HasI P w K mg base 5 (sp_Skin_init K)) (h_Skin_str : HasM P w K mg base CX0 "Skin" "__str__" 2 ["self"] (sp_Skin_str K)) (h_Skin_eq : HasM P w K mg base CX0 "Skin" "__eq__" 1 ["self", "other"] (sp_Skin_eq K))   : Has P w K mg base "_law_mirrored_right" 8 ["_law_skin", "_law_kind", "_law_faces", "_law_pairs_here"] (sp_law_mirrored_right K) := by
  obtain ⟨fd, F⟩ := c.t.d.def_ 45 (d := d_law_mirrored_right) rfl
  exact ⟨_, fd, ok_law_mirrored_right F Tx h_Skin_mirrored h_law_tells_right h_Skin_init h_Skin_str h_Skin_eq, He.glo_ok X GG (c.t.d.fact 38 (f := .glo "_law_mirrored_right") rfl), F.kp, F.bindsN fun _ _ _ _ _ _ us hl => match us, hl with | [_, _, _, _], _ => rfl⟩

end
end K04

namespace K04
open PySem PySem.Spec PyProof.Rows L2 Vf LamX
section
variable {hh : Heap} {P : Program} {w : World} {K : PySem.W.Frag} {mg : Str → Option Value} {base : Heap}
/-! ### a skin is unlike what is told otherwise -/
def rNotInTD (K : PySem.W.Frag) : R2 := fun x y H Q => ∃ d ds, Dp K H x d ∧ Dp K H y (.tuple ds) ∧ SeqAt.shaped d = true ∧ SeqAt.shaped (.tuple ds) = true ∧ Q (.bl (!ds.any fun z => PyData.eqv z d)) H
theorem op_notInTDK {X : Cx} (hK : X.K = K) (hu : X.A.units + 65 < cLine) : OpR X (compareOp .NotIn) (rNotInTD K) := by
  subst hK
  intro pins s σ H x y v u Q I rx ry h
  obtain ⟨d, ds, hd, he, sd, se, q⟩ := h
  obtain ⟨as, r1⟩ := Dp.reads I d x v hd rx
  obtain ⟨bs, r2⟩ := Dp.reads I (.tuple ds) y u he ry
  exact SeqAt.notIn_tuple_reads r2 r1 (SeqAt.canLay_of_shaped se) (SeqAt.canLay_of_shaped sd) (room_in_shaped sd hu) ⟨.bl _, H, I, rfl, q⟩
/-! what the pen leaves alone -/
theorem kp_hard {H H' : Hp} {p c a : Addr} {b : Nat} {o : HO} (hp : PenAt H p c b) (k : Kp p H H') (h : H a = some o) (no : ∀ xs, o ≠ .lst xs) : H' a = some o := by
  refine k a o (fun e => ?_) h
  subst e
  obtain ⟨xs, hx⟩ := hp.at
  exact no xs (Option.some.inj (h.symm.trans hx))
theorem Seams.kp {H H' : Hp} {p c : Addr} {b : Nat} {ts : List Addr} {ps : List (Int × Int)} (h : Seams H ts ps) (hp : PenAt H p c b) (k : Kp p H H') : Seams H' ts ps :=
  ⟨h.len, fun i t q h1 h2 => kp_hard hp k (h.at_ i t q h1 h2) (fun _ z => nomatch z)⟩
theorem SkinAt.kp {H H' : Hp} {p c x : Addr} {b : Nat} {z : Str} {n : Int} {ps : List (Int × Int)} (h : SkinAt K H x z n ps) (hp : PenAt H p c b) (k : Kp p H H') : SkinAt K H' x z n ps := by
  obtain ⟨dx, st, mt, ft, us, qs, h⟩ := h
  exact ⟨dx, st, mt, ft, us, qs, ⟨h.nb, kp_hard hp k h.ins (fun _ z => nomatch z), kp_hard hp k h.nexts (fun _ z => nomatch z), kp_hard hp k h.backs (fun _ z => nomatch z)⟩, kp_hard hp k h.seams (fun _ z => nomatch z), h.sts.kp hp k, h.perm, h.srtd, kp_hard hp k h.mates (fun _ z => nomatch z), kp_hard hp k h.free (fun _ z => nomatch z)⟩
theorem SkinAt.same {H H' : Hp} {x : Addr} {z : Str} {n : Int} {ps : List (Int × Int)} (h : SkinAt K H x z n ps) (s : Same H H') : SkinAt K H' x z n ps := by
  obtain ⟨dx, st, mt, ft, us, qs, h⟩ := h
  exact ⟨dx, st, mt, ft, us, qs, h.same s⟩
/-! a skin made, two skins compared -/
theorem mk_skin {H : Hp} {z : Str} {n : Int} {a : Addr} {ts : List Addr} {ps : List (Int × Int)} {E : XK} {w dw : Addr} {R : Hp → Prop} (hg : isGrid (.str z) = true) (n1 : 1 ≤ n) (n24 : n ≤ 24) (hb : SBox K H a (ts.map V.ref)) (hs : SeamsB H ts ps) (hok : ∀ p ∈ ps, Pok (n * turnOf z) p) (hl : ps.length ≤ 400) (htw : tw (flat2 ps) = none)
    (q : ∀ H', Same H H' → H w = none → SkinAt K H' w z n ps → R H') : H w = none → H dw = none → dw ≠ w → sp_Skin_init K [.ref w, .str z, .int n, .ref a] (upd (upd H dw (.own w)) w (.ins (He.ga K "Skin") dw [])) (fun v H2 => v = .non ∧ R H2) E := by
  intro nw ndw new
  have sY : Same H (upd (upd H dw (.own w)) w (.ins (He.ga K "Skin") dw [])) := (same_new (o := .own w) ndw).trans (same_new (o := .ins (He.ga K "Skin") dw []) (by rw [upd_ne new.symm]; exact nw))
  refine ⟨w, dw, _, _, _, .str, .int, rfl, upd_same, True.intro, True.intro, ?_⟩
  exact .made z n a ts ps rfl hg rfl n1 rfl (hb.same sY) (hs.same sY) hl hok (fun t ht => absurd (ht.symm.trans htw) (by simp)) (fun _ c => absurd c (by omega)) (fun _ _ H6 k6 hw => ⟨rfl, q H6 (same_made nw ndw new k6) nw hw⟩)
theorem seams_none {H : Hp} : SeamsB H [] [] := ⟨rfl, fun i t p h => by simp at h⟩
theorem rEq_skins {H : Hp} {x y : Addr} {z z' : Str} {n n' : Int} {ps ps' : List (Int × Int)} {Q : VK} {E : XK} (hx : SkinAt K H x z n ps) (hy : SkinAt K H y z' n' ps')
    (q : ∀ H', Same H H' → Q (.bl (decide (z = z' ∧ n = n' ∧ (ps.map srt).Perm (ps'.map srt)))) H') : rEqO K (He.ga K "Skin") (sp_Skin_eq K) E (.ref x) (.ref y) H Q := by
  obtain ⟨dx, st, mt, ft, us, qs, hx⟩ := hx
  obtain ⟨dy, st', mt', ft', us', qs', hy⟩ := hy
  refine ⟨x, dx, _, rfl, hx.ins, .own y dy _ hy.ins, x, .ref y, _, rfl, ⟨dx, st, mt, ft, us, z, n, ps, qs, hx, .inr ⟨y, dy, st', mt', ft', us', z', n', ps', qs', rfl, hy, rfl⟩⟩, fun H' s => ⟨_, rfl, ?_⟩⟩
  have e : (decide (z = z') && (decide (n = n') && decide (qs = qs'))) = decide (z = z' ∧ n = n' ∧ (ps.map srt).Perm (ps'.map srt)) := by
    have h1 : qs = qs' ↔ (ps.map srt).Perm (ps'.map srt) := ⟨fun e => hx.perm.symm.trans (e ▸ hy.perm), fun e => srt_uniq hx.srtd hy.srtd ((hx.perm.trans e).trans hy.perm.symm)⟩
    rw [Bool.eq_iff_iff]
    simp [h1]
  rw [e]
  exact q H' s
theorem rEq_other {H : Hp} {x : Addr} {y : V} {z : Str} {n : Int} {ps : List (Int × Int)} {Q : VK} {E : XK} {t : Value} (hx : SkinAt K H x z n ps) (hy : EqY K (He.ga K "Skin") H y) (ty : L2.TyX K H y t) (kn : PySem.W.kitOne K t (.ref (He.ga K "Skin")) = some false)
    (q : ∀ H', Same H H' → Q (.bl false) H') : rEqO K (He.ga K "Skin") (sp_Skin_eq K) E (.ref x) y H Q := by
  obtain ⟨dx, st, mt, ft, us, qs, hx⟩ := hx
  exact ⟨x, dx, _, rfl, hx.ins, hy, x, y, _, rfl, ⟨dx, st, mt, ft, us, z, n, ps, qs, hx, .inl ⟨t, ty, kn, rfl⟩⟩, fun H' s => ⟨_, rfl, q H' s⟩⟩
/-! the mathematics -/
theorem perm_len {ps qs : List (Int × Int)} (h : ps.length ≠ qs.length) : ¬ (ps.map srt).Perm (qs.map srt) := fun e => h (by have := e.length_eq; simpa using this)
theorem srt_eq {p q : Int × Int} (h : srt p = srt q) : p = q ∨ p = (q.2, q.1) := by
  obtain ⟨a, b⟩ := p
  obtain ⟨c, d⟩ := q
  have h1 := congrArg Prod.fst h
  have h2 := congrArg Prod.snd h
  simp only [srt] at h1 h2
  by_cases e1 : b < a <;> by_cases e2 : d < c <;> by_cases e3 : a < b <;> by_cases e4 : c < d <;> simp only [e1, e2, e3, e4, if_true, if_false] at h1 h2 <;> simp only [Prod.mk.injEq] <;> omega
theorem shaped_seamsL (qs : List (Int × Int)) : SeqAt.shaped (.list (qs.map pdt)) = true := by
  have h := shaped_seams qs
  unfold SeqAt.shaped at h ⊢
  simp only [PyData.canLay0, PyData.depth] at h ⊢
  exact h
theorem shaped_pdt (q : Int × Int) : SeqAt.shaped (pdt q) = true := by
  unfold SeqAt.shaped
  simp [PyData.canLay0, PyData.canLayAll0, PyData.depth, PyData.depthAll]
theorem tw_nodup {ns : List Int} (h : tw ns = none) : ns.Nodup := (twF_none ns [] h).1
theorem nodup_tw' {ns : List Int} (h : ns.Nodup) : tw ns = none := nodup_tw ns [] h fun x _ z => by cases z
theorem room65 {k : Nat} {A : Around} (r : Room k A) : A.units + 65 < cLine := by have := r.un; omega
theorem skin_small {z : Str} (hg : isGrid (.str z) = true) : z.length ≤ 100 := by
  have h0 := hg
  simp [isGrid, isS, inV] at h0
  rcases h0 with e | e <;> (simp [eqV] at e; subst e; decide +kernel)
/-- str of a skin that stands -/
theorem str_at {H : Hp} {x : Addr} {z : Str} {n : Int} {ps : List (Int × Int)} {R : Str → Hp → Prop} {E : XK} (hx : SkinAt K H x z n ps) (hg : isGrid (.str z) = true) (n1 : 1 ≤ n) (n24 : n ≤ 24) (hok : ∀ p ∈ ps, Pok (n * turnOf z) p) (hl : ps.length ≤ 400)
    (q : ∀ H' t, Same H H' → R t H') : ∃ (dx : Addr) (fs : List (Str × V)), H x = some (.ins (He.ga K "Skin") dx fs) ∧ sp_Skin_str K [.ref x] H (fun v H' => ∃ t, v = .str t ∧ R t H') E := by
  obtain ⟨dx, st, mt, ft, us, qs, hx⟩ := hx
  have tz := turn_in z
  have hN1 : n * turnOf z ≤ 96 := by rcases tz with e | e <;> rw [e] <;> omega
  have hsq : ∀ q ∈ qs, Small q.1 ∧ Small q.2 := fun q hq => by
    obtain ⟨p', hp', rfl⟩ := List.mem_map.mp (hx.perm.mem_iff.mp hq)
    obtain ⟨a0, a1, b0, b1, _⟩ := srt_ok (hok p' hp')
    exact ⟨⟨a0, by omega⟩, ⟨b0, by omega⟩⟩
  exact ⟨dx, _, hx.ins, x, dx, st, mt, ft, us, z, n, ps, qs, rfl, hx, ⟨by omega, by omega⟩, skin_small hg, hsq, by rw [hx.perm.length_eq, List.length_map]; exact hl, fun H' s => ⟨_, rfl, q H' _ s⟩⟩
theorem str_ins {H : Hp} {x : Addr} {z : Str} {n : Int} {ps : List (Int × Int)} (hx : SkinAt K H x z n ps) : ∃ (dx : Addr) (fs : List (Str × V)), H x = some (.ins (He.ga K "Skin") dx fs) := by
  obtain ⟨dx, st, mt, ft, us, qs, hx⟩ := hx
  exact ⟨dx, _, hx.ins⟩
theorem str_sp {H : Hp} {x : Addr} {z : Str} {n : Int} {ps : List (Int × Int)} {R : Str → Hp → Prop} {E : XK} (hx : SkinAt K H x z n ps) (hg : isGrid (.str z) = true) (n1 : 1 ≤ n) (n24 : n ≤ 24) (hok : ∀ p ∈ ps, Pok (n * turnOf z) p) (hl : ps.length ≤ 400)
    (q : ∀ H' t, Same H H' → R t H') : sp_Skin_str K [.ref x] H (fun v H' => ∃ t, v = .str t ∧ R t H') E := by
  obtain ⟨_, _, _, h⟩ := str_at (E := E) hx hg n1 n24 hok hl q
  exact h
theorem tC_of {v : V} {σ : L2.St} {H : Hp} {Q : VK} (h : Q v H) : tC v σ H Q := h
theorem msF_get {ms : List V} {p : Int × Int} {N : Nat} {i : Nat} (hp : Pok N p) (hm : ms.length = N) (h : (∃ j, ms[i]? = some (.int j)) ∨ (i : Int) = p.1 ∨ (i : Int) = p.2) : ∃ j, (msF ms p)[i]? = some (.int j) := by
  obtain ⟨a0, a1, b0, b1, ne⟩ := hp
  obtain ⟨x, hx⟩ := Int.eq_ofNat_of_zero_le a0
  obtain ⟨y, hy⟩ := Int.eq_ofNat_of_zero_le b0
  unfold msF
  rw [hx, hy, Int.toNat_natCast, Int.toNat_natCast, List.getElem?_set, List.getElem?_set]
  by_cases e1 : y = i
  · rw [if_pos e1, if_pos (by simp; omega)]
    exact ⟨_, rfl⟩
  · rw [if_neg e1]
    by_cases e2 : x = i
    · rw [if_pos e2, if_pos (by omega)]
      exact ⟨_, rfl⟩
    · rw [if_neg e2]
      rcases h with h | h | h
      · exact h
      · omega
      · omega
theorem foldl_get {N : Nat} {i : Nat} : ∀ {ps : List (Int × Int)} {ms : List V}, (∀ p ∈ ps, Pok N p) → ms.length = N → ((∃ j, ms[i]? = some (.int j)) ∨ (i : Int) ∈ flat2 ps) → ∃ j, (ps.foldl msF ms)[i]? = some (.int j)
  | [], ms, _, _, h => by
    rcases h with h | h
    · exact h
    · cases h
  | p :: ps, ms, hok, hm, h => by
    rw [List.foldl_cons]
    have hp := hok p (List.mem_cons_self ..)
    have hm' : (msF ms p).length = N := by rw [msF_len]; exact hm
    refine foldl_get (fun q hq => hok q (List.mem_cons_of_mem _ hq)) hm' ?_
    rcases h with h | h
    · exact .inl (msF_get hp hm (.inl h))
    · have h' : (i : Int) ∈ [p.1, p.2] ++ flat2 ps := h
      rcases List.mem_append.mp h' with h' | h'
      · simp only [List.mem_cons, List.not_mem_nil, or_false] at h'
        exact .inl (msF_get hp hm (.inr h'))
      · exact .inr h'
theorem free_not {N : Nat} {ps : List (Int × Int)} {i : Int} (hok : ∀ p ∈ ps, Pok N p) (h : i ∈ frL ps N) : 0 ≤ i ∧ i < N ∧ i ∉ flat2 ps := by
  unfold frL at h
  obtain ⟨j, hj, rfl⟩ := List.mem_map.mp h
  obtain ⟨h1, h2⟩ := List.mem_filter.mp hj
  have h3 := List.mem_range.mp h1
  have ej : Int.ofNat j = (j : Int) := rfl
  refine ⟨by omega, by omega, fun hm => ?_⟩
  obtain ⟨k, hk⟩ := foldl_get (N := N) (i := j) (ps := ps) (ms := List.replicate N .non) hok (by simp) (.inr hm)
  have hk' : (msL ps N)[j]? = some (.int k) := hk
  unfold freeB at h2
  rw [hk'] at h2
  cases h2
theorem frL_nodup (ps : List (Int × Int)) (N : Nat) : (frL ps N).Nodup := by
  unfold frL
  refine List.Pairwise.map (R := (· ≠ ·)) _ (fun a b (h : a ≠ b) e => h ?_) (List.Pairwise.filter (R := (· ≠ ·)) _ (List.nodup_range (n := N)))
  exact Int.ofNat.inj e
theorem ps_nodup : ∀ {ps : List (Int × Int)}, (flat2 ps).Nodup → ps.Nodup
  | [], _ => List.nodup_nil
  | p :: ps, h => by
    have h' : ([p.1, p.2] ++ flat2 ps).Nodup := h
    obtain ⟨_, h2, h3⟩ := List.nodup_append.mp h'
    refine List.nodup_cons.mpr ⟨fun hm => ?_, ps_nodup h2⟩
    exact h3 p.1 (by simp) p.1 (mem_flat2 hm).1 rfl
/-- a further seam of free sides -/
theorem more_ok {N : Nat} {ps : List (Int × Int)} {x y : Int} (hok : ∀ p ∈ ps, Pok N p) (htw : tw (flat2 ps) = none) (hx : x ∈ frL ps N) (hy : y ∈ frL ps N) (ne : x ≠ y) : (∀ p ∈ ps ++ [(x, y)], Pok N p) ∧ tw (flat2 (ps ++ [(x, y)])) = none := by
  obtain ⟨x0, x1, x2⟩ := free_not hok hx
  obtain ⟨y0, y1, y2⟩ := free_not hok hy
  refine ⟨fun p hp => ?_, nodup_tw' ?_⟩
  · rcases List.mem_append.mp hp with h | h
    · exact hok p h
    · rw [List.mem_singleton.mp h]
      exact ⟨x0, x1, y0, y1, ne⟩
  · rw [flat2_snoc]
    refine List.nodup_append.mpr ⟨tw_nodup htw, by simp [ne], fun a ha b hb => ?_⟩
    simp only [List.mem_cons, List.not_mem_nil, or_false] at hb
    rcases hb with rfl | rfl
    · exact fun e => x2 (e ▸ ha)
    · exact fun e => y2 (e ▸ ha)
/-- a seam left out -/
theorem flat2_app (ps qs : List (Int × Int)) : flat2 (ps ++ qs) = flat2 ps ++ flat2 qs := by
  unfold flat2
  rw [List.flatMap_append]
theorem flat2_sub {ps qs : List (Int × Int)} (h : ps.Sublist qs) : (flat2 ps).Sublist (flat2 qs) := by
  induction h with
  | slnil => exact List.Sublist.refl _
  | cons a _ ih => exact ih.trans (List.sublist_append_right [a.1, a.2] _)
  | cons_cons a _ ih => exact List.Sublist.append_left ih [a.1, a.2]
theorem less_ok {N : Int} {ps : List (Int × Int)} {k : Nat} (hok : ∀ p ∈ ps, Pok N p) (htw : tw (flat2 ps) = none) : (∀ p ∈ ps.take k ++ ps.drop (k + 1), Pok N p) ∧ tw (flat2 (ps.take k ++ ps.drop (k + 1))) = none := by
  refine ⟨fun p hp => ?_, nodup_tw' ?_⟩
  · rcases List.mem_append.mp hp with h | h
    · exact hok p (List.mem_of_mem_take h)
    · exact hok p (List.mem_of_mem_drop h)
  · have h := tw_nodup htw
    rw [← List.take_append_drop k ps, flat2_app] at h
    rw [flat2_app]
    refine h.sublist (List.Sublist.append_left ?_ _)
    unfold flat2
    have : (ps.drop (k + 1)).Sublist (ps.drop k) := by
      rw [← List.drop_drop]
      exact List.drop_sublist _ _
    exact flat2_sub this
/-- two seams exchanged -/
def restL (ps : List (Int × Int)) (A B : Int × Int) : List (Int × Int) := ps.filter fun q => !(decide (A = q) || decide (B = q))
theorem swap_perm {ps : List (Int × Int)} {A B : Int × Int} (hn : (flat2 ps).Nodup) (hA : A ∈ ps) (hB : B ∈ ps) (ne : A ≠ B) : ps.Perm (A :: B :: restL ps A B) := by
  have hps := ps_nodup hn
  refine (List.perm_ext_iff_of_nodup hps ?_).mpr fun q => ?_
  · refine List.nodup_cons.mpr ⟨?_, List.nodup_cons.mpr ⟨?_, List.Pairwise.filter _ hps⟩⟩
    · simp [restL, ne]
    · simp [restL]
  · simp only [restL, List.mem_cons, List.mem_filter]
    constructor
    · intro h
      by_cases e1 : q = A
      · exact .inl e1
      · by_cases e2 : q = B
        · exact .inr (.inl e2)
        · exact .inr (.inr ⟨h, by simp [Ne.symm e1, Ne.symm e2]⟩)
    · rintro (rfl | rfl | h)
      · exact hA
      · exact hB
      · exact h.1
theorem swap_ok {N : Int} {ps : List (Int × Int)} {A B : Int × Int} (hok : ∀ p ∈ ps, Pok N p) (htw : tw (flat2 ps) = none) (hA : A ∈ ps) (hB : B ∈ ps) (ne : A ≠ B) :
    (∀ p ∈ restL ps A B ++ [(A.1, B.1), (A.2, B.2)], Pok N p) ∧ tw (flat2 (restL ps A B ++ [(A.1, B.1), (A.2, B.2)])) = none ∧ ¬ (ps.map srt).Perm ((restL ps A B ++ [(A.1, B.1), (A.2, B.2)]).map srt) := by
  have hn := tw_nodup htw
  have hap := apart2 hn
  have hAB : A.1 ≠ B.1 ∧ A.1 ≠ B.2 ∧ A.2 ≠ B.1 ∧ A.2 ≠ B.2 := (hap A hA B hB).resolve_left ne
  obtain ⟨a0, a1, a2, a3, a4⟩ := hok A hA
  obtain ⟨b0, b1, b2, b3, b4⟩ := hok B hB
  refine ⟨fun p hp => ?_, nodup_tw' ?_, fun hperm => ?_⟩
  · rcases List.mem_append.mp hp with h | h
    · exact hok p (List.mem_filter.mp h).1
    · simp only [List.mem_cons, List.not_mem_nil, or_false] at h
      rcases h with rfl | rfl
      · exact ⟨a0, a1, b0, b1, hAB.1⟩
      · exact ⟨a2, a3, b2, b3, hAB.2.2.2⟩
  · have h1 := (flat2_perm (swap_perm hn hA hB ne)).nodup_iff.mp hn
    refine (List.Perm.nodup_iff ?_).mp h1
    rw [flat2_app]
    have e1 : flat2 (A :: B :: restL ps A B) = [A.1, A.2, B.1, B.2] ++ flat2 (restL ps A B) := rfl
    have e2 : flat2 [(A.1, B.1), (A.2, B.2)] = [A.1, B.1, A.2, B.2] := rfl
    rw [e1, e2]
    refine List.perm_append_comm.trans (List.Perm.append_left _ ?_)
    exact (List.Perm.swap B.1 A.2 [B.2]).cons A.1
  · have hm : srt (A.1, B.1) ∈ ps.map srt := hperm.mem_iff.mpr (List.mem_map_of_mem (List.mem_append_right _ (by simp)))
    obtain ⟨q, hq, e⟩ := List.mem_map.mp hm
    rcases srt_eq e with e | e
    · have h1 := hap q hq A hA
      rw [e] at h1
      rcases h1 with h1 | h1
      · exact hAB.2.2.1 (by rw [← h1])
      · exact h1.1 rfl
    · have h1 := hap q hq A hA
      rw [e] at h1
      rcases h1 with h1 | h1
      · exact hAB.1 (by rw [← h1])
      · exact h1.2.2.1 rfl
/-- told the other way about -/
theorem srt_rev (ps : List (Int × Int)) : (ps.map fun p => (p.2, p.1)).map srt = ps.map srt := by
  rw [List.map_map]
  exact List.map_congr_left fun p _ => srt_swap p.2 p.1
theorem rev_ok {N : Int} {ps : List (Int × Int)} (hok : ∀ p ∈ ps, Pok N p) (htw : tw (flat2 ps) = none) : (∀ p ∈ ps.map fun p => (p.2, p.1), Pok N p) ∧ tw (flat2 (ps.map fun p => (p.2, p.1))) = none := by
  have h1 : ∀ p ∈ ps.map fun p => (p.2, p.1), Pok N p := fun p hp => by
    obtain ⟨q, hq, rfl⟩ := List.mem_map.mp hp
    obtain ⟨a0, a1, a2, a3, a4⟩ := hok q hq
    exact ⟨a2, a3, a0, a1, a4.symm⟩
  refine ⟨h1, nodup_tw' ?_⟩
  have h2 := flat2_srt h1
  rw [srt_rev] at h2
  exact (h2.symm.trans (flat2_srt hok)).nodup_iff.mpr (tw_nodup htw)
theorem bwd_ok {N : Int} {ps : List (Int × Int)} (hok : ∀ p ∈ ps, Pok N p) (htw : tw (flat2 ps) = none) : (∀ p ∈ ps.reverse, Pok N p) ∧ tw (flat2 ps.reverse) = none :=
  ⟨fun p hp => hok p (List.mem_reverse.mp hp), nodup_tw' ((flat2_perm (List.reverse_perm ps)).nodup_iff.mpr (tw_nodup htw))⟩
/-- slices of pairs -/
theorem SeamsB.take {H : Hp} {ts : List Addr} {ps : List (Int × Int)} (h : SeamsB H ts ps) (k : Nat) : SeamsB H (ts.take k) (ps.take k) :=
  ⟨by rw [List.length_take, List.length_take, h.len], fun i t p h1 h2 => by
    by_cases hi : i < k
    · rw [List.getElem?_take_of_lt hi] at h1 h2
      exact h.at_ i t p h1 h2
    · rw [List.getElem?_take_eq_none (by omega)] at h1
      cases h1⟩
theorem SeamsB.drop {H : Hp} {ts : List Addr} {ps : List (Int × Int)} (h : SeamsB H ts ps) (k : Nat) : SeamsB H (ts.drop k) (ps.drop k) :=
  ⟨by rw [List.length_drop, List.length_drop, h.len], fun i t p h1 h2 => by
    rw [List.getElem?_drop] at h1 h2
    exact h.at_ _ t p h1 h2⟩
theorem SeamsB.reverse {H : Hp} {ts : List Addr} {ps : List (Int × Int)} (h : SeamsB H ts ps) : SeamsB H ts.reverse ps.reverse :=
  ⟨by rw [List.length_reverse, List.length_reverse, h.len], fun i t p h1 h2 => by
    by_cases hi : i < ts.length
    · rw [List.getElem?_reverse hi] at h1
      rw [List.getElem?_reverse (by rw [← h.len]; exact hi), ← h.len] at h2
      exact h.at_ _ t p h1 h2
    · rw [List.getElem?_eq_none (by simp; omega)] at h1
      cases h1⟩
theorem cutV_lo {xs : List V} {k : Nat} (h : k ≤ xs.length) : cutV xs none (some (k : Int)) = xs.take k := by
  unfold cutV
  rw [HT.sIx_nat, HT.sIx_none, Nat.min_eq_left h, Nat.sub_zero, List.drop_zero]
theorem cutV_hi {xs : List V} {k : Nat} (h : k ≤ xs.length) : cutV xs (some (k : Int)) none = xs.drop k := by
  unfold cutV
  rw [HT.sIx_nat, HT.sIx_none, Nat.min_eq_left h, List.take_of_length_le (by simp)]
theorem seams_one {H : Hp} {T : Addr} {p : Int × Int} (h : Pr2 H T p) : SeamsB H [T] [p] := ⟨rfl, fun i t q h1 h2 => by
  match i, h1, h2 with
  | 0, h1, h2 =>
    cases h1
    cases h2
    exact h⟩

end
end K04

namespace K04
open PySem PySem.Spec PyProof.Rows L2 Vf LamX
section
variable {hh : Heap} {P : Program} {w : World} {K : PySem.W.Frag} {mg : Str → Option Value} {base : Heap}
def sp_law_unlike_right (K : PySem.W.Frag) : Sp := fun vs H Q _ => ∃ (p c x a : Addr) (b : Nat) (z : Str) (n : Int) (ts : List Addr) (ps : List (Int × Int)), vs = [.ref p, .ref x, .str z, .int n, .ref a] ∧ PenAt H p c (b + 3) ∧ SkinAt K H x z n ps ∧ isGrid (.str z) = true ∧ 1 ≤ n ∧ n ≤ 23 ∧ H a = some (.lst (ts.map V.ref)) ∧ Seams H ts ps ∧ (∀ p ∈ ps, Pok (n * turnOf z) p) ∧ ps.length ≤ 100 ∧ tw (flat2 ps) = none ∧ ∀ H', Kp p H H' → PenAt H' p c b → Q (.bl true) H'
theorem sc_law_unlike_right : FnScope ["_law_pen_here", "_law_skin", "_law_kind", "_law_faces", "_law_pairs_here", "_law_other", "_law_turn", "_law_free", "_law_one", "_law_at", "_law_two", "_law_three", "_law_four", "_law_rest", "_law_side", "_law_pair"] ["_law_pen_here", "_law_skin", "_law_kind", "_law_faces", "_law_pairs_here"] (defScope s_law_unlike_right) := ⟨rfl, rfl, rfl, by decide +kernel, rfl, by decide +kernel, by decide +kernel⟩
theorem ok_law_unlike_right {f : Addr} {fd : FuncData} (F : FunD K "_law_unlike_right" "_law_unlike_right" (defArgs s_law_unlike_right) (defBody s_law_unlike_right) (defScope s_law_unlike_right) [] [] f fd) (Tx : Txt K mg) (h_Skin_init : HasI P w K mg base 5 (sp_Skin_init K)) (h_Skin_str : HasM P w K mg base CX0 "Skin" "__str__" 2 ["self"] (sp_Skin_str K)) (h_law_mates : Has P w K mg base "_law_mates" 1 ["_law_pairs_here"] (sp_law_mates K)) (h_law_draw : Has P w K mg base "_law_draw" 1 ["_law_pen_here", "_law_many"] sp_law_draw) (h_law_pick : Has P w K mg base "_law_pick" 2 ["_law_pen_here", "_law_some"] (sp_law_pick K)) (h_Skin_eq : HasM P w K mg base CX0 "Skin" "__eq__" 1 ["self", "other"] (sp_Skin_eq K))   : FnOk P w K mg base CX0 7 f fd ["_law_pen_here", "_law_skin", "_law_kind", "_law_faces", "_law_pairs_here"] (sp_law_unlike_right K) := by
  obtain ⟨fd_Skin_init, G_Skin_init, b_Skin_init, ⟨ds2_Skin_init, v2_Skin_init, b2_Skin_init⟩, ⟨ds1_Skin_init, kb_Skin_init_kind_faces⟩, ⟨dd1_Skin_init, kb_Skin_init_seams_faces_kind⟩⟩ := h_Skin_init
  obtain ⟨fd_Skin_str, G_Skin_str, b_Skin_str⟩ := h_Skin_str
  obtain ⟨f_law_mates, fd_law_mates, G_law_mates, g_law_mates, k_law_mates, b_law_mates⟩ := h_law_mates
  obtain ⟨f_law_draw, fd_law_draw, G_law_draw, g_law_draw, k_law_draw, b_law_draw⟩ := h_law_draw
  obtain ⟨f_law_pick, fd_law_pick, G_law_pick, g_law_pick, k_law_pick, b_law_pick⟩ := h_law_pick
  obtain ⟨fd_Skin_eq, G_Skin_eq, b_Skin_eq⟩ := h_Skin_eq
  refine FunD.ok F sc_law_unlike_right (fun vs H Q E h => ?_) (fun cdv A outer s H vs Q E hr h => ?_)
  · obtain ⟨p, c, x, a, b, z, n, ts, ps, rfl, _⟩ := h
    rfl
  · obtain ⟨p, c, x, a, b, z, n, ts, ps, rfl, hp, hx, hg, n1, n23, ha, hs, hok, hl, htw, q⟩ := h
    refine ⟨_, PSs.nox (C8.pss_cut (ps_set (i := 5) sc_law_unlike_right.nd rfl (Or.inl rfl) (pe_ifExp (pt_cmpR op_eq (pv 2) pe_str (nomark _)) pe_str pe_str))
        (C8.pss_cut (ps_set (i := 6) sc_law_unlike_right.nd rfl (Or.inl rfl) (pe_ifExp (pt_cmpR op_eq (pv 2) pe_str (nomark _)) pe_int pe_int))
        (C8.pss_cut (ps_if (PW.pt (pw_or (pt_cmpR (op_eqO G_Skin_eq (hr.mono (by decide)) Tx.me_Skin_eq.1 Tx.me_Skin_eq.2 b_Skin_eq pass0) (pv 1) (pe_make Tx.mk_Skin G_Skin_init (hr.mono (by decide)) (by rfl) Tx.g_Skin b_Skin_init .nil passN (pa_cons (pv 2) (pa_cons (pe_op op_add (pv 3) pe_int) (pa_cons (pv 4) pa_nil)))) (nomark _)) (pw_or (pt_cmpR (op_eqO G_Skin_eq (hr.mono (by decide)) Tx.me_Skin_eq.1 Tx.me_Skin_eq.2 b_Skin_eq pass0) (pv 1) (pe_callTy (call_strO Tx.me_Skin_str G_Skin_str b_Skin_str (hr.mono (by decide))) (by rfl) Tx.n_str (by decide +kernel) (pa_cons (pv 1) pa_nil)) (nomark _)) (pw_or (pt_cmpR (op_eqO G_Skin_eq (hr.mono (by decide)) Tx.me_Skin_eq.1 Tx.me_Skin_eq.2 b_Skin_eq pass0) (pv 1) (pv 4) (nomark _)) (pw_or1 (pt_cmpR (op_eqO G_Skin_eq (hr.mono (by decide)) Tx.me_Skin_eq.1 Tx.me_Skin_eq.2 b_Skin_eq pass0) (pv 1) pe_int (nomark _))))))) (pss_one (ps_ret pe_bl)) pss_nil)
        (C8.pss_cut (ps_if (PW.pt (pw_or (pt_cmpR (op_eqO G_Skin_eq (hr.mono (by decide)) Tx.me_Skin_eq.1 Tx.me_Skin_eq.2 b_Skin_eq pass0) (pe_make Tx.mk_Skin G_Skin_init (hr.mono (by decide)) (by rfl) Tx.g_Skin b2_Skin_init v2_Skin_init passN (pa_cons (pv 2) (pa_cons (pv 3) pa_nil))) (pe_make Tx.mk_Skin G_Skin_init (hr.mono (by decide)) (by rfl) Tx.g_Skin b2_Skin_init v2_Skin_init passN (pa_cons (pv 5) (pa_cons (pv 3) pa_nil))) (nomark _)) (pw_or1 (pt_cmpR op_ne (pe_cmpR (op_eqO G_Skin_eq (hr.mono (by decide)) Tx.me_Skin_eq.1 Tx.me_Skin_eq.2 b_Skin_eq pass0) (pv 1) (pe_makeK0 Tx.mk_Skin G_Skin_init (hr.mono (by decide)) (by rfl) Tx.g_Skin kb_Skin_init_kind_faces passN (pk_cons (pv 2) (pk_cons (pv 3) pk_nil))) (nomark _)) (pe_cmpR (op_eqNil hr.units0) (pv 4) (pe_lst pa_nil) (nomark _)) (nomark _))))) (pss_one (ps_ret pe_bl)) pss_nil)
        (C8.pss_cut (ps_setLc (i := 7) (own := [("_law_side", 14)]) (g := gName 14) rfl sc_law_unlike_right.nd rfl rfl (sw_true rfl rfl rfl (by decide +kernel)) (pi_range1 (by rfl) Tx.n_range (pa_cons (pe_op op_mul (pv 3) (pv 6)) pa_nil)) (blkOk_by (own := [("_law_side", 14)]) (N := ["_law_pen_here", "_law_skin", "_law_kind", "_law_faces", "_law_pairs_here", "_law_other", "_law_turn", "_law_free", "_law_one", "_law_at", "_law_two", "_law_three", "_law_four", "_law_rest", "_law_side", "_law_pair"]) (sc := defScope s_law_unlike_right) (by decide +kernel)) (fun _ _ _ _ _ => (pg_name (i := 14) sc_law_unlike_right.nd rfl (Or.inl rfl))) (fun _ _ _ _ _ => (pts_one (pt_cmp (pc_dnotin (un1 hr.units) (pv 14) (pe_call G_law_mates (hr.mono (by decide)) (by rfl) g_law_mates k_law_mates b_law_mates .nil pass0 (pa_cons (pv 4) pa_nil)))))) (fun _ _ _ _ _ => (pv 14)))
        (C8.pss_cut (ps_if (pt_cmpR op_gt (pe_callB call_len_seq (by rfl) Tx.n_len (by decide +kernel) (pa_cons (pv 7) pa_nil)) pe_int (nomark _)) (pss_cons (ps_set (i := 8) sc_law_unlike_right.nd rfl (Or.inl rfl) (pe_bm PySem.F.plainAttrs_list PySem.F.slot_list_pop PySem.F.type_list_pop mt_popAt (pv 7) (pa_cons (pe_call G_law_draw (hr.mono (by decide)) (by rfl) g_law_draw k_law_draw b_law_draw .nil pass0 (pa_cons (pv 0) (pa_cons (pe_callB call_len_seq (by rfl) Tx.n_len (by decide +kernel) (pa_cons (pv 7) pa_nil)) pa_nil))) pa_nil)))
        (pss_one (ps_if (pt_cmpR (op_eqO G_Skin_eq (hr.mono (by decide)) Tx.me_Skin_eq.1 Tx.me_Skin_eq.2 b_Skin_eq pass0) (pv 1) (pe_make Tx.mk_Skin G_Skin_init (hr.mono (by decide)) (by rfl) Tx.g_Skin b_Skin_init .nil passN (pa_cons (pv 2) (pa_cons (pv 3) (pa_cons (pe_op op_cat (pv 4) (pe_lst (pa_cons (pe_tup (pa_cons (pv 8) (pa_cons (pe_call G_law_pick (hr.mono (by decide)) (by rfl) g_law_pick k_law_pick b_law_pick .nil pass0 (pa_cons (pv 0) (pa_cons (pv 7) pa_nil))) pa_nil))) pa_nil))) pa_nil)))) (nomark _)) (pss_one (ps_ret pe_bl)) pss_nil))) pss_nil)
        (C8.pss_cut (ps_if (pt_cmpR (op_neD hr.units) (pv 4) (pe_lst pa_nil) (nomark _)) (pss_cons (ps_set (i := 9) sc_law_unlike_right.nd rfl (Or.inr rfl) (pe_call G_law_draw (hr.mono (by decide)) (by rfl) g_law_draw k_law_draw b_law_draw .nil pass0 (pa_cons (pv 0) (pa_cons (pe_callB call_len_seq (by rfl) Tx.n_len (by decide +kernel) (pa_cons (pv 4) pa_nil)) pa_nil))))
        (C8.pss_cut (ps_if (pt_cmpR (op_eqO G_Skin_eq (hr.mono (by decide)) Tx.me_Skin_eq.1 Tx.me_Skin_eq.2 b_Skin_eq pass0) (pv 1) (pe_make Tx.mk_Skin G_Skin_init (hr.mono (by decide)) (by rfl) Tx.g_Skin b_Skin_init .nil passN (pa_cons (pv 2) (pa_cons (pv 3) (pa_cons (pe_op op_cat (pe_slice sl_list (pv 4) po_none (po_some (pv 9))) (pe_slice sl_list (pv 4) (po_some (pe_op op_add (pv 9) pe_int)) po_none)) pa_nil)))) (nomark _)) (pss_one (ps_ret pe_bl)) pss_nil)
        (pss_one (ps_if (pt_cmpR op_gt (pe_callB call_len_seq (by rfl) Tx.n_len (by decide +kernel) (pa_cons (pv 4) pa_nil)) pe_int (nomark _)) (pss_cons (ps_asg (pe_tup (pa_cons (pe_ix ix_list (pv 4) (pe_op op_sub (pv 9) pe_int) (fun _ _ => rfl)) (pa_cons (pe_ix ix_list (pv 4) (pv 9) (fun _ _ => rfl)) pa_nil))) (pg_tup (by rfl) (pgs_cons (pg_tup (by rfl) (pgs_cons (pg_name (i := 8) sc_law_unlike_right.nd rfl (Or.inl rfl)) (pgs_cons (pg_name (i := 10) sc_law_unlike_right.nd rfl (Or.inl rfl)) pgs_nil))) (pgs_cons (pg_tup (by rfl) (pgs_cons (pg_name (i := 11) sc_law_unlike_right.nd rfl (Or.inl rfl)) (pgs_cons (pg_name (i := 12) sc_law_unlike_right.nd rfl (Or.inl rfl)) pgs_nil))) pgs_nil))))
        (pss_cons (ps_setLc (i := 13) (own := [("_law_pair", 15)]) (g := gName 15) rfl sc_law_unlike_right.nd rfl rfl (sw_true rfl rfl rfl (by decide +kernel)) (pi_list (pv 4)) (blkOk_by (own := [("_law_pair", 15)]) (N := ["_law_pen_here", "_law_skin", "_law_kind", "_law_faces", "_law_pairs_here", "_law_other", "_law_turn", "_law_free", "_law_one", "_law_at", "_law_two", "_law_three", "_law_four", "_law_rest", "_law_side", "_law_pair"]) (sc := defScope s_law_unlike_right) (by decide +kernel)) (fun _ _ _ _ _ => (pg_name (i := 15) sc_law_unlike_right.nd rfl (Or.inl rfl))) (fun _ _ _ _ _ => (pts_one (pt_cmpR (op_notInTDK (K := K) rfl (room65 hr)) (pv 15) (pe_tup (pa_cons (pe_ix (ix_listK (K := K) rfl) (pv 4) (pe_op op_sub (pv 9) pe_int) (fun _ _ => rfl)) (pa_cons (pe_ix (ix_listK (K := K) rfl) (pv 4) (pv 9) (fun _ _ => rfl)) pa_nil))) rfl))) (fun _ _ _ _ _ => (pv 15)))
        (pss_one (ps_if (pt_cmpR (op_eqO G_Skin_eq (hr.mono (by decide)) Tx.me_Skin_eq.1 Tx.me_Skin_eq.2 b_Skin_eq pass0) (pv 1) (pe_make Tx.mk_Skin G_Skin_init (hr.mono (by decide)) (by rfl) Tx.g_Skin b_Skin_init .nil passN (pa_cons (pv 2) (pa_cons (pv 3) (pa_cons (pe_op op_cat (pv 13) (pe_lst (pa_cons (pe_tup (pa_cons (pv 8) (pa_cons (pv 11) pa_nil))) (pa_cons (pe_tup (pa_cons (pv 10) (pa_cons (pv 12) pa_nil))) pa_nil)))) pa_nil)))) (nomark _)) (pss_one (ps_ret pe_bl)) pss_nil)))) pss_nil)))) pss_nil)
        (pss_one (ps_ret (pe_and (pe_cmpR (op_eqO G_Skin_eq (hr.mono (by decide)) Tx.me_Skin_eq.1 Tx.me_Skin_eq.2 b_Skin_eq pass0) (pv 1) (pe_make Tx.mk_Skin G_Skin_init (hr.mono (by decide)) (by rfl) Tx.g_Skin b_Skin_init .nil passN (pa_cons (pv 2) (pa_cons (pv 3) (pa_cons (pe_revL (pv 4)) pa_nil)))) (nomark _)) (pe_one (pe_cmpR (op_eqO G_Skin_eq (hr.mono (by decide)) Tx.me_Skin_eq.1 Tx.me_Skin_eq.2 b_Skin_eq pass0) (pv 1) (pe_makeK0 Tx.mk_Skin G_Skin_init (hr.mono (by decide)) (by rfl) Tx.g_Skin kb_Skin_init_seams_faces_kind passN (pk_cons (pe_lc (own := [("_law_one", 8), ("_law_two", 10)]) (g := _) (tt := tYes) rfl sc_law_unlike_right.nd (pi_list (pv 4)) (blkOk_by (own := [("_law_one", 8), ("_law_two", 10)]) (N := ["_law_pen_here", "_law_skin", "_law_kind", "_law_faces", "_law_pairs_here", "_law_other", "_law_turn", "_law_free", "_law_one", "_law_at", "_law_two", "_law_three", "_law_four", "_law_rest", "_law_side", "_law_pair"]) (sc := defScope s_law_unlike_right) (by decide +kernel)) (fun _ _ _ _ _ => (pg_tupK (K := K) (n := 2) rfl rfl (pgs_cons (pg_name (i := 8) sc_law_unlike_right.nd rfl (Or.inl rfl)) (pgs_cons (pg_name (i := 10) sc_law_unlike_right.nd rfl (Or.inl rfl)) pgs_nil)))) (fun _ _ _ _ _ => pts_nil) (fun _ _ _ _ _ => (pe_tup (pa_cons (pv 10) (pa_cons (pv 8) pa_nil))))) (pk_cons (pv 3) (pk_cons (pv 2) pk_nil)))) (nomark _))))))))))))), ?_⟩
    have tz := turn_in z
    have hN0 : 0 ≤ n * turnOf z := by rcases tz with e | e <;> rw [e] <;> omega
    have hN1 : n * turnOf z ≤ 92 := by rcases tz with e | e <;> rw [e] <;> omega
    obtain ⟨N, hN⟩ := Int.eq_ofNat_of_zero_le hN0
    have nap : a ≠ p := refs_pen hp ha
    obtain ⟨z', hz', hg', zne⟩ : ∃ z' : Str, z' = (if z = "square" then ("triangle" : Str) else "square") ∧ isGrid (.str z') = true ∧ z ≠ z' := by
      refine ⟨_, rfl, ?_, ?_⟩
      · split
        · decide +kernel
        · decide +kernel
      · split
        · rename_i e
          rw [e]
          decide +kernel
        · rename_i e
          exact e
    refine ⟨fun σ H' => σ = [some (.ref p), some (.ref x), some (.str z), some (.int n), some (.ref a), some (.str z'), none, none, none, none, none, none, none, none, none, none] ∧ H' = H, ?_, ?_⟩
    · refine ⟨_, rfl, rfl, _, rfl, ite2 (fun e => ?_) (fun e => ?_)⟩
      · have ez : z = "square" := by injection (of_decide_eq_true e)
        exact ⟨by rw [hz', if_pos ez] <;> rfl, rfl⟩
      · have ez : ¬ z = "square" := fun ez => e (decide_eq_true (by rw [ez]))
        exact ⟨by rw [hz', if_neg ez] <;> rfl, rfl⟩
    rintro σ H1 ⟨rfl, rfl⟩
    refine ⟨fun σ H' => σ = [some (.ref p), some (.ref x), some (.str z), some (.int n), some (.ref a), some (.str z'), some (.int (turnOf z)), none, none, none, none, none, none, none, none, none] ∧ H' = H1, ?_, ?_⟩
    · refine ⟨_, rfl, rfl, _, rfl, ite2 (fun e => ?_) (fun e => ?_)⟩
      · have ez : z = "square" := by injection (of_decide_eq_true e)
        have et : turnOf z = 4 := by unfold turnOf; rw [if_pos ez]
        exact ⟨by rw [et] <;> rfl, rfl⟩
      · have et : turnOf z = 3 := by unfold turnOf; rw [if_neg (fun ez => e (decide_eq_true (by rw [ez])))]
        exact ⟨by rw [et] <;> rfl, rfl⟩
    rintro σ H2 ⟨rfl, rfl⟩
    -- more faces; its text; its pairs; 0
    refine ⟨fun σ H' => σ = [some (.ref p), some (.ref x), some (.str z), some (.int n), some (.ref a), some (.str z'), some (.int (turnOf z)), none, none, none, none, none, none, none, none, none] ∧ Same H2 H', ?_, ?_⟩
    · refine ⟨_, rfl, _, rfl, _, rfl, _, _, rfl, rfl, _, rfl, fun w dw => mk_skin (n := n + 1) hg (by omega) (by omega) (.inl ha) hs.b (fun p hp => ?_) (by omega) htw fun H4 s4 nw hw => ?_⟩
      · obtain ⟨a0, a1, b0, b1, ne⟩ := hok p hp
        have := Int.add_mul n 1 (turnOf z)
        exact ⟨a0, by rcases tz with e | e <;> rw [e] at a1 ⊢ <;> omega, b0, by rcases tz with e | e <;> rw [e] at b1 ⊢ <;> omega, ne⟩
      refine rEq_skins (hx.same s4) hw fun H5 s5 => ⟨_, rfl, ?_⟩
      rw [decide_eq_false (fun e => by have := e.2.1; omega)]
      refine iteF ?_
      have s45 := s4.trans s5
      obtain ⟨dx5, fs5, hx5⟩ := str_ins (hx.same s45)
      refine ⟨_, rfl, _, rfl, x, dx5, fs5, rfl, hx5, str_sp (hx.same s45) hg n1 (by omega) hok (by omega) fun H6 t s6 => ?_⟩
      have s46 := s45.trans s6
      refine rEq_other (hx.same s46) (.str t) (.base (.str _)) (kitN_of Tx.is_Skin (by simp)) fun H7 s7 => ⟨_, rfl, iteF ?_⟩
      have s47 := s46.trans s7
      refine ⟨_, rfl, _, rfl, rEq_other (hx.same s47) (.lst a _ (SqL.of (s47 _ _ ha))) (.base (.lst (s47 _ _ ha))) (kitN_of Tx.is_Skin (by simp)) fun H8 s8 => ⟨_, rfl, iteF ?_⟩⟩
      have s48 := s47.trans s8
      refine ⟨_, rfl, tC_of <| rEq_other (hx.same s48) (.int 0) (.base (.int _)) (kitN_of Tx.is_Skin (by simp)) fun H9 s9 => ⟨_, rfl, ?_⟩⟩
      exact iteF ⟨rfl, s48.trans s9⟩
    rintro σ H3 ⟨rfl, s3⟩
    -- the kind alone; no seams
    have okn : ∀ {z : Str}, ∀ q ∈ ([] : List (Int × Int)), Pok (n * turnOf z) q := fun q hq => by cases hq
    refine ⟨fun σ H' => σ = [some (.ref p), some (.ref x), some (.str z), some (.int n), some (.ref a), some (.str z'), some (.int (turnOf z)), none, none, none, none, none, none, none, none, none] ∧ Same H2 H', ?_, ?_⟩
    · refine ⟨_, rfl, _, rfl, fun w dw => mk_skin (ps := []) hg (by omega) (by omega) (.inr (.inr ⟨rfl, rfl⟩)) seams_none okn (by decide) rfl fun H4 s4 nw hw => ?_⟩
      refine ⟨_, rfl, _, rfl, fun w' dw => mk_skin (ps := []) hg' (by omega) (by omega) (.inr (.inr ⟨rfl, rfl⟩)) seams_none okn (by decide) rfl fun H5 s5 nw' hw' => ?_⟩
      refine rEq_skins (hw.same s5) hw' fun H6 s6 => ⟨_, rfl, ?_⟩
      rw [decide_eq_false (fun e => zne e.1)]
      refine iteF ?_
      have s36 := s4.trans (s5.trans s6)
      refine ⟨_, rfl, _, rfl, _, rfl, rfl, rfl, fun v dw => mk_skin (ps := []) hg (by omega) (by omega) (.inr (.inr ⟨rfl, rfl⟩)) seams_none okn (by decide) rfl fun H7 s7 nv hv => ?_⟩
      refine rEq_skins (hx.same (s3.trans (s36.trans s7))) hv fun H8 s8 => ?_
      have s38 := s36.trans (s7.trans s8)
      have ha8 := (s3.trans s38) _ _ ha
      refine ⟨_, rfl, Nat.zero_le _, fun T nT => ?_⟩
      have sT := same_new (o := .lst []) nT
      refine ⟨a, T, _, rfl, rfl, SqL.of (sT _ _ ha8), SqL.of upd_same, ?_⟩
      have e0 : decide (z = z ∧ n = n ∧ (List.map srt ps).Perm (List.map srt [])) = decide (ts.map V.ref = []) := by
        have hlen := hs.len
        cases ps with
        | nil =>
          cases ts with
          | nil => simp
          | cons t r => cases hlen
        | cons p r =>
          cases ts with
          | nil => cases hlen
          | cons t r => simp
      refine ⟨rfl, _, rfl, ite2 (fun e => ?_) (fun _ => ⟨rfl, (s3.trans s38).trans sT⟩)⟩
      rw [e0] at e
      simp at e
    rintro σ H4 ⟨rfl, s4⟩
    -- the free sides
    refine ⟨fun σ H' => ∃ fr : Addr, σ = [some (.ref p), some (.ref x), some (.str z), some (.int n), some (.ref a), some (.str z'), some (.int (turnOf z)), some (.ref fr), none, none, none, none, none, none, none, none] ∧ Same H2 H' ∧ H2 fr = none ∧ H' fr = some (.lst ((frL ps N).map V.int)), ?_, ?_⟩
    · have hNn : (n * turnOf z).toNat = N := by rw [hN]; rfl
      have ag : MtAg N (msL ps N) (mtD ps) := mtAg (by rw [← hN]; exact hok)
      have ha4 := s4 _ _ ha
      have hs4 := hs.same s4
      refine ⟨_, rfl, _, rfl, _, _, rfl, rfl, .inr ⟨by omega, by omega⟩, _, rfl, by omega, by omega, fun D nD => ?_⟩
      refine lc_pure ((walk_range (lo := 0) (n := (n * turnOf z).toNat)).mono (Y' := fun i H x H' => H' = H ∧ (rgL N)[i]? = some x) (fun _ h => h) (fun i H x H' hi _ y => ⟨y.1, by rw [y.2]; exact rgL_at (by omega)⟩)) (rgL N) (by rw [rgL_len, hNn]) (by rw [rgL_len]; omega) (fun i H x H' y => ⟨same_of_eq y.1, y.2⟩) (fun x => x) (keepF (msL ps N)) nD (fun _ _ => True.intro) (fun i v H5 Q1 Q0 hi s5 q1 q0 => ?_) (fun H5 s5 hD => ?_)
      · refine ⟨rfl, ?_⟩
        obtain ⟨iN, rfl⟩ := rgL_get hi
        have ek : keepF (msL ps N) (.int (i : Nat)) = !(valV (mtD ps) (.inl (i : Int))).isSome := by
          show freeB (msL ps N) (Int.toNat (i : Int)) = _
          rw [Int.toNat_natCast]
          exact ag.free iN
        refine ⟨_, rfl, _, rfl, a, ts, ps, rfl, s5 _ _ ha4, (hs4.same s5).b, by omega, fun H6 md s6 _ hmd => ?_⟩
        refine ⟨md, _, rfl, DGet.k (k := .inl (i : Int)) hmd, _, rfl, ite2 (fun e => ?_) (fun e => ?_)⟩
        · exact ⟨_, rfl, q1 (ek.trans e) _ s6⟩
        · exact q0 (ek.trans (Bool.eq_false_iff.mpr e)) _ s6
      · rw [List.map_id', rgL_keep] at hD
        exact ⟨D, rfl, s4.trans s5, s4.free nD, hD⟩
    rintro σ H5 ⟨fr, rfl, s5, frN, hfr⟩
    -- a further seam
    obtain ⟨frp, frc⟩ := hp.new frN
    have hokN : ∀ p ∈ ps, Pok N p := by rw [← hN]; exact hok
    refine ⟨fun σ H' => ∃ o8 : Option V, σ = [some (.ref p), some (.ref x), some (.str z), some (.int n), some (.ref a), some (.str z'), some (.int (turnOf z)), some (.ref fr), o8, none, none, none, none, none, none, none] ∧ Kp p H2 H' ∧ PenAt H' p c (b + 1), ?_, ?_⟩
    · have hp5 := hp.same s5
      have k5 : Kp p H2 H5 := Kp.same s5
      refine ⟨_, rfl, fr, _, rfl, .inl (SqL.of hfr), _, _, rfl, rfl, _, rfl, ite2 (fun e => ?_) (fun _ => ⟨none, rfl, k5, hp5.less (by omega)⟩)⟩
      have e1 : 1 < (frL ps N).length := by have := of_decide_eq_true e; rw [List.length_map] at this; omega
      have e2 : (frL ps N).length ≤ 100 := by
        unfold frL
        rw [List.length_map]
        refine Nat.le_trans (List.length_filter_le _ _) ?_
        rw [List.length_range]
        omega
      refine ⟨_, rfl, .inl ⟨rfl, _, SqL.of hfr⟩, _, rfl, _, rfl, fr, _, rfl, .inl (SqL.of hfr), p, c, _, b + 2, rfl, hp5, by rw [List.length_map]; omega, lt200 (by rw [List.length_map]; omega), fun H6 d hp6 k6 d0 d1 => ?_⟩
      have hfr6 := k6 _ _ frp hfr
      obtain ⟨i, rfl⟩ := Int.eq_ofNat_of_zero_le d0
      rw [List.length_map] at d1
      have hi : i < (frL ps N).length := by omega
      refine ⟨fr, _, _, i, .int (frL ps N)[i], rfl, rfl, hfr6, by omega, by omega, PySem.seqIndex_of (by omega) (by rw [List.length_map]; omega), by rw [List.getElem?_map, List.getElem?_eq_getElem hi]; rfl, ?_⟩
      have hp7 := hp6.mut frp frc (o := .lst (((frL ps N).map V.int).eraseIdx i))
      have k7 := (k5.trans k6).mut (o := .lst (((frL ps N).map V.int).eraseIdx i)) frN
      have hfr7 : upd H6 fr (.lst (((frL ps N).map V.int).eraseIdx i)) fr = some (.lst (((frL ps N).eraseIdx i).map V.int)) := by rw [upd_same, erase_map]
      revert hp7 k7 hfr7
      generalize upd H6 fr (.lst (((frL ps N).map V.int).eraseIdx i)) = H7
      intro hp7 k7 hfr7
      have hi2 : ((frL ps N).eraseIdx i).length = (frL ps N).length - 1 := List.length_eraseIdx_of_lt hi
      refine ⟨_, rfl, _, rfl, _, rfl, _, rfl, _, rfl, _, rfl, _, rfl, p, c, fr, b + 1, _, rfl, hp7, .inl hfr7, frp, ?_, by rw [List.length_map]; omega, fun H8 w hw hp8 k8 => ?_⟩
      · intro c
        have := congrArg List.length c
        rw [List.length_map, hi2] at this
        simp at this
        omega
      obtain ⟨y, hy, rfl⟩ := List.mem_map.mp hw
      have hperm : ((frL ps N)[i] :: (frL ps N).eraseIdx i).Perm (frL ps N) := erase_perm hi
      have hnd := hperm.symm.nodup (frL_nodup ps N)
      have hyf : y ∈ frL ps N := hperm.mem_iff.mp (List.mem_cons_of_mem _ hy)
      have hxy : (frL ps N)[i] ≠ y := fun e => (List.nodup_cons.mp hnd).1 (e ▸ hy)
      obtain ⟨mok, mtw⟩ := more_ok hokN htw (List.getElem_mem hi) hyf hxy
      rw [← hN] at mok
      have k8' := k7.trans k8
      refine ⟨le_line (n := 2) (by decide), fun T nT => ⟨le_line (n := 1) (by decide), fun L nL => ?_⟩⟩
      have sT := same_new (o := .tup [.int (frL ps N)[i], .int y]) nT
      have sL := same_new (o := .lst [.ref T]) nL
      refine ⟨a, L, _, _, rfl, rfl, sL _ _ (sT _ _ (k8' _ _ nap ha)), upd_same, le_line (by rw [List.length_map, hs.len]; simp; omega), fun S nS => ?_⟩
      have sS := same_new (o := .lst (ts.map V.ref ++ [.ref T])) nS
      refine fun w9 dw9 => mk_skin (ts := ts ++ [T]) (ps := ps ++ [((frL ps N)[i], y)]) hg n1 (by omega) (.inl (by rw [upd_same, List.map_append] <;> rfl)) ((((hs.kp hp k8').b.same sT).append (seams_one (.inl upd_same))).same (sL.trans sS)) mok (by simp; omega) mtw fun H9 s9 nw hw9 => ?_
      have sTS := (sT.trans (sL.trans sS)).trans s9
      refine rEq_skins ((hx.kp hp k8').same sTS) hw9 fun H10 s10 => ⟨_, rfl, ?_⟩
      rw [decide_eq_false (fun e => perm_len (by simp) e.2.2)]
      exact iteF ⟨_, rfl, k8'.trans (Kp.same (sTS.trans s10)), hp8.same (sTS.trans s10)⟩
    rintro σ H6 ⟨o8, rfl, k6, hp6⟩
    -- a seam left out; two exchanged
    refine ⟨fun σ H' => ∃ o8 o9 o10 o11 o12 o13 : Option V, σ = [some (.ref p), some (.ref x), some (.str z), some (.int n), some (.ref a), some (.str z'), some (.int (turnOf z)), some (.ref fr), o8, o9, o10, o11, o12, o13, none, none] ∧ Kp p H2 H' ∧ PenAt H' p c b, ?_, ?_⟩
    · have ha6 := k6 _ _ nap ha
      have hs6 := hs.kp hp k6
      refine ⟨_, rfl, Nat.zero_le _, fun U nU => ?_⟩
      have sU := same_new (o := .lst []) nU
      refine ⟨_, .list [], .lst (SqL.of (sU _ _ ha6)) (dpAll_seams (hs6.same sU)), .lst (SqL.of upd_same) .nil, shaped_seamsL _, by decide +kernel, _, rfl, ite2 (fun e => ?_) (fun _ => ⟨o8, none, none, none, none, none, rfl, k6.trans (Kp.same sU), (hp6.same sU).less (by omega)⟩)⟩
      have hne : ps ≠ [] := by
        rintro rfl
        simp [PyData.eqv, PyData.eqvAll] at e
      have hpos : 0 < ps.length := List.length_pos_iff.mpr hne
      have k7 := k6.trans (Kp.same sU)
      have hp7 := hp6.same sU
      have ha7 := k7 _ _ nap ha
      revert k7 hp7 ha7
      generalize upd H6 U (.lst []) = H7
      intro k7 hp7 ha7
      refine ⟨_, rfl, _, rfl, a, _, rfl, .inl (SqL.of ha7), p, c, _, b, rfl, hp7, by rw [List.length_map, hs.len]; omega, lt200 (by rw [List.length_map, hs.len]; omega), fun H8 d hp8 k8 d0 d1 => ?_⟩
      obtain ⟨i, rfl⟩ := Int.eq_ofNat_of_zero_le d0
      rw [List.length_map, hs.len] at d1
      have hi : i < ps.length := by omega
      have k28 := k7.trans k8
      let σ9 : L2.St := [some (.ref p), some (.ref x), some (.str z), some (.int n), some (.ref a), some (.str z'), some (.int (turnOf z)), some (.ref fr), o8, some (.int (i : Nat)), none, none, none, none, none, none]
      refine ⟨fun σ H' => σ = σ9 ∧ Kp p H2 H' ∧ PenAt H' p c b, ?_, ?_⟩
      · have ha8 := k28 _ _ nap ha
        have hs8 := hs.kp hp k28
        obtain ⟨lok, ltw⟩ := less_ok (k := i) hok htw
        refine ⟨_, rfl, _, rfl, _, rfl, _, rfl, _, rfl, _, rfl, a, _, rfl, SqL.of ha8, fun U nU => ?_⟩
        have sU := same_new (o := .lst (cutV (ts.map V.ref) none (some ((i : Nat) : Int)))) nU
        refine ⟨_, rfl, _, rfl, _, _, rfl, rfl, _, rfl, a, _, rfl, SqL.of (sU _ _ ha8), fun W nW => ?_⟩
        have sW := same_new (o := .lst (cutV (ts.map V.ref) (some (((i : Nat) : Int) + 1)) none)) nW
        have e1 : cutV (ts.map V.ref) none (some ((i : Nat) : Int)) = (ts.take i).map V.ref := by rw [cutV_lo (by rw [List.length_map, hs.len]; omega), List.map_take]
        have e2 : cutV (ts.map V.ref) (some (((i : Nat) : Int) + 1)) none = (ts.drop (i + 1)).map V.ref := by
          have := cutV_hi (xs := ts.map V.ref) (k := i + 1) (by rw [List.length_map, hs.len]; omega)
          rw [Int.natCast_add] at this
          rw [List.map_drop]
          exact this
        refine ⟨U, W, _, _, rfl, rfl, sW _ _ upd_same, upd_same, le_line (by rw [e1, e2]; simp; have := hs.len; omega), fun S nS => ?_⟩
        have sS := same_new (o := .lst (cutV (ts.map V.ref) none (some ((i : Nat) : Int)) ++ cutV (ts.map V.ref) (some (((i : Nat) : Int) + 1)) none)) nS
        refine fun w9 dw9 => mk_skin (ts := ts.take i ++ ts.drop (i + 1)) (ps := ps.take i ++ ps.drop (i + 1)) hg n1 (by omega) (.inl (by rw [upd_same, e1, e2, List.map_append])) (((hs8.b.take i).append (hs8.b.drop (i + 1))).same (sU.trans (sW.trans sS))) lok (by simp; omega) ltw fun H9 s9 nw hw9 => ?_
        have s89 := (sU.trans (sW.trans sS)).trans s9
        refine rEq_skins ((hx.kp hp k28).same s89) hw9 fun H10 s10 => ⟨_, rfl, ?_⟩
        rw [decide_eq_false (fun e => perm_len (by simp; omega) e.2.2)]
        exact iteF ⟨rfl, k28.trans (Kp.same (s89.trans s10)), hp8.same (s89.trans s10)⟩
      rintro σ H9 ⟨rfl, k9, hp9⟩
      have ha9 := k9 _ _ nap ha
      have hs9 := hs.kp hp k9
      refine ⟨_, rfl, a, _, rfl, .inl (SqL.of ha9), _, _, rfl, rfl, _, rfl, ite2 (fun e => ?_) (fun _ => ⟨o8, _, none, none, none, none, rfl, k9, hp9⟩)⟩
      have e1 : 1 < ps.length := by have := of_decide_eq_true e; rw [List.length_map, hs.len] at this; omega
      -- the two seams
      obtain ⟨A, tA, iA, hiA, hA, hatA⟩ : ∃ (A : Int × Int) (tA : Addr) (iA : Nat), iA ≠ i ∧ (ps[iA]? = some A ∧ ts[iA]? = some tA) ∧ atI (ts.map V.ref) (((i : Nat) : Int) - 1) = some (.ref tA) := by
        have hlen := hs.len
        by_cases h0 : i = 0
        · subst h0
          have h1 : ps.length - 1 < ps.length := by omega
          have h2 : ps.length - 1 < ts.length := by omega
          refine ⟨ps[ps.length - 1], ts[ps.length - 1], ps.length - 1, by omega, ⟨List.getElem?_eq_getElem h1, List.getElem?_eq_getElem h2⟩, ?_⟩
          have e5 : (ts.map V.ref) = (ts.map V.ref).take (ps.length - 1) ++ [V.ref ts[ps.length - 1]] := by
            rw [← List.map_take, ← List.map_singleton, ← List.map_append]
            congr 1
            have := List.take_append_getElem (l := ts) (i := ps.length - 1) (by omega)
            rw [this, List.take_of_length_le (by omega)]
          show atI (ts.map V.ref) (-1) = _
          rw [e5]
          exact atI_last _ _
        · have h1 : i - 1 < ps.length := by omega
          have h2 : i - 1 < ts.length := by omega
          refine ⟨ps[i - 1], ts[i - 1], i - 1, by omega, ⟨List.getElem?_eq_getElem h1, List.getElem?_eq_getElem h2⟩, ?_⟩
          have e5 : ((i : Nat) : Int) - 1 = ((i - 1 : Nat) : Int) := by omega
          rw [e5]
          exact atI_nat (by rw [List.getElem?_map, List.getElem?_eq_getElem h2]; rfl)
      obtain ⟨hA, htA⟩ := hA
      have hlen := hs.len
      have hiT : i < ts.length := by omega
      have hB : ps[i]? = some ps[i] := List.getElem?_eq_getElem hi
      have htB : ts[i]? = some ts[i] := List.getElem?_eq_getElem hiT
      have hatB : atI (ts.map V.ref) ((i : Nat) : Int) = some (.ref ts[i]) := atI_nat (by rw [List.getElem?_map, htB]; rfl)
      have mA : A ∈ ps := List.mem_of_getElem? hA
      have mB : ps[i] ∈ ps := List.getElem_mem hi
      have nAB : A ≠ ps[i] := fun e => by
        obtain ⟨hlA, eA⟩ := List.getElem?_eq_some_iff.mp hA
        have hnd := ps_nodup (tw_nodup htw)
        have pw := List.pairwise_iff_getElem.mp hnd
        rcases Nat.lt_or_gt_of_ne hiA with h | h
        · exact pw iA i hlA hi h (eA.trans e)
        · exact pw i iA hi hlA h (eA.trans e).symm
      obtain ⟨sok, stw, sper⟩ := swap_ok hok htw mA mB nAB
      have hTA := hs9.at_ _ _ _ htA hA
      have hTB := hs9.at_ _ _ _ htB hB
      refine ⟨_, rfl, _, rfl, _, _, rfl, rfl, a, _, _, _, rfl, rfl, SqL.of ha9, hatA, _, rfl, _, rfl, a, _, _, _, rfl, rfl, SqL.of ha9, hatB, le_line (n := 2) (by decide), fun T nT => ?_⟩
      have sT := same_new (o := .tup [.ref tA, .ref ts[i]]) nT
      refine ⟨T, _, rfl, SqT.of upd_same, rfl, _, _, rfl, tA, _, rfl, SqT.of (sT _ _ hTA), rfl, _, _, rfl, _, _, rfl, rfl, _, _, rfl, ts[i], _, rfl, SqT.of (sT _ _ hTB), rfl, _, _, rfl, _, _, rfl, rfl, rfl, ?_⟩
      have k10 := k9.trans (Kp.same sT)
      have hp10 := hp9.same sT
      revert k10 hp10
      generalize upd H9 T (.tup [.ref tA, .ref ts[i]]) = H10
      intro k10 hp10
      have ha10 := k10 _ _ nap ha
      have hs10 := hs.kp hp k10
      -- the others
      refine ⟨_, rfl, a, rfl, ⟨_, SqL.of ha10⟩, fun D nD => ?_⟩
      refine lc_it (walk_list (K := K) (a := a) (xs := ts.map V.ref)) (fun j H' => ∃ us : List Addr, Same H10 H' ∧ H' D = some (.lst (us.map V.ref)) ∧ SeamsB H' us (restL (ps.take j) A ps[i]) ∧ us.length ≤ j) ⟨[], same_new nD, upd_same, seams_none, Nat.zero_le _⟩ (fun j H' _ pp => by obtain ⟨_, s8, _⟩ := pp; exact SqL.of (s8 _ _ ha10)) (fun j v H' H'' hj pp y => ?_) (fun H' pp => ?_)
      · obtain ⟨us, s8, hD, hus, hul⟩ := pp
        obtain ⟨rfl, hv⟩ := y
        obtain ⟨t, pr, rfl, htt, hpr, htup⟩ := hs10.get hv
        have ha'' := s8 _ _ ha10
        have hs'' := hs10.same s8
        refine ⟨rfl, ?_⟩
        refine ⟨_, rfl, _, rfl, _, rfl, _, _, rfl, rfl, a, _, _, _, rfl, rfl, SqL.of ha'', hatA, _, rfl, _, rfl, a, _, _, _, rfl, rfl, SqL.of ha'', hatB, le_line (n := 2) (by decide), fun U nU => ?_⟩
        have sU := same_new (o := .tup [.ref tA, .ref ts[i]]) nU
        have hA' := (hs''.at_ _ _ _ htA hA)
        have hB' := (hs''.at_ _ _ _ htB hB)
        have dpA : Dp K (upd H'' U (.tup [.ref tA, .ref ts[i]])) (.ref tA) (pdt A) := .tup (SqT.of (sU _ _ hA')) (.cons (.int _) (.cons (.int _) .nil))
        have dpB : Dp K (upd H'' U (.tup [.ref tA, .ref ts[i]])) (.ref ts[i]) (pdt ps[i]) := .tup (SqT.of (sU _ _ hB')) (.cons (.int _) (.cons (.int _) .nil))
        have dpP : Dp K (upd H'' U (.tup [.ref tA, .ref ts[i]])) (.ref t) (pdt pr) := .tup (SqT.of (sU _ _ (s8 _ _ htup))) (.cons (.int _) (.cons (.int _) .nil))
        have ep : ps.take (j + 1) = ps.take j ++ [pr] := by
          rw [List.take_add_one, hpr]
          rfl
        have eq : (!([pdt A, pdt ps[i]].any fun z => PyData.eqv z (pdt pr))) = !(decide (A = pr) || decide (ps[i] = pr)) := by
          rw [List.any_cons, List.any_cons, List.any_nil, Bool.or_false, eqv_pdt, eqv_pdt]
        refine ⟨pdt pr, [pdt A, pdt ps[i]], dpP, .tup (SqT.of upd_same) (.cons dpA (.cons dpB .nil)), shaped_pdt _, by have h := shaped_seams [A, ps[i]]; exact h, _, rfl, ?_⟩
        rw [eq]
        refine ite2 (fun e => ?_) (fun e => ?_)
        · refine ⟨_, rfl, _, sU _ _ hD, by rw [List.length_map]; exact small_line (by rw [List.length_map] at hj; omega), us ++ [t], Same.mut (s8.trans sU) nD, by rw [upd_same, List.map_append] <;> rfl, ?_, by simp; omega⟩
          have er : restL (ps.take (j + 1)) A ps[i] = restL (ps.take j) A ps[i] ++ [pr] := by
            unfold restL
            rw [ep, List.filter_append, List.filter_cons, if_pos e, List.filter_nil]
          rw [er]
          exact (hus.same sU).push (sU _ _ hD) (.inl (sU _ _ (s8 _ _ htup)))
        · refine ⟨us, s8.trans sU, sU _ _ hD, ?_, by omega⟩
          have er : restL (ps.take (j + 1)) A ps[i] = restL (ps.take j) A ps[i] := by
            unfold restL
            rw [ep, List.filter_append, List.filter_cons, if_neg e, List.filter_nil, List.append_nil]
          rw [er]
          exact hus.same sU
      · obtain ⟨us, s8, hD, hus, hul⟩ := pp
        rw [List.length_map, hlen, List.take_length] at hus
        rw [List.length_map, hlen] at hul
        have k11 := k10.trans (Kp.same s8)
        have hp11 := hp10.same s8
        refine ⟨_, rfl, _, rfl, _, rfl, _, rfl, _, rfl, _, rfl, le_line (n := 2) (by decide), fun T1 nT1 => ⟨_, rfl, _, rfl, le_line (n := 2) (by decide), fun T2 nT2 => ⟨le_line (n := 2) (by decide), fun L nL => ?_⟩⟩⟩
        have sT1 := same_new (o := .tup [.int A.1, .int ps[i].1]) nT1
        have sT2 := same_new (o := .tup [.int A.2, .int ps[i].2]) nT2
        have sL := same_new (o := .lst [.ref T1, .ref T2]) nL
        refine ⟨D, L, _, _, rfl, rfl, sL _ _ (sT2 _ _ (sT1 _ _ hD)), upd_same, le_line (by simp; omega), fun S nS => ?_⟩
        have sS := same_new (o := .lst (us.map V.ref ++ [.ref T1, .ref T2])) nS
        have h2 : SeamsB _ [T1, T2] [(A.1, ps[i].1), (A.2, ps[i].2)] := (seams_one (p := (A.1, ps[i].1)) (.inl (sT2 _ _ upd_same))).append (seams_one (p := (A.2, ps[i].2)) (.inl upd_same))
        refine fun w9 dw9 => mk_skin (ts := us ++ [T1, T2]) (ps := restL ps A ps[i] ++ [(A.1, ps[i].1), (A.2, ps[i].2)]) hg n1 (by omega) (.inl (by rw [upd_same, List.map_append] <;> rfl)) (((((hus.same sT1).same sT2).append h2).same sL).same sS) sok ?_ stw fun H12 s12 nw hw9 => ?_
        · have := List.length_filter_le (fun q => !(decide (A = q) || decide (ps[i] = q))) ps
          rw [List.length_append]
          show (restL ps A ps[i]).length + 2 ≤ 400
          unfold restL
          omega
        have sTS := (sT1.trans (sT2.trans (sL.trans sS))).trans s12
        refine rEq_skins ((hx.kp hp k11).same sTS) hw9 fun H13 s13 => ⟨_, rfl, ?_⟩
        rw [decide_eq_false (fun e => sper e.2.2)]
        exact iteF ⟨_, _, _, _, _, _, rfl, k11.trans (Kp.same (sTS.trans s13)), hp11.same (sTS.trans s13)⟩
    rintro σ H7 ⟨o8, o9, o10, o11, o12, o13, rfl, k7, hp7⟩
    have ha7 := k7 _ _ nap ha
    have hs7 := hs.kp hp k7
    have hx7 := hx.kp hp k7
    obtain ⟨bok, btw⟩ := bwd_ok hok htw
    obtain ⟨rok, rtw⟩ := rev_ok hok htw
    refine ⟨_, rfl, _, rfl, _, rfl, _, rfl, a, _, rfl, SqL.of ha7, fun R nR => ?_⟩
    have sR := same_new (o := .lst (ts.map V.ref).reverse) nR
    refine fun w9 dw9 => mk_skin (ts := ts.reverse) (ps := ps.reverse) hg n1 (by omega) (.inl (by rw [upd_same, List.map_reverse])) ((hs7.b.reverse).same sR) bok (by simp; omega) btw fun H8 s8 nw hw9 => ?_
    have s78 := sR.trans s8
    refine rEq_skins (hx7.same s78) hw9 fun H9 s9 => ⟨_, rfl, ?_⟩
    rw [decide_eq_true (show z = z ∧ n = n ∧ (ps.map srt).Perm (ps.reverse.map srt) from ⟨rfl, rfl, (List.reverse_perm ps).symm.map srt⟩)]
    refine iteT ?_
    have s79 := s78.trans s9
    have ha9 := s79 _ _ ha7
    have hs9 := hs7.same s79
    refine ⟨_, rfl, _, rfl, a, rfl, ⟨_, SqL.of ha9⟩, fun D nD => ?_⟩
    refine lc_it (walk_list (K := K) (a := a) (xs := ts.map V.ref)) (fun j H' => ∃ us : List Addr, Same H9 H' ∧ H' D = some (.lst (us.map V.ref)) ∧ Seams H' us ((ps.take j).map fun p => (p.2, p.1))) ⟨[], same_new nD, upd_same, ⟨rfl, fun i t p h => by simp at h⟩⟩ (fun j H' _ pp => by obtain ⟨_, s8, _⟩ := pp; exact SqL.of (s8 _ _ ha9)) (fun j v H' H'' hj pp y => ?_) (fun H' pp => ?_)
    · obtain ⟨us, s10, hD, hus⟩ := pp
      obtain ⟨rfl, hv⟩ := y
      obtain ⟨t, pr, rfl, htt, hpr, htup⟩ := hs9.get hv
      have ep : (ps.take (j + 1)).map (fun p : Int × Int => (p.2, p.1)) = (ps.take j).map (fun p : Int × Int => (p.2, p.1)) ++ [(pr.2, pr.1)] := by
        rw [List.take_add_one, hpr, Option.toList_some, List.map_append]
        rfl
      have len : (us.map V.ref).length < sizeLine := by
        rw [List.length_map, hus.len, List.length_map, List.length_take]
        exact small_line (by omega)
      refine ⟨t, _, rfl, SqT.of (s10 _ _ htup), rfl, _, _, rfl, _, _, rfl, rfl, ?_⟩
      refine ⟨rfl, ?_⟩
      refine ⟨_, rfl, _, rfl, le_line (n := 2) (by decide), fun T nT => ?_⟩
      have sT : Same H'' (upd H'' T (.tup [.int pr.2, .int pr.1])) := same_new nT
      refine ⟨_, sT _ _ hD, len, us ++ [T], Same.mut (s10.trans sT) nD, by rw [upd_same, List.map_append] <;> rfl, ?_⟩
      rw [ep]
      exact hus.push (p := (pr.2, pr.1)) (ys := us.map V.ref ++ [V.ref T]) nT hD
    · obtain ⟨us, s10, hD, hus⟩ := pp
      have el : (ps.take (ts.map V.ref).length).map (fun p : Int × Int => (p.2, p.1)) = ps.map fun p => (p.2, p.1) := by rw [List.length_map, hs.len, List.take_length]
      rw [el] at hus
      refine ⟨_, rfl, _, rfl, rfl, rfl, fun w9 dw9 => mk_skin (ts := us) (ps := ps.map fun p => (p.2, p.1)) hg n1 (by omega) (.inl hD) hus.b rok (by simp; omega) rtw fun H11 s11 nw hw11 => ?_⟩
      have s711 := s79.trans (s10.trans s11)
      refine rEq_skins (hx7.same s711) hw11 fun H12 s12 => ?_
      rw [decide_eq_true (show z = z ∧ n = n ∧ (ps.map srt).Perm ((ps.map fun p => (p.2, p.1)).map srt) from ⟨rfl, rfl, .of_eq (srt_rev ps).symm⟩)]
      exact q H12 (k7.trans (Kp.same (s711.trans s12))) (hp7.same (s711.trans s12))
theorem has_law_unlike_right (Tx : Txt K mg) (c : He.SaysX fa fn [] tf ex w hh K) (X : K.In hh) (GG : hh.Ns mainGlobals mg) (h_Skin_init : HasI P w K mg base 5 (sp_Skin_init K)) (h_Skin_str : HasM P w K mg base CX0 "Skin" "__str__" 2 ["self"] (sp_Skin_str K)) (h_law_mates : Has P w K mg base "_law_mates" 1 ["_law_pairs_here"] (sp_law_mates K)) (h_law_draw : Has P w K mg base "_law_draw" 1 ["_law_pen_here", "_law_many"] sp_law_draw) (h_law_pick : Has P w K mg base "_law_pick" 2 ["_law_pen_here", "_law_some"] (sp_law_pick K)) (h_Skin_eq : HasM P w K mg base CX0 "Skin" "__eq__" 1 ["self", "other"] (sp_Skin_eq K))   : Has P w K mg base "_law_unlike_right" 7 ["_law_pen_here", "_law_skin", "_law_kind", "_law_faces", "_law_pairs_here"] (sp_law_unlike_right K) := by
  obtain ⟨fd, F⟩ := c.t.d.def_ 46 (d := d_law_unlike_right) rfl
  exact ⟨_, fd, ok_law_unlike_right F Tx h_Skin_init h_Skin_str h_law_mates h_law_draw h_law_pick h_Skin_eq, He.glo_ok X GG (c.t.d.fact 39 (f := .glo "_law_unlike_right") rfl), F.kp, F.bindsN fun _ _ _ _ _ _ us hl => match us, hl with | [_, _, _, _, _], _ => rfl⟩

end
end K04

namespace K04
open PySem PySem.Spec PyProof.Rows L2 Vf LamX
section
variable {hh : Heap} {P : Program} {w : World} {K : PySem.W.Frag} {mg : Str → Option Value} {base : Heap}
/-! ### o.m(k = v, ..); defs that run where no repr runs -/
def tMethK (C : Addr) (m : Str) (n : Nat) (sp : Sp) (gV : List V → List V → List V) (E : XK) (ta : TE) (tk : TA) : TE := fun σ H Q => ta σ H fun x H1 => ∃ a dx fs, x = .ref a ∧ H1 a = some (.ins C dx fs) ∧ fs.lookup m = none ∧
  tk σ H1 fun zs H2 => zs.length = n ∧ sp (gV [x] zs) H2 Q E
theorem pe_methK0 {X : Cx} {CX : CXT} {k : Nat} {f C : Addr} {fd : FuncData} {ps ks : List Str} {sp : Sp} {E : XK} {o : Expr} {m : Str} {ta : TE} {pos : Pos} {apos : _} {kws : List Keyword} {tk : TA} {g : List Value → List Value → List Value} {gV : List V → List V → List V} {pl : Sem Bool}
    (he : PE X o ta) (c : Cls X.K C) (hm : Meth X.K C m f) (F : FnOk X.prog X.w X.K X.mg X.base CX k f fd ps sp) (hr : Room k X.A) (hb : KBn X.K fd ps 1 ks g gV) (hx : Passes CX X E) (hkw : PK X kws tk)
    (hall : (backToKw pos (keywordEach kws X.env)).all (·.1.isSome) = true := by rfl) (hks : (backToKw pos (keywordEach kws X.env)).filterMap (·.1) = ks := by rfl)
    (hpl : ((backTo pos (starEach [] X.env)).any (·.1) || (backToKw pos (keywordEach kws X.env)).any (·.1.isNone)) = false := by rfl)
    (ht : eval (.Call (.Attribute o m apos) [] kws pos) X.env = (do
      let ov ← eval o X.env
      standAt apos.atName
      let (f, first) ← holding [ov] (getMethod ov m pl)
      callWith pos f first (backTo pos (starEach [] X.env)) (backToKw pos (keywordEach kws X.env))) := by rfl) :
    PE X (.Call (.Attribute o m apos) [] kws pos) (tMethK C m ks.length sp gV E ta tk) := by
  refine ⟨fun pins s σ H Q I h => ?_⟩
  refine PySem.W.methodCall_KW (pl := pl) (thn (he.run pins s σ H _ I h) fun u s1 ⟨x, H1, I1, rx, a, dx, fs, ex, ea, l, q⟩ => ?_) ht
  subst ex
  obtain rfl : u = Value.ref a := rx
  refine getmeth_ok I1 ea c hm l ?_
  refine PySem.W.callWith_KW0 (first := [.ref a]) (h₀ := X.base) I.ok.mod.kin hm.kp hall ?_ hpl
  refine thn (hkw.run pos pins s1 σ H1 _ I1 q) fun ws s2 ⟨zs, H2, I2, rz, l2, q2⟩ => ⟨I2.kIn, ?_⟩
  rw [hks]
  exact run_fnN (us := [.ref a]) (vs := [.ref a]) F hr hb hx I2 (.cons rfl .nil) rz rfl l2 q2
theorem vals_app : ∀ {vs zs : List V} {us ws : List Value}, Vals vs us → Vals zs ws → Vals (vs ++ zs) (us ++ ws)
  | _, _, _, _, .nil, h => h
  | _, _, _, _, .cons r t, h => .cons r (vals_app t h)
theorem kbn_of1 {K : PySem.W.Frag} {x qual : Str} {params : Arguments} {body : List Stmt} {scope : Scope} {f : Addr} {fd : FuncData} {ps ks : List Str} (F : FunD K x qual params body scope [] [] f fd)
    (h : ∀ (kV doc pm : Value) (an : Option Addr) (cdv ct u : Value) (ws : List Value), ws.length = ks.length → bindArgs (PySem.W.fnOf x qual params body scope .none kV doc pm an cdv ct) ⟨[u], ks.zip ws⟩ = pure (ps.zip (u :: ws))) : KBn K fd ps 1 ks (fun us ws => us ++ ws) (fun vs zs => vs ++ zs) := by
  obtain ⟨oc, od, dV, kV, doc, pm, an, cdv, ct, osl, rfl, lk, hcd, hD, hK⟩ := F.ex
  rcases hD with ⟨_, rfl⟩ | ⟨e, _⟩
  · refine ⟨fun s us ws _ l1 l2 => ?_, fun r1 r2 => vals_app r1 r2⟩
    match us, l1 with
    | [u], _ => exact .of_eq (h kV doc pm an cdv ct u ws l2)
  · exact absurd rfl e
def HasMK (P : Program) (w : World) (K : PySem.W.Frag) (mg : Str → Option Value) (base : Heap) (CX : CXT) (x m : Str) (k : Nat) (ps ks : List Str) (sp : Sp) : Prop :=
  ∃ (fd : FuncData) (g : List Value → List Value → List Value), FnOk P w K mg base CX k (He.ma K (He.ga K x) m) fd ps sp ∧ KBn K fd ps 1 ks g (fun vs zs => vs ++ zs)
def HasS (P : Program) (w : World) (K : PySem.W.Frag) (mg : Str → Option Value) (base : Heap) (x : Str) (k : Nat) (ps : List Str) (sp : Sp) : Prop :=
  ∃ (f : Addr) (fd : FuncData), SilOk P w K mg base CX0 k f fd ps sp ∧ mg x = some (.ref f) ∧ PySem.W.keepIn K (.ref f) = true ∧ Binds K fd ps []
theorem silD {CX : CXT} {x qual : Str} {params : Arguments} {body : List Stmt} {scope : Scope} {dvs : List V} {kws : List (Str × V)} {f : Addr} {fd : FuncData} {N ps : List Str} {k : Nat} {sp : Sp} (F : FunD K x qual params body scope dvs kws f fd) (S : FnScope N ps scope) (len : ∀ vs H Q E, sp vs H Q E → vs.length = ps.length)
    (hbody : ∀ (cdv : Value) (A : Around) (outer : List Env) (s : Shared) (H : Hp) (vs : List V) (Q : VK) (E : XK), A.guards = some [] → Room k (A.deeper (envOfC qual scope s.heap.objs.size f cdv)) → sp vs H Q E →
      ∃ t, PSs (cxOf CX P w K mg base N qual scope f cdv A outer s H E) body t ∧ t { nx := fun _ H' => Q .non H', rt := Q } (L2.start N vs) H) : SilOk P w K mg base CX (k + 1) f fd ps sp := by
  obtain ⟨oc, od, dV, kV, doc, pm, an, cdv, ct, osl, rfl, lk, hcd, _, _⟩ := F.ex
  exact sil_of lk hcd S len fun A outer s H vs Q E hA hr hsp => hbody cdv A outer s H vs Q E hA hr hsp
theorem silC {CX : CXT} {x : Str} {params : Arguments} {body : List Stmt} {scope : Scope} {fd : FuncData} {N ps : List Str} {k : Nat} {sp : Sp} (F : FunD K x x params body scope [] [] (He.fAd K (x, none)) fd) (S : FnScope N ps scope) (len : ∀ vs H Q E, sp vs H Q E → vs.length = ps.length)
    (walk : ∀ (A : Around) (outer : List Env) (s : Shared) (H : Hp) (vs : List V) (Q : VK) (E : XK), A.guards = some [] → Room k (A.deeper (envOfC x scope s.heap.objs.size (He.fAd K (x, none)) (.ref (He.codeOf K (x, none))))) → sp vs H Q E →
      ∃ t, PSs (cxOf CX P w K mg base N x scope (He.fAd K (x, none)) (.ref (He.codeOf K (x, none))) A outer s H E) body t ∧ t { nx := fun _ H' => Q .non H', rt := Q } (L2.start N vs) H) : SilOk P w K mg base CX (k + 1) (He.fAd K (x, none)) fd ps sp := by
  obtain ⟨oc, od, dV, kV, doc, pm, an, cdv, ct, osl, rfl, lk, hcd, hD, hK⟩ := F.ex
  obtain ⟨cc, rfl⟩ := He.codeIn_ref hcd
  have e := He.codeOf_eq lk rfl
  rw [e] at walk
  exact sil_of lk hcd S len walk
theorem call_reprK {X : Cx} (hK : X.K = K) (hA : X.A.guards = some []) (hu : X.A.units + 64 < cLine) : CallR X (.builtin "repr") (fun xs H Q => ∃ v t, xs = [v] ∧ RpOk K H v t ∧ Q (.str t) H) := by
  subst hK
  exact call_repr hA hu
theorem hask_Skin_with_seams (Tx : Txt K mg) (c : He.SaysX fa fn [] tf ex w hh K) (X : K.In hh) (GG : hh.Ns mainGlobals mg) (h_need_seams : HasX P w K mg base "need_seams" 4 ["seams", "sides"] (sp_need_seams K)) (h_Skin_init : HasI P w K mg base 5 (sp_Skin_init K)) : HasMK P w K mg base (L2.CX P w) "Skin" "with_seams" 7 ["self", "seams"] ["seams"] (sp_Skin_with_seams K) := by
  obtain ⟨fd, F⟩ := c.t.d.def_ 29 (d := d_Skin_with_seams) rfl
  exact ⟨fd, _, ok_Skin_with_seams F Tx h_need_seams h_Skin_init, kbn_of1 F (fun _ _ _ _ _ _ _ ws hl => match ws, hl with | [_], _ => rfl)⟩
theorem hask_Skin_back (Tx : Txt K mg) (c : He.SaysX fa fn [] tf ex w hh K) (X : K.In hh) (GG : hh.Ns mainGlobals mg) (h_Skin_need_side : HasM P w K mg base (L2.CX P w) "Skin" "need_side" 3 ["self", "side"] (sp_Skin_need_side K)) : HasMK P w K mg base (L2.CX P w) "Skin" "back" 4 ["self", "side"] ["side"] (sp_Skin_back K) := by
  obtain ⟨fd, F⟩ := c.t.d.def_ 27 (d := d_Skin_back) rfl
  exact ⟨fd, _, ok_Skin_back F Tx h_Skin_need_side, kbn_of1 F (fun _ _ _ _ _ _ _ ws hl => match ws, hl with | [_], _ => rfl)⟩
theorem hask_Skin_face (Tx : Txt K mg) (c : He.SaysX fa fn [] tf ex w hh K) (X : K.In hh) (GG : hh.Ns mainGlobals mg) (h_Skin_need_side : HasM P w K mg base (L2.CX P w) "Skin" "need_side" 3 ["self", "side"] (sp_Skin_need_side K)) : HasMK P w K mg base (L2.CX P w) "Skin" "face" 4 ["self", "side"] ["side"] (sp_Skin_face K) := by
  obtain ⟨fd, F⟩ := c.t.d.def_ 28 (d := d_Skin_face) rfl
  exact ⟨fd, _, ok_Skin_face F Tx h_Skin_need_side, kbn_of1 F (fun _ _ _ _ _ _ _ ws hl => match ws, hl with | [_], _ => rfl)⟩

end
end K04

namespace K04
open PySem PySem.Spec PyProof.Rows L2 Vf LamX
section
variable {hh : Heap} {P : Program} {w : World} {K : PySem.W.Frag} {mg : Str → Option Value} {base : Heap}
/-! ### the text of pairs -/
theorem SeamsB.tail {H : Hp} {t : Addr} {ts : List Addr} {p : Int × Int} {ps : List (Int × Int)} (h : SeamsB H (t :: ts) (p :: ps)) : SeamsB H ts ps :=
  ⟨by have := h.len; simpa using this, fun i u q h1 h2 => h.at_ (i + 1) u q h1 h2⟩
theorem rp_items {H : Hp} : ∀ {us : List Addr} {rs : List (Int × Int)}, SeamsB H us rs → ∃ ds : List PyData, (∀ H', Same H H' → DpAll K H' (us.map V.ref) ds) ∧ (∀ d ∈ ds, ∃ p ∈ rs, d = pdt p ∨ d = .list [.int p.1, .int p.2]) ∧ ds.length = rs.length
  | [], [], _ => ⟨[], fun _ _ => .nil, fun d hd => (by cases hd), rfl⟩
  | [], _ :: _, h => by cases h.len
  | _ :: _, [], h => by cases h.len
  | u :: us, p :: rs, h => by
    obtain ⟨ds, h1, h2, h3⟩ := rp_items h.tail
    have hp : Pr2 H u p := h.at_ 0 u p rfl rfl
    rcases hp with hp | hp
    · refine ⟨pdt p :: ds, fun H' s => .cons (.tup (SqT.of (s _ _ hp)) (.cons (.int _) (.cons (.int _) .nil))) (h1 H' s), fun d hd => ?_, by simp [h3]⟩
      rcases List.mem_cons.mp hd with rfl | hd
      · exact ⟨p, List.mem_cons_self .., .inl rfl⟩
      · obtain ⟨q, hq, e⟩ := h2 d hd
        exact ⟨q, List.mem_cons_of_mem _ hq, e⟩
    · refine ⟨.list [.int p.1, .int p.2] :: ds, fun H' s => .cons (.lst (SqL.of (s _ _ hp)) (.cons (.int _) (.cons (.int _) .nil))) (h1 H' s), fun d hd => ?_, by simp [h3]⟩
      rcases List.mem_cons.mp hd with rfl | hd
      · exact ⟨p, List.mem_cons_self .., .inr rfl⟩
      · obtain ⟨q, hq, e⟩ := h2 d hd
        exact ⟨q, List.mem_cons_of_mem _ hq, e⟩
theorem showAll_of {ds : List PyData} (h : ∀ d ∈ ds, d.showable = true) : PyData.showableAll ds = true := by
  induction ds with
  | nil => simp only [PyData.showableAll]
  | cons a r ih =>
    simp only [PyData.showableAll, Bool.and_eq_true]
    exact ⟨h a (List.mem_cons_self ..), ih fun d hd => h d (List.mem_cons_of_mem _ hd)⟩
theorem noDictAll_of {ds : List PyData} (h : ∀ d ∈ ds, d.hasDict = false) : PyData.hasDictAll ds = false := by
  induction ds with
  | nil => simp only [PyData.hasDictAll]
  | cons a r ih => simp only [PyData.hasDictAll, h a (List.mem_cons_self ..), ih fun d hd => h d (List.mem_cons_of_mem _ hd), Bool.or_self]
theorem depthAll_of {ds : List PyData} {n : Nat} (h : ∀ d ∈ ds, d.depth ≤ n) : PyData.depthAll ds ≤ n := by
  induction ds with
  | nil => simp [PyData.depthAll]
  | cons a r ih =>
    have h1 := h a (List.mem_cons_self ..)
    have h2 := ih fun d hd => h d (List.mem_cons_of_mem _ hd)
    simp only [PyData.depthAll]
    omega
theorem shownAll_map (ds : List PyData) : PyData.shownAll ds = ds.map PyData.shown := by
  induction ds with
  | nil => simp [PyData.shownAll]
  | cons a r ih => simp [PyData.shownAll, ih]
theorem two_show {p : Int × Int} (h1 : Small p.1) (h2 : Small p.2) {d : PyData} (h : d = pdt p ∨ d = .list [.int p.1, .int p.2]) : d.showable = true ∧ d.hasDict = false ∧ d.depth ≤ 2 ∧ d.shown.length ≤ 300 := by
  have a1 := small_log h1
  have a2 := small_log h2
  have b1 := small_txt h1
  have b2 := small_txt h2
  rcases h with rfl | rfl
  · refine ⟨by simp [pdt, PyData.showable, PyData.showableAll, a1, a2], by simp [pdt, PyData.hasDict, PyData.hasDictAll], by simp [pdt, PyData.depth, PyData.depthAll], ?_⟩
    have e : PyData.shown (pdt p) = tupleText [Str.ofString (toString p.1), Str.ofString (toString p.2)] := by simp only [pdt, PyData.shown, PyData.shownAll]
    rw [e]
    refine Nat.le_trans (tupleText_len_le _) ?_
    simp only [List.map_cons, List.map_nil, List.sum_cons, List.sum_nil, List.length_cons, List.length_nil]
    omega
  · refine ⟨by simp [PyData.showable, PyData.showableAll, a1, a2], by simp [PyData.hasDict, PyData.hasDictAll], by simp [PyData.depth, PyData.depthAll], ?_⟩
    have e : PyData.shown (.list [.int p.1, .int p.2]) = listText [Str.ofString (toString p.1), Str.ofString (toString p.2)] := by simp only [PyData.shown, PyData.shownAll]
    rw [e]
    refine Nat.le_trans (listText_len_le _) ?_
    simp only [List.map_cons, List.map_nil, List.sum_cons, List.sum_nil, List.length_cons, List.length_nil]
    omega
/-- the text of a list of pairs, told once and for all -/
theorem rp_pairs {H : Hp} {l : Addr} {us : List Addr} {rs : List (Int × Int)} (h : SeamsB H us rs) (hl : H l = some (.lst (us.map V.ref))) (hs : ∀ p ∈ rs, Small p.1 ∧ Small p.2) (n : rs.length ≤ 100) : ∃ t : Str, ∀ H', Same H H' → RpOk K H' (.ref l) t := by
  obtain ⟨ds, h1, h2, h3⟩ := rp_items (K := K) h
  have hd : ∀ d ∈ ds, d.showable = true ∧ d.hasDict = false ∧ d.depth ≤ 2 ∧ d.shown.length ≤ 300 := fun d hd => by
    obtain ⟨p, hp, e⟩ := h2 d hd
    exact two_show (hs p hp).1 (hs p hp).2 e
  refine ⟨(PyData.list ds).shown, fun H' s => .dp (.lst (SqL.of (s _ _ hl)) (h1 H' s)) ?_ ?_ ?_ ?_⟩
  · simp only [PyData.showable]
    exact showAll_of fun d m => (hd d m).1
  · simp only [PyData.hasDict]
    exact noDictAll_of fun d m => (hd d m).2.1
  · simp only [PyData.depth]
    have := depthAll_of fun d m => (hd d m).2.2.1
    omega
  · have e : (PyData.list ds).shown = listText (PyData.shownAll ds) := by simp only [PyData.shown]
    rw [e]
    refine Nat.le_trans (listText_len_le _) ?_
    rw [shownAll_map, List.map_map, List.length_map]
    have := sum_le (f := fun d : PyData => d.shown.length) (b := 300) fun d m => (hd d m).2.2.2
    refine le_line ?_
    show (ds.map fun d : PyData => d.shown.length).sum + 2 * ds.length + 3 ≤ 100000
    omega
/-! ### seams in two parts -/
theorem srt_srt (p : Int × Int) : srt (srt p) = srt p := by
  obtain ⟨a, b⟩ := p
  simp only [srt]
  by_cases h1 : b < a <;> by_cases h2 : a < b <;> simp only [h1, h2, if_true, if_false] <;> (simp only [Prod.mk.injEq]; constructor <;> (split <;> omega))
theorem perm_ok {N : Int} {ps ls : List (Int × Int)} (hok : ∀ p ∈ ps, Pok N p) (htw : tw (flat2 ps) = none) (h : (ls.map srt).Perm (ps.map srt)) : (∀ p ∈ ls, Pok N p) ∧ tw (flat2 ls) = none := by
  have h1 : ∀ p ∈ ls, Pok N p := fun p hp => by
    obtain ⟨q, hq, e⟩ := List.mem_map.mp (h.mem_iff.mp (List.mem_map_of_mem hp))
    obtain ⟨a0, a1, a2, a3, a4⟩ := hok q hq
    rcases srt_eq e.symm with e | e
    · rw [e]
      exact ⟨a0, a1, a2, a3, a4⟩
    · rw [e]
      exact ⟨a2, a3, a0, a1, a4.symm⟩
  refine ⟨h1, nodup_tw' ?_⟩
  exact (((flat2_srt h1).symm.trans (flat2_perm h)).trans (flat2_srt hok)).nodup_iff.mpr (tw_nodup htw)
theorem wide_perm {ps qs : List (Int × Int)} {k : Nat} (h : qs.Perm ((ps.take k).map srt)) : ((qs ++ ps.drop k).map srt).Perm (ps.map srt) := by
  rw [List.map_append]
  have h1 : (qs.map srt).Perm ((ps.take k).map srt) := by
    refine (h.map srt).trans (.of_eq ?_)
    rw [List.map_map]
    exact List.map_congr_left fun p _ => srt_srt p
  refine (h1.append_right _).trans (.of_eq ?_)
  rw [← List.map_append, List.take_append_drop]
theorem take_ok {N : Int} {ps : List (Int × Int)} (k : Nat) (hok : ∀ p ∈ ps, Pok N p) (htw : tw (flat2 ps) = none) : (∀ p ∈ ps.take k, Pok N p) ∧ tw (flat2 (ps.take k)) = none :=
  ⟨fun p hp => hok p (List.mem_of_mem_take hp), nodup_tw' ((tw_nodup htw).sublist (flat2_sub (List.take_sublist _ _)))⟩
/-! ### another list changes -/
theorem upd_hard {H : Hp} {l a : Addr} {xs : List V} {o o' : HO} (hl : H l = some (.lst xs)) (h : H a = some o) (no : ∀ ys, o ≠ .lst ys) : upd H l o' a = some o := by
  rw [upd_ne fun e => ?_]
  · exact h
  · subst e
    exact no xs (Option.some.inj (h.symm.trans hl))
theorem Seams.updL {H : Hp} {l : Addr} {xs : List V} {o : HO} {ts : List Addr} {ps : List (Int × Int)} (hl : H l = some (.lst xs)) (h : Seams H ts ps) : Seams (L2.upd H l o) ts ps :=
  ⟨h.len, fun i t q h1 h2 => upd_hard hl (h.at_ i t q h1 h2) (fun _ z => nomatch z)⟩
theorem SkinAt.updL {H : Hp} {l x : Addr} {xs : List V} {o : HO} {z : Str} {n : Int} {ps : List (Int × Int)} (hl : H l = some (.lst xs)) (h : SkinAt K H x z n ps) : SkinAt K (upd H l o) x z n ps := by
  obtain ⟨dx, st, mt, ft, us, qs, h⟩ := h
  exact ⟨dx, st, mt, ft, us, qs, ⟨h.nb, upd_hard hl h.ins (fun _ z => nomatch z), upd_hard hl h.nexts (fun _ z => nomatch z), upd_hard hl h.backs (fun _ z => nomatch z)⟩, upd_hard hl h.seams (fun _ z => nomatch z), h.sts.updL hl, h.perm, h.srtd, upd_hard hl h.mates (fun _ z => nomatch z), upd_hard hl h.free (fun _ z => nomatch z)⟩
theorem Seams.take {H : Hp} {ts : List Addr} {ps : List (Int × Int)} (h : Seams H ts ps) (k : Nat) : Seams H (ts.take k) (ps.take k) :=
  ⟨by rw [List.length_take, List.length_take, h.len], fun i t p h1 h2 => by
    by_cases hi : i < k
    · rw [List.getElem?_take_of_lt hi] at h1 h2
      exact h.at_ i t p h1 h2
    · rw [List.getElem?_take_eq_none (by omega)] at h1
      cases h1⟩
theorem Seams.drop {H : Hp} {ts : List Addr} {ps : List (Int × Int)} (h : Seams H ts ps) (k : Nat) : Seams H (ts.drop k) (ps.drop k) :=
  ⟨by rw [List.length_drop, List.length_drop, h.len], fun i t p h1 h2 => by
    rw [List.getElem?_drop] at h1 h2
    exact h.at_ _ t p h1 h2⟩
theorem kp_free {H H' : Hp} {p c a : Addr} {b : Nat} (hp : PenAt H' p c b) (k : Kp p H H') (n : H' a = none) : H a = none := by
  cases e : H a with
  | none => rfl
  | some o =>
    have z := k a o (hp.new n).1 e
    rw [n] at z
    cases z
theorem cut_lo {ts : List Addr} {k : Nat} (h : k ≤ ts.length) : cutV (ts.map V.ref) none (some (k : Int)) = (ts.take k).map V.ref := by rw [cutV_lo (by rw [List.length_map]; exact h), List.map_take]
theorem cut_hi {ts : List Addr} {k : Nat} (h : k ≤ ts.length) : cutV (ts.map V.ref) (some (k : Int)) none = (ts.drop k).map V.ref := by rw [cutV_hi (by rw [List.length_map]; exact h), List.map_drop]
/-- with_seams of a skin that stands -/
theorem with_sp {H : Hp} {x a : Addr} {z : Str} {n : Int} {ps rs ls : List (Int × Int)} {ts : List Addr} {Q : VK} {E : XK} (hx : SkinAt K H x z n ps) (hg : isGrid (.str z) = true) (n1 : 1 ≤ n) (n24 : n ≤ 24) (ha : H a = some (.lst (ts.map V.ref)) ∨ H a = some (.tup (ts.map V.ref))) (hs : SeamsB H ts rs)
    (hok : ∀ p ∈ ls, Pok (n * turnOf z) p) (htw : tw (flat2 ls) = none) (hl : ls.length ≤ 100) (hperm : ((ps ++ rs).map srt).Perm (ls.map srt)) (q : ∀ H' y, Same H H' → H y = none → SkinAt K H' y z n ls → Q (.ref y) H') : sp_Skin_with_seams K [.ref x, .ref a] H Q E := by
  obtain ⟨dx, st, mt, ft, us, qs, hx⟩ := hx
  have hp : ((qs ++ rs).map srt).Perm (ls.map srt) := by
    rw [List.map_append] at hperm ⊢
    refine List.Perm.trans (List.Perm.append_right _ ?_) hperm
    refine (hx.perm.map srt).trans (.of_eq ?_)
    rw [List.map_map]
    exact List.map_congr_left fun p _ => srt_srt p
  obtain ⟨o1, t1⟩ := perm_ok hok htw hp
  have hlen : (qs ++ rs).length ≤ 400 := by
    have := hp.length_eq
    rw [List.length_map, List.length_map] at this
    omega
  exact ⟨x, dx, st, mt, ft, us, z, n, ps, qs, a, ts, rs, rfl, hx, hg, n1, n24, ha, hs, o1, hlen, t1, fun H' y s ny hy => q H' y s ny (hy.order o1 hok t1 hp)⟩
theorem tNil_of {σ : L2.St} {H : Hp} {Q : List V → Hp → Prop} (h : Q [] H) : tNil σ H Q := h

end
end K04

namespace K04
open PySem PySem.Spec PyProof.Rows L2 Vf LamX
section
variable {hh : Heap} {P : Program} {w : World} {K : PySem.W.Frag} {mg : Str → Option Value} {base : Heap}
def sp_law_widened_right (K : PySem.W.Frag) : Sp := fun vs H Q _ => ∃ (p c x a : Addr) (b : Nat) (z : Str) (n : Int) (ts : List Addr) (ps : List (Int × Int)), vs = [.ref p, .ref x, .str z, .int n, .ref a] ∧ PenAt H p c (b + ps.length + 1) ∧ SkinAt K H x z n ps ∧ isGrid (.str z) = true ∧ 1 ≤ n ∧ n ≤ 24 ∧ H a = some (.lst (ts.map V.ref)) ∧ Seams H ts ps ∧ (∀ p ∈ ps, Pok (n * turnOf z) p) ∧ ps.length ≤ 100 ∧ tw (flat2 ps) = none ∧ ∀ H', Kp p H H' → PenAt H' p c b → Q (.bl true) H'
theorem sc_law_widened_right : FnScope ["_law_pen_here", "_law_skin", "_law_kind", "_law_faces", "_law_pairs_here", "_law_cut", "_law_first", "_law_more", "_law_passed", "_law_both"] ["_law_pen_here", "_law_skin", "_law_kind", "_law_faces", "_law_pairs_here"] (defScope s_law_widened_right) := ⟨rfl, rfl, rfl, by decide +kernel, rfl, by decide +kernel, by decide +kernel⟩
theorem ok_law_widened_right {f : Addr} {fd : FuncData} (F : FunD K "_law_widened_right" "_law_widened_right" (defArgs s_law_widened_right) (defBody s_law_widened_right) (defScope s_law_widened_right) [] [] f fd) (Tx : Txt K mg) (h_law_draw : Has P w K mg base "_law_draw" 1 ["_law_pen_here", "_law_many"] sp_law_draw) (h_Skin_init : HasI P w K mg base 5 (sp_Skin_init K)) (h_law_told : Has P w K mg base "_law_told" 2 ["_law_pen_here", "_law_pairs_here"] (sp_law_told K)) (h_Skin_with_seams : HasM P w K mg base (L2.CX P w) "Skin" "with_seams" 7 ["self", "seams"] (sp_Skin_with_seams K)) (h_law_tells_right : Has P w K mg base "_law_tells_right" 5 ["_law_skin", "_law_kind", "_law_faces", "_law_pairs_here"] (sp_law_tells_right K)) (h_Skin_eq : HasM P w K mg base CX0 "Skin" "__eq__" 1 ["self", "other"] (sp_Skin_eq K))  (hk_Skin_with_seams : HasMK P w K mg base (L2.CX P w) "Skin" "with_seams" 7 ["self", "seams"] ["seams"] (sp_Skin_with_seams K)) : SilOk P w K mg base CX0 8 f fd ["_law_pen_here", "_law_skin", "_law_kind", "_law_faces", "_law_pairs_here"] (sp_law_widened_right K) := by
  obtain ⟨f_law_draw, fd_law_draw, G_law_draw, g_law_draw, k_law_draw, b_law_draw⟩ := h_law_draw
  obtain ⟨fd_Skin_init, G_Skin_init, b_Skin_init, ⟨ds2_Skin_init, v2_Skin_init, b2_Skin_init⟩, ⟨ds1_Skin_init, kb_Skin_init_kind_faces⟩, ⟨dd1_Skin_init, kb_Skin_init_seams_faces_kind⟩⟩ := h_Skin_init
  obtain ⟨f_law_told, fd_law_told, G_law_told, g_law_told, k_law_told, b_law_told⟩ := h_law_told
  obtain ⟨fd_Skin_with_seams, G_Skin_with_seams, b_Skin_with_seams⟩ := h_Skin_with_seams
  obtain ⟨f_law_tells_right, fd_law_tells_right, G_law_tells_right, g_law_tells_right, k_law_tells_right, b_law_tells_right⟩ := h_law_tells_right
  obtain ⟨fd_Skin_eq, G_Skin_eq, b_Skin_eq⟩ := h_Skin_eq
  obtain ⟨fdk_Skin_with_seams, gk_Skin_with_seams, Gk_Skin_with_seams, bk_Skin_with_seams⟩ := hk_Skin_with_seams
  refine silD F sc_law_widened_right (fun vs H Q E h => ?_) (fun cdv A outer s H vs Q E hA hr h => ?_)
  · obtain ⟨p, c, x, a, b, z, n, ts, ps, rfl, _⟩ := h
    rfl
  · obtain ⟨p, c, x, a, b, z, n, ts, ps, rfl, hp, hx, hg, n1, n24, ha, hs, hok, hl, htw, q⟩ := h
    refine ⟨_, PSs.nox (C8.pss_cut (ps_set (i := 5) sc_law_widened_right.nd rfl (Or.inl rfl) (pe_call G_law_draw (hr.mono (by decide)) (by rfl) g_law_draw k_law_draw b_law_draw .nil pass0 (pa_cons (pv 0) (pa_cons (pe_op op_add (pe_callB call_len_seq (by rfl) Tx.n_len (by decide +kernel) (pa_cons (pv 4) pa_nil)) pe_int) pa_nil))))
        (C8.pss_cut (ps_set (i := 6) sc_law_widened_right.nd rfl (Or.inl rfl) (pe_make Tx.mk_Skin G_Skin_init (hr.mono (by decide)) (by rfl) Tx.g_Skin b_Skin_init .nil passN (pa_cons (pv 2) (pa_cons (pv 3) (pa_cons (pe_call G_law_told (hr.mono (by decide)) (by rfl) g_law_told k_law_told b_law_told .nil pass0 (pa_cons (pv 0) (pa_cons (pe_slice sl_list (pv 4) po_none (po_some (pv 5))) pa_nil))) pa_nil)))))
        (C8.pss_cut (ps_set (i := 7) sc_law_widened_right.nd rfl (Or.inl rfl) (pe_call G_law_told (hr.mono (by decide)) (by rfl) g_law_told k_law_told b_law_told .nil pass0 (pa_cons (pv 0) (pa_cons (pe_slice sl_list (pv 4) (po_some (pv 5)) po_none) pa_nil))))
        (C8.pss_cut (ps_set (i := 8) sc_law_widened_right.nd rfl (Or.inl rfl) (pe_callB (call_reprK (K := K) rfl hA hr.units) (by rfl) Tx.n_repr (by decide +kernel) (pa_cons (pv 7) pa_nil)))
        (C8.pss_cut (ps_set (i := 9) sc_law_widened_right.nd rfl (Or.inl rfl) (pe_meth (pv 6) Tx.cl_Skin Tx.me_Skin_with_seams G_Skin_with_seams (hr.mono (by decide)) b_Skin_with_seams .nil passN (pa_cons (pv 7) pa_nil)))
        (C8.pss_cut (ps_if (PW.pt (pw_or (pt_cmpR op_ne (pe_callB (call_reprK (K := K) rfl hA hr.units) (by rfl) Tx.n_repr (by decide +kernel) (pa_cons (pv 7) pa_nil)) (pv 8) (nomark _)) (pw_or (pt_not (pt_cmpR (op_eqO G_Skin_eq (hr.mono (by decide)) Tx.me_Skin_eq.1 Tx.me_Skin_eq.2 b_Skin_eq pass0) (pv 9) (pv 1) (nomark _))) (pw_or1 (pt_not (pt_val (pe_call G_law_tells_right (hr.mono (by decide)) (by rfl) g_law_tells_right k_law_tells_right b_law_tells_right .nil pass0 (pa_cons (pv 9) (pa_cons (pv 2) (pa_cons (pv 3) (pa_cons (pv 4) pa_nil))))))))))) (pss_one (ps_ret pe_bl)) pss_nil)
        (pss_cons (ps_expr (pe_bm PySem.F.plainAttrs_list PySem.F.slot_list_append PySem.F.type_list_append mt_append (pv 7) (pa_cons (pe_tup (pa_cons pe_int (pa_cons pe_int pa_nil))) pa_nil)))
        (C8.pss_cut (ps_if (PW.pt (pw_or (pt_not (pt_val (pe_call G_law_tells_right (hr.mono (by decide)) (by rfl) g_law_tells_right k_law_tells_right b_law_tells_right .nil pass0 (pa_cons (pv 6) (pa_cons (pv 2) (pa_cons (pv 3) (pa_cons (pe_slice sl_list (pv 4) po_none (po_some (pv 5))) pa_nil))))))) (pw_or (pt_not (pt_cmpR (op_eqO G_Skin_eq (hr.mono (by decide)) Tx.me_Skin_eq.1 Tx.me_Skin_eq.2 b_Skin_eq pass0) (pv 9) (pv 1) (nomark _))) (pw_or1 (pt_cmpR op_ne (pe_cmpR (op_eqO G_Skin_eq (hr.mono (by decide)) Tx.me_Skin_eq.1 Tx.me_Skin_eq.2 b_Skin_eq pass0) (pv 6) (pv 1) (nomark _)) (pe_cmpR op_eq (pv 5) (pe_callB call_len_seq (by rfl) Tx.n_len (by decide +kernel) (pa_cons (pv 4) pa_nil)) (nomark _)) (nomark _)))))) (pss_one (ps_ret pe_bl)) pss_nil)
        (pss_one (ps_ret (pe_and (pe_cmpR (op_eqO G_Skin_eq (hr.mono (by decide)) Tx.me_Skin_eq.1 Tx.me_Skin_eq.2 b_Skin_eq pass0) (pe_meth (pv 1) Tx.cl_Skin Tx.me_Skin_with_seams G_Skin_with_seams (hr.mono (by decide)) b_Skin_with_seams .nil passN (pa_cons (pe_lst pa_nil) pa_nil)) (pv 1) (nomark _)) (pe_and (pe_cmpR (op_eqO G_Skin_eq (hr.mono (by decide)) Tx.me_Skin_eq.1 Tx.me_Skin_eq.2 b_Skin_eq pass0) (pe_methK0 (pv 6) Tx.cl_Skin Tx.me_Skin_with_seams Gk_Skin_with_seams (hr.mono (by decide)) bk_Skin_with_seams passN (pk_cons (pe_callTy call_tuple_of (by rfl) Tx.n_tuple (by decide +kernel) (pa_cons (pe_slice sl_list (pv 4) (po_some (pv 5)) po_none) pa_nil)) pk_nil)) (pv 9) (nomark _)) (pe_one (pe_cmpR (op_eqO G_Skin_eq (hr.mono (by decide)) Tx.me_Skin_eq.1 Tx.me_Skin_eq.2 b_Skin_eq pass0) (pe_make Tx.mk_Skin G_Skin_init (hr.mono (by decide)) (by rfl) Tx.g_Skin b_Skin_init .nil passN (pa_cons (pv 2) (pa_cons (pv 3) (pa_cons (pe_callTy call_tuple_of (by rfl) Tx.n_tuple (by decide +kernel) (pa_cons (pv 4) pa_nil)) pa_nil)))) (pv 1) (nomark _))))))))))))))), ?_⟩
    have tz := turn_in z
    have hN0 : 0 ≤ n * turnOf z := by rcases tz with e | e <;> rw [e] <;> omega
    have hN1 : n * turnOf z ≤ 96 := by rcases tz with e | e <;> rw [e] <;> omega
    have nap : a ≠ p := refs_pen hp ha
    have hlen := hs.len
    have hsm : ∀ p ∈ ps, Small p.1 ∧ Small p.2 := fun p hp => by
      obtain ⟨a0, a1, b0, b1, _⟩ := hok p hp
      exact ⟨⟨a0, by omega⟩, ⟨b0, by omega⟩⟩
    -- the cut
    refine ⟨fun σ H' => ∃ k : Nat, k ≤ ps.length ∧ σ = [some (.ref p), some (.ref x), some (.str z), some (.int n), some (.ref a), some (.int (k : Nat)), none, none, none, none] ∧ Kp p H H' ∧ PenAt H' p c (b + ps.length), ?_, ?_⟩
    · refine ⟨_, rfl, _, rfl, a, _, rfl, .inl (SqL.of ha), _, _, rfl, rfl, p, c, _, b + ps.length, rfl, hp, by rw [List.length_map]; omega, by rw [List.length_map]; exact lt200 (n := ts.length + 1) (by omega), fun H1 d hp1 k1 d0 d1 => ?_⟩
      obtain ⟨k, rfl⟩ := Int.eq_ofNat_of_zero_le d0
      rw [List.length_map, hlen] at d1
      exact ⟨k, by omega, rfl, k1, hp1⟩
    rintro σ H1 ⟨k, hk, rfl, k1, hp1⟩
    obtain ⟨tok, ttw⟩ := take_ok k hok htw
    -- the first skin
    refine ⟨fun σ H' => ∃ f : Addr, σ = [some (.ref p), some (.ref x), some (.str z), some (.int n), some (.ref a), some (.int (k : Nat)), some (.ref f), none, none, none] ∧ Kp p H H' ∧ PenAt H' p c (b + (ps.length - k)) ∧ SkinAt K H' f z n (ps.take k), ?_, ?_⟩
    · have ha1 := k1 _ _ nap ha
      have hs1 := hs.kp hp k1
      have e1 := cut_lo (ts := ts) (k := k) (by omega)
      refine ⟨_, rfl, _, rfl, _, rfl, _, rfl, _, rfl, _, rfl, a, _, rfl, SqL.of ha1, fun U nU => ?_⟩
      have sU := same_new (o := .lst (cutV (ts.map V.ref) none (some ((k : Nat) : Int)))) nU
      refine ⟨p, c, U, b + (ps.length - k), ts.take k, ps.take k, rfl, by rw [upd_same, e1], (hs1.same sU).take k, by simp; omega, (hp1.same sU).less (by simp; omega), fun H2 l us k2 hp2 nl hl2 hus _ => ?_⟩
      refine fun w9 dw9 => mk_skin (ts := us) (ps := ps.take k) hg n1 n24 (.inl hl2) hus tok (by simp; omega) ttw fun H3 s3 nw hw => ?_
      exact ⟨_, rfl, (k1.trans (Kp.same sU)).trans (k2.trans (Kp.same s3)), hp2.same s3, hw⟩
    rintro σ H2 ⟨f, rfl, k2, hp2, hf2⟩
    -- more
    refine ⟨fun σ H' => ∃ (m : Addr) (us : List Addr), σ = [some (.ref p), some (.ref x), some (.str z), some (.int n), some (.ref a), some (.int (k : Nat)), some (.ref f), some (.ref m), none, none] ∧ Kp p H H' ∧ PenAt H' p c b ∧ SkinAt K H' f z n (ps.take k) ∧ H m = none ∧ H' m = some (.lst (us.map V.ref)) ∧ SeamsB H' us (ps.drop k), ?_, ?_⟩
    · have ha2 := k2 _ _ nap ha
      have hs2 := hs.kp hp k2
      have e1 := cut_hi (ts := ts) (k := k) (by omega)
      refine ⟨_, rfl, _, rfl, _, rfl, _, rfl, a, _, rfl, SqL.of ha2, fun U nU => ?_⟩
      have sU := same_new (o := .lst (cutV (ts.map V.ref) (some ((k : Nat) : Int)) none)) nU
      have hpU := hp2.same sU
      refine ⟨p, c, U, b, ts.drop k, ps.drop k, rfl, by rw [upd_same, e1], (hs2.same sU).drop k, by simp; omega, hpU.less (by simp), fun H3 l us k3 hp3 nl hl3 hus _ => ?_⟩
      have kU := k2.trans (Kp.same sU)
      exact ⟨l, us, rfl, kU.trans k3, hp3, (hf2.same sU).kp hpU k3, kp_free hpU kU nl, hl3, hus⟩
    rintro σ H3 ⟨m, us, rfl, k3, hp3, hf3, mN, hm3, hus3⟩
    -- its text
    refine ⟨fun σ H' => ∃ t : Str, σ = [some (.ref p), some (.ref x), some (.str z), some (.int n), some (.ref a), some (.int (k : Nat)), some (.ref f), some (.ref m), some (.str t), none] ∧ H' = H3 ∧ ∀ H'', Same H3 H'' → RpOk K H'' (.ref m) t, ?_, ?_⟩
    · obtain ⟨t, ht⟩ := rp_pairs (K := K) hus3 hm3 (fun p hp => hsm p (List.mem_of_mem_drop hp)) (by simp; omega)
      exact ⟨_, rfl, _, t, rfl, ht _ (Same.refl _), t, rfl, rfl, ht⟩
    rintro σ H' ⟨t, rfl, rfl, ht⟩
    -- both
    have permB : ((ps.take k ++ ps.drop k).map srt).Perm (ps.map srt) := .of_eq (by rw [List.take_append_drop])
    refine ⟨fun σ H4 => ∃ y : Addr, σ = [some (.ref p), some (.ref x), some (.str z), some (.int n), some (.ref a), some (.int (k : Nat)), some (.ref f), some (.ref m), some (.str t), some (.ref y)] ∧ Same H' H4 ∧ SkinAt K H4 y z n ps, ?_, ?_⟩
    · obtain ⟨df, st, mt, ft, vs, qs, hfi⟩ := id hf3
      refine ⟨_, rfl, f, df, _, rfl, hfi.ins, rfl, _, rfl, tNil_of ?_⟩
      exact with_sp hf3 hg n1 n24 (.inl hm3) hus3 hok htw hl permB fun H4 y s4 ny hy => ⟨y, rfl, s4, hy⟩
    rintro σ H4 ⟨y, rfl, s4, hy4⟩
    have hx4 := (hx.kp hp k3).same s4
    have ha4 := s4 _ _ (k3 _ _ nap ha)
    have hs4 := (hs.kp hp k3).same s4
    -- what stays
    have same_ps : decide (z = z ∧ n = n ∧ (ps.map srt).Perm (ps.map srt)) = true := decide_eq_true ⟨rfl, rfl, .refl _⟩
    refine ⟨fun σ H5 => σ = [some (.ref p), some (.ref x), some (.str z), some (.int n), some (.ref a), some (.int (k : Nat)), some (.ref f), some (.ref m), some (.str t), some (.ref y)] ∧ Same H4 H5, ?_, ?_⟩
    · refine ⟨_, rfl, _, t, rfl, ht _ s4, _, rfl, rfl, _, rfl, ?_⟩
      rw [decide_eq_true (show V.str t = V.str t from rfl)]
      refine iteF ?_
      refine ⟨_, rfl, _, rfl, rEq_skins hy4 hx4 fun H5 s5 => ⟨_, rfl, ?_⟩⟩
      rw [same_ps]
      refine iteF ?_
      refine ⟨_, rfl, _, rfl, _, rfl, _, rfl, y, a, z, n, ts, ps, rfl, hy4.same s5, hg, n1, n24, s5 _ _ ha4, hs4.same s5, hok, hl, htw, fun H6 s6 => ⟨_, rfl, ?_⟩⟩
      exact iteF ⟨rfl, s5.trans s6⟩
    rintro σ H5 ⟨rfl, s5⟩
    have s35 := s4.trans s5
    have hm5 := s35 _ _ hm3
    refine ⟨_, rfl, .inl ⟨rfl, _, SqL.of hm5⟩, le_line (n := 2) (by decide), fun T nT => ?_⟩
    have sT := same_new (o := .tup [.int 0, .int 1]) nT
    have usl : us.length ≤ 100 := by rw [hus3.len]; simp; omega
    have hmT := sT _ _ hm5
    refine ⟨m, _, _, rfl, rfl, hmT, small_line (by rw [List.length_map]; omega), ?_⟩
    have s3T := s35.trans sT
    have k6 : Kp p H (upd (upd H5 T (.tup [.int 0, .int 1])) m (.lst (us.map V.ref ++ [.ref T]))) := (k3.trans (Kp.same s3T)).mut mN
    obtain ⟨mp, mc⟩ := hp.new mN
    have hp6 : PenAt (upd (upd H5 T (.tup [.int 0, .int 1])) m (.lst (us.map V.ref ++ [.ref T]))) p c b := (hp3.same s3T).mut mp mc
    have hf6 := (hf3.same s3T).updL hmT (o := .lst (us.map V.ref ++ [.ref T]))
    have hy6 := (hy4.same (s5.trans sT)).updL hmT (o := .lst (us.map V.ref ++ [.ref T]))
    revert k6 hp6 hf6 hy6
    generalize upd (upd H5 T (.tup [.int 0, .int 1])) m (.lst (us.map V.ref ++ [.ref T])) = H6
    intro k6 hp6 hf6 hy6
    have hx6 := hx.kp hp k6
    have ha6 := k6 _ _ nap ha
    have hs6 := hs.kp hp k6
    have e1 := cut_lo (ts := ts) (k := k) (by omega)
    have e2 := cut_hi (ts := ts) (k := k) (by omega)
    refine ⟨fun σ H7 => σ = [some (.ref p), some (.ref x), some (.str z), some (.int n), some (.ref a), some (.int (k : Nat)), some (.ref f), some (.ref m), some (.str t), some (.ref y)] ∧ Same H6 H7, ?_, ?_⟩
    · refine ⟨_, rfl, _, rfl, _, rfl, _, rfl, _, rfl, _, rfl, a, _, rfl, SqL.of ha6, fun U nU => ?_⟩
      have sU := same_new (o := .lst (cutV (ts.map V.ref) none (some ((k : Nat) : Int)))) nU
      refine ⟨f, U, z, n, ts.take k, ps.take k, rfl, hf6.same sU, hg, n1, n24, by rw [upd_same, e1], (hs6.same sU).take k, tok, by simp; omega, ttw, fun H7 s7 => ⟨_, rfl, ?_⟩⟩
      refine iteF ?_
      have s67 := sU.trans s7
      refine ⟨_, rfl, _, rfl, rEq_skins (hy6.same s67) (hx6.same s67) fun H8 s8 => ⟨_, rfl, ?_⟩⟩
      rw [same_ps]
      refine iteF ?_
      have s68 := s67.trans s8
      refine ⟨_, rfl, _, rfl, rEq_skins (hf6.same s68) (hx6.same s68) fun H9 s9 => ?_⟩
      have s69 := s68.trans s9
      refine ⟨_, rfl, _, rfl, a, _, rfl, .inl (SqL.of (s69 _ _ ha6)), rfl, rfl, _, rfl, ?_⟩
      have e3 : decide (z = z ∧ n = n ∧ ((ps.take k).map srt).Perm (ps.map srt)) = decide (V.int ((k : Nat) : Int) = V.int (((ts.map V.ref).length : Nat) : Int)) := by
        rw [Bool.eq_iff_iff, decide_eq_true_iff, decide_eq_true_iff, List.length_map, hlen]
        constructor
        · rintro ⟨_, _, h⟩
          have := h.length_eq
          simp at this
          congr 1
          omega
        · intro h
          injection h with h
          refine ⟨rfl, rfl, ?_⟩
          rw [List.take_of_length_le (by omega)]
      rw [e3, decide_eq_true (show V.bl (decide (V.int ((k : Nat) : Int) = V.int (((ts.map V.ref).length : Nat) : Int))) = V.bl (decide (V.int ((k : Nat) : Int) = V.int (((ts.map V.ref).length : Nat) : Int))) from rfl)]
      exact iteF ⟨rfl, s69⟩
    rintro σ H7 ⟨rfl, s7⟩
    have hx7 := hx6.same s7
    have hf7 := hf6.same s7
    have hy7 := hy6.same s7
    have ha7 := s7 _ _ ha6
    have hs7 := hs6.same s7
    obtain ⟨dx, st, mt, ft, vs, qs, hxi⟩ := id hx7
    refine ⟨_, rfl, x, dx, _, rfl, hxi.ins, rfl, Nat.zero_le _, fun L nL => tNil_of ?_⟩
    have sL := same_new (o := .lst []) nL
    refine with_sp (ts := []) (rs := []) (hx7.same sL) hg n1 n24 (.inl upd_same) seams_none hok htw hl (by rw [List.append_nil]) fun H8 v s8 nv hv => ?_
    have s78 := sL.trans s8
    refine ⟨_, rfl, rEq_skins hv (hx7.same s78) fun H9 s9 => ⟨_, rfl, ?_⟩⟩
    rw [same_ps]
    refine iteT ?_
    have s79 := s78.trans s9
    have ha9 := s79 _ _ ha7
    have hs9 := hs7.same s79
    have hf9 := hf7.same s79
    have hy9 := hy7.same s79
    have hx9 := hx7.same s79
    obtain ⟨df, st', mt', ft', vs', qs', hfi⟩ := id hf9
    refine ⟨_, rfl, f, df, _, rfl, hfi.ins, rfl, _, rfl, _, rfl, _, rfl, a, _, rfl, SqL.of ha9, fun U nU => ⟨U, _, rfl, .inl ⟨SqL.of upd_same, fun T2 nT2 => ⟨rfl, ?_⟩⟩⟩⟩
    have sU := same_new (o := .lst (cutV (ts.map V.ref) (some ((k : Nat) : Int)) none)) nU
    have sT2 := same_new (o := .tup (cutV (ts.map V.ref) (some ((k : Nat) : Int)) none)) nT2
    have sUT := sU.trans sT2
    refine with_sp (ts := ts.drop k) (rs := ps.drop k) (hf9.same sUT) hg n1 n24 (.inr (by rw [upd_same, e2])) ((hs9.same sUT).drop k).b hok htw hl permB fun H10 v2 s10 nv2 hv2 => ?_
    have s910 := sUT.trans s10
    refine ⟨_, rfl, rEq_skins hv2 (hy9.same s910) fun H11 s11 => ⟨_, rfl, ?_⟩⟩
    rw [same_ps]
    refine iteT ?_
    have s911 := s910.trans s11
    have ha11 := s911 _ _ ha9
    refine ⟨_, rfl, _, rfl, _, rfl, a, _, rfl, .inl ⟨SqL.of ha11, fun T3 nT3 => ?_⟩⟩
    have sT3 := same_new (o := .tup (ts.map V.ref)) nT3
    refine fun w9 dw9 => mk_skin (ts := ts) (ps := ps) hg n1 n24 (.inr (.inl upd_same)) ((hs9.same s911).same sT3).b hok (by omega) htw fun H12 s12 nw hw => ?_
    have s1112 := sT3.trans s12
    refine ⟨_, rfl, rEq_skins hw ((hx9.same s911).same s1112) fun H13 s13 => ?_⟩
    rw [same_ps]
    have sF : Same H6 H13 := s7.trans (s79.trans (s911.trans (s1112.trans s13)))
    exact q H13 (k6.trans (Kp.same sF)) (hp6.same sF)
theorem has_law_widened_right (Tx : Txt K mg) (c : He.SaysX fa fn [] tf ex w hh K) (X : K.In hh) (GG : hh.Ns mainGlobals mg) (h_law_draw : Has P w K mg base "_law_draw" 1 ["_law_pen_here", "_law_many"] sp_law_draw) (h_Skin_init : HasI P w K mg base 5 (sp_Skin_init K)) (h_law_told : Has P w K mg base "_law_told" 2 ["_law_pen_here", "_law_pairs_here"] (sp_law_told K)) (h_Skin_with_seams : HasM P w K mg base (L2.CX P w) "Skin" "with_seams" 7 ["self", "seams"] (sp_Skin_with_seams K)) (h_law_tells_right : Has P w K mg base "_law_tells_right" 5 ["_law_skin", "_law_kind", "_law_faces", "_law_pairs_here"] (sp_law_tells_right K)) (h_Skin_eq : HasM P w K mg base CX0 "Skin" "__eq__" 1 ["self", "other"] (sp_Skin_eq K))  (hk_Skin_with_seams : HasMK P w K mg base (L2.CX P w) "Skin" "with_seams" 7 ["self", "seams"] ["seams"] (sp_Skin_with_seams K)) : HasS P w K mg base "_law_widened_right" 8 ["_law_pen_here", "_law_skin", "_law_kind", "_law_faces", "_law_pairs_here"] (sp_law_widened_right K) := by
  obtain ⟨fd, F⟩ := c.t.d.def_ 44 (d := d_law_widened_right) rfl
  exact ⟨_, fd, ok_law_widened_right F Tx h_law_draw h_Skin_init h_law_told h_Skin_with_seams h_law_tells_right h_Skin_eq hk_Skin_with_seams, He.glo_ok X GG (c.t.d.fact 37 (f := .glo "_law_widened_right") rfl), F.kp, F.bindsN fun _ _ _ _ _ _ us hl => match us, hl with | [_, _, _, _, _], _ => rfl⟩

end
end K04

namespace K04
open PySem PySem.Spec PyProof.Rows L2 Vf LamX
section
variable {hh : Heap} {P : Program} {w : World} {K : PySem.W.Frag} {mg : Str → Option Value} {base : Heap}
/-! ### what is refused: frames, tables of code -/
theorem penExt {H H1 : Hp} {p c : Addr} {b : Nat} (h : PenAt H p c b) (e : ExtN H H1) : PenAt H1 p c b := by
  obtain ⟨ns, n, g, h1, h2, h3, h4⟩ := h
  exact ⟨ns, n, g, e _ _ h1 (fun _ z => nomatch z), e _ _ h2 (fun _ z => nomatch z), h3, h4⟩
theorem codeO_lst {H : Hp} {c : Addr} {q : Str} {xs : List V} (h : H c = some (CodeO c q)) : H c ≠ some (.lst xs) := fun e => by
  rw [h] at e
  unfold CodeO at e
  cases e
theorem tabs_kp {T : List (Addr × Str)} {H H1 : Hp} {p : Addr} {xs : List V} (t : LamX.Tabs T H) (hp : H p = some (.lst xs)) (k : Kp p H H1) : LamX.Tabs T H1 := fun z hz => by
  obtain ⟨ps, h1, h2, h3⟩ := t z hz
  refine ⟨ps, k _ _ (fun e => ?_) h1, h2, fun pos cv hc => ?_⟩
  · rw [e, hp] at h1
    cases h1
  · obtain ⟨c, e1, e2⟩ := h3 pos cv hc
    exact ⟨c, e1, k _ _ (fun e => codeO_lst e2 (by rw [e]; exact hp)) e2⟩
theorem tabs_same {T : List (Addr × Str)} {H H1 : Hp} (t : LamX.Tabs T H) (s : Same H H1) : LamX.Tabs T H1 := t.ext s
/-- the def that hears -/
def HasH (K : PySem.W.Frag) (mg : Str → Option Value) : Prop := ∃ (g : Addr) (oc : Value) (od : Option Addr) (dV kV doc pm : Value) (an : Option Addr) (cdv ct : Value) (osl : Array (Option Value)), mg "_law_heard" = some (.ref g) ∧ PySem.W.keepIn K (.ref g) = true ∧
  K.lookup g = some ⟨oc, od, .func (PySem.W.fnOf "_law_heard" "_law_heard" (defArgs s_law_heard) (defBody s_law_heard) (defScope s_law_heard) dV kV doc pm an cdv ct), osl⟩ ∧ PySem.W.codeIn K cdv "_law_heard" = true ∧
  L2.Binds K (PySem.W.fnOf "_law_heard" "_law_heard" (defArgs s_law_heard) (defBody s_law_heard) (defScope s_law_heard) dV kV doc pm an cdv ct) ["_law_ask"] []
theorem has_heard (c : He.SaysX fa fn [] tf ex w hh K) (X : K.In hh) (GG : hh.Ns mainGlobals mg) : HasH K mg := by
  obtain ⟨fd, F⟩ := c.t.d.def_ 41 (d := d_law_heard) rfl
  have hb : Binds K fd ["_law_ask"] [] := F.bindsN fun _ _ _ _ _ _ us hl => match us, hl with | [_], _ => rfl
  obtain ⟨oc, od, dV, kV, doc, pm, an, cdv, ct, osl, rfl, lk, hcd, hD, hK⟩ := F.ex
  exact ⟨_, oc, od, dV, kV, doc, pm, an, cdv, ct, osl, He.glo_ok X GG (c.t.d.fact 34 (f := .glo "_law_heard") rfl), F.kp, lk, hcd, hb⟩
def lq (x : Str) (sc : Scope) : Str := (envOfC x sc 0 0 .none).qual ++ "<lambda>"
abbrev TT0 (K : PySem.W.Frag) : List (Addr × Str) := [(tabT K "_law_refused_right", lq "_law_refused_right" (defScope s_law_refused_right))]
theorem mem_law_refused_right (K : PySem.W.Frag) : (tabT K "_law_refused_right", lq "_law_refused_right" (defScope s_law_refused_right)) ∈ TT0 K := List.mem_cons_self ..
theorem hu_law_refused_right (_ : Txt K mg) : ∀ p ∈ TT0 K, p.1 = tabT K "_law_refused_right" → p.2 = lq "_law_refused_right" (defScope s_law_refused_right) := fun p hp _ => by
  rw [List.mem_singleton.mp hp]
theorem op_eqNilK {X : Cx} (hK : X.K = K) (hu : X.A.units < cLine) : OpR X (compareOp .Eq) (rEqNil K) := by
  subst hK
  exact op_eqNil hu
theorem SkinAt.ext {H H' : Hp} {x : Addr} {z : Str} {n : Int} {ps : List (Int × Int)} (h : SkinAt K H x z n ps) (e : ExtN H H') : SkinAt K H' x z n ps := by
  obtain ⟨dx, st, mt, ft, us, qs, h⟩ := h
  exact ⟨dx, st, mt, ft, us, qs, ⟨h.nb, e _ _ h.ins (fun _ z => nomatch z), e _ _ h.nexts (fun _ z => nomatch z), e _ _ h.backs (fun _ z => nomatch z)⟩, e _ _ h.seams (fun _ z => nomatch z), ⟨h.sts.len, fun i t p h1 h2 => e _ _ (h.sts.at_ i t p h1 h2) (fun _ z => nomatch z)⟩, h.perm, h.srtd, e _ _ h.mates (fun _ z => nomatch z), e _ _ h.free (fun _ z => nomatch z)⟩
/-- a value that is no side, and its text -/
inductive OddV (K : PySem.W.Frag) (p : Addr) (H : Hp) : V → Str → Prop where
  | flat (v : V) (h : flatS v = true) (hs : (fdat v).showable = true) (hl : (fdat v).shown.length ≤ sizeLine) : OddV K p H v (fdat v).shown
  | lst (a : Addr) (h : H a = some (.lst [.int 0])) (ap : a ≠ p) : OddV K p H (.ref a) (PyData.list [.int 0]).shown
  | tup (a : Addr) (h : H a = some (.tup [.int 0])) : OddV K p H (.ref a) (PyData.tuple [.int 0]).shown
  | dict (a : Addr) (h : H a = some (.dK [])) : OddV K p H (.ref a) (PyData.dict []).shown
theorem OddV.ext {p : Addr} {H H' : Hp} {v : V} {t : Str} (h : OddV K p H v t) (e : ExtN H H') : OddV K p H' v t := by
  cases h with
  | flat v h hs hl => exact .flat v h hs hl
  | lst a h ap => exact .lst a (e _ _ h fun _ z => nomatch z) ap
  | tup a h => exact .tup a (e _ _ h fun _ z => nomatch z)
  | dict a h => exact .dict a (e _ _ h fun _ z => nomatch z)
theorem extN_same {H H' : Hp} (s : Same H H') : ExtN H H' := fun a o h _ => s a o h
theorem OddV.kp {p c : Addr} {b : Nat} {H H' : Hp} {v : V} {t : Str} (h : OddV K p H v t) (hp : PenAt H p c b) (k : Kp p H H') : OddV K p H' v t := by
  cases h with
  | flat v h hs hl => exact .flat v h hs hl
  | lst a h ap => exact .lst a (k _ _ ap h) ap
  | tup a h => exact .tup a (kp_hard hp k h fun _ z => nomatch z)
  | dict a h => exact .dict a (kp_hard hp k h fun _ z => nomatch z)
theorem OddV.kd {p : Addr} {H : Hp} {v : V} {t : Str} (h : OddV K p H v t) : ∃ k, KdV K H v k := by
  cases h with
  | flat v h hs hl =>
    cases v with
    | int i => exact ⟨.int, True.intro⟩
    | str i => exact ⟨.str, True.intro⟩
    | bl i => exact ⟨.bool, True.intro⟩
    | non => exact ⟨.none, True.intro⟩
    | _ => cases h
  | lst a h ap => exact ⟨.list, _, h⟩
  | tup a h => exact ⟨.tuple, .inl ⟨_, h⟩⟩
  | dict a h => exact ⟨.dict, _, h⟩
theorem fdat_dict (v : V) : (fdat v).hasDict = false := by cases v <;> simp [fdat, PyData.hasDict]
theorem OddV.rp {p : Addr} {H : Hp} {v : V} {t : Str} (h : OddV K p H v t) : RpOk K H v t := by
  cases h with
  | flat v h hs hl => exact .dp (dp_flat h) hs (fdat_dict v) (Nat.le_trans (depth_flat v) (by decide)) hl
  | lst a h ap => exact .dp (.lst (SqL.of h) (.cons (.int 0) .nil)) (by decide +kernel) (by decide +kernel) (by decide +kernel) (le_line (n := 10) (by decide +kernel) |> fun _ => by decide +kernel)
  | tup a h => exact .dp (.tup (SqT.of h) (.cons (.int 0) .nil)) (by decide +kernel) (by decide +kernel) (by decide +kernel) (by decide +kernel)
  | dict a h => exact .dk h
/-- what stays from one lambda to the next -/
structure Wr (K : PySem.W.Frag) (p c x : Addr) (b : Nat) (z : Str) (n : Int) (ps : List (Int × Int)) (v : V) (t : Str) (H : Hp) : Prop where
  pen : PenAt H p c b
  tabs : LamX.Tabs (TT0 K) H
  sk : SkinAt K H x z n ps
  odd : OddV K p H v t
theorem Wr.ext {p c x : Addr} {b : Nat} {z : Str} {n : Int} {ps : List (Int × Int)} {v : V} {t : Str} {H H1 : Hp} (w : Wr K p c x b z n ps v t H) (e : ExtN H H1) (u : LamX.Tabs (TT0 K) H1) : Wr K p c x b z n ps v t H1 := ⟨penExt w.pen e, u, w.sk.ext e, w.odd.ext e⟩
theorem Wr.same {p c x : Addr} {b : Nat} {z : Str} {n : Int} {ps : List (Int × Int)} {v : V} {t : Str} {H H1 : Hp} (w : Wr K p c x b z n ps v t H) (s : Same H H1) : Wr K p c x b z n ps v t H1 := w.ext (extN_same s) (tabs_same w.tabs s)
theorem odd_int {v : V} {N i : Int} (h : inS v N = false) (e : v = .int i) (h0 : 0 ≤ i) (h1 : i < N) : False := by
  subst e
  rw [inS_of h0 h1] at h
  cases h
theorem lam_mate {p c x : Addr} {b : Nat} {z : Str} {n : Int} {ps : List (Int × Int)} {v : V} {t : Str} {H : Hp} {N C : VK} (w : Wr K p c x b z n ps v t H) (hv : inS v (n * turnOf z) = false) (T : ToldL C H v) : sp_Skin_mate K [.ref x, v] H N (EH K C) := by
  obtain ⟨k, hk⟩ := w.odd.kd
  exact ⟨x, z, n, ps, v, k, rfl, w.sk, hk, fun i r e h0 h1 _ => (odd_int hv e h0 h1).elim, fun _ => eh_side T⟩
theorem lam_next {p c x : Addr} {b : Nat} {z : Str} {n : Int} {ps : List (Int × Int)} {v : V} {t : Str} {H : Hp} {N C : VK} (w : Wr K p c x b z n ps v t H) (hv : inS v (n * turnOf z) = false) (T : ToldL C H v) : sp_Skin_next K [.ref x, v] H N (EH K C) := by
  obtain ⟨k, hk⟩ := w.odd.kd
  exact ⟨x, z, n, ps, v, k, rfl, w.sk, hk, fun i r e h0 h1 _ => (odd_int hv e h0 h1).elim, fun _ => eh_side T⟩
theorem lam_back {p c x : Addr} {b : Nat} {z : Str} {n : Int} {ps : List (Int × Int)} {v : V} {t : Str} {H : Hp} {N C : VK} (w : Wr K p c x b z n ps v t H) (hv : inS v (n * turnOf z) = false) (T : ToldL C H v) : sp_Skin_back K [.ref x, v] H N (EH K C) := by
  obtain ⟨k, hk⟩ := w.odd.kd
  exact ⟨x, z, n, ps, v, k, rfl, w.sk, hk, fun i r e h0 h1 _ => (odd_int hv e h0 h1).elim, fun _ => eh_side T⟩
theorem lam_face {p c x : Addr} {b : Nat} {z : Str} {n : Int} {ps : List (Int × Int)} {v : V} {t : Str} {H : Hp} {N C : VK} (w : Wr K p c x b z n ps v t H) (hv : inS v (n * turnOf z) = false) (T : ToldL C H v) : sp_Skin_face K [.ref x, v] H N (EH K C) := by
  obtain ⟨k, hk⟩ := w.odd.kd
  exact ⟨x, z, n, ps, v, k, rfl, w.sk, hk, fun i e h0 h1 => (odd_int hv e h0 h1).elim, fun _ => eh_side T⟩
def sp_law_refused_right (K : PySem.W.Frag) : Sp := fun vs H Q _ => ∃ (p c x : Addr) (b : Nat) (z : Str) (n : Int) (ps : List (Int × Int)), vs = [.ref p, .ref x] ∧ PenAt H p c (b + 1) ∧ SkinAt K H x z n ps ∧ 1 ≤ n ∧ n ≤ 24 ∧ LamX.Tabs (TT0 K) H ∧ ∀ H', PenAt H' p c b → LamX.Tabs (TT0 K) H' → Q (.bl true) H'
theorem sc_law_refused_right : FnScope ["_law_pen_here", "_law_skin", "_law_odd", "_law_heard_here", "_law_row"] ["_law_pen_here", "_law_skin"] (defScope s_law_refused_right) := ⟨rfl, rfl, rfl, by decide +kernel, rfl, by decide +kernel, by decide +kernel⟩
theorem ok_law_refused_right {fd : FuncData} (F : FunD K "_law_refused_right" "_law_refused_right" (defArgs s_law_refused_right) (defBody s_law_refused_right) (defScope s_law_refused_right) [] [] (He.fAd K ("_law_refused_right", none)) fd) (Tx : Txt K mg) (tb : LamX.TabB base mg (He.codeOf K ("_law_refused_right", none)) (tabT K "_law_refused_right")) (h_heard : HasH K mg) (h_law_pick : Has P w K mg base "_law_pick" 2 ["_law_pen_here", "_law_some"] (sp_law_pick K)) (h_Skin_mate : HasM P w K mg base (L2.CX P w) "Skin" "mate" 4 ["self", "side"] (sp_Skin_mate K)) (h_Skin_next : HasM P w K mg base (L2.CX P w) "Skin" "next" 4 ["self", "side"] (sp_Skin_next K)) (h_Skin_back : HasM P w K mg base (L2.CX P w) "Skin" "back" 4 ["self", "side"] (sp_Skin_back K)) (h_Skin_face : HasM P w K mg base (L2.CX P w) "Skin" "face" 4 ["self", "side"] (sp_Skin_face K))  (hk_Skin_back : HasMK P w K mg base (L2.CX P w) "Skin" "back" 4 ["self", "side"] ["side"] (sp_Skin_back K)) (hk_Skin_face : HasMK P w K mg base (L2.CX P w) "Skin" "face" 4 ["self", "side"] ["side"] (sp_Skin_face K)) : SilOk P w K mg base CX0 7 (He.fAd K ("_law_refused_right", none)) fd ["_law_pen_here", "_law_skin"] (sp_law_refused_right K) := by
  obtain ⟨gH, ocH, odH, dVH, kVH, docH, pmH, anH, cdvH, ctH, oslH, g_heard, k_heard, lk_heard, hc_heard, b_heard⟩ := h_heard
  obtain ⟨f_law_pick, fd_law_pick, G_law_pick, g_law_pick, k_law_pick, b_law_pick⟩ := h_law_pick
  obtain ⟨fd_Skin_mate, G_Skin_mate, b_Skin_mate⟩ := h_Skin_mate
  obtain ⟨fd_Skin_next, G_Skin_next, b_Skin_next⟩ := h_Skin_next
  obtain ⟨fd_Skin_back, G_Skin_back, b_Skin_back⟩ := h_Skin_back
  obtain ⟨fd_Skin_face, G_Skin_face, b_Skin_face⟩ := h_Skin_face
  obtain ⟨fdk_Skin_back, gk_Skin_back, Gk_Skin_back, bk_Skin_back⟩ := hk_Skin_back
  obtain ⟨fdk_Skin_face, gk_Skin_face, Gk_Skin_face, bk_Skin_face⟩ := hk_Skin_face
  refine silC F sc_law_refused_right (fun vs H Q E h => ?_) (fun A outer s H vs Q E hA hr h => ?_)
  · obtain ⟨p, c, x, b, z, n, ps, rfl, _⟩ := h
    rfl
  · obtain ⟨p, c, x, b, z, n, ps, rfl, hp, hx, n1, n24, ht, q⟩ := h
    have tz := turn_in z
    have hN0 : 0 < n * turnOf z := by rcases tz with e | e <;> rw [e] <;> omega
    have hN1 : n * turnOf z ≤ 96 := by rcases tz with e | e <;> rw [e] <;> omega
    refine ⟨_, PSs.nox (C8.pss_cut (ps_set (i := 2) sc_law_refused_right.nd rfl (Or.inr rfl) (pe_call G_law_pick (hr.mono (by decide)) (by rfl) g_law_pick k_law_pick b_law_pick .nil pass0 (pa_cons (pv 0) (pa_cons (pe_lst (pa_cons pe_non (pa_cons (pe_un un_neg pe_int) (pa_cons (pe_fld (pv 1) rfl) (pa_cons pe_bl (pa_cons pe_bl (pa_cons pe_str (pa_cons pe_str (pa_cons (pe_lst (pa_cons pe_int pa_nil)) (pa_cons (pe_tup (pa_cons pe_int pa_nil)) (pa_cons pe_dnewK (pa_cons (pe_op op_pow pe_int pe_int) (pa_cons (pe_un un_neg (pe_fld (pv 1) rfl)) pa_nil))))))))))))) pa_nil))))
        (C8.pss_cut (ps_set (i := 3) sc_law_refused_right.nd rfl (Or.inl rfl) (pe_lst (pa_cons (pe_lamcall (T := TT0 K) (TT := TTh K) (k := 4) (by rfl) g_heard k_heard lk_heard hc_heard b_heard sc_law_heard rfl (.inl rfl) (heard_gives rfl rfl Tx) tb rfl (mem_law_refused_right K) (hu_law_refused_right Tx) (hr.mono (by decide)) (LamX.lamS_by (sc := defScope s_law_refused_right) (by decide +kernel)) rfl (fun _ _ _ _ _ => rfl) (fun A outer s H E f c hr => (pe_meth (pv 1) Tx.cl_Skin Tx.me_Skin_mate G_Skin_mate (hr.mono (by decide)) b_Skin_mate .nil (passE rfl rfl rfl rfl) (pa_cons (pv 2) pa_nil)))) (pa_cons (pe_lamcall (T := TT0 K) (TT := TTh K) (k := 4) (by rfl) g_heard k_heard lk_heard hc_heard b_heard sc_law_heard rfl (.inl rfl) (heard_gives rfl rfl Tx) tb rfl (mem_law_refused_right K) (hu_law_refused_right Tx) (hr.mono (by decide)) (LamX.lamS_by (sc := defScope s_law_refused_right) (by decide +kernel)) rfl (fun _ _ _ _ _ => rfl) (fun A outer s H E f c hr => (pe_meth (pv 1) Tx.cl_Skin Tx.me_Skin_next G_Skin_next (hr.mono (by decide)) b_Skin_next .nil (passE rfl rfl rfl rfl) (pa_cons (pv 2) pa_nil)))) pa_nil))))
        (C8.pss_cut (ps_set (i := 3) sc_law_refused_right.nd rfl (Or.inl rfl) (pe_op op_cat (pv 3) (pe_lst (pa_cons (pe_lamcall (T := TT0 K) (TT := TTh K) (k := 4) (by rfl) g_heard k_heard lk_heard hc_heard b_heard sc_law_heard rfl (.inl rfl) (heard_gives rfl rfl Tx) tb rfl (mem_law_refused_right K) (hu_law_refused_right Tx) (hr.mono (by decide)) (LamX.lamS_by (sc := defScope s_law_refused_right) (by decide +kernel)) rfl (fun _ _ _ _ _ => rfl) (fun A outer s H E f c hr => (pe_methK0 (pv 1) Tx.cl_Skin Tx.me_Skin_back Gk_Skin_back (hr.mono (by decide)) bk_Skin_back (passE rfl rfl rfl rfl) (pk_cons (pv 2) pk_nil)))) (pa_cons (pe_lamcall (T := TT0 K) (TT := TTh K) (k := 4) (by rfl) g_heard k_heard lk_heard hc_heard b_heard sc_law_heard rfl (.inl rfl) (heard_gives rfl rfl Tx) tb rfl (mem_law_refused_right K) (hu_law_refused_right Tx) (hr.mono (by decide)) (LamX.lamS_by (sc := defScope s_law_refused_right) (by decide +kernel)) rfl (fun _ _ _ _ _ => rfl) (fun A outer s H E f c hr => (pe_methK0 (pv 1) Tx.cl_Skin Tx.me_Skin_face Gk_Skin_face (hr.mono (by decide)) bk_Skin_face (passE rfl rfl rfl rfl) (pk_cons (pv 2) pk_nil)))) pa_nil)))))
        (pss_one (ps_ret (pe_cmpR (op_eqNil hr.units0) (pe_lc (own := [("_law_row", 4)]) (g := gName 4) rfl sc_law_refused_right.nd (pi_list (pv 3)) (blkOk_by (own := [("_law_row", 4)]) (N := ["_law_pen_here", "_law_skin", "_law_odd", "_law_heard_here", "_law_row"]) (sc := defScope s_law_refused_right) (by decide +kernel)) (fun _ _ _ _ _ => (pg_name (i := 4) sc_law_refused_right.nd rfl (Or.inl rfl))) (fun _ _ _ _ _ => (pts_one (PW.pt (pw_or (pt_cmpR op_isN (pv 4) pe_non (nomark _)) (pw_or (pt_cmpR (op_eqNilK (K := K) rfl hr.units0) (pv 4) (pe_lst pa_nil) (nomark _)) (pw_or1 (pt_cmpR op_ne (pe_callB (call_reprK (K := K) rfl hA hr.units) (by rfl) Tx.n_repr (by decide +kernel) (pa_cons (pe_ix (ix_listK (K := K) rfl) (pv 4) pe_int (fun _ _ => rfl)) pa_nil)) (pe_callB (call_reprK (K := K) rfl hA hr.units) (by rfl) Tx.n_repr (by decide +kernel) (pa_cons (pv 2) pa_nil)) (nomark _)))))))) (fun _ _ _ _ _ => (pv 4))) (pe_lst pa_nil) (nomark _))))))), ?_⟩
    refine ⟨fun σ H' => ∃ (v : V) (t : Str), σ = [some (.ref p), some (.ref x), some v, none, none] ∧ Wr K p c x b z n ps v t H' ∧ inS v (n * turnOf z) = false, ?_, ?_⟩
    · obtain ⟨dx, st, mt, ft, us, qs, hxi⟩ := id hx
      have small : ∀ m : Int, m.natAbs ≤ 96 → (PyData.int m).showable = true ∧ (PyData.int m).shown.length ≤ sizeLine := fun m hm => by
        have h1 := Nat.log2_le_self m.natAbs
        have h2 := len_str_of_int m
        exact ⟨by simp only [PyData.showable]; exact decide_eq_true (by omega), by simp only [PyData.shown]; exact Nat.le_trans (m := 200) (by omega) (le_line (by decide))⟩
      refine ⟨_, rfl, _, rfl, _, rfl, x, _, dx, _, _, rfl, hxi.ins, Tx.cl_Skin, Tx.no_Skin_sides, rfl, le_line (n := 1) (by decide), fun a1 m1 => ⟨le_line (n := 1) (by decide), fun a2 m2 a3 m3 => ?_⟩⟩
      have s1 := same_new (o := .lst [.int 0]) m1
      have s2 := same_new (o := .tup [.int 0]) m2
      have s3 := same_new (o := .dK []) m3
      have f1 := s3 _ _ (s2 _ _ (upd_same (H := H) (a := a1) (o := .lst [.int 0])))
      have f2 := s3 _ _ (upd_same (H := upd H a1 (.lst [.int 0])) (a := a2) (o := .tup [.int 0]))
      have f3 := upd_same (H := upd (upd H a1 (.lst [.int 0])) a2 (.tup [.int 0])) (a := a3) (o := .dK [])
      have sA := s1.trans (s2.trans s3)
      have ap1 := (hp.new m1).1
      revert f1 f2 f3 sA
      generalize upd (upd (upd H a1 (.lst [.int 0])) a2 (.tup [.int 0])) a3 (.dK []) = G
      intro f1 f2 f3 sA
      refine ⟨_, _, rfl, rfl, ⟨by decide, by decide, by decide⟩, _, rfl, x, _, dx, _, _, rfl, (hxi.same sA).ins, Tx.cl_Skin, Tx.no_Skin_sides, rfl, _, rfl, le_line (n := 12) (by decide), fun L nL => ?_⟩
      have sL := same_new (o := .lst [.non, .int (-1), .int (n * turnOf z), .bl true, .bl false, .str "0", .str "", .ref a1, .ref a2, .ref a3, .int (10 ^ (30 : Int).toNat), .int (-(n * turnOf z))]) nL
      have hpL := (hp.same sA).same sL
      refine ⟨p, c, L, b, _, rfl, hpL, .inl upd_same, ((hp.same sA).new nL).1, List.cons_ne_nil _ _, (show 12 ≤ 1000 by decide), fun H2 y hy hp2 k2 => ?_⟩
      have all : ∃ t, OddV K p (upd G L (.lst [.non, .int (-1), .int (n * turnOf z), .bl true, .bl false, .str "0", .str "", .ref a1, .ref a2, .ref a3, .int (10 ^ (30 : Int).toNat), .int (-(n * turnOf z))])) y t ∧ inS y (n * turnOf z) = false := by
        simp only [List.mem_cons, List.not_mem_nil, or_false] at hy
        rcases hy with rfl | rfl | rfl | rfl | rfl | rfl | rfl | rfl | rfl | rfl | rfl | rfl
        · exact ⟨_, .flat .non rfl (by decide +kernel) (by decide +kernel), rfl⟩
        · exact ⟨_, .flat (.int (-1)) rfl (small (-1) (by decide)).1 (small (-1) (by decide)).2, rfl⟩
        · refine ⟨_, .flat (.int (n * turnOf z)) rfl (small _ (by omega)).1 (small _ (by omega)).2, ?_⟩
          show (decide (0 ≤ n * turnOf z) && decide (n * turnOf z ≤ n * turnOf z - 1)) = false
          rw [decide_eq_false (show ¬ n * turnOf z ≤ n * turnOf z - 1 by omega), Bool.and_false]
        · exact ⟨_, .flat (.bl true) rfl (by decide +kernel) (by decide +kernel), rfl⟩
        · exact ⟨_, .flat (.bl false) rfl (by decide +kernel) (by decide +kernel), rfl⟩
        · exact ⟨_, .flat (.str "0") (by decide +kernel) (by decide +kernel) (by decide +kernel), rfl⟩
        · exact ⟨_, .flat (.str "") (by decide +kernel) (by decide +kernel) (by decide +kernel), rfl⟩
        · exact ⟨_, .lst a1 (sL _ _ f1) ap1, rfl⟩
        · exact ⟨_, .tup a2 (sL _ _ f2), rfl⟩
        · exact ⟨_, .dict a3 (sL _ _ f3), rfl⟩
        · refine ⟨_, .flat (.int (10 ^ (30 : Int).toNat)) rfl (by decide +kernel) (by decide +kernel), ?_⟩
          show (decide (0 ≤ (10 : Int) ^ (30 : Int).toNat) && decide ((10 : Int) ^ (30 : Int).toNat ≤ n * turnOf z - 1)) = false
          rw [decide_eq_false (show ¬ (10 : Int) ^ (30 : Int).toNat ≤ n * turnOf z - 1 from fun h => ?_), Bool.and_false]
          have h0 : (97 : Int) ≤ (10 : Int) ^ (30 : Int).toNat := by decide +kernel
          omega
        · refine ⟨_, .flat (.int (-(n * turnOf z))) rfl (small _ (by omega)).1 (small _ (by omega)).2, ?_⟩
          show (decide (0 ≤ -(n * turnOf z)) && decide (-(n * turnOf z) ≤ n * turnOf z - 1)) = false
          rw [decide_eq_false (show ¬ 0 ≤ -(n * turnOf z) by omega), Bool.false_and]
      obtain ⟨t, ho, hi⟩ := all
      obtain ⟨ps0, hps0⟩ := hpL.at
      exact ⟨y, t, rfl, ⟨hp2, tabs_kp (tabs_same (tabs_same ht sA) sL) hps0 k2, ((hx.same sA).same sL).kp hpL k2, ho.kp hpL k2⟩, hi⟩
    rintro σ H1 ⟨v, t, rfl, W, hv⟩
    -- two heard
    refine ⟨fun σ H' => ∃ (l r1 r2 : Addr), σ = [some (.ref p), some (.ref x), some v, some (.ref l), none] ∧ Wr K p c x b z n ps v t H' ∧ H' l = some (.lst [.ref r1, .ref r2]) ∧ H' r1 = some (.lst [v]) ∧ H' r2 = some (.lst [v]), ?_, ?_⟩
    · refine ⟨W.tabs, fun A1 e1 u1 t1 m1 N1 => ?_⟩
      have W1 := (W.ext e1 u1).same (same_new (o := .lst []) m1)
      obtain ⟨d1, _, _, _, _, _, h1⟩ := id W1.sk
      refine ⟨_, rfl, x, d1, _, rfl, h1.ins, rfl, _, rfl, tNil_of (lam_mate W1 hv fun B1 r1 s1 o1 w1 => ?_)⟩
      have V1 := W1.same s1
      refine ⟨V1.tabs, fun A2 e2 u2 t2 m2 N2 => ?_⟩
      have W2 := (V1.ext e2 u2).same (same_new (o := .lst []) m2)
      have w1 := same_new (o := .lst []) m2 _ _ (e2 _ _ w1 fun _ z => nomatch z)
      obtain ⟨d2, _, _, _, _, _, h2⟩ := id W2.sk
      refine ⟨_, rfl, x, d2, _, rfl, h2.ins, rfl, _, rfl, tNil_of (lam_next W2 hv fun B2 r2 s2 o2 w2 => ?_)⟩
      refine ⟨le_line (n := 2) (by decide), fun L nL => ?_⟩
      have sL := same_new (o := .lst [.ref r1, .ref r2]) nL
      exact ⟨L, r1, r2, rfl, (W2.same s2).same sL, upd_same, sL _ _ (s2 _ _ w1), sL _ _ w2⟩
    rintro σ H2 ⟨l, r1, r2, rfl, W2, hl, h1, h2⟩
    -- four
    refine ⟨fun σ H' => ∃ (l r1 r2 r3 r4 : Addr), σ = [some (.ref p), some (.ref x), some v, some (.ref l), none] ∧ Wr K p c x b z n ps v t H' ∧ H' l = some (.lst [.ref r1, .ref r2, .ref r3, .ref r4]) ∧ H' r1 = some (.lst [v]) ∧ H' r2 = some (.lst [v]) ∧ H' r3 = some (.lst [v]) ∧ H' r4 = some (.lst [v]), ?_, ?_⟩
    · refine ⟨_, rfl, W2.tabs, fun A1 e1 u1 t1 m1 N1 => ?_⟩
      have sa := same_new (o := .lst []) m1
      have W3 := (W2.ext e1 u1).same sa
      obtain ⟨d1, _, _, _, _, _, i1⟩ := id W3.sk
      refine ⟨_, rfl, x, d1, _, rfl, i1.ins, rfl, _, rfl, rfl, lam_back W3 hv fun B1 r3 s1 o1 w3 => ?_⟩
      have V1 := W3.same s1
      have hl := s1 _ _ (sa _ _ (e1 _ _ hl fun _ z => nomatch z))
      have h1 := s1 _ _ (sa _ _ (e1 _ _ h1 fun _ z => nomatch z))
      have h2 := s1 _ _ (sa _ _ (e1 _ _ h2 fun _ z => nomatch z))
      refine ⟨V1.tabs, fun A2 e2 u2 t2 m2 N2 => ?_⟩
      have sb := same_new (o := .lst []) m2
      have W4 := (V1.ext e2 u2).same sb
      obtain ⟨d2, _, _, _, _, _, i2⟩ := id W4.sk
      refine ⟨_, rfl, x, d2, _, rfl, i2.ins, rfl, _, rfl, rfl, lam_face W4 hv fun B2 r4 s2 o2 w4 => ?_⟩
      have hl := s2 _ _ (sb _ _ (e2 _ _ hl fun _ z => nomatch z))
      have h1 := s2 _ _ (sb _ _ (e2 _ _ h1 fun _ z => nomatch z))
      have h2 := s2 _ _ (sb _ _ (e2 _ _ h2 fun _ z => nomatch z))
      have w3 := s2 _ _ (sb _ _ (e2 _ _ w3 fun _ z => nomatch z))
      refine ⟨le_line (n := 2) (by decide), fun L nL => ?_⟩
      have sL := same_new (o := .lst [.ref r3, .ref r4]) nL
      refine ⟨l, L, _, _, rfl, rfl, sL _ _ hl, upd_same, le_line (n := 4) (by decide), fun S nS => ?_⟩
      have sS := same_new (o := .lst ([.ref r1, .ref r2] ++ [.ref r3, .ref r4])) nS
      have sLS := sL.trans sS
      exact ⟨S, r1, r2, r3, r4, rfl, (W4.same s2).same sLS, upd_same, sLS _ _ h1, sLS _ _ h2, sLS _ _ w3, sLS _ _ w4⟩
    rintro σ H3 ⟨l, r1, r2, r3, r4, rfl, W3, hl, h1, h2, h3, h4⟩
    have all : ∀ r, V.ref r ∈ [V.ref r1, .ref r2, .ref r3, .ref r4] → H3 r = some (.lst [v]) := fun r hr => by
      simp only [List.mem_cons, List.not_mem_nil, or_false, V.ref.injEq] at hr
      rcases hr with rfl | rfl | rfl | rfl
      · exact h1
      · exact h2
      · exact h3
      · exact h4
    refine ⟨_, rfl, l, rfl, ⟨_, SqL.of hl⟩, fun D nD => ?_⟩
    refine lc_it (walk_list (K := K) (a := l) (xs := [V.ref r1, .ref r2, .ref r3, .ref r4])) (fun j H' => Same H3 H' ∧ H' D = some (.lst [])) ⟨same_new nD, upd_same⟩ (fun j H' _ pp => SqL.of (pp.1 _ _ hl)) (fun j y H' H'' hj pp yy => ?_) (fun H' pp => ?_)
    · obtain ⟨s5, hD⟩ := pp
      obtain ⟨rfl, hv5⟩ := yy
      have hm := List.mem_of_getElem? hv5
      obtain ⟨r, rfl⟩ : ∃ r, y = .ref r := by
        simp only [List.mem_cons, List.not_mem_nil, or_false] at hm
        rcases hm with rfl | rfl | rfl | rfl <;> exact ⟨_, rfl⟩
      have hr := s5 _ _ (all r hm)
      have W5 := W3.same s5
      refine ⟨rfl, ?_⟩
      refine ⟨_, rfl, rfl, _, rfl, iteF ?_⟩
      refine ⟨_, rfl, Nat.zero_le _, fun T nT => ?_⟩
      have sT := same_new (o := .lst []) nT
      refine ⟨r, T, _, rfl, rfl, SqL.of (sT _ _ hr), SqL.of upd_same, _, rfl, iteF ?_⟩
      refine ⟨_, rfl, r, _, 0, v, rfl, rfl, SqL.of (sT _ _ hr), rfl, v, t, rfl, (W5.same sT).odd.rp, _, rfl, v, t, rfl, (W5.same sT).odd.rp, rfl, _, rfl, ?_⟩
      rw [decide_eq_true (show V.str t = V.str t from rfl)]
      exact iteF ⟨s5.trans sT, sT _ _ hD⟩
    · obtain ⟨s5, hD⟩ := pp
      refine ⟨Nat.zero_le _, fun T nT => ?_⟩
      have sT := same_new (o := .lst []) nT
      refine ⟨D, T, _, rfl, rfl, SqL.of (sT _ _ hD), SqL.of upd_same, ?_⟩
      have W6 := W3.same (s5.trans sT)
      exact q _ W6.pen W6.tabs
theorem has_law_refused_right (Tx : Txt K mg) (c : He.SaysX fa fn [] tf ex w hh K) (X : K.In hh) (GG : hh.Ns mainGlobals mg) (tb : LamX.TabB base mg (He.codeOf K ("_law_refused_right", none)) (tabT K "_law_refused_right")) (h_heard : HasH K mg) (h_law_pick : Has P w K mg base "_law_pick" 2 ["_law_pen_here", "_law_some"] (sp_law_pick K)) (h_Skin_mate : HasM P w K mg base (L2.CX P w) "Skin" "mate" 4 ["self", "side"] (sp_Skin_mate K)) (h_Skin_next : HasM P w K mg base (L2.CX P w) "Skin" "next" 4 ["self", "side"] (sp_Skin_next K)) (h_Skin_back : HasM P w K mg base (L2.CX P w) "Skin" "back" 4 ["self", "side"] (sp_Skin_back K)) (h_Skin_face : HasM P w K mg base (L2.CX P w) "Skin" "face" 4 ["self", "side"] (sp_Skin_face K))  (hk_Skin_back : HasMK P w K mg base (L2.CX P w) "Skin" "back" 4 ["self", "side"] ["side"] (sp_Skin_back K)) (hk_Skin_face : HasMK P w K mg base (L2.CX P w) "Skin" "face" 4 ["self", "side"] ["side"] (sp_Skin_face K)) : HasS P w K mg base "_law_refused_right" 7 ["_law_pen_here", "_law_skin"] (sp_law_refused_right K) := by
  obtain ⟨fd, F⟩ := c.t.d.def_ 47 (d := d_law_refused_right) rfl
  exact ⟨_, fd, ok_law_refused_right F Tx tb h_heard h_law_pick h_Skin_mate h_Skin_next h_Skin_back h_Skin_face hk_Skin_back hk_Skin_face, He.glo_ok X GG (c.t.d.fact 40 (f := .glo "_law_refused_right") rfl), F.kp, F.bindsN fun _ _ _ _ _ _ us hl => match us, hl with | [_, _], _ => rfl⟩

end
end K04

namespace K04
open PySem PySem.Spec PyProof.Rows L2 Vf LamX
section
variable {hh : Heap} {P : Program} {w : World} {K : PySem.W.Frag} {mg : Str → Option Value} {base : Heap}
/-! ### the law -/
structure Lq (K : PySem.W.Frag) (p c F x : Addr) (b : Nat) (z : Str) (n : Int) (ts : List Addr) (ps : List (Int × Int)) (H : Hp) : Prop where
  pen : PenAt H p c b
  tabs : LamX.Tabs (TT0 K) H
  sk : SkinAt K H x z n ps
  ha : H F = some (.lst (ts.map V.ref))
  hs : Seams H ts ps
theorem Lq.same {p c F x : Addr} {b : Nat} {z : Str} {n : Int} {ts : List Addr} {ps : List (Int × Int)} {H H' : Hp} (w : Lq K p c F x b z n ts ps H) (s : Same H H') : Lq K p c F x b z n ts ps H' :=
  ⟨w.pen.same s, tabs_same w.tabs s, w.sk.same s, s _ _ w.ha, w.hs.same s⟩
theorem Lq.kp {p c F x : Addr} {b d : Nat} {z : Str} {n : Int} {ts : List Addr} {ps : List (Int × Int)} {H H' : Hp} (w : Lq K p c F x b z n ts ps H) (k : Kp p H H') (h : PenAt H' p c d) : Lq K p c F x d z n ts ps H' := by
  obtain ⟨ps0, hps0⟩ := w.pen.at
  exact ⟨h, tabs_kp w.tabs hps0 k, w.sk.kp w.pen k, k _ _ (refs_pen w.pen w.ha) w.ha, w.hs.kp w.pen k⟩
theorem Lq.updL {p c F x l : Addr} {b : Nat} {z : Str} {n : Int} {ts : List Addr} {ps : List (Int × Int)} {H : Hp} {xs : List V} {o : HO} (w : Lq K p c F x b z n ts ps H) (hl : H l = some (.lst xs)) (np : l ≠ p) (nc : l ≠ c) (nF : F ≠ l) : Lq K p c F x b z n ts ps (upd H l o) :=
  ⟨w.pen.mut np nc, tabs_kp w.tabs hl (Kp.refl l H).set, w.sk.updL hl, by rw [upd_ne nF]; exact w.ha, w.hs.updL hl⟩
theorem tabs_pen {H H' : Hp} {p c : Addr} {b : Nat} (t : LamX.Tabs (TT0 K) H) (hp : PenAt H p c b) (k : Kp p H H') : LamX.Tabs (TT0 K) H' := by
  obtain ⟨xs, hx⟩ := hp.at
  exact tabs_kp t hx k
def sp_law (K : PySem.W.Frag) : Sp := fun vs H Q _ => ∃ (a : Addr) (ns : List Int), vs = [.ref a] ∧ SqL K H a (ns.map V.int) ∧ ns.length ≤ 63 ∧ LamX.Tabs (TT0 K) H ∧ ∀ H', Q (.bl true) H'
theorem sc_law : FnScope ["_law_script", "_law_pen_here", "_law_lap", "_law_kind", "_law_turn", "_law_faces", "_law_pairs_here", "_law_told_here", "_law_passed", "_law_skin"] ["_law_script"] (defScope s_law) := ⟨rfl, rfl, rfl, by decide +kernel, rfl, by decide +kernel, by decide +kernel⟩
theorem ok_law {f : Addr} {fd : FuncData} (F : FunD K "law" "law" (defArgs s_law) (defBody s_law) (defScope s_law) [] [] f fd) (Tx : Txt K mg) (h_law_pen : Has P w K mg base "_law_pen" 1 ["_law_script"] (sp_law_pen K)) (h_law_pick : Has P w K mg base "_law_pick" 2 ["_law_pen_here", "_law_some"] (sp_law_pick K)) (h_law_draw : Has P w K mg base "_law_draw" 1 ["_law_pen_here", "_law_many"] sp_law_draw) (h_law_pairs : Has P w K mg base "_law_pairs" 2 ["_law_pen_here", "_law_sides", "_law_many"] (sp_law_pairs K)) (h_law_told : Has P w K mg base "_law_told" 2 ["_law_pen_here", "_law_pairs_here"] (sp_law_told K)) (h_Skin_init : HasI P w K mg base 5 (sp_Skin_init K)) (h_law_tells_right : Has P w K mg base "_law_tells_right" 5 ["_law_skin", "_law_kind", "_law_faces", "_law_pairs_here"] (sp_law_tells_right K)) (h_law_widened_right : HasS P w K mg base "_law_widened_right" 8 ["_law_pen_here", "_law_skin", "_law_kind", "_law_faces", "_law_pairs_here"] (sp_law_widened_right K)) (h_law_mirrored_right : Has P w K mg base "_law_mirrored_right" 8 ["_law_skin", "_law_kind", "_law_faces", "_law_pairs_here"] (sp_law_mirrored_right K)) (h_law_unlike_right : Has P w K mg base "_law_unlike_right" 7 ["_law_pen_here", "_law_skin", "_law_kind", "_law_faces", "_law_pairs_here"] (sp_law_unlike_right K)) (h_law_refused_right : HasS P w K mg base "_law_refused_right" 7 ["_law_pen_here", "_law_skin"] (sp_law_refused_right K))   : SilOk P w K mg base CX0 9 f fd ["_law_script"] (sp_law K) := by
  obtain ⟨f_law_pen, fd_law_pen, G_law_pen, g_law_pen, k_law_pen, b_law_pen⟩ := h_law_pen
  obtain ⟨f_law_pick, fd_law_pick, G_law_pick, g_law_pick, k_law_pick, b_law_pick⟩ := h_law_pick
  obtain ⟨f_law_draw, fd_law_draw, G_law_draw, g_law_draw, k_law_draw, b_law_draw⟩ := h_law_draw
  obtain ⟨f_law_pairs, fd_law_pairs, G_law_pairs, g_law_pairs, k_law_pairs, b_law_pairs⟩ := h_law_pairs
  obtain ⟨f_law_told, fd_law_told, G_law_told, g_law_told, k_law_told, b_law_told⟩ := h_law_told
  obtain ⟨fd_Skin_init, G_Skin_init, b_Skin_init, ⟨ds2_Skin_init, v2_Skin_init, b2_Skin_init⟩, ⟨ds1_Skin_init, kb_Skin_init_kind_faces⟩, ⟨dd1_Skin_init, kb_Skin_init_seams_faces_kind⟩⟩ := h_Skin_init
  obtain ⟨f_law_tells_right, fd_law_tells_right, G_law_tells_right, g_law_tells_right, k_law_tells_right, b_law_tells_right⟩ := h_law_tells_right
  obtain ⟨f_law_widened_right, fd_law_widened_right, G_law_widened_right, g_law_widened_right, k_law_widened_right, b_law_widened_right⟩ := h_law_widened_right
  obtain ⟨f_law_mirrored_right, fd_law_mirrored_right, G_law_mirrored_right, g_law_mirrored_right, k_law_mirrored_right, b_law_mirrored_right⟩ := h_law_mirrored_right
  obtain ⟨f_law_unlike_right, fd_law_unlike_right, G_law_unlike_right, g_law_unlike_right, k_law_unlike_right, b_law_unlike_right⟩ := h_law_unlike_right
  obtain ⟨f_law_refused_right, fd_law_refused_right, G_law_refused_right, g_law_refused_right, k_law_refused_right, b_law_refused_right⟩ := h_law_refused_right
  refine silD F sc_law (fun vs H Q E h => ?_) (fun cdv A outer s H vs Q E hA hr h => ?_)
  · obtain ⟨a, ns, rfl, _⟩ := h
    rfl
  · obtain ⟨a, ns, rfl, hS, hl, hT, q⟩ := h
    refine ⟨_, PSs.nox (pss_cons (ps_set (i := 1) sc_law.nd rfl (Or.inl rfl) (pe_call G_law_pen (hr.mono (by decide)) (by rfl) g_law_pen k_law_pen b_law_pen .nil pass0 (pa_cons (pv 0) pa_nil)))
        (pss_cons (ps_for PassesOwn.never rfl (pi_range1 (by rfl) Tx.n_range (pa_cons pe_int pa_nil)) (pg_name (i := 2) sc_law.nd rfl (Or.inl rfl)) (C8.pss_cut (ps_set (i := 3) sc_law.nd rfl (Or.inl rfl) (pe_call G_law_pick (hr.mono (by decide)) (by rfl) g_law_pick k_law_pick b_law_pick .nil pass0 (pa_cons (pv 1) (pa_cons (pe_lst (pa_cons pe_str (pa_cons pe_str pa_nil))) pa_nil))))
        (C8.pss_cut (ps_set (i := 4) sc_law.nd rfl (Or.inl rfl) (pe_ifExp (pt_cmpR op_eq (pv 3) pe_str (nomark _)) pe_int pe_int))
        (C8.pss_cut (ps_set (i := 5) sc_law.nd rfl (Or.inl rfl) (pe_op op_add pe_int (pe_call G_law_draw (hr.mono (by decide)) (by rfl) g_law_draw k_law_draw b_law_draw .nil pass0 (pa_cons (pv 1) (pa_cons pe_int pa_nil)))))
        (C8.pss_cut (ps_if (PW.pt (pw_and (pt_cmpR op_eq (pv 2) pe_int (nomark _)) (pw_and1 (pt_cmpR op_eq (pe_call G_law_draw (hr.mono (by decide)) (by rfl) g_law_draw k_law_draw b_law_draw .nil pass0 (pa_cons (pv 1) (pa_cons pe_int pa_nil))) pe_int (nomark _))))) (pss_one (ps_set (i := 5) sc_law.nd rfl (Or.inl rfl) pe_int)) pss_nil)
        (C8.pss_cut (ps_set (i := 6) sc_law.nd rfl (Or.inl rfl) (pe_call G_law_pairs (hr.mono (by decide)) (by rfl) g_law_pairs k_law_pairs b_law_pairs .nil pass0 (pa_cons (pv 1) (pa_cons (pe_op op_mul (pv 5) (pv 4)) (pa_cons (pe_call G_law_draw (hr.mono (by decide)) (by rfl) g_law_draw k_law_draw b_law_draw .nil pass0 (pa_cons (pv 1) (pa_cons (pe_op op_add (pe_callB (call_min2 rfl) (by rfl) Tx.n_min (by decide +kernel) (pa_cons (pe_op op_fdiv (pe_op op_mul (pv 5) (pv 4)) pe_int) (pa_cons pe_int pa_nil))) pe_int) pa_nil))) pa_nil)))))
        (C8.pss_cut (ps_set (i := 7) sc_law.nd rfl (Or.inl rfl) (pe_call G_law_told (hr.mono (by decide)) (by rfl) g_law_told k_law_told b_law_told .nil pass0 (pa_cons (pv 1) (pa_cons (pv 6) pa_nil))))
        (C8.pss_cut (ps_set (i := 8) sc_law.nd rfl (Or.inl rfl) (pe_callB (call_reprK (K := K) rfl hA hr.units) (by rfl) Tx.n_repr (by decide +kernel) (pa_cons (pv 7) pa_nil)))
        (C8.pss_cut (ps_set (i := 9) sc_law.nd rfl (Or.inl rfl) (pe_make Tx.mk_Skin G_Skin_init (hr.mono (by decide)) (by rfl) Tx.g_Skin b_Skin_init .nil passN (pa_cons (pv 3) (pa_cons (pv 5) (pa_cons (pv 7) pa_nil)))))
        (C8.pss_cut (ps_if (PW.pt (pw_or (pt_cmpR op_ne (pe_callB (call_reprK (K := K) rfl hA hr.units) (by rfl) Tx.n_repr (by decide +kernel) (pa_cons (pv 7) pa_nil)) (pv 8) (nomark _)) (pw_or1 (pt_not (pt_val (pe_call G_law_tells_right (hr.mono (by decide)) (by rfl) g_law_tells_right k_law_tells_right b_law_tells_right .nil pass0 (pa_cons (pv 9) (pa_cons (pv 3) (pa_cons (pv 5) (pa_cons (pv 6) pa_nil)))))))))) (pss_one (ps_ret pe_bl)) pss_nil)
        (pss_cons (ps_expr (pe_bm PySem.F.plainAttrs_list PySem.F.slot_list_append PySem.F.type_list_append mt_append (pv 7) (pa_cons (pe_tup (pa_cons pe_int (pa_cons pe_int pa_nil))) pa_nil)))
        (C8.pss_cut (ps_if (PW.pt (pw_and (pt_cmpR (op_neD hr.units) (pv 6) (pe_lst pa_nil) (nomark _)) (pw_and1 (pt_val (pe_callB call_isi (by rfl) Tx.n_isinstance (by decide +kernel) (pa_cons (pe_ix ix_list (pv 7) pe_int (fun _ _ => rfl)) (pa_cons (pe_bltn (v := .ty "list") (by rfl) Tx.n_list (by decide +kernel) rfl) pa_nil))))))) (pss_one (ps_expr (pe_bm PySem.F.plainAttrs_list PySem.F.slot_list_append PySem.F.type_list_append mt_append (pe_ix ix_list (pv 7) pe_int (fun _ _ => rfl)) (pa_cons pe_int pa_nil)))) pss_nil)
        (C8.pss_cut (ps_if (PW.pt (pw_or (pt_not (pt_val (pe_call G_law_tells_right (hr.mono (by decide)) (by rfl) g_law_tells_right k_law_tells_right b_law_tells_right .nil pass0 (pa_cons (pv 9) (pa_cons (pv 3) (pa_cons (pv 5) (pa_cons (pv 6) pa_nil))))))) (pw_or1 (pt_not (pt_val (pe_callSil G_law_widened_right hA (hr.mono (by decide)) (by rfl) g_law_widened_right k_law_widened_right b_law_widened_right pass0 (pa_cons (pv 1) (pa_cons (pv 9) (pa_cons (pv 3) (pa_cons (pv 5) (pa_cons (pv 6) pa_nil))))))))))) (pss_one (ps_ret pe_bl)) pss_nil)
        (C8.pss_cut (ps_if (PW.pt (pw_or (pt_not (pt_val (pe_call G_law_mirrored_right (hr.mono (by decide)) (by rfl) g_law_mirrored_right k_law_mirrored_right b_law_mirrored_right .nil pass0 (pa_cons (pv 9) (pa_cons (pv 3) (pa_cons (pv 5) (pa_cons (pv 6) pa_nil))))))) (pw_or1 (pt_not (pt_val (pe_call G_law_unlike_right (hr.mono (by decide)) (by rfl) g_law_unlike_right k_law_unlike_right b_law_unlike_right .nil pass0 (pa_cons (pv 1) (pa_cons (pv 9) (pa_cons (pv 3) (pa_cons (pv 5) (pa_cons (pv 6) pa_nil))))))))))) (pss_one (ps_ret pe_bl)) pss_nil)
        (pss_one (ps_if (pt_not (pt_val (pe_callSil G_law_refused_right hA (hr.mono (by decide)) (by rfl) g_law_refused_right k_law_refused_right b_law_refused_right pass0 (pa_cons (pv 1) (pa_cons (pv 9) pa_nil))))) (pss_one (ps_ret pe_bl)) pss_nil))))))))))))))))
        (pss_one (ps_ret pe_bl)))), ?_⟩
    refine ⟨_, rfl, a, ns, rfl, hS, hl, fun H1 p c s1 n1 n2 hp => ?_⟩
    refine ⟨_, rfl, by decide, by decide, ?_⟩
    refine for_it (walk_range (lo := 0) (n := Int.toNat 3)) (fun i σ H' => ∃ x2 x3 x4 x5 x6 x7 x8 x9 : Option V, σ = [some (.ref a), some (.ref p), x2, x3, x4, x5, x6, x7, x8, x9] ∧ PenAt H' p c (900000 - 1000 * i) ∧ LamX.Tabs (TT0 K) H')
      ⟨none, none, none, none, none, none, none, none, rfl, hp, tabs_same hT s1⟩ (fun _ _ _ _ _ => True.intro) (fun i v σ H2 H3 hi pv y => ?_) (fun σ H2 pv => ?_)
    · obtain ⟨x2, x3, x4, x5, x6, x7, x8, x9, rfl, hp2, ht2⟩ := pv
      obtain ⟨rfl, rfl⟩ := y
      have hi3 : i < 3 := hi
      obtain ⟨b, hb⟩ : ∃ b, 900000 - 1000 * i = b + 1000 ∧ 900000 - 1000 * (i + 1) = b := ⟨900000 - 1000 * (i + 1), by omega, rfl⟩
      rw [hb.1] at hp2
      -- the kind
      refine ⟨fun σ H' => ∃ z : Str, isGrid (.str z) = true ∧ σ = [some (.ref a), some (.ref p), some (.int ((0 : Int) + (i : Nat))), some (.str z), x4, x5, x6, x7, x8, x9] ∧ PenAt H' p c (b + 999) ∧ LamX.Tabs (TT0 K) H', ?_, ?_⟩
      · refine ⟨_, rfl, le_line (n := 2) (by decide), fun l nl => ?_⟩
        have sl : Same H3 (upd H3 l (.lst [.str "square", .str "triangle"])) := same_new nl
        refine ⟨p, c, l, b + 999, _, rfl, hp2.same sl, .inl upd_same, (hp2.new nl).1, List.cons_ne_nil _ _, (show 2 ≤ 1000 by decide), fun H4 x hx hp4 k4 => ?_⟩
        have ht4 := tabs_pen (tabs_same ht2 sl) (hp2.same sl) k4
        obtain ⟨z, rfl, hg⟩ : ∃ z, x = .str z ∧ isGrid (.str z) = true := by
          simp only [List.mem_cons, List.not_mem_nil, or_false] at hx
          rcases hx with rfl | rfl
          · exact ⟨_, rfl, by decide +kernel⟩
          · exact ⟨_, rfl, by decide +kernel⟩
        exact ⟨z, hg, rfl, hp4, ht4⟩
      rintro σ H4 ⟨z, hg, rfl, hp4, ht4⟩
      have tz := turn_in z
      refine ⟨fun σ H' => σ = [some (.ref a), some (.ref p), some (.int ((0 : Int) + (i : Nat))), some (.str z), some (.int (turnOf z)), x5, x6, x7, x8, x9] ∧ H' = H4, ?_, ?_⟩
      · refine ⟨_, rfl, rfl, _, rfl, ?_⟩
        rw [str_sq]
        unfold turnOf
        refine ite2 (fun e => ?_) (fun e => ?_)
        · rw [if_pos (of_decide_eq_true e)]
          exact ⟨rfl, rfl⟩
        · rw [if_neg fun c => e (decide_eq_true c)]
          exact ⟨rfl, rfl⟩
      rintro σ H' ⟨rfl, rfl⟩
      -- the faces
      refine ⟨fun σ H' => ∃ n : Int, 1 ≤ n ∧ n ≤ 6 ∧ σ = [some (.ref a), some (.ref p), some (.int ((0 : Int) + (i : Nat))), some (.str z), some (.int (turnOf z)), some (.int n), x6, x7, x8, x9] ∧ PenAt H' p c (b + 998) ∧ LamX.Tabs (TT0 K) H', ?_, ?_⟩
      · refine ⟨_, rfl, p, c, 6, b + 998, rfl, hp4, by decide, by decide, fun H5 d hp5 k5 d0 d1 => ⟨_, _, rfl, rfl, ?_⟩⟩
        exact ⟨1 + d, by omega, by omega, rfl, hp5, tabs_pen ht4 hp4 k5⟩
      rintro σ H5 ⟨n0, n01, n06, rfl, hp5, ht5⟩
      refine ⟨fun σ H' => ∃ n : Int, 1 ≤ n ∧ n ≤ 23 ∧ σ = [some (.ref a), some (.ref p), some (.int ((0 : Int) + (i : Nat))), some (.str z), some (.int (turnOf z)), some (.int n), x6, x7, x8, x9] ∧ PenAt H' p c (b + 997) ∧ LamX.Tabs (TT0 K) H', ?_, ?_⟩
      · refine ⟨_, rfl, rfl, _, rfl, ite2 (fun _ => ?_) (fun _ => ?_)⟩
        · refine ⟨_, rfl, p, c, 4, b + 997, rfl, hp5, by decide, by decide, fun H6 d hp6 k6 d0 d1 => ⟨rfl, _, rfl, ite2 (fun _ => ?_) (fun _ => ?_)⟩⟩
          · exact ⟨23, by decide, by decide, rfl, hp6, tabs_pen ht5 hp5 k6⟩
          · exact ⟨n0, n01, by omega, rfl, hp6, tabs_pen ht5 hp5 k6⟩
        · exact iteF ⟨n0, n01, by omega, rfl, hp5.less (by omega), ht5⟩
      rintro σ H6 ⟨n, n1, n23, rfl, hp6, ht6⟩
      have hN0 : 0 < n * turnOf z := by rcases tz with e | e <;> rw [e] <;> omega
      have hN1 : n * turnOf z ≤ 92 := by rcases tz with e | e <;> rw [e] <;> omega
      -- the pairs
      refine ⟨fun σ H' => ∃ (F : Addr) (ts : List Addr) (ps : List (Int × Int)), ps.length ≤ 12 ∧ Apart (n * turnOf z) ps ∧ σ = [some (.ref a), some (.ref p), some (.int ((0 : Int) + (i : Nat))), some (.str z), some (.int (turnOf z)), some (.int n), some (.ref F), x7, x8, x9] ∧ PenAt H' p c (b + 900) ∧ LamX.Tabs (TT0 K) H' ∧ H' F = some (.lst (ts.map V.ref)) ∧ Seams H' ts ps, ?_, ?_⟩
      · refine ⟨_, rfl, _, rfl, _, rfl, _, _, rfl, rfl, .inr ⟨by omega, by omega⟩, _, rfl, _, rfl, _, rfl, _, _, rfl, rfl, .inr ⟨by omega, by omega⟩, _, _, rfl, rfl, ⟨by decide, by decide⟩, _, _, rfl, _, _, rfl, rfl, p, c, _, b + 996, rfl, hp6, by split <;> omega, ?_, fun H7 d hp7 k7 d0 d1 => ?_⟩
        · have : (100 : Int) < 2 ^ 200 := by decide
          split <;> omega
        obtain ⟨m, rfl⟩ := Int.eq_ofNat_of_zero_le d0
        have hm : m ≤ 12 ∧ 2 * (m : Int) ≤ n * turnOf z := by
          split at d1 <;> omega
        refine ⟨p, c, b + 900, m, _, rfl, hm.2, by omega, hp7.less (by omega), fun H8 F ts ps k8 hp8 nF hF hs hl ap _ => ?_⟩
        exact ⟨F, ts, ps, by omega, ap, rfl, hp8, tabs_pen (tabs_pen ht6 hp6 k7) hp7 k8, hF, hs⟩
      rintro σ H7 ⟨F, ts, ps, hl12, hap, rfl, hp7, ht7, hF7, hs7⟩
      have hok := hap.ok
      have htw : tw (flat2 ps) = none := nodup_tw' hap.nd
      have hlen := hs7.len
      have hsm : ∀ p ∈ ps, Small p.1 ∧ Small p.2 := fun p hp => by
        obtain ⟨a0, a1, b0, b1, _⟩ := hok p hp
        exact ⟨⟨a0, by omega⟩, ⟨b0, by omega⟩⟩
      -- how they are told
      refine ⟨fun σ H' => ∃ (l : Addr) (us : List Addr), σ = [some (.ref a), some (.ref p), some (.int ((0 : Int) + (i : Nat))), some (.str z), some (.int (turnOf z)), some (.int n), some (.ref F), some (.ref l), x8, x9] ∧ PenAt H' p c (b + 800) ∧ LamX.Tabs (TT0 K) H' ∧ H' F = some (.lst (ts.map V.ref)) ∧ Seams H' ts ps ∧
        H' l = some (.lst (us.map V.ref)) ∧ SeamsB H' us ps ∧ l ≠ p ∧ l ≠ c ∧ F ≠ l ∧ ∀ u ∈ us, u ∈ ts ∨ (u ≠ p ∧ u ≠ c ∧ F ≠ u), ?_, ?_⟩
      · refine ⟨_, rfl, _, rfl, p, c, F, b + 800, ts, ps, rfl, hF7, hs7, by omega, hp7.less (by omega), fun H8 l us k8 hp8 nl hl hus hnew => ?_⟩
        obtain ⟨lp, lc⟩ := hp7.new nl
        exact ⟨l, us, rfl, hp8, tabs_pen ht7 hp7 k8, k8 _ _ (refs_pen hp7 hF7) hF7, hs7.kp hp7 k8, hl, hus, lp, lc, ne_of_none hF7 nl, fun u hu => (hnew u hu).imp id fun e => ⟨(hp7.new e).1, (hp7.new e).2, ne_of_none hF7 e⟩⟩
      rintro σ H8 ⟨l, us, rfl, hp8, ht8, hF8, hs8, hl8, hus8, lp, lc, Fl, hnew⟩
      refine ⟨fun σ H' => ∃ t : Str, σ = [some (.ref a), some (.ref p), some (.int ((0 : Int) + (i : Nat))), some (.str z), some (.int (turnOf z)), some (.int n), some (.ref F), some (.ref l), some (.str t), x9] ∧ H' = H8 ∧ ∀ H'', Same H8 H'' → RpOk K H'' (.ref l) t, ?_, ?_⟩
      · obtain ⟨t, ht⟩ := rp_pairs (K := K) hus8 hl8 hsm (by omega)
        exact ⟨_, rfl, _, t, rfl, ht _ (Same.refl _), t, rfl, rfl, ht⟩
      rintro σ H' ⟨t, rfl, rfl, ht⟩
      -- the skin
      refine ⟨fun σ H9 => ∃ x : Addr, σ = [some (.ref a), some (.ref p), some (.int ((0 : Int) + (i : Nat))), some (.str z), some (.int (turnOf z)), some (.int n), some (.ref F), some (.ref l), some (.str t), some (.ref x)] ∧ Same H' H9 ∧ SkinAt K H9 x z n ps, ?_, ?_⟩
      · refine ⟨_, rfl, _, rfl, _, rfl, fun w9 dw9 => mk_skin (ts := us) (ps := ps) hg n1 (by omega) (.inl hl8) hus8 hok (by omega) htw fun H9 s9 nw hw => ?_⟩
        exact ⟨_, rfl, s9, hw⟩
      rintro σ H9 ⟨x, rfl, s9, hx9⟩
      have W9 : Lq K p c F x (b + 800) z n ts ps H9 := ⟨hp8.same s9, tabs_same ht8 s9, hx9, s9 _ _ hF8, hs8.same s9⟩
      let σ0 : L2.St := [some (.ref a), some (.ref p), some (.int ((0 : Int) + (i : Nat))), some (.str z), some (.int (turnOf z)), some (.int n), some (.ref F), some (.ref l), some (.str t), some (.ref x)]
      refine ⟨fun σ H10 => σ = σ0 ∧ Same H9 H10, ?_, ?_⟩
      · refine ⟨_, rfl, _, t, rfl, ht _ s9, _, rfl, rfl, _, rfl, ?_⟩
        rw [decide_eq_true (show V.str t = V.str t from rfl)]
        refine iteF ?_
        refine ⟨_, rfl, _, rfl, _, rfl, _, rfl, x, F, z, n, ts, ps, rfl, W9.sk, hg, n1, by omega, W9.ha, W9.hs, hok, by omega, htw, fun H10 s10 => ⟨_, rfl, ?_⟩⟩
        exact iteF ⟨rfl, s10⟩
      rintro σ H10 ⟨rfl, s10⟩
      have W10 := W9.same s10
      have hl10 := s10 _ _ (s9 _ _ hl8)
      have hus10 := (hus8.same s9).same s10
      have usl : us.length ≤ 12 := by rw [hus8.len]; exact hl12
      refine ⟨_, rfl, .inl ⟨rfl, _, SqL.of hl10⟩, le_line (n := 2) (by decide), fun T nT => ?_⟩
      have sT := same_new (o := .tup [.int 0, .int 1]) nT
      have hlT := sT _ _ hl10
      refine ⟨l, _, _, rfl, rfl, hlT, small_line (by rw [List.length_map]; omega), ?_⟩
      have W11 := (W10.same sT).updL hlT (o := .lst (us.map V.ref ++ [.ref T])) lp lc Fl
      have hl11 : L2.upd (L2.upd H10 T (.tup [.int 0, .int 1])) l (.lst (us.map V.ref ++ [.ref T])) l = some (.lst (us.map V.ref ++ [.ref T])) := upd_same
      have hus11 : SeamsB (L2.upd (L2.upd H10 T (.tup [.int 0, .int 1])) l (.lst (us.map V.ref ++ [.ref T]))) us ps := by
        refine ⟨hus10.len, fun j u q h1 h2 => ?_⟩
        have z := (hus10.at_ j u q h1 h2).same sT
        have ne : u ≠ l := fun e => by
          subst e
          rcases z with z | z
          · cases hlT.symm.trans z
          · have := hlT.symm.trans z
            injection this with this
            injection this with this
            match us, this with
            | [_, _], this => simp at this
        rcases z with z | z
        · exact .inl (by rw [upd_ne ne]; exact z)
        · exact .inr (by rw [upd_ne ne]; exact z)
      revert W11 hl11 hus11
      generalize L2.upd (L2.upd H10 T (.tup [.int 0, .int 1])) l (.lst (us.map V.ref ++ [.ref T])) = H11
      intro W11 hl11 hus11
      refine ⟨fun σ H12 => σ = σ0 ∧ Lq K p c F x (b + 800) z n ts ps H12, ?_, ?_⟩
      · refine ⟨_, rfl, Nat.zero_le _, fun U nU => ?_⟩
        have sU := same_new (o := .lst []) nU
        refine ⟨_, .list [], .lst (SqL.of (sU _ _ W11.ha)) (dpAll_seams (W11.hs.same sU)), .lst (SqL.of upd_same) .nil, shaped_seamsL _, by decide +kernel, _, rfl, ite2 (fun e => ?_) (fun _ => iteF ⟨rfl, W11.same sU⟩)⟩
        have hne : ps ≠ [] := by
          rintro rfl
          simp [PyData.eqv, PyData.eqvAll] at e
        have W12 := W11.same sU
        have hl12 := sU _ _ hl11
        have hus12 := hus11.same sU
        revert W12 hl12 hus12
        generalize L2.upd H11 U (.lst []) = H12
        intro W12 hl12 hus12
        match us, ps, hus12, hne, hl12, hnew with
        | [], [], _, hne, _, _ => exact absurd rfl hne
        | [], _ :: _, h, _, _, _ => cases h.len
        | _ :: _, [], _, hne, _, _ => exact absurd rfl hne
        | u :: us, q0 :: ps, hus12, _, hl12, hnew =>
          have hu := hus12.at_ 0 u q0 rfl rfl
          rcases hu with hu | hu
          · have hk : KdV K H12 (.ref u) .tuple := .inl ⟨_, hu⟩
            refine ⟨_, rfl, l, _, 0, .ref u, rfl, rfl, SqL.of hl12, atI_nat (j := 0) rfl, .ref u, _, _, _, _, rfl, .ty "list", hk.ty, kd_is (by decide), _, rfl, ?_⟩
            exact iteF ⟨rfl, W12⟩
          · have hk : KdV K H12 (.ref u) .list := ⟨_, hu⟩
            refine ⟨_, rfl, l, _, 0, .ref u, rfl, rfl, SqL.of hl12, atI_nat (j := 0) rfl, .ref u, _, _, _, _, rfl, .ty "list", hk.ty, kd_is (by decide), _, rfl, ?_⟩
            refine iteT ?_
            have hn : u ≠ p ∧ u ≠ c ∧ F ≠ u := by
              refine (hnew u (List.mem_cons_self ..)).resolve_left fun hm => ?_
              obtain ⟨j, hj, e⟩ := List.mem_iff_getElem.mp hm
              have h1 : ts[j]? = some u := by rw [List.getElem?_eq_getElem hj, e]
              have h2 : j < (q0 :: ps).length := by rw [← W12.hs.len]; exact hj
              have h3 := W12.hs.at_ j u _ h1 (List.getElem?_eq_getElem h2)
              cases hu.symm.trans h3
            exact ⟨_, rfl, l, _, 0, .ref u, rfl, rfl, SqL.of hl12, atI_nat (j := 0) rfl, .inl ⟨rfl, _, SqL.of hu⟩, u, _, _, rfl, rfl, hu, small_line (show 2 ≤ 100000 by decide), rfl, W12.updL hu hn.1 hn.2.1 hn.2.2⟩
      rintro σ H12 ⟨rfl, W12⟩
      -- told and widened
      refine ⟨fun σ H13 => σ = σ0 ∧ Lq K p c F x (b + 700) z n ts ps H13, ?_, ?_⟩
      · refine ⟨_, rfl, _, rfl, _, rfl, _, rfl, x, F, z, n, ts, ps, rfl, W12.sk, hg, n1, by omega, W12.ha, W12.hs, hok, by omega, htw, fun H13 s13 => ⟨_, rfl, ?_⟩⟩
        refine iteF ?_
        have W13 := W12.same s13
        refine ⟨_, rfl, _, rfl, _, rfl, _, rfl, _, rfl, p, c, x, F, b + 700, z, n, ts, ps, rfl, W13.pen.less (by omega), W13.sk, hg, n1, by omega, W13.ha, W13.hs, hok, by omega, htw, fun H14 k14 hp14 => ⟨_, rfl, ?_⟩⟩
        exact iteF ⟨rfl, W13.kp k14 hp14⟩
      rintro σ H13 ⟨rfl, W13⟩
      refine ⟨fun σ H14 => σ = σ0 ∧ Lq K p c F x (b + 600) z n ts ps H14, ?_, ?_⟩
      · refine ⟨_, rfl, _, rfl, _, rfl, _, rfl, x, F, z, n, ts, ps, rfl, W13.sk, hg, n1, by omega, W13.ha, W13.hs, hok, by omega, htw, fun H14 s14 => ⟨_, rfl, ?_⟩⟩
        refine iteF ?_
        have W14 := W13.same s14
        refine ⟨_, rfl, _, rfl, _, rfl, _, rfl, _, rfl, p, c, x, F, b + 600, z, n, ts, ps, rfl, W14.pen.less (by omega), W14.sk, hg, n1, n23, W14.ha, W14.hs, hok, by omega, htw, fun H15 k15 hp15 => ⟨_, rfl, ?_⟩⟩
        exact iteF ⟨rfl, W14.kp k15 hp15⟩
      rintro σ H14 ⟨rfl, W14⟩
      refine ⟨_, rfl, _, rfl, p, c, x, b + 599, z, n, ps, rfl, W14.pen, W14.sk, n1, by omega, W14.tabs, fun H15 hp15 ht15 => ⟨_, rfl, ?_⟩⟩
      refine iteF ⟨_, _, _, _, _, _, _, _, rfl, ?_, ht15⟩
      exact hp15.less (by omega)
    · obtain ⟨x2, x3, x4, x5, x6, x7, x8, x9, rfl, hp2, ht2⟩ := pv
      exact q _

end
end K04

namespace K04
open PySem PySem.Spec PyProof.Rows L2 Vf LamX
abbrev lawLevel : Nat := 9
abbrev spLaw (K : PySem.W.Frag) : Sp := fun vs H Q E => sp_law K vs H Q E
def csT (K : PySem.W.Frag) : List (Addr × Addr) := tf.map (He.cT K)
theorem facts {P : Program} {w : World} {K : PySem.W.Frag} {h : Heap} {mg : Str → Option Value} {f : Addr} (X : K.In h) (G : h.Ns mainGlobals mg) (hfa : mg ("law" : Str) = some (.ref f)) (c : He.SaysX fa fn [] tf ex w h K) :
    ∃ fd : FuncData, (∀ (s : Shared) (v : Value), BindsTo s fd ⟨[v], []⟩ [("_law_script", v)]) ∧ ∀ base : Heap, K.In base → base.Ns mainGlobals mg → (∀ p ∈ csT K, LamX.TabB base mg p.1 p.2) → SilOk P w K mg base CX0 lawLevel f fd ["_law_script"] (spLaw K) := by
  have Tx := txt_of X G c
  obtain ⟨fd, F⟩ := c.t.d.def_ 48 (d := d_law) rfl
  have e := hfa.symm.trans (He.glo_ok X G (c.t.d.fact 41 (f := .glo "law") rfl))
  cases e
  refine ⟨fd, fun s v => FunD.bindsA (ps := ["_law_script"]) F (fun _ _ _ _ _ _ us hl => match us, hl with | [_], _ => rfl) s [v] rfl, fun base _ _ tbs => ?_⟩
  have h_heard := has_heard c X G
  have tb_law_refused_right : LamX.TabB base mg (He.codeOf K ("_law_refused_right", none)) (tabT K "_law_refused_right") := tbs _ (List.mem_map_of_mem (f := He.cT K) (show (("_law_refused_right", none) : He.Defn) ∈ tf by simp [tf]))
  have h_law_pen := has_law_pen (P := P) (w := w) (base := base) Tx c X G 
  have h_law_draw := has_law_draw (P := P) (w := w) (base := base) Tx c X G 
  have h_law_pick := has_law_pick (P := P) (w := w) (base := base) Tx c X G h_law_draw
  have h_law_pairs := has_law_pairs (P := P) (w := w) (base := base) Tx c X G h_law_draw
  have h_law_told := has_law_told (P := P) (w := w) (base := base) Tx c X G h_law_draw
  have h_is_grid := has_is_grid (P := P) (w := w) (base := base) Tx c X G 
  have h_BadKind_init := has_BadKind_init (P := P) (w := w) (base := base) Tx c X G 
  have h_need_kind := has_need_kind (P := P) (w := w) (base := base) Tx c X G h_is_grid h_BadKind_init
  have h_is_integer := has_is_integer (P := P) (w := w) (base := base) Tx c X G 
  have h_is_within := has_is_within (P := P) (w := w) (base := base) Tx c X G h_is_integer
  have h_BadSkin_init := has_BadSkin_init (P := P) (w := w) (base := base) Tx c X G 
  have h_sides_of := has_sides_of (P := P) (w := w) (base := base) Tx c X G h_need_kind
  have h_is_listed := has_is_listed (P := P) (w := w) (base := base) Tx c X G 
  have h_is_seam := has_is_seam (P := P) (w := w) (base := base) Tx c X G h_is_listed h_is_within
  have h_need_seams := has_need_seams (P := P) (w := w) (base := base) Tx c X G h_is_listed h_is_seam h_BadSkin_init
  have h_first_twice := has_first_twice (P := P) (w := w) (base := base) Tx c X G 
  have h_sides_in := has_sides_in (P := P) (w := w) (base := base) Tx c X G 
  have h_Twice_init := has_Twice_init (P := P) (w := w) (base := base) Tx c X G 
  have h_TooMany_init := has_TooMany_init (P := P) (w := w) (base := base) Tx c X G 
  have h_full_of := has_full_of (P := P) (w := w) (base := base) Tx c X G h_need_kind
  have h_mates_of := has_mates_of (P := P) (w := w) (base := base) Tx c X G 
  have h_turned_sides := has_turned_sides (P := P) (w := w) (base := base) Tx c X G 
  have h_Skin_init := has_Skin_init (P := P) (w := w) (base := base) Tx c X G h_need_kind h_is_within h_BadSkin_init h_sides_of h_need_seams h_first_twice h_sides_in h_Twice_init h_TooMany_init h_full_of h_mates_of h_turned_sides
  have h_law_mates := has_law_mates (P := P) (w := w) (base := base) Tx c X G 
  have h_Missing_init := has_Missing_init (P := P) (w := w) (base := base) Tx c X G 
  have h_Skin_need_side := has_Skin_need_side (P := P) (w := w) (base := base) Tx c X G h_is_within h_Missing_init
  have h_Skin_face := has_Skin_face (P := P) (w := w) (base := base) Tx c X G h_Skin_need_side
  have hk_Skin_face := hask_Skin_face (P := P) (w := w) (base := base) Tx c X G h_Skin_need_side
  have h_Skin_next := has_Skin_next (P := P) (w := w) (base := base) Tx c X G h_Skin_need_side
  have h_Skin_back := has_Skin_back (P := P) (w := w) (base := base) Tx c X G h_Skin_need_side
  have hk_Skin_back := hask_Skin_back (P := P) (w := w) (base := base) Tx c X G h_Skin_need_side
  have h_Skin_mate := has_Skin_mate (P := P) (w := w) (base := base) Tx c X G h_Skin_need_side
  have h_law_tells_right := has_law_tells_right (P := P) (w := w) (base := base) Tx c X G h_law_mates h_Skin_face h_Skin_next h_Skin_back h_Skin_mate
  have h_Skin_with_seams := has_Skin_with_seams (P := P) (w := w) (base := base) Tx c X G h_need_seams h_Skin_init
  have hk_Skin_with_seams := hask_Skin_with_seams (P := P) (w := w) (base := base) Tx c X G h_need_seams h_Skin_init
  have h_Skin_eq := has_Skin_eq (P := P) (w := w) (base := base) Tx c X G 
  have h_law_widened_right := has_law_widened_right (P := P) (w := w) (base := base) Tx c X G h_law_draw h_Skin_init h_law_told h_Skin_with_seams h_law_tells_right h_Skin_eq hk_Skin_with_seams
  have h_Skin_mirror_of := has_Skin_mirror_of (P := P) (w := w) (base := base) Tx c X G 
  have h_Skin_mirrored := has_Skin_mirrored (P := P) (w := w) (base := base) Tx c X G h_Skin_mirror_of h_Skin_init
  have h_skin_words := has_skin_words (P := P) (w := w) (base := base) Tx c X G 
  have h_Skin_str := has_Skin_str (P := P) (w := w) (base := base) Tx c X G h_skin_words
  have h_law_mirrored_right := has_law_mirrored_right (P := P) (w := w) (base := base) Tx c X G h_Skin_mirrored h_law_tells_right h_Skin_init h_Skin_str h_Skin_eq
  have h_law_unlike_right := has_law_unlike_right (P := P) (w := w) (base := base) Tx c X G h_Skin_init h_Skin_str h_law_mates h_law_draw h_law_pick h_Skin_eq
  have h_law_refused_right := has_law_refused_right (P := P) (w := w) (base := base) Tx c X G tb_law_refused_right h_heard h_law_pick h_Skin_mate h_Skin_next h_Skin_back h_Skin_face hk_Skin_back hk_Skin_face
  exact ok_law F Tx h_law_pen h_law_pick h_law_draw h_law_pairs h_law_told h_Skin_init h_law_tells_right h_law_widened_right h_law_mirrored_right h_law_unlike_right h_law_refused_right
end K04
open PySem PySem.W PySem.Calls PyProof.Rows
theorem PySem.Challenge.cw_rimsewn_k04_sides_of_skins_by_own_sums_holds : PySem.Challenge.rw_rimsewn_k04_sides_of_skins_by_own_sums.Holds := by
  w_on; o_law
  refine HandSHeadRun.head_any (r := OpenLaw.row PySem.Challenge.rw_rimsewn_k04_sides_of_skins_by_own_sums) (q := view (OpenLaw.row PySem.Challenge.rw_rimsewn_k04_sides_of_skins_by_own_sums).prog [50]) (H := K04.hk) (ob := K04.ob) (M := 6000) (loose := K04.loose) (d := HandSHeadRun.topDef (OpenLaw.row PySem.Challenge.rw_rimsewn_k04_sides_of_skins_by_own_sums).prog 50) (kwd := []) K04.ob_eq
    (by kernel_rfl) (fun s => by kernel_rfl) K04.run (by kernel_rfl) (by kernel_rfl) (by kernel_rfl) (by rfl) (by first | assumption | decide +kernel) (by decide +kernel) ⟨rfl, rfl, rfl, rfl, rfl, by decide +kernel⟩ ?hw ?hc
  case hw => w_witness2
  case hc =>
    refine Vf.walk_sil (l := PySem.Challenge.rw_rimsewn_k04_sides_of_skins_by_own_sums) (n := 63) (k := K04.lawLevel) (x := "_law_script") (CX := fun _ => L2.CX0) rfl (by decide) (by kernel_rfl) ⟨rfl, by decide, by decide⟩ ?F (fun _ _ _ _ _ z => z)
    intro w mg fa h Y G hmg0
    obtain ⟨K, KX, c⟩ := Y
    have hmg : mg ("law" : PySem.Str) = some (.ref fa) := by
      have e : (HandSHeadRun.topDef (OpenLaw.row PySem.Challenge.rw_rimsewn_k04_sides_of_skins_by_own_sums).prog 50).name = ("law" : PySem.Str) := by kernel_rfl
      rw [← e]
      exact hmg0
    obtain ⟨fd, hb, hF⟩ := K04.facts (P := (PySem.Challenge.rw_rimsewn_k04_sides_of_skins_by_own_sums).prog) (w := w) KX G hmg c
    refine ⟨K, fd, K04.csT K, K04.spLaw K, KX, fun p hp => ?_, fun p hp => ?_, fun p hp => ?_, hb, fun H a ns hl _ hT hS => ⟨a, ns, rfl, hS, hl, ?_, fun _ => rfl⟩, hF⟩
    · obtain ⟨d, hd, rfl⟩ := List.mem_map.mp hp
      exact c.empty d hd
    · obtain ⟨d, hd, rfl⟩ := List.mem_map.mp hp
      exact c.out d hd
    · obtain ⟨d, hd, rfl⟩ := List.mem_map.mp hp
      exact PySem.W.codeHd_of_K KX (c.hd d hd)
    · intro q hq
      simp only [K04.TT0, List.mem_cons, List.not_mem_nil, or_false] at hq
      rcases hq with rfl
      · exact LamX.TabS.nil (hT (He.cT K (("_law_refused_right", none) : He.Defn)) (List.mem_map_of_mem (f := He.cT K) (show (("_law_refused_right", none) : He.Defn) ∈ K04.tf by simp [K04.tf])))
