import PyProof.Rows.All
import Wide.All
import OpenK.AllK
import Wide.FinOn
import KE.KStateDown
import Lean
import HandS.ForMost
import HandS.ForExc
import HandS.Defaults
import HandS.Head0
import HandS.Head1
import HandS.Head2
import HandS.HeadEnd
import HandS.HeadHook1
import HandS.HeadHook2
import HandS.HeadHook3
import HandS.HeadHook4
import HandS.Wide
import HandS.SetKeys
import HandS.Style
import HandS.IsInst
import HandS.ExcValue
import HandS.ExcIs
import HandS.Steps
import HandS.Codes
import HandS.Walk
import HandS.Lambda
import HandS.HeadWalk
import HandS.ExcInit
import HandS.ExcField
import HandS.WordsExc
import HandS.ExcOwn
import HandS.MakeKw
import HandS.MakeKwOnly
import HandS.SortRule
import HandS.FStr
import HandS.NoneIn
import HandS.TupAny
import HandS.RaiseMore
import HandS.CallSlots
import HandS.StrMore
import HandS.AnyAll
import HandS.Conv
import HandS.HeadNt
import HandS.ClsMeth
import HandS.Text
import KE.KFmtOwn
import KE.KExcIs
import KE.KExcStr
import KE.DataMinMax
import PySem.Challenge.RW_rimsewn_k00_errors_keep_their_fields
import Open.Tops
import HandS.Head3
set_option Elab.async false
set_option linter.all false
set_option maxRecDepth 100000
set_option maxHeartbeats 4000000
namespace Vf
open PySem PySem.Spec PyProof.Rows L2
/-! ### a def by its name -/
abbrev FnP (K : PySem.W.Frag) (x : Str) (st : Stmt) (f : Addr) (fd : FuncData) : Prop := FunD K x x (defArgs st) (defBody st) (defScope st) [] [] f fd
/-- the module's name x stands for a def that keeps the promise -/
def Has (P : Program) (w : World) (K : PySem.W.Frag) (mg : Str → Option Value) (base : Heap) (x : Str) (k : Nat) (ps : List Str) (sp : Sp) : Prop :=
  ∃ (f : Addr) (fd : FuncData), FnOk P w K mg base CX0 k f fd ps sp ∧ mg x = some (.ref f) ∧ PySem.W.keepIn K (.ref f) = true ∧ Binds K fd ps []
/-! ### what stays -/
def Kp (p : Addr) (H H' : Hp) : Prop := ∀ a o, a ≠ p → H a = some o → H' a = some o
theorem Kp.refl (p : Addr) (H : Hp) : Kp p H H := fun _ _ _ h => h
theorem Kp.trans {p : Addr} {H H1 H2 : Hp} (a : Kp p H H1) (b : Kp p H1 H2) : Kp p H H2 := fun c o n h => b c o n (a c o n h)
theorem Kp.same {p : Addr} {H H1 : Hp} (a : Same H H1) : Kp p H H1 := fun c o _ h => a c o h
theorem Kp.set {p : Addr} {H H1 : Hp} {o : HO} (a : Kp p H H1) : Kp p H (upd H1 p o) := fun c u n h => by
  rw [upd_ne n]
  exact a c u n h
theorem same_new {H : Hp} {p : Addr} {o : HO} (h : H p = none) : Same H (upd H p o) := fun b x e => by
  rw [upd_ne (ne_of_none e h)]
  exact e
theorem Kp.new {p q : Addr} {H H1 : Hp} {o : HO} (a : Kp p H H1) (h : H1 q = none) : Kp p H (upd H1 q o) := a.trans (Kp.same (same_new h))
/-- an object that was not there may change -/
theorem Kp.mut {p q : Addr} {H H1 : Hp} {o : HO} (a : Kp p H H1) (h : H q = none) : Kp p H (upd H1 q o) := fun c u n e => by
  rw [upd_ne (ne_of_none e h)]
  exact a c u n e
theorem Same.mut {q : Addr} {H H1 : Hp} {o : HO} (a : Same H H1) (h : H q = none) : Same H (upd H1 q o) := fun c u e => by
  rw [upd_ne (ne_of_none e h)]
  exact a c u e
/-! ### the pen -/
/-- the pen at p, its cells at c, with at least b draws to go -/
def PenAt (H : Hp) (p c : Addr) (b : Nat) : Prop := ∃ (ns : List Int) (n g : Int), H p = some (.lst [.ref c, .int n, .int g]) ∧ H c = some (.lst (ns.map V.int)) ∧ 0 ≤ n ∧ n + (b : Int) ≤ 1000000
theorem PenAt.less {H : Hp} {p c : Addr} {b d : Nat} (h : PenAt H p c b) (l : d ≤ b) : PenAt H p c d := by
  obtain ⟨ns, n, g, h1, h2, h3, h4⟩ := h
  exact ⟨ns, n, g, h1, h2, h3, by omega⟩
theorem ref_ints {c : Addr} {n g : Int} {ns : List Int} : [V.ref c, V.int n, V.int g] ≠ ns.map V.int := fun e => by
  cases ns with
  | nil => cases e
  | cons a r =>
    injection e with e1 _
    cases e1
theorem PenAt.same {H H' : Hp} {p c : Addr} {b : Nat} (h : PenAt H p c b) (s : Same H H') : PenAt H' p c b := by
  obtain ⟨ns, n, g, h1, h2, h3, h4⟩ := h
  exact ⟨ns, n, g, s _ _ h1, s _ _ h2, h3, h4⟩
theorem PenAt.at {H : Hp} {p c : Addr} {b : Nat} (h : PenAt H p c b) : ∃ xs, H p = some (.lst xs) := by
  obtain ⟨ns, n, g, h1, h2, h3, h4⟩ := h
  exact ⟨_, h1⟩
theorem PenAt.cells {H : Hp} {p c : Addr} {b : Nat} (h : PenAt H p c b) : ∃ xs, H c = some (.lst xs) := by
  obtain ⟨ns, n, g, h1, h2, h3, h4⟩ := h
  exact ⟨_, h2⟩
/-- another object than the pen's changes -/
theorem PenAt.mut {H : Hp} {p c q : Addr} {o : HO} {b : Nat} (h : PenAt H p c b) (hp : q ≠ p) (hc : q ≠ c) : PenAt (upd H q o) p c b := by
  obtain ⟨ns, n, g, h1, h2, h3, h4⟩ := h
  refine ⟨ns, n, g, ?_, ?_, h3, h4⟩
  · rw [upd_ne hp.symm]
    exact h1
  · rw [upd_ne hc.symm]
    exact h2
/-- what was not there is no part of the pen -/
theorem PenAt.new {H : Hp} {p c q : Addr} {b : Nat} (h : PenAt H p c b) (hq : H q = none) : q ≠ p ∧ q ≠ c := by
  obtain ⟨ns, n, g, h1, h2, h3, h4⟩ := h
  exact ⟨ne_of_none h1 hq |>.symm, ne_of_none h2 hq |>.symm⟩
def spDraw : Sp := fun vs H Q _ => ∃ (p c : Addr) (many : Int) (b : Nat), vs = [.ref p, .int many] ∧ PenAt H p c (b + 1) ∧ 0 < many ∧ many < 2 ^ 200 ∧
  ∀ (H' : Hp) (d : Int), PenAt H' p c b → Kp p H H' → 0 ≤ d → d < many → Q (.int d) H'
theorem many_div {g m : Int} (h : 0 < m) (h2 : m < 2 ^ 200) : CDivW g m := wide_div h (b := 200) (by omega) (by decide) (by decide)
/-! ### flat data -/
def fdat : V → PyData
  | .int i => .int i
  | .str x => .str x
  | .bl b => .bool b
  | _ => .none
def flatS : V → Bool
  | .int _ => true
  | .str x => PyData.strOk x
  | .bl _ => true
  | .non => true
  | _ => false
theorem dp_flat {K : PySem.W.Frag} {H : Hp} : ∀ {v : V}, flatS v = true → Dp K H v (fdat v)
  | .int i, _ => .int i
  | .str x, _ => .str x
  | .bl b, _ => .bl b
  | .non, _ => .non
theorem dpAll_flat {K : PySem.W.Frag} {H : Hp} : ∀ {xs : List V}, (∀ v ∈ xs, flatS v = true) → DpAll K H xs (xs.map fdat)
  | [], _ => .nil
  | v :: vs, h => .cons (dp_flat (h v (List.mem_cons_self ..))) (dpAll_flat fun u hu => h u (List.mem_cons_of_mem _ hu))
theorem canLay_flat : ∀ {v : V}, flatS v = true → PyData.canLay0 (fdat v) = true
  | .int i, _ => by simp only [fdat, PyData.canLay0]
  | .str x, h => by simp only [fdat, PyData.canLay0]; exact h
  | .bl b, _ => by simp only [fdat, PyData.canLay0]
  | .non, _ => by simp only [fdat, PyData.canLay0]
theorem canLayAll_flat : ∀ {xs : List V}, (∀ v ∈ xs, flatS v = true) → PyData.canLayAll0 (xs.map fdat) = true
  | [], _ => by simp only [List.map_nil, PyData.canLayAll0]
  | v :: vs, h => by
    simp only [List.map_cons, PyData.canLayAll0, Bool.and_eq_true]
    exact ⟨canLay_flat (h v (List.mem_cons_self ..)), canLayAll_flat fun u hu => h u (List.mem_cons_of_mem _ hu)⟩
theorem depth_flat (v : V) : PyData.depth (fdat v) ≤ 1 := by
  cases v <;> simp [fdat, PyData.depth]
theorem depthAll_flat : ∀ xs : List V, PyData.depthAll (xs.map fdat) ≤ 1
  | [] => by simp [PyData.depthAll]
  | v :: vs => by
    have h1 := depth_flat v
    have h2 := depthAll_flat vs
    simp only [List.map_cons, PyData.depthAll]
    omega
theorem shaped_flat {v : V} (h : flatS v = true) : SeqAt.shaped (fdat v) = true := by
  unfold SeqAt.shaped
  have h2 := depth_flat v
  rw [canLay_flat h, Bool.true_and]
  exact decide_eq_true (by omega)
theorem shaped_list {xs : List V} (h : ∀ v ∈ xs, flatS v = true) : SeqAt.shaped (.list (xs.map fdat)) = true := by
  unfold SeqAt.shaped
  have h1 := depthAll_flat xs
  have h2 : PyData.canLay0 (.list (xs.map fdat)) = true := by simp only [PyData.canLay0]; exact canLayAll_flat h
  rw [h2, Bool.true_and]
  refine decide_eq_true ?_
  simp only [PyData.depth]
  omega
theorem eqv_nil (xs : List V) : PyData.eqv (.list (xs.map fdat)) (.list []) = decide (xs = []) := by
  cases xs with
  | nil => simp [PyData.eqv, PyData.eqvAll]
  | cons a r => simp [PyData.eqv, PyData.eqvAll]
theorem flat_ints (ns : List Int) : ∀ v ∈ ns.map V.int, flatS v = true := fun v hv => by
  obtain ⟨i, _, rfl⟩ := List.mem_map.mp hv
  rfl
/-- an item at a place reckoned by a remainder -/
theorem at_mod {α : Type} {xs : List α} {n : Int} (h : xs ≠ []) : ∃ x, x ∈ xs ∧ atI xs (n % (xs.length : Int)) = some x := by
  have hl : 0 < xs.length := List.length_pos_iff.mpr h
  have h0 := Int.emod_nonneg n (b := (xs.length : Int)) (by omega)
  have h1 := Int.emod_lt_of_pos n (b := (xs.length : Int)) (by omega)
  obtain ⟨j, hj⟩ := Int.eq_ofNat_of_zero_le h0
  rw [hj] at h1 ⊢
  have hlt : j < xs.length := by omega
  exact ⟨xs[j], List.getElem_mem hlt, atI_nat (List.getElem?_eq_getElem hlt)⟩
theorem at_in {α : Type} {xs : List α} {n : Int} (h0 : 0 ≤ n) (h1 : n < (xs.length : Int)) : ∃ x, x ∈ xs ∧ atI xs n = some x := by
  obtain ⟨j, hj⟩ := Int.eq_ofNat_of_zero_le h0
  rw [hj] at h1 ⊢
  have hlt : j < xs.length := by omega
  exact ⟨xs[j], List.getElem_mem hlt, atI_nat (List.getElem?_eq_getElem hlt)⟩
end Vf
namespace Vf
open PySem PySem.Spec PyProof.Rows L2
section
variable {X : Cx}
/-- X(), an own exception class without own __init__, as a value: a new exception object -/
theorem pe_exc0 {C : Addr} {bmB : List Value} {B newId initId : String} {x : Str} {p pos : Pos} (F : ExcBaseFacts B newId initId bmB) (q : PySem.W.excIn X.K C bmB newId = true) (gC : X.mg x = some (.ref C)) (kC : PySem.W.keepIn X.K (.ref C) = true) (hg : Gl X x)
    (hdb : (x == ("__debug__" : Str)) = false := by decide) :
    PE X (.Call (.Name x p) [] [] pos) (fun σ H Q => ∀ a, H a = none → Q (.ref a) (upd H a (ExO (.ref C) a))) := by
  refine ⟨fun pins s σ H Q I h => ?_⟩
  refine wpAny_Call_Name_kw (ld_glob I hg gC ?_ hdb)
  refine PySem.W.callWith_K0 I.kIn kC ?_
  obtain ⟨bm, N, nm, qn, bs, hdct, sn, sub, ab, col, dd, k0, k1, k2, k3, k5, mN, hC, hN, hni, T⟩ := exc_obj I.kIn q
  refine wpAny_call_exc_subT F T hC hN hni (fun h' a hm => ?_) (by show 0 ≤ sizeLine; exact Nat.zero_le _)
  have hn : H a = none := I.hok.gone hm.new
  obtain ⟨t, ht, _, _⟩ := hm.there
  exact ⟨.ref a, upd H a (ExO (.ref C) a), I.laidN hm.keeps hm.new hn (exO_ok ht ⟨rfl, rfl⟩ rfl rfl rfl (show 4 < 6 by decide)), rfl, h a hn⟩
end
end Vf
namespace Vf
open PySem PySem.Spec PyProof.Rows L2
/-! ### isinstance by what a value is -/
inductive Knd where
  | int | str | bool | none | list | tuple | exc (C : Addr)
def Knd.ty : Knd → Value
  | .int => .type "int"
  | .str => .type "str"
  | .bool => .type "bool"
  | .none => .type "NoneType"
  | .list => .type "list"
  | .tuple => .type "tuple"
  | .exc C => .ref C
/-- a value is of a kind; exceptions of the class at C alone -/
def KndV (C : Addr) (H : Hp) : V → Knd → Prop
  | .int _, .int => True
  | .str _, .str => True
  | .bl _, .bool => True
  | .non, .none => True
  | .ref a, .list => ∃ xs, H a = some (.lst xs)
  | .ref a, .tuple => ∃ xs, H a = some (.tup xs)
  | .ref a, .exc D => D = C ∧ H a = some (ExO (.ref C) a)
  | _, _ => False
theorem KndV.same {C : Addr} {H H' : Hp} {v : V} {k : Knd} (h : KndV C H v k) (s : Same H H') : KndV C H' v k := by
  cases v <;> cases k <;> first | exact h | exact h.elim | skip
  · obtain ⟨xs, e⟩ := h
    exact ⟨xs, s _ _ e⟩
  · obtain ⟨xs, e⟩ := h
    exact ⟨xs, s _ _ e⟩
  · exact ⟨h.1, s _ _ h.2⟩
section
variable {X : Cx} {pins : List (Addr × Obj)} {σ : L2.St} {H : Hp} {s : Shared}
theorem knd_kit {C : Addr} {x : V} {u : Value} {k : Knd} (E : ExcC X.K C) (I : Inv X pins σ H s) (rx : RelV x u) (h : KndV C H x k) : ∃ P : Heap → Prop, PySem.W.KitX X.K u k.ty P ∧ P s.heap ∧ u ≠ .builtin "__main__.__loader__#opaque" := by
  cases x <;> cases k <;> first | exact h.elim | skip
  · exact kit_of (t := .type "NoneType") I rx (.base .non)
  · exact kit_of (t := .type "bool") I rx (.base (.bl _))
  · exact kit_of (t := .type "int") I rx (.base (.int _))
  · exact kit_of (t := .type "str") I rx (.base (.str _))
  · obtain ⟨xs, e⟩ := h
    exact kit_of (t := .type "list") I rx (.base (.lst e))
  · obtain ⟨xs, e⟩ := h
    exact kit_of (t := .type "tuple") I rx (.base (.tup e))
  · rename_i a D
    obtain ⟨rfl, e⟩ := h
    cases (show u = Value.ref a from rx)
    obtain ⟨⟨oe, vs, ho, hz, hd, _⟩, _, _⟩ := I.hok _ _ e
    have J : PySem.W.InstAt s.heap a oe D none := by
      obtain ⟨oc, od, oda, osl⟩ := oe
      obtain ⟨h1, h2⟩ := hz
      dsimp only at h1 h2 hd
      subst h1 h2 hd
      exact ⟨ho, rfl, rfl, trivial⟩
    exact ⟨_, PySem.W.handS_kitx_exc E.hg E.hk E.hs E.hd E.ha E.hn E.ht E.hm, J, fun z => nomatch z⟩
def rIsY (C : Addr) (K : PySem.W.Frag) : List V → Hp → VK → Prop := fun xs H Q => ∃ (x : V) (T : String) (k : Knd) (b : Bool), xs = [x, .ty T] ∧ KndV C H x k ∧ PySem.W.kitOne K k.ty (.type T) = some b ∧ Q (.bl b) H
theorem call_isY {C : Addr} (E : ExcC X.K C) : CallR X (.builtin "isinstance") (rIsY C X.K) := by
  intro pins s σ H xs us Q I r h
  obtain ⟨x, T, k, b, rfl, ty, e, q⟩ := h
  obtain ⟨u1, u2, rfl, r1, r2⟩ := vals2 r
  cases (show u2 = Value.type T from r2)
  obtain ⟨P, Z, p, hx⟩ := knd_kit E I r1 ty
  exact PySem.W.kia_one Z I.kIn p e hx fun tk => ⟨.bl b, H, I.tok tk, rfl, q⟩
def rIsTY (C : Addr) (K : PySem.W.Frag) : List V → Hp → VK → Prop := fun xs H Q => ∃ (x : V) (tp : Addr) (cs : List V) (k : Knd) (us : List Value) (b : Bool), xs = [x, .ref tp] ∧ H tp = some (.tup cs) ∧ Paired ClsV cs us ∧ KndV C H x k ∧ PySem.W.kitAny K k.ty us = some b ∧ Q (.bl b) H
theorem call_isTY {C : Addr} (E : ExcC X.K C) : CallR X (.builtin "isinstance") (rIsTY C X.K) := by
  intro pins s σ H xs us Q I r h
  obtain ⟨x, tp, cs, k, ws, b, rfl, hT, kk, ty, e, q⟩ := h
  obtain ⟨u1, u2, rfl, r1, r2⟩ := vals2 r
  cases (show u2 = Value.ref tp from r2)
  obtain ⟨P, Z, p, hx⟩ := knd_kit E I r1 ty
  obtain ⟨_, its, rv, o, h1, h2, n, h3⟩ := (show ObjOk X.prog X.w H s.heap tp (.tup cs) from I.hok tp _ hT)
  have e3 := ClsV.all kk rv
  subst e3
  obtain ⟨oc, od, dt, sl⟩ := o
  simp only at h2 h3
  subst h2 h3
  exact PySem.W.kia_tup Z I.kIn p h1 e hx fun tk => ⟨.bl b, H, I.tok tk, rfl, q⟩
end
end Vf
namespace Vf
open PySem PySem.Spec PyProof.Rows L2
/-! ### facts of an own error class without fields, off the head -/
def excB (K : PySem.W.Frag) (C : Addr) : Bool :=
  He.eqO (PySem.W.findIn K (.ref C) "__getattribute__") (some (some (.builtin "BaseException.__getattribute__"))) && (He.eqO (PySem.W.findIn K (.ref C) "__getattr__") (some none) && (decide (PySem.W.subIn K (.ref C) (.type "BaseException") = some true) &&
  (PySem.W.hasDictIn K C && (He.eqO (PySem.W.findIn K (.ref C) "__class__") (some (some (.builtin "object.__class__"))) && (decide (PySem.W.specialIn K (.builtin "object.__class__") "__get__" = some (some (.builtin "getset_descriptor.__get__"))) &&
  (decide (PySem.W.takesIn K (.builtin "object.__class__") = some true) && decide (PySem.W.mroIn K C (.type "object") = some true)))))))
theorem excC_of {K : PySem.W.Frag} {C : Addr} (h : excB K C = true) : ExcC K C := by
  unfold excB at h
  simp only [Bool.and_eq_true, decide_eq_true_eq] at h
  obtain ⟨h1, h2, h3, h4, h5, h6, h7, h8⟩ := h
  exact ⟨He.eqO_ok h1, He.eqO_ok h2, h3, h4, He.eqO_ok h5, h6, h7, h8⟩
def kitNo (K : PySem.W.Frag) (C : Addr) : List String → Bool
  | [] => true
  | T :: r => decide (PySem.W.kitOne K (.ref C) (.type T) = some false) && kitNo K C r
theorem kitNo_of {K : PySem.W.Frag} {C : Addr} : ∀ {l : List String}, kitNo K C l = true → ∀ T ∈ l, PySem.W.kitOne K (.ref C) (.type T) = some false
  | [], _, T, h => nomatch h
  | S :: r, h, T, hT => by
    simp only [kitNo, Bool.and_eq_true, decide_eq_true_eq] at h
    rcases List.mem_cons.mp hT with e | e
    · rw [e]
      exact h.1
    · exact kitNo_of h.2 T e
def kinds5 : List String := ["int", "str", "bool", "list", "tuple"]
def Knd.is (T : String) : Knd → Bool
  | .int => T == "int"
  | .str => T == "str"
  | .bool => T == "bool" || T == "int"
  | .list => T == "list"
  | .tuple => T == "tuple"
  | _ => false
theorem kit_is {K : PySem.W.Frag} {C : Addr} {H : Hp} {v : V} {k : Knd} (n : kitNo K C kinds5 = true) (h : KndV C H v k) {T : String} (hT : T ∈ kinds5) : PySem.W.kitOne K k.ty (.type T) = some (k.is T) := by
  cases k with
  | exc D =>
    have e : D = C := by
      cases v <;> first | exact h.1 | exact h.elim
    rw [e]
    exact kitNo_of n T hT
  | _ =>
    simp only [kinds5, List.mem_cons, List.not_mem_nil, or_false] at hT
    rcases hT with rfl | rfl | rfl | rfl | rfl <;> exact kit_ty (by decide +kernel)
theorem kit_seq {K : PySem.W.Frag} {C : Addr} {H : Hp} {v : V} {k : Knd} (n : kitNo K C kinds5 = true) (h : KndV C H v k) : PySem.W.kitAny K k.ty [.type "list", .type "tuple"] = some (k.is "list" || k.is "tuple") := by
  refine kitAny_cons (kit_is n h (by decide)) (fun e => ?_) (fun e => by rw [e]; rfl)
  rw [e, Bool.false_or]
  refine kitAny_cons (kit_is n h (by decide)) (fun e => ?_) (fun e => e)
  rw [e]
  exact kitAny_nil
end Vf
namespace Vf
open PySem PySem.Spec PyProof.Rows L2
theorem small_line {n : Nat} (h : n ≤ 100000) : n < sizeLine := Nat.lt_of_le_of_lt h (by decide)
theorem le_line {n : Nat} (h : n ≤ 100000) : n ≤ sizeLine := Nat.le_of_lt (small_line h)
/-- a comprehension over things that stand, whose tests and elements change nothing that stood -/
theorem lc_pure {J : It} {n : Nat} {G : Hp → Prop} {Y : Nat → Hp → V → Hp → Prop} (w : Walk J n G Y) (ys : List V) (hn : n = ys.length) (hl : ys.length ≤ 100000) (hY : ∀ i H x H', Y i H x H' → Same H H' ∧ ys[i]? = some x) (f : V → V) (keep : V → Bool)
    {g : TG} {tt : TT} {te : TE} {vs : List Nat} {σ : L2.St} {H1 : Hp} {D : Addr} {Qd : Hp → Prop} (nD : H1 D = none) (hG : ∀ H, Same H1 H → G H)
    (hs : ∀ (i : Nat) x H (Q1 : VK) (Q0 : Hp → Prop), ys[i]? = some x → Same H1 H → (keep x = true → ∀ H4, Same H H4 → Q1 (f x) H4) → (keep x = false → ∀ H4, Same H H4 → Q0 H4) →
      g x (wipe σ vs) H fun σ2 H2 => wipe σ2 vs = wipe σ vs ∧ tt σ2 H2 fun b H3 => if b = true then te σ2 H3 Q1 else Q0 H3)
    (hd : ∀ H, Same H1 H → H D = some (.lst ((ys.filter keep).map f)) → Qd H) :
    ∃ W : Nat → Nat → Hp → Prop, (∃ m, W 0 m (upd H1 D (.lst []))) ∧ ∀ i m H, W i m H →
      (J.stop i H ∧ Qd H) ∨ (J.go i H ∧ ∃ Nx : Hp → Prop, (∀ H', Nx H' → ∃ m', m' < m ∧ W (i + 1) m' H') ∧ ∀ x H', J.yld i H x H' → g x (wipe σ vs) H' fun σ2 H2 => wipe σ2 vs = wipe σ vs ∧ tt σ2 H2 fun b H3 =>
        if b = true then te σ2 H3 fun y H4 => ∃ acc, H4 D = some (.lst acc) ∧ acc.length < sizeLine ∧ Nx (upd H4 D (.lst (acc ++ [y]))) else Nx H3) := by
  refine lc_it w (fun i H => Same H1 H ∧ H D = some (.lst (((ys.take i).filter keep).map f))) ⟨same_new nD, upd_same⟩ (fun i H _ p => hG H p.1) (fun i x H H' hi p y => ?_) (fun H p => ?_)
  · obtain ⟨s, hx⟩ := hY i H x H' y
    have hD := s _ _ p.2
    have et : ys.take (i + 1) = ys.take i ++ [x] := by rw [List.take_add_one, hx] <;> rfl
    refine hs i x H' _ _ hx (p.1.trans s) (fun k H4 s4 => ?_) (fun k H4 s4 => ?_)
    · refine ⟨_, s4 _ _ hD, ?_, ?_, ?_⟩
      · rw [List.length_map]
        refine small_line (Nat.le_trans (List.length_filter_le _ _) ?_)
        rw [List.length_take]
        omega
      · exact Same.mut ((p.1.trans s).trans s4) nD
      · rw [upd_same, et, List.filter_append, List.map_append]
        simp [k]
    · refine ⟨(p.1.trans s).trans s4, ?_⟩
      rw [s4 _ _ hD, et, List.filter_append, List.map_append]
      simp [k]
  · refine hd H p.1 ?_
    rw [p.2, hn, List.take_length]
def sgs (z : Str) : List V := z.cps.toList.map fun c => .str ⟨#[c]⟩
theorem sgs_len (z : Str) : (sgs z).length = z.cps.size := by unfold sgs; simp
theorem walk_sgs {z : Str} : Walk (Its z) z.cps.size (fun _ => True) (fun i H x H' => H' = H ∧ (sgs z)[i]? = some x) :=
  walk_str.mono (fun _ h => h) fun i H x H' _ _ y => ⟨y.1, by
    obtain ⟨_, c, hc, rfl⟩ := y
    unfold sgs
    rw [List.getElem?_map, show z.cps.toList[i]? = some c by rw [Array.getElem?_toList]; exact hc] <;> rfl⟩
theorem same_of_eq {H H' : Hp} (h : H' = H) : Same H H' := by
  rw [h]
  exact Same.refl H
end Vf
namespace Vf
open PySem PySem.Spec PyProof.Rows L2
/-! ### texts of a bounded length -/
def TxB (z : Str) (n : Nat) : Prop := z.length ≤ n ∧ PyData.strOk z = true
theorem TxB.le {z : Str} {m n : Nat} (h : TxB z m) (l : m ≤ n) : TxB z n := ⟨Nat.le_trans h.1 l, h.2⟩
theorem strOk_iff {z : Str} : PyData.strOk z = true ↔ ∀ c ∈ z.cps.toList, c < 0x110000 := by
  unfold PyData.strOk
  rw [← Array.all_toList, List.all_eq_true]
  simp
theorem app_len (x y : Str) : (x ++ y).length = x.length + y.length := by
  show (x.cps ++ y.cps).size = _
  rw [Array.size_append]
  rfl
theorem app_cps (x y : Str) : (x ++ y).cps.toList = x.cps.toList ++ y.cps.toList := by
  show (x.cps ++ y.cps).toList = _
  rw [Array.toList_append]
theorem TxB.app {x y : Str} {m n : Nat} (h : TxB x m) (g : TxB y n) : TxB (x ++ y) (m + n) := by
  refine ⟨by rw [app_len]; exact Nat.add_le_add h.1 g.1, strOk_iff.mpr fun c hc => ?_⟩
  rw [app_cps] at hc
  rcases List.mem_append.mp hc with e | e
  · exact strOk_iff.mp h.2 c e
  · exact strOk_iff.mp g.2 c e
theorem TxB.sign {x : Str} {m : Nat} {c : Nat} (h : TxB x m) (hc : c ∈ x.cps.toList) : TxB ⟨#[c]⟩ 1 :=
  ⟨Nat.le_refl _, strOk_iff.mpr fun d hd => by
    have e : d = c := by simpa using hd
    rw [e]
    exact strOk_iff.mp h.2 c hc⟩
theorem TxB.cut {x : Str} {m : Nat} (h : TxB x m) (lo hi : Option Int) : TxB (cutS x lo hi) m := by
  refine ⟨Nat.le_trans (cutS_length x lo hi) h.1, strOk_iff.mpr fun c hc => ?_⟩
  unfold cutS at hc
  exact strOk_iff.mp h.2 c (List.mem_of_mem_drop (List.mem_of_mem_take (by simpa using hc)))
theorem TxB.lit {z : Str} (n : Nat) (h : (decide (z.length ≤ n) && PyData.strOk z) = true) : TxB z n := by
  simp only [Bool.and_eq_true, decide_eq_true_eq] at h
  exact h
theorem TxB.line {z : Str} {n : Nat} (h : TxB z n) (l : n ≤ 100000) : z.length ≤ sizeLine := le_line (Nat.le_trans h.1 l)
/-- a sign of a text at a drawn place -/
theorem TxB.at {z : Str} {n : Nat} {d : Int} (h : TxB z n) (h0 : 0 ≤ d) (h1 : d < (z.length : Int)) : ∃ c, atI z.cps.toList d = some c ∧ TxB ⟨#[c]⟩ 1 := by
  have e : z.length = z.cps.toList.length := by simp [Str.length]
  obtain ⟨c, hc, hat⟩ := at_in (xs := z.cps.toList) h0 (by omega)
  exact ⟨c, hat, h.sign hc⟩
/-- the text that a def of one return gives back -/
def retStr (st : Stmt) : Str := match defBody st with
  | [.Return (some (.Constant (.str x) _ _)) _] => x
  | _ => Str.empty
section
variable {X : Cx}
/-- text * number -/
def rRepS : V → V → Hp → VK → Prop := fun x y H Q => ∃ z k, x = .str z ∧ y = .int k ∧ z.length ≤ 1000 ∧ 0 ≤ k ∧ k ≤ 1000 ∧ Q (.str (Txt.mul z k)) H
theorem op_rep_str : OpR X (binaryOp .Mult) rRepS := by
  intro pins s σ H x y u v Q I rx ry h
  obtain ⟨z, k, rfl, rfl, hz, h0, h1, q⟩ := h
  obtain ⟨t, rfl⟩ := rx
  obtain ⟨t', rfl⟩ := ry
  exact SB.mul (mulOk_of 1000 1000 hz (by omega) (by omega) (by decide) (by decide)) fun t2 k2 => ⟨.str (Txt.mul z k), H, I.tok k2, ⟨t2, rfl⟩, q⟩
end
end Vf
namespace Vf
open PySem PySem.Spec PyProof.Rows L2
section
variable {X : Cx}
/-- a list == [], whatever its items are -/
def rEqNil (K : PySem.W.Frag) : V → V → Hp → VK → Prop := fun x y H Q => ∃ a b xs, x = .ref a ∧ y = .ref b ∧ SqL K H a xs ∧ SqL K H b [] ∧ Q (.bl (decide (xs = []))) H
theorem op_eqNil (hu : X.A.units < cLine) : OpR X (compareOp .Eq) (rEqNil X.K) := by
  intro pins s σ H x y v u Q I rx ry h
  obtain ⟨a, b, xs, rfl, rfl, ha, hb, q⟩ := h
  cases (show v = Value.ref a from rx)
  cases (show u = Value.ref b from ry)
  obtain ⟨its, rv, hl, _⟩ := I.list ha
  obtain ⟨its2, rv2, hl2, _⟩ := I.list hb
  cases rv2
  cases xs with
  | nil =>
    cases rv
    exact SeqAt.eq_listAt (e := fun _ => true) hl.isList hl2.isList rfl hu (fun j h1 => by simp at h1) ⟨.bl true, H, I, rfl, q⟩
  | cons z r =>
    cases rv
    exact SeqAt.eq_list_lengthsAt hl.isList hl2.isList (by simp) hu ⟨.bl false, H, I, rfl, q⟩
end
end Vf
namespace Vf
open PySem PySem.Spec PyProof.Rows L2
/-! ### f(k = v, ..) -/
section
variable {X : Cx} {CX : CXT} {k : Nat} {f : Addr} {fd : FuncData} {ps ks : List Str} {sp : Sp} {E : XK} {x : Str} {p pos : Pos} {kws : List Keyword} {tk : TA} {g : List Value → List Value → List Value} {gV : List V → List V → List V}
theorem pe_callK0 (F : FnOk X.prog X.w X.K X.mg X.base CX k f fd ps sp) (hr : Room k X.A) (hg : Gl X x) (hm : X.mg x = some (.ref f)) (hk : PySem.W.keepIn X.K (.ref f) = true) (hb : KBn X.K fd ps 0 ks g gV) (hx : Passes CX X E)
    (hkw : PK X kws tk) (hall : (backToKw pos (keywordEach kws X.env)).all (·.1.isSome) = true := by rfl) (hks : (backToKw pos (keywordEach kws X.env)).filterMap (·.1) = ks := by rfl)
    (hdb : (x == ("__debug__" : Str)) = false := by decide) (hpl : ((backTo pos (starEach [] X.env)).any (·.1) || (backToKw pos (keywordEach kws X.env)).any (·.1.isNone)) = false := by rfl) :
    PE X (.Call (.Name x p) [] kws pos) (tCallN 0 ks.length sp gV E tNil tk) := by
  refine ⟨fun pins s σ H Q I h => ?_⟩
  refine wpAny_Call_Name_kw (ld_glob I hg hm ?_ hdb)
  refine PySem.W.callWith_KW0 (h₀ := X.base) I.ok.mod.kin hk hall ?_ hpl
  refine thn (hkw.run pos pins s σ H _ I h) fun ws s2 ⟨zs, H2, I2, rz, l1, l2, q2⟩ => ⟨I2.kIn, ?_⟩
  rw [hks]
  exact run_fnN (us := []) (vs := []) F hr hb hx I2 .nil rz rfl l2 q2
end
/-- the module's name x stands for a def that keeps the promise, called by keywords alone -/
def HasK (P : Program) (w : World) (K : PySem.W.Frag) (mg : Str → Option Value) (base : Heap) (x : Str) (k : Nat) (ps ks : List Str) (gV : List V → List V → List V) (sp : Sp) : Prop :=
  ∃ (f : Addr) (fd : FuncData) (g : List Value → List Value → List Value), FnOk P w K mg base CX0 k f fd ps sp ∧ mg x = some (.ref f) ∧ PySem.W.keepIn K (.ref f) = true ∧ KBn K fd ps 0 ks g gV
theorem kbn_of {K : PySem.W.Frag} {x qual : Str} {params : Arguments} {body : List Stmt} {scope : Scope} {f : Addr} {fd : FuncData} {ps ks : List Str} {g : List Value → List Value → List Value} {gV : List V → List V → List V} (F : FunD K x qual params body scope [] [] f fd)
    (h : ∀ (kV doc pm : Value) (an : Option Addr) (cdv ct : Value) (ws : List Value), ws.length = ks.length → bindArgs (PySem.W.fnOf x qual params body scope .none kV doc pm an cdv ct) ⟨[], ks.zip ws⟩ = pure (ps.zip (g [] ws)))
    (rel : ∀ {vs : List V} {us : List Value} {zs : List V} {ws : List Value}, Vals vs us → Vals zs ws → Vals (gV vs zs) (g us ws)) : KBn K fd ps 0 ks g gV := by
  obtain ⟨oc, od, dV, kV, doc, pm, an, cdv, ct, osl, rfl, lk, hcd, hD, hK⟩ := F.ex
  rcases hD with ⟨_, rfl⟩ | ⟨e, _⟩
  · refine ⟨fun s us ws _ l1 l2 => ?_, rel⟩
    cases us with
    | nil => exact .of_eq (h kV doc pm an cdv ct ws l2)
    | cons a r => cases l1
  · exact absurd rfl e
/-- one keyword -/
def gv1 : List V → List V → List V := fun _ zs => zs
/-- three keywords: the last parameter, then the first, then the second -/
def gv3 : List V → List V → List V := fun _ zs => match zs with
  | [m, v, l] => [v, l, m]
  | _ => []
def gu3 : List Value → List Value → List Value := fun _ zs => match zs with
  | [m, v, l] => [v, l, m]
  | _ => []
theorem gv3_rel {vs : List V} {us : List Value} {zs : List V} {ws : List Value} (_ : Vals vs us) (h : Vals zs ws) : Vals (gv3 vs zs) (gu3 us ws) := by
  cases h with
  | nil => exact .nil
  | cons r1 h =>
    cases h with
    | nil => exact .nil
    | cons r2 h =>
      cases h with
      | nil => exact .nil
      | cons r3 h =>
        cases h with
        | nil => exact .cons r2 (.cons r3 (.cons r1 .nil))
        | cons r4 h => exact .nil
end Vf
namespace Vf
open PySem PySem.Spec PyProof.Rows L2
/-! ### own error classes with fields -/
def oexB (K : PySem.W.Frag) (C : Addr) : Bool := (match K.lookup C with
  | some ⟨.type "type", _, .cls cd, sl⟩ => (match cd.mro, sl.toList with
    | .ref C' :: bm, [_, _, _, _, some (.builtin n), _] => C' == C && (n == "ValueError.__new__" && (!cd.hasDel && (cd.hasDict && PySem.HandSPX.refsVE bm)))
    | _, _ => false)
  | _ => false) && (He.eqO (PySem.W.findIn K (.ref C) "__setattr__") (some (some (.builtin "object.__setattr__"))) && (decide (PySem.W.subIn K (.ref C) (.type "BaseException") = some true) && (decide (PySem.W.typeIn K (.ref C) = some (.type "type")) && PySem.W.keepIn K (.ref C))))
theorem oexC_of {K : PySem.W.Frag} {C : Addr} (h : oexB K C = true) : OexC K C := by
  unfold oexB at h
  obtain ⟨q, h⟩ := He.ba h
  obtain ⟨h1, h⟩ := He.ba h
  obtain ⟨h2, h⟩ := He.ba h
  obtain ⟨h3, h4⟩ := He.ba h
  refine ⟨?_, He.eqO_ok h1, of_decide_eq_true h2, of_decide_eq_true h3, h4⟩
  split at q
  · rename_i dd cd sl ho
    split at q
    · rename_i C' bm k0 k1 k2 k3 n k5 hm hs
      simp only [Bool.and_eq_true, beq_iff_eq, Bool.not_eq_true'] at q
      obtain ⟨e1, e2, hdel, hdct, ht⟩ := q
      subst e1 e2
      obtain ⟨nm, bs, mro, ns, qn, hd, sn, sub, ab, col, del⟩ := cd
      dsimp only at hm hdel hdct
      subst hm hdel hdct
      have hsl : sl = #[k0, k1, k2, k3, some (.builtin "ValueError.__new__"), k5] := by
        obtain ⟨l⟩ := sl
        simp only at hs
        rw [hs]
      subst hsl
      exact ⟨nm, qn, ns, bs, bm, sn, sub, ab, col, dd, k0, k1, k2, k3, k5, ho, ht⟩
    · cases q
  · cases q
/-- an own error class x, its own __init__, the fields fs: none of them is an attribute of the class -/
structure ErrC (K : PySem.W.Frag) (x : Str) (fs : List Str) : Prop where
  oex : OexC K (He.ga K x)
  exc : ExcC K (He.ga K x)
  ini : PySem.W.findIn K (.ref (He.ga K x)) "__init__" = some (some (.ref (He.ma K (He.ga K x) "__init__")))
  fn : PySem.W.typeIn K (.ref (He.ma K (He.ga K x) "__init__")) = some (.type "function")
  no : ∀ f ∈ fs, PySem.W.findIn K (.ref (He.ga K x)) f = some none
def errB (K : PySem.W.Frag) (x : Str) (fs : List Str) : Bool := oexB K (He.ga K x) && (excB K (He.ga K x) && (He.eqO (PySem.W.findIn K (.ref (He.ga K x)) "__init__") (some (some (.ref (He.ma K (He.ga K x) "__init__")))) &&
  (decide (PySem.W.typeIn K (.ref (He.ma K (He.ga K x) "__init__")) = some (.type "function")) && fs.all fun f => He.eqO (PySem.W.findIn K (.ref (He.ga K x)) f) (some none))))
theorem errC_of {K : PySem.W.Frag} {x : Str} {fs : List Str} (h : errB K x fs = true) : ErrC K x fs := by
  unfold errB at h
  obtain ⟨h1, h⟩ := He.ba h
  obtain ⟨h2, h⟩ := He.ba h
  obtain ⟨h3, h⟩ := He.ba h
  obtain ⟨h4, h5⟩ := He.ba h
  exact ⟨oexC_of h1, excC_of h2, He.eqO_ok h3, of_decide_eq_true h4, fun f hf => He.eqO_ok (List.all_eq_true.mp h5 f hf)⟩
theorem ErrC.xf {K : PySem.W.Frag} {x : Str} {fs : List Str} (h : ErrC K x fs) : XfC K (He.ga K x) := ⟨h.exc.hg, h.exc.hk, h.exc.hs, h.exc.hd⟩
/-- isinstance's answers -/
def kitsB (K : PySem.W.Frag) (x : Str) (ys : List (Str × Bool)) : Bool := decide (PySem.W.kitOne K (.ref (He.ga K x)) (.type "ValueError") = some true) && ys.all fun y => decide (PySem.W.kitOne K (.ref (He.ga K x)) (.ref (He.ga K y.1)) = some y.2)
structure Kits (K : PySem.W.Frag) (x : Str) (ys : List (Str × Bool)) : Prop where
  ve : PySem.W.kitOne K (.ref (He.ga K x)) (.type "ValueError") = some true
  own : ∀ y ∈ ys, PySem.W.kitOne K (.ref (He.ga K x)) (.ref (He.ga K y.1)) = some y.2
theorem kits_of {K : PySem.W.Frag} {x : Str} {ys : List (Str × Bool)} (h : kitsB K x ys = true) : Kits K x ys := by
  unfold kitsB at h
  obtain ⟨h1, h2⟩ := He.ba h
  exact ⟨of_decide_eq_true h1, fun y hy => of_decide_eq_true (List.all_eq_true.mp h2 y hy)⟩
/-! ### raising them -/
/-- the wish of an exception of the class at C with the fields fs, told from H -/
def Rz (E : XK) (C : Addr) (fs : List (Str × V)) (H : Hp) : Prop := ∀ H' d, Same H H' → H d = none → H' d = some (.xd fs) → E (.ref C) (some d) H'
theorem Rz.same {E : XK} {C : Addr} {fs : List (Str × V)} {H H1 : Hp} (h : Rz E C fs H) (s : Same H H1) : Rz E C fs H1 := fun H' d s2 n e => by
  refine h H' d (s.trans s2) ?_ e
  cases q : H d with
  | none => rfl
  | some o =>
    rw [s _ _ q] at n
    cases n
/-- def __init__(self, f): self.f = f -/
def spI1 (K : PySem.W.Frag) (f : Str) : Sp := fun vs H Q _ => ∃ (a C : Addr) (v : V), vs = [.ref a, v] ∧ OexC K C ∧ PySem.W.findIn K (.ref C) f = some none ∧ H a = some (exo a C none) ∧
  ∀ dx, H dx = none → dx ≠ a → Q .non (upd (upd H dx (exd dx [(f, v)])) a (exo a C (some dx)))
/-- .. of two fields -/
def spI2 (K : PySem.W.Frag) (f g : Str) : Sp := fun vs H Q _ => ∃ (a C : Addr) (v u : V), vs = [.ref a, v, u] ∧ OexC K C ∧ PySem.W.findIn K (.ref C) f = some none ∧ PySem.W.findIn K (.ref C) g = some none ∧ H a = some (exo a C none) ∧
  ∀ dx, H dx = none → dx ≠ a → Q .non (upd (upd (upd H dx (exd dx [(f, v)])) a (exo a C (some dx))) dx (exd dx [(g, u), (f, v)]))
theorem same_exc {H : Hp} {a d : Addr} {o : HO} (ha : H a = none) (hd : H d = none) {H2 : Hp} (h2 : ∀ b, b ≠ a → b ≠ d → H2 b = H b) : Same H (upd (L2.del H2 a) d o) := fun b u e => by
  have n1 := ne_of_none e ha
  have n2 := ne_of_none e hd
  rw [upd_ne n2, del_ne n1, h2 b n1 n2]
  exact e
theorem mk1 {K : PySem.W.Frag} {C : Addr} {f : Str} {v : V} {H : Hp} {E : XK} (T : OexC K C) (no : PySem.W.findIn K (.ref C) f = some none) (r : Rz E C [(f, v)] H) :
    ([v].length ≤ 1000 ∧ ∀ a, H a = none → spI1 K f (.ref a :: ([v] ++ [])) (upd H a (exo a C none))
      (fun v H2 => v = .non ∧ ∃ (d : Addr) (fs : List (Str × V)), H2 a = some (exo a C (some d)) ∧ H2 d = some (exd d fs) ∧ H d = none ∧ E (.ref C) (some d) (upd (L2.del H2 a) d (.xd fs))) (fun _ _ _ => False)) := by
  refine ⟨(show 1 ≤ 1000 by decide), fun a na => ⟨a, C, v, rfl, T, no, upd_same, fun dx nd nda => ?_⟩⟩
  have nd' : H dx = none := by
    rw [upd_ne nda] at nd
    exact nd
  refine ⟨rfl, dx, [(f, v)], upd_same, by rw [upd_ne nda, upd_same], nd', ?_⟩
  exact r _ dx (same_exc na nd' fun b n1 n2 => by rw [upd_ne n1, upd_ne n2, upd_ne n1]) nd' upd_same
theorem mk2 {K : PySem.W.Frag} {C : Addr} {f g : Str} {v u : V} {H : Hp} {E : XK} (T : OexC K C) (no : PySem.W.findIn K (.ref C) f = some none) (no2 : PySem.W.findIn K (.ref C) g = some none) (r : Rz E C [(g, u), (f, v)] H) :
    ([v, u].length ≤ 1000 ∧ ∀ a, H a = none → spI2 K f g (.ref a :: ([v, u] ++ [])) (upd H a (exo a C none))
      (fun v H2 => v = .non ∧ ∃ (d : Addr) (fs : List (Str × V)), H2 a = some (exo a C (some d)) ∧ H2 d = some (exd d fs) ∧ H d = none ∧ E (.ref C) (some d) (upd (L2.del H2 a) d (.xd fs))) (fun _ _ _ => False)) := by
  refine ⟨(show 2 ≤ 1000 by decide), fun a na => ⟨a, C, v, u, rfl, T, no, no2, upd_same, fun dx nd nda => ?_⟩⟩
  have nd' : H dx = none := by
    rw [upd_ne nda] at nd
    exact nd
  refine ⟨rfl, dx, [(g, u), (f, v)], by rw [upd_ne nda.symm, upd_same], upd_same, nd', ?_⟩
  exact r _ dx (same_exc na nd' fun b n1 n2 => by rw [upd_ne n2, upd_ne n1, upd_ne n2, upd_ne n1]) nd' upd_same
/-- what a def that may raise lets out, in a def that may raise -/
theorem passE {X : Cx} {E : XK} (hs : X.stack = X.env :: X.outer) (hf : X.env.frame = some X.env.locals) (hex : X.ex = []) {E₁ : Value → Shared → Prop} (hx : X.xe = fun e s' => wpAny (model X.prog X.w) X.A («leaving» X.env e) (fun _ s'' => L2.CX X.prog X.w X.outer X.H_0 X.s_0 E e s'') E₁ s') : Passes (L2.CX X.prog X.w) X E :=
  passes_call (takes_of hs hf hex hx) fun _ _ _ _ h => h
theorem takes_no {X : Cx} : Takes X (fun _ _ _ _ => False) := fun _ _ x => by
  obtain ⟨_, _, _, _, _, _, _, _, _, _, _, _, _, _, _, _, z⟩ := x
  exact z.elim
/-- .. in a def that lets nothing out -/
theorem passN {X : Cx} : Passes (L2.CX X.prog X.w) X (fun _ _ _ => False) := passes_call takes_no fun _ _ _ _ h => h
/-- a def that may raise, by its name -/
def HasX (P : Program) (w : World) (K : PySem.W.Frag) (mg : Str → Option Value) (base : Heap) (x : Str) (k : Nat) (ps : List Str) (sp : Sp) : Prop :=
  ∃ (f : Addr) (fd : FuncData), FnOk P w K mg base (L2.CX P w) k f fd ps sp ∧ mg x = some (.ref f) ∧ PySem.W.keepIn K (.ref f) = true ∧ Binds K fd ps []
end Vf
open PySem
namespace Vf
open PySem PySem.Spec PyProof.Rows L2
/-! ### exceptions that are held as values -/
/-- at a: an exception that was caught, of the class at C, its dict d -/
def exv (a C : Addr) (d : Option Addr) : HO := .ext fun h => ∃ (o : Obj) (vs : Array Value), h.get? a = some o ∧ o.cls = .ref C ∧ o.dict = d ∧ o.data = .fields vs
theorem exv_ok {P : Program} {w : World} {H : Hp} {h : Heap} {a C : Addr} {d : Option Addr} {o : Obj} {vs : Array Value} (e : h.get? a = some o) (c : o.cls = .ref C) (dd : o.dict = d) (v : o.data = .fields vs) : ObjOk P w H h a (exv a C d) :=
  ⟨⟨o, vs, e, c, dd, v⟩, ⟨o, e⟩, fun _ _ ⟨o', ws, e', r⟩ k => ⟨o', ws, k _ e', r⟩⟩
/-- at a stands an exception of the class at C with these fields; none: without a dict -/
inductive ExcAt (H : Hp) (a C : Addr) : Option (List (Str × V)) → Prop where
  | made (d : Addr) (fs : List (Str × V)) (e : H a = some (exo a C (some d))) (f : H d = some (exd d fs)) : ExcAt H a C (some fs)
  | caught (d : Addr) (fs : List (Str × V)) (e : H a = some (exv a C (some d))) (f : H d = some (.xd fs)) : ExcAt H a C (some fs)
  | bare (e : H a = some (ExO (.ref C) a)) : ExcAt H a C none
theorem ExcAt.same {H H' : Hp} {a C : Addr} {fs : Option (List (Str × V))} (x : ExcAt H a C fs) (s : Same H H') : ExcAt H' a C fs := by
  cases x with
  | made d fs e f => exact .made d fs (s _ _ e) (s _ _ f)
  | caught d fs e f => exact .caught d fs (s _ _ e) (s _ _ f)
  | bare e => exact .bare (s _ _ e)
/-- the object and, if it has one, its dict -/
theorem ExcAt.read {P : Program} {w : World} {H : Hp} {h : Heap} {a C : Addr} {fs : Option (List (Str × V))} (k : HOk P w H h) (x : ExcAt H a C fs) : ∃ (oe : Obj) (od : Option Obj), PySem.W.InstAt h a oe C od ∧
    ∀ g, fs = some g → ∃ (o : Obj) (mA : Str → Option Value), od = some o ∧ (∀ n, PySem.W.lookIn n o = some (mA n)) ∧ ∀ n, RelO (g.lookup n) (mA n) := by
  cases x with
  | made d fs e f =>
    obtain ⟨t, hx⟩ := exo_at k e
    obtain ⟨mA, hn, hr⟩ := exd_at k f
    obtain ⟨o, ho, hl⟩ := lookIn_ns hn
    exact ⟨_, some o, ⟨hx, rfl, rfl, ho⟩, fun g z => ⟨o, mA, rfl, hl, by cases z; exact hr⟩⟩
  | caught d fs e f =>
    obtain ⟨⟨oe, vs, hx, hc, hd, hv⟩, _, _⟩ := (show ObjOk P w H h a (exv a C (some d)) from k _ _ e)
    obtain ⟨mA, hn, hr⟩ := (show ObjOk P w H h d (.xd fs) from k _ _ f)
    obtain ⟨o, ho, hl⟩ := lookIn_ns hn
    exact ⟨oe, some o, ⟨hx, hc, by unfold PySem.W.notCls; rw [hv] <;> rfl, by rw [hd]; exact ho⟩, fun g z => ⟨o, mA, rfl, hl, by cases z; exact hr⟩⟩
  | bare e =>
    obtain ⟨⟨oe, vs, hx, ⟨hc, hd⟩, hv, _⟩, _, _⟩ := (show ObjOk P w H h a (ExO (.ref C) a) from k _ _ e)
    exact ⟨oe, none, ⟨hx, hc, by unfold PySem.W.notCls; rw [hv] <;> rfl, by rw [hd]; exact True.intro⟩, fun g z => by cases z⟩
section
variable {X : Cx}
/-- e.f, e an exception -/
def tEf (K : PySem.W.Frag) (f : Str) (te : TE) : TE := fun σ H Q => te σ H fun x H1 => ∃ (a C : Addr) (fs : List (Str × V)) (v : V), x = .ref a ∧ ExcAt H1 a C (some fs) ∧ XfC K C ∧ PySem.W.findIn K (.ref C) f = some none ∧ fs.lookup f = some v ∧ Q v H1
theorem pe_ef {e : Expr} {te : TE} {f : Str} {pos : Pos} (he : PE X e te) (hb : attributeBase e f X.env (eval e X.env) = eval e X.env := by rfl) : PE X (.Attribute e f pos) (tEf X.K f te) :=
  ⟨fun pins s σ H Q I h => attr_of hb (thn (he.run pins s σ H _ I h) fun u s1 ⟨x, H1, I1, rx, a, C, fs, v, ex, hx, T, no, l, q⟩ => by
    subst ex
    cases (show u = Value.ref a from rx)
    obtain ⟨oe, od, J, hd⟩ := hx.read I1.hok
    obtain ⟨o, mA, rfl, hl, hr⟩ := hd fs rfl
    obtain ⟨y, hy, ry⟩ := RelO.some_of (v := v) (o := mA f) (l ▸ hr f)
    exact HandSPX.exc_get I1.kIn J T.ga T.gg T.exC (PySem.W.findObj_own T.hdC no rfl ((hl f).trans (congrArg some hy))) (handed_of ry) ⟨v, H1, I1.tok _, ry, q⟩)⟩
theorem kit_exc {K : PySem.W.Frag} {a D : Addr} {oe : Obj} {od : Option Obj} (C : ExcC K D) : PySem.W.KitX K (.ref a) (.ref D) fun h => PySem.W.InstAt h a oe D od := by
  refine PySem.W.kitx_exc ?_ C.hg C.hk C.hs C.ha C.hn C.ht C.hm
  obtain ⟨cd, hc, _⟩ := PySem.W.any_some C.hd
  rw [hc] <;> rfl
/-- isinstance(e, c), e an exception -/
def rIsV (K : PySem.W.Frag) : List V → Hp → VK → Prop := fun xs H Q => ∃ (a D : Addr) (fs : Option (List (Str × V))) (c : V) (u : Value) (b : Bool), xs = [.ref a, c] ∧ ExcAt H a D fs ∧ ExcC K D ∧ ClsV c u ∧ PySem.W.kitOne K (.ref D) u = some b ∧ Q (.bl b) H
theorem call_isV : CallR X (.builtin "isinstance") (rIsV X.K) := by
  intro pins s σ H xs us Q I r h
  obtain ⟨a, D, fs, c, u, b, rfl, hx, C, k, e, q⟩ := h
  obtain ⟨u1, u2, rfl, r1, r2⟩ := vals2 r
  have e3 := k.eq r2
  subst e3
  cases (show u1 = Value.ref a from r1)
  obtain ⟨oe, od, J, _⟩ := hx.read I.hok
  exact PySem.W.kia_one (kit_exc C) I.kIn J e (fun z => nomatch z) fun tk => ⟨.bl b, H, I.tok tk, rfl, q⟩
end
end Vf
namespace Vf
open PySem PySem.Spec PyProof.Rows L2
/-! ### C(..), C(k = v, ..) of an own exception class, as a value -/
section
variable {M : Model} {A : Around} {E : Value → Shared → Prop} {hp : Heap} {ge : Array GenState} {dr : Drawn} {tk : Nat} {os : OsState}
variable {nm q : Str} {C N : Addr} {bs bm bmB : List Value} {hdct : Bool} {sn : List Str} {sub : List Value} {ab : Bool} {col : Option Bool} {dd : Option Addr} {k0 k1 k2 k3 k5 : Option Value} {B newId initId : String}
theorem newCheck_kw (F : ExcBaseFacts B newId initId bmB) (hT : ∀ x : String, bm.contains (.type x) = bmB.contains (.type x)) {rest : List Value} {kw : List (Str × Value)} {Q : Unit → Shared → Prop}
    (hC : hp.get? C = some (excClassObj nm q C N bs bm hdct sn sub ab col dd k0 k1 k2 k3 k5 newId)) (z : Q () ⟨hp, ge, dr, tk, os⟩) : wpAny M A (checkBuiltinCall newId ⟨.ref C :: rest, kw⟩) Q E ⟨hp, ge, dr, tk, os⟩ := by
  have c1 : (Value.ref C :: bm).contains (.type B) = true := by
    rw [List.contains_cons, hT, F.hasB] <;> simp
  have c2 := F.noStar
  simp only [checkBuiltinCall, F.newKind, F.newSplit, F.newRow]
  repeat (first
    | refine wpAny_loadPart_at hC ?_
    | (refine wpAny_isSubtype_exc hC ?_; rw [c1])
    | refine wpAny_staticBase_exc hC ?_
    | refine wpAny_madeBy_exc hC ?_
    | simp only [bne_self_eq_false, Bool.false_eq_true, if_false]
    | wp_step)
  exact z
end
section
variable {pg : Program} {wd : World} {A : Around} {E : Value → Shared → Prop} {R : Result → Shared → Prop} {hp : Heap} {ge : Array GenState} {dr : Drawn} {tk : Nat} {os : OsState}
variable {nm q : Str} {C N : Addr} {bs bm bmB : List Value} {hdct : Bool} {sn : List Str} {sub : List Value} {ab : Bool} {col : Option Bool} {dd : Option Addr} {k0 k1 k2 k3 k5 : Option Value} {B newId initId : String}
/-- the exception object that is made, its (empty) tuple of arguments -/
abbrev exoOf (C t : Addr) : Obj := PySem.HandSPX.excO C t
theorem newMade_kw (F : ExcBaseFacts B newId initId bmB) (hT : ∀ x : String, bm.contains (.type x) = bmB.contains (.type x)) {kw : List (Str × Value)}
    (hC : hp.get? C = some (excClassObj nm q C N bs bm hdct sn sub ab col dd k0 k1 k2 k3 k5 newId))
    (z : R (.ok (.ret (.ref (hp.objs.size + 1)))) ⟨(hp.push (PySem.W.kdv_tup [])).push (exoOf C hp.objs.size), ge, dr, tk, os⟩) :
    codeAny (model pg wd) A (.builtin newId ⟨[.ref C], kw⟩) R ⟨hp, ge, dr, tk, os⟩ := by
  have e0 := F.ends
  have c1 : (Value.ref C :: bm).contains (.type B) = true := by
    rw [List.contains_cons, hT, F.hasB] <;> simp
  have c2 : (Value.ref C :: bm).contains (.type "AttributeError") = false := by
    rw [List.contains_cons, hT, F.noAttr] <;> rfl
  have c3 : (Value.ref C :: bm).contains (.type "NameError") = false := by
    rw [List.contains_cons, hT, F.noName] <;> rfl
  refine codeAny_builtinAt F.entry ?_
  unfold Builtin.«BaseException.__new__»
  refine PySem.wpAt_bind ?_
  show PySem.wpAt _ _ _ (stack >>= _) _ _ _
  refine PySem.wpAt_bind (PySem.wpAt_stack fun _ _ => PySem.wpAt_of_wpAny ?_)
  wp_walk
  refine PySem.wpAt_of_wpAny ?_
  rw [F.owner]
  repeat (first
    | with_reducible refine wpAny_madeHere_exc F.canon hC ?_
    | with_reducible refine wpAny_loadPart_at hC ?_
    | (with_reducible refine wpAny_isSubtype_exc hC ?_
       first | rw [c1] | rw [c2] | rw [c3])
    | wp_step)
  show R _ _
  rw [Heap.size_push]
  exact z
theorem typeCall_kw (F : ExcBaseFacts B newId initId bmB) (hT : ∀ x : String, bm.contains (.type x) = bmB.contains (.type x)) {kw : List (Str × Value)} {fI : Addr} {Q : Fin → Shared → Prop}
    (hC : hp.get? C = some (excClassObj nm q C N bs bm hdct sn sub ab col dd k0 k1 k2 k3 k5 newId)) (li : W.Looks (model pg wd) hp (typeLookup (.ref C) "__init__") (some (.ref fI)))
    (lb : ∀ x, W.Looks (model pg wd) hp (bindSpecial (.ref fI) x) (.ref fI, [x]))
    (z : codeAny (model pg wd) A (.call (.ref fI) ⟨[.ref (hp.objs.size + 1)], kw⟩) (fun r s' => match r with
      | .ok (.ret v) => v = .none ∧ Q (.done (.ret (.ref (hp.objs.size + 1)))) s'
      | .ok _ => False
      | .error e => E e s') ⟨(hp.push (PySem.W.kdv_tup [])).push (exoOf C hp.objs.size), ge, dr, tk, os⟩) :
    wpAny (model pg wd) A (Builtin.«type.__call__» ⟨[.ref C], kw⟩) Q E ⟨hp, ge, dr, tk, os⟩ := by
  repeat (first
    | with_reducible refine wpAny_loadPart_at hC ?_
    | with_reducible refine wpAny_madeBy_exc hC ?_
    | wp_step)
  refine codeAny_call_builtin_code (Code.quiet_builtin _ F.quiet) (newCheck_kw F hT hC ?_)
  refine newMade_kw F hT hC ?_
  show wpAny _ _ _ _ _ _
  have k : ∀ b o, hp.get? b = some o → ((hp.push (PySem.W.kdv_tup [])).push (exoOf C hp.objs.size)).get? b = some o := fun b o e =>
    Heap.get?_push_of_some _ (Heap.get?_push_of_some _ e)
  have hC2 := k _ _ hC
  have ge2 : ((hp.push (PySem.W.kdv_tup [])).push (exoOf C hp.objs.size)).get? (hp.objs.size + 1) = some (exoOf C hp.objs.size) := by
    heap_get
  have c1 : (Value.ref C :: bm).contains (.ref C) = true := by
    simp
  have li2 := li.keeps k
  have lb2 := (lb (.ref (hp.objs.size + 1))).keeps k
  unfold isInstance
  repeat (first
    | with_reducible refine wpAny_loadPart_at ge2 ?_
    | (with_reducible refine wpAny_isSubtype_exc hC2 ?_
       rw [c1])
    | wp_step)
  show wpAny _ _ (typeLookup (.ref C) _) _ _ _
  refine li2.at ?_
  refine wpAny_holding (wpAny_bind (lb2.at ?_))
  refine wpAny_bind (wpAny_call (codeAny_mono z fun r s' hz => ?_))
  rcases r with e | (v | _ | _ | _) <;> first
    | exact hz
    | exact hz.elim
    | skip
  obtain ⟨rfl, hz⟩ := hz
  first
    | exact wpAny_pure (wpAny_pure hz)
    | (wp_walk; exact hz)
theorem typeCheck_kw {M : Model} {kw : List (Str × Value)} {Q : Unit → Shared → Prop} {E : Value → Shared → Prop}
    (hC : hp.get? C = some (excClassObj nm q C N bs bm hdct sn sub ab col dd k0 k1 k2 k3 k5 newId)) (z : Q () ⟨hp, ge, dr, tk, os⟩) : wpAny M A (checkBuiltinCall "type.__call__" ⟨[.ref C], kw⟩) Q E ⟨hp, ge, dr, tk, os⟩ := by
  have t1 := tc_sub
  have t2 : (⟨hp, ge, dr, tk, os⟩ : Shared).TypeIs (.ref C) "type" := ⟨_, hC, rfl⟩
  simp only [checkBuiltinCall, tc_kind, tc_split]
  repeat (any_goals (first
    | assumption
    | with_reducible refine wpAny_loadPart_at hC ?_
    | with_reducible refine wpAny_onRaise ?_
    | with_reducible refine wpAny_map ?_
    | wp_step))
theorem call_kw (F : ExcBaseFacts B newId initId bmB) (hT : ∀ x : String, bm.contains (.type x) = bmB.contains (.type x)) {kw : List (Str × Value)} {fI : Addr}
    (hC : hp.get? C = some (excClassObj nm q C N bs bm hdct sn sub ab col dd k0 k1 k2 k3 k5 newId)) (li : W.Looks (model pg wd) hp (typeLookup (.ref C) "__init__") (some (.ref fI)))
    (lb : ∀ x, W.Looks (model pg wd) hp (bindSpecial (.ref fI) x) (.ref fI, [x]))
    (z : codeAny (model pg wd) (A.under (.builtin "type.__call__" ⟨[.ref C], kw⟩)) (.call (.ref fI) ⟨[.ref (hp.objs.size + 1)], kw⟩) (W.InitBack (hp.objs.size + 1) R) ⟨(hp.push (PySem.W.kdv_tup [])).push (exoOf C hp.objs.size), ge, dr, tk, os⟩) :
    codeAny (model pg wd) A (.call (.ref C) ⟨[], kw⟩) R ⟨hp, ge, dr, tk, os⟩ := by
  have t1 := tc_lookup
  have t2 := tc_bind (.ref C)
  have t3 : (⟨hp, ge, dr, tk, os⟩ : Shared).TypeIs (.ref C) "type" := ⟨_, hC, rfl⟩
  refine codeAny_of_tree ?_
  show wpAny _ _ (callAny (.ref C) _) _ _ _
  repeat (any_goals (first
    | assumption
    | with_reducible refine wpAny_loadPart_at hC ?_
    | wp_step))
  refine ⟨rfl, ?_⟩
  refine codeAny_call_builtin_at (Code.quiet_builtin _ (by decide +kernel)) entry_typeCall ?_
  refine typeCheck_kw hC (typeCall_kw F hT hC li lb (codeAny_mono z fun r s' hz => ?_))
  rcases r with e | (v | _ | _ | _) <;> exact hz
end
end Vf
namespace Vf
open PySem PySem.Spec PyProof.Rows L2
section
variable {X : Cx} {e : Expr} {es : List Expr} {kws : List Keyword} {ta tk : TA} {p pos : Pos} {CX : CXT} {x : Str} {C fI : Addr} {k : Nat} {fd : FuncData} {ps ks : List Str} {sp : Sp}
/-- C(e, ..), a new exception, C's own __init__ keeping sp -/
def tExV (C : Addr) (sp : Sp) (ta : TA) : TE := fun σ H Q => ta σ H fun vs H1 => vs.length ≤ 1000 ∧ ∀ a, H1 a = none → sp (.ref a :: vs) (upd H1 a (exo a C none)) (fun v H2 => v = .non ∧ Q (.ref a) H2) (fun _ _ _ => False)
theorem exV_run {pins : List (Addr × Obj)} {σ : L2.St} {H : Hp} {s : Shared} {Q : VK} {vs ws : List V} {us : List Value} {kw : List (Str × Value)} (T : OexC X.K C) (hr : Room (k + 1) X.A) (hx : Passes CX X (fun _ _ _ => False)) (I : Inv X pins σ H s)
    (F1 : FnOk X.prog X.w X.K X.mg X.base CX k fI fd ps sp) (us1 : List Value) (hus : us1.length ≤ 1000)
    (go : ∀ R : Result → Shared → Prop, codeAny (model X.prog X.w) (X.A.under (.builtin "type.__call__" ⟨.ref C :: us1, kw⟩)) (.call (.ref fI) ⟨.ref (s.heap.objs.size + 1) :: us1, kw⟩) (PySem.W.InitBack (s.heap.objs.size + 1) R)
        { s with heap := (s.heap.push (PySem.W.kdv_tup us1)).push (PySem.HandSPX.excO C s.heap.objs.size) } → codeAny (model X.prog X.w) X.A (.call (.ref C) ⟨us1, kw⟩) R s)
    (hb : ∀ t : Shared, X.K.In t.heap → BindsTo t fd ⟨.ref (s.heap.objs.size + 1) :: us1, kw⟩ (ps.zip us)) (r : Vals vs us) (he : vs = .ref (s.heap.objs.size + 1) :: ws)
    (h : sp vs (upd H (s.heap.objs.size + 1) (exo (s.heap.objs.size + 1) C none)) (fun v H2 => v = .non ∧ Q (.ref (s.heap.objs.size + 1)) H2) (fun _ _ _ => False)) :
    wpAny (model X.prog X.w) X.A (call (.ref C) us1 kw) (EP X pins σ Q) X.xe s := by
  obtain ⟨hp, g, dr, t, os⟩ := s
  have grow : ∀ b o, hp.get? b = some o → ((hp.push (PySem.W.kdv_tup us1)).push (PySem.HandSPX.excO C hp.objs.size)).get? b = some o := fun b o q =>
    Heap.get?_push_of_some _ (Heap.get?_push_of_some _ q)
  have there : ((hp.push (PySem.W.kdv_tup us1)).push (PySem.HandSPX.excO C hp.objs.size)).get? (hp.objs.size + 1) = some (PySem.HandSPX.excO C hp.objs.size) := by
    heap_get
  have J : Inv X pins σ (upd H (hp.objs.size + 1) (exo (hp.objs.size + 1) C none)) ⟨(hp.push (PySem.W.kdv_tup us1)).push (PySem.HandSPX.excO C hp.objs.size), g, dr, t, os⟩ :=
    I.laid (t' := t) (a := hp.objs.size + 1) (o := exo (hp.objs.size + 1) C none) grow (Nat.le_succ _) (exo_ok there)
  refine wpAny_call (go _ ?_)
  have rc := F1.run _ X.stack _ _ ⟨Value.ref (hp.objs.size + 1) :: us1, kw⟩ us vs _ (fun _ _ _ => False) (hr.make C us1 kw) (J.env0.make C us1 kw) (hb _ J.kIn) r h
  refine codeAny_mono rc fun q s2 z => ?_
  match q, z with
  | .error er, z => exact hx pins σ _ _ er s2 J z
  | .ok (.ret u), z =>
    obtain ⟨v, H2, o1, o2, o3, o4, rv, ev, q2⟩ := z
    subst ev
    exact ⟨rv, J.after ⟨.ref (hp.objs.size + 1), H2, o1, o2, o3, o4, rfl, q2⟩⟩
  | .ok .next, z => exact False.elim z
  | .ok .brk, z => exact False.elim z
  | .ok .cont, z => exact False.elim z
theorem pe_exV (T : OexC X.K C) (iC : PySem.W.findIn X.K (.ref C) "__init__" = some (some (.ref fI))) (tI : PySem.W.typeIn X.K (.ref fI) = some (.type "function")) (F1 : FnOk X.prog X.w X.K X.mg X.base CX k fI fd ps sp) (hr : Room (k + 1) X.A) (hb : Binds X.K fd ps [])
    (hx : Passes CX X (fun _ _ _ => False)) (hg : Gl X x) (hm : X.mg x = some (.ref C)) (ha : PA X (e :: es) ta) (hdb : (x == ("__debug__" : Str)) = false := by decide)
    (he : starEach (e :: es) X.env = (false, eval e X.env) :: starEach es X.env := by rfl) (hpl : (backTo pos (starEach es X.env)).any (·.1) = false := by rfl) : PE X (.Call (.Name x p) (e :: es) [] pos) (tExV C sp ta) := by
  refine ⟨fun pins s σ H Q I h => ?_⟩
  obtain ⟨nm, q, N, bs, bm, sn, sub, ab, col, dd, k0, k1, k2, k3, k5, hC, hbm⟩ := T.cls
  refine wpAny_Call_Name_kw (ld_glob I hg hm ?_ hdb)
  refine PySem.W.callWith_K (h₀ := X.base) I.ok.mod.kin T.kC ?_ he hpl
  refine thn (ha.run pos pins s σ H _ I h) fun us s1 ⟨vs, H1, I1, r1, hz, q1⟩ => ⟨I1.kIn, ?_⟩
  have hn : H1 (s1.heap.objs.size + 1) = none := I1.hok.fresh (Nat.le_succ _)
  have hl : us.length ≤ 1000 := Paired.length r1 ▸ hz
  have r2 : Vals (V.ref (s1.heap.objs.size + 1) :: vs) (Value.ref (s1.heap.objs.size + 1) :: us) := .cons rfl r1
  have sz : us.length ≤ sizeLine := by
    rw [sizeLine_eq]
    omega
  refine exV_run T hr hx I1 F1 us hl (fun R z => ?_) (fun t ht => ?_) r2 rfl (q1 _ hn)
  · obtain ⟨hp, g, dr, tk, os⟩ := s1
    exact PySem.HandSPX.call_own F.excBase_ValueError (fun Y => PySem.HandSPX.refsVE_contains Y bm hbm) (I1.kIn _ _ hC) (PySem.W.looks_findIn I1.kIn iC) (fun self => PySem.W.bind_fn I1.kIn self tI) sz z
  · have b := hb t (Value.ref (s1.heap.objs.size + 1) :: us) ht ((congrArg List.length (List.append_nil _)).trans <| (Paired.length r2).symm.trans (F1.len _ _ _ _ (q1 _ hn)))
    rw [List.append_nil] at b
    exact b
/-- C(k = v, ..) -/
def tExK (C : Addr) (n : Nat) (sp : Sp) (gV : List V → List V → List V) (tk : TA) : TE := fun σ H Q => tk σ H fun zs H1 => zs.length = n ∧ ∀ a, H1 a = none → sp (gV [.ref a] zs) (upd H1 a (exo a C none)) (fun v H2 => v = .non ∧ Q (.ref a) H2) (fun _ _ _ => False)
theorem pe_exK {g : List Value → List Value → List Value} {gV : List V → List V → List V} (T : OexC X.K C) (iC : PySem.W.findIn X.K (.ref C) "__init__" = some (some (.ref fI))) (tI : PySem.W.typeIn X.K (.ref fI) = some (.type "function"))
    (F1 : FnOk X.prog X.w X.K X.mg X.base CX k fI fd ps sp) (hr : Room (k + 1) X.A) (hb : KBn X.K fd ps 1 ks g gV) (hx : Passes CX X (fun _ _ _ => False)) (hg : Gl X x) (hm : X.mg x = some (.ref C)) (hkw : PK X kws tk) (hgV : ∀ a zs, ∃ ws, zs.length = ks.length → gV [.ref a] zs = .ref a :: ws)
    (hall : (backToKw pos (keywordEach kws X.env)).all (·.1.isSome) = true := by rfl) (hks : (backToKw pos (keywordEach kws X.env)).filterMap (·.1) = ks := by rfl) (hdb : (x == ("__debug__" : Str)) = false := by decide)
    (hpl : ((backTo pos (starEach [] X.env)).any (·.1) || (backToKw pos (keywordEach kws X.env)).any (·.1.isNone)) = false := by rfl) : PE X (.Call (.Name x p) [] kws pos) (tExK C ks.length sp gV tk) := by
  refine ⟨fun pins s σ H Q I h => ?_⟩
  obtain ⟨nm, q, N, bs, bm, sn, sub, ab, col, dd, k0, k1, k2, k3, k5, hC, hbm⟩ := T.cls
  refine wpAny_Call_Name_kw (ld_glob I hg hm ?_ hdb)
  refine PySem.W.callWith_KW0 (h₀ := X.base) I.ok.mod.kin T.kC hall ?_ hpl
  refine thn (hkw.run pos pins s σ H _ I h) fun ws s1 ⟨zs, H1, I1, rz, l1, q1⟩ => ⟨I1.kIn, ?_⟩
  rw [hks]
  have hn : H1 (s1.heap.objs.size + 1) = none := I1.hok.fresh (Nat.le_succ _)
  have rr := hb.rel (vs := [.ref (s1.heap.objs.size + 1)]) (us := [.ref (s1.heap.objs.size + 1)]) (.cons rfl .nil) rz
  obtain ⟨w2, hw⟩ := hgV (s1.heap.objs.size + 1) zs
  refine exV_run (us1 := []) (kw := ks.zip ws) T hr hx I1 F1 (Nat.zero_le _) (fun R z => ?_) (fun t ht => hb.to t [.ref (s1.heap.objs.size + 1)] ws ht rfl (rz.length.symm.trans l1)) rr (hw l1) (q1 _ hn)
  obtain ⟨hp, g, dr, tk, os⟩ := s1
  exact call_kw F.excBase_ValueError (fun Y => PySem.HandSPX.refsVE_contains Y bm hbm) (I1.kIn _ _ hC) (PySem.W.looks_findIn I1.kIn iC) (fun self => PySem.W.bind_fn I1.kIn self tI) z
end
end Vf
namespace Vf
open PySem PySem.Spec PyProof.Rows L2
section
variable {X : Cx} {pins : List (Addr × Obj)} {σ : L2.St} {H : Hp} {s : Shared}
/-- an exception that is pinned is told in the abstract heap -/
theorem hold_exc {a C : Addr} {d : Option Addr} {oe : Obj} {vs : Array Value} (I : Inv X pins σ H s) (n0 : X.s_0.heap.get? a = none) (na : H a = none) (np : ∀ p ∈ X.pn ++ pins, p.1 ≠ a)
    (ho : s.heap.get? a = some oe) (hd : oe.data = .fields vs) (hc : oe.cls = .ref C) (dd : oe.dict = d) : Inv X pins σ (upd H a (exv a C d)) s := by
  have some_ne : ∀ {b : Addr} {o : HO}, H b = some o → b ≠ a := fun {b o} e => ne_of_none e na
  have old_ne : ∀ {b : Addr} {o : Obj}, X.s_0.heap.get? b = some o → b ≠ a := fun {b o} e z => by
    rw [z, n0] at e
    cases e
  have cell_ne : ∀ x c, X.env.cells.lookup x = some c → c ≠ a := fun x c e z => by
    obtain ⟨v, o, h1, h2⟩ := I.cell x c e
    rw [z, ho] at h1
    cases h1
    rw [hd] at h2
    cases h2
  have loc_ne : X.env.locals ≠ a := fun z => by
    obtain ⟨m, ⟨o, es, ep, h1, h2, _⟩, _⟩ := I.loc
    rw [z, ho] at h1
    cases h1
    rw [hd] at h2
    cases h2
  refine ⟨I.ok, I.os, I.bare, ⟨I.base.keep, I.base.slot, fun b o e n hx => ?_, I.base.there, fun b xs e => ?_, fun b o u e => ?_, fun b ps e => ?_⟩, I.loc, I.cell, ?_, fun x c e => ?_, fun p hp => ?_, fun b u e => ?_, I.len⟩
  · rw [upd_ne (old_ne e)]
    exact I.base.free b o e n hx
  · have q := I.base.tups b xs e
    rw [upd_ne (some_ne q)]
    exact q
  · have q := I.base.frzs b o u e
    rw [upd_ne (some_ne q)]
    exact q
  · obtain ⟨more, q⟩ := I.base.tbls b ps e
    exact ⟨more, by rw [upd_ne (some_ne q)]; exact q⟩
  · rw [upd_ne loc_ne]
    exact I.free
  · rw [upd_ne (cell_ne x c e)]
    exact I.freeC x c e
  · obtain ⟨q1, q2, q3⟩ := I.pin p hp
    exact ⟨q1, by rw [upd_ne (np p hp)]; exact q2, q3⟩
  · by_cases z : b = a
    · subst z
      rw [upd_same] at e
      cases e
      exact exv_ok ho hc dd hd
    · rw [upd_ne z] at e
      exact (I.hok b u e).stay (fun _ _ _ q => q) (fun c q => by rw [upd_ne (some_ne q)]; exact q) fun c xs q => by rw [upd_ne (some_ne q)]; exact q
end
/-- behind the suite: what was caught is told -/
def held (H : Hp) (a : Addr) (cls : Value) (d : Option Addr) : Hp := match cls with
  | .ref C => upd H a (exv a C d)
  | _ => H
def endsH (a : Addr) (cls : Value) (d : Option Addr) (i : Nat) (D : Ends) : Ends where
  nx := fun σ H => D.nx (σ.set i none) (held H a cls d)
  rt := fun v H => D.rt v (held H a cls d)
  bk := fun σ H => D.bk (σ.set i none) (held H a cls d)
  ct := fun σ H => D.ct (σ.set i none) (held H a cls d)
def wHold (K : PySem.W.Frag) (c : Value) (i : Nat) (ts : Addr → Value → Option Addr → TS) (Wout : WX) (D : Ends) : WX := fun cls d σ H => ∃ b, PySem.W.exmOne K cls c = some b ∧
  (b = true → ∀ a, H a = none → ts a cls d (endsH a cls d i D) (σ.set i (some (.ref a))) H) ∧ (b = false → Wout cls d σ H)
section
variable {X : Cx} {x n : Str} {c : Value} {i : Nat} {body suite : List Stmt} {b0 : Stmt} {np pos pos' : Pos} {tb : WX → TS} {ts : Addr → Value → Option Addr → TS} {Wout : WX}
theorem ps_try_hold (hs : X.stack = X.env :: X.outer) (hf : X.env.frame = some X.env.locals) (hex : X.ex = []) (hN : X.N.Nodup) (hi : X.N[i]? = some n) (hln : X.env.kindOf n = some .local) (hc : Names X x c) (tk : Takes X Wout)
    (hb : ∀ (W : WX) (pn : List (Addr × Obj)) (xe : Value → Shared → Prop), Takes (X.tr pn xe) W → PassesOwn (model X.prog X.w) X.A X.env xe → PSs (X.tr pn xe) body (tb W))
    (hsu : ∀ (a : Addr) (oe : Obj) (cls : Value) (d : Option Addr) (pn : List (Addr × Obj)), Zc cls d oe → (∃ vs, oe.data = .fields vs) → PSs (X.suite a ((a, oe) :: pn)) (b0 :: suite) (ts a cls d)) :
    PS X (.Try body [.ExceptHandler (some (.Name x np)) (some n) (b0 :: suite) pos'] [] [] pos) (fun D σ H => tb (wHold X.K c i ts Wout D) D σ H) := by
  refine ⟨fun pins s σ H D I h => ?_⟩
  have oX := I.ok
  have frm : X.A.frames = some (X.env :: X.outer) := hs ▸ oX.frames
  have isL : Loc X.env.scope n := .inl hln
  refine wpAny_Try_except ?_
  let fly : Value → Shared → Prop := fun e s1 =>
    wpAny (model X.prog X.w) X.A (noteFrame e X.env) (fun _ s2 =>
      wpAny (model X.prog X.w) X.A (setFlight e none) (fun _ s3 =>
        wpAny (model X.prog X.w) X.A
          (handleBy e X.env [.ExceptHandler (some (.Name x np)) (some n) (b0 :: suite) pos'])
          (SP X pins D) X.xe s3) X.xe s2) X.xe s1
  have run := (hb (wHold X.K c i ts Wout D) (X.pn ++ pins) fly ?takes PassesOwn.looking).run [] s σ H D (I.toTry _) h
  case takes =>
    rintro u s' ⟨a, B, sI, pins', σ', H', cls, d, rfl, J', nb, up, sky, na, os, ag, b, hb1, hyes, hno⟩
    have J : Inv X pins σ' H' sI := J'.ofTry oX
    have sky2 : Sky B (X.env :: X.outer) a (Zc cls d) X.env.locals s'.heap := hs ▸ sky
    show wpAny (model X.prog X.w) X.A (noteFrame (.ref a) X.env) _ _ _
    refine Sky.land Zc.steady frm hf sky2 fun h3 fl3 up3 => ?_
    have J3 : Inv X pins σ' H' { s' with heap := h3 } := J.landed nb fl3.1 (up.trans up3) os ag
    obtain ⟨o3, v3, e3, z3, d3⟩ := fl3.there
    have notFrame : a ∉ frs (X.env :: X.outer) := fun hm => by
      obtain ⟨_, o', e', hnf⟩ := fl3.2.2.1.mem hm
      rw [e3] at e'
      cases e'
      exact hnf _ d3
    have nL : a ≠ X.env.locals := fun z => notFrame (List.mem_filterMap.mpr ⟨X.env, List.mem_cons_self, z ▸ hf⟩)
    have nF : a ∉ X.fs := fun hm => by
      obtain ⟨en, hen, q⟩ := List.mem_filterMap.mp hm
      exact notFrame (List.mem_filterMap.mpr ⟨en, List.mem_cons_of_mem _ hen, q⟩)
    have freshI : sI.heap.get? a = none := by
      cases q : sI.heap.get? a with
      | none => rfl
      | some o =>
        have z := nb a o q (by rw [hs]; exact notFrame)
        rw [fl3.2.1] at z
        cases z
    have fresh0 : X.s_0.heap.get? a = none := by
      cases q : X.s_0.heap.get? a with
      | none => rfl
      | some o =>
        obtain ⟨o2, q2⟩ := J.base.there a o q (by rw [hex]; exact List.not_mem_nil)
        rw [freshI] at q2
        cases q2
    have pinNe : ∀ p ∈ X.pn ++ pins, p.1 ≠ a := fun p hp z => by
      have q := (J.pin p hp).1
      rw [z, freshI] at q
      cases q
    have S3 := J3.suite e3 d3 na nL nF
    refine wpAny_handleBy_cons (codeAny_handlers_test ?_) (by intro q; cases q)
    have LT : PySem.W.Looks (model X.prog X.w) h3 (typeOf (.ref a)) cls := fun _ _ _ _ k q =>
      wpAny_typeOf_ref (k _ _ e3) (by rw [z3.1]; exact q)
    have LM := PySem.W.exm_one (M := model X.prog X.w) J3.kIn LT hb1
    have named : ∀ {Q : Value → Shared → Prop} {E : Value → Shared → Prop}, Q c { s' with heap := h3 } →
        wpAny (model X.prog X.w) (X.A.mark (some (.ref a))) (eval (.Name x np) X.env) Q E { s' with heap := h3 } := fun {Q E} q => by
      obtain ⟨hg, hdbg, hm | ⟨hm, hv, hnn⟩⟩ := hc
      · exact ld_glob (X := X.suite a ((a, o3) :: (X.pn ++ pins))) S3 hg hm q hdbg
      · exact ld_blt (X := X.suite a ((a, o3) :: (X.pn ++ pins))) S3 hg hm hv q hnn hdbg
    refine named (LM.here ?_)
    cases b with
    | false =>
      show wpAny _ X.A (handleBy (.ref a) X.env []) _ _ _
      refine wpAny_handleBy_nil ?_
      obtain ⟨k1, k2, k3, oz, vz, T, oT, ts', he, hz, hd, h1, hr⟩ := id fl3
      unfold PySem.passOn
      refine wpAny_bind (wpAny_field he hd h1 ?_)
      rw [if_neg (show ¬ ((Value.ref T == Value.none) = true) from by simp)]
      have out : wpAny (model X.prog X.w) X.A (setFlight (.ref a) X.env.frame)
          (fun _ s4 => wpAny (model X.prog X.w) X.A (throw (.ref a) : Sem Flow) (SP X pins D) X.xe s4) X.xe { s' with heap := h3 } := by
        rw [hf]
        refine HandSPX.setFlight_upZ fl3 fun h4 hh4 up4 => wpAny_throw (tk _ _ ?_)
        exact ⟨a, B, sI, pins, σ', H', cls, d, rfl, J, nb, (up.trans up3).trans up4, .inr (.inr (hs ▸ hh4)), na, os, ag, hno rfl⟩
      first
        | exact wpAny_bind (wpAny_pure (wpAny_bind out))
        | exact wpAny_bind out
    | true =>
      refine codeAny_handlers_suite_as ?_
      refine HandSPX.lands_againZ fl3 fun h4 fl4 up4 => ?_
      have J4 : Inv X pins σ' H' { s' with heap := h4 } := J.landed nb fl4.1 ((up.trans up3).trans up4) os ag
      obtain ⟨o4, v4, e4, z4, d4⟩ := fl4.there
      have S4 := J4.suite e4 d4 na nL nF
      refine store_ok (X := X.suite a ((a, o4) :: (X.pn ++ pins))) (v := .ref a) S4 hN hi isL rfl (fun s5 S5 => ?_) (.inr hln)
      have goes := (hsu a o4 cls d (X.pn ++ pins) z4 ⟨_, d4⟩).run [] s5 _ H' _ S5 (hyes rfl a na)
      refine wpAny_mono goes (fun f s6 hsp => ?_) (fun _ _ z => False.elim z)
      have fin : ∀ {σ6 : L2.St} {H6 : Hp} {Q : Shared → Prop}, Inv (X.suite a ((a, o4) :: (X.pn ++ pins))) [] σ6 H6 s6 → (∀ s7, Inv X pins (σ6.set i none) (held H6 a cls d) s7 → Q s7) →
          wpAny (model X.prog X.w) X.A (do bindName X.env n .none; unbindBehindTheSuite X.env n pos') (fun _ s7 => Q s7) X.xe s6 := fun {σ6 H6 Q} S6 hq => by
        have J6 : Inv X ((a, o4) :: pins) σ6 H6 s6 := ⟨oX, S6.os, S6.bare, S6.base, S6.loc, S6.cell, S6.free, S6.freeC, fun p hp => S6.pin p (by
          rcases List.mem_append.mp hp with z | z
          · exact List.mem_append_left _ (List.mem_cons_of_mem _ (List.mem_append_left _ z))
          · rcases List.mem_cons.mp z with z | z
            · exact List.mem_append_left _ (z ▸ List.mem_cons_self)
            · exact List.mem_append_left _ (List.mem_cons_of_mem _ (List.mem_append_right _ z))), S6.hok, S6.len⟩
        refine gone_ok J6 hN hi hln fun s7 J7 => hq s7 ?_
        have J8 : Inv X pins (σ6.set i none) H6 s7 := ⟨J7.ok, J7.os, J7.bare, J7.base, J7.loc, J7.cell, J7.free, J7.freeC, fun p hp => J7.pin p (by
          rcases List.mem_append.mp hp with z | z
          · exact List.mem_append_left _ z
          · exact List.mem_append_right _ (List.mem_cons_of_mem _ z)), J7.hok, J7.len⟩
        obtain ⟨g7, n7, _⟩ := J7.pin (a, o4) (List.mem_append_right _ List.mem_cons_self)
        unfold held
        split
        · rename_i C
          exact hold_exc J8 fresh0 n7 pinNe g7 d4 z4.1 z4.2
        · exact J8
      match f, hsp with
      | .next, ⟨σ6, H6, S6, q6⟩ => exact fin S6 fun s7 J7 => ⟨_, _, J7, q6⟩
      | .brk, ⟨σ6, H6, S6, q6⟩ => exact fin S6 fun s7 J7 => ⟨_, _, J7, q6⟩
      | .cont, ⟨σ6, H6, S6, q6⟩ => exact fin S6 fun s7 J7 => ⟨_, _, J7, q6⟩
      | .ret u, ⟨v6, σ6, H6, S6, r6, q6⟩ => exact fin S6 fun s7 J7 => ⟨_, _, _, J7, r6, q6⟩
  refine wpAny_mono run (fun f s1 hsp => ?_) (fun e s1 he => he)
  match f, hsp with
  | .next, ⟨σ1, H1, J1, q⟩ => exact wpAny_execs_nil ⟨σ1, H1, J1.ofTry oX, q⟩
  | .brk, ⟨σ1, H1, J1, q⟩ => exact ⟨σ1, H1, J1.ofTry oX, q⟩
  | .cont, ⟨σ1, H1, J1, q⟩ => exact ⟨σ1, H1, J1.ofTry oX, q⟩
  | .ret u, ⟨v, σ1, H1, J1, r, q⟩ => exact ⟨v, σ1, H1, J1.ofTry oX, r, q⟩
end
end Vf
namespace Vf
open PySem PySem.Spec PyProof.Rows L2
theorem pe_weak {X : Cx} {e : Expr} {t u : TE} (h : PE X e t) (w : ∀ σ H Q, u σ H Q → t σ H Q) : PE X e u := ⟨fun pins s σ H Q I z => h.run pins s σ H Q I (w σ H Q z)⟩
/-- keywords behind n values, no defaults -/
theorem kbn_at {K : PySem.W.Frag} {x qual : Str} {params : Arguments} {body : List Stmt} {scope : Scope} {f : Addr} {fd : FuncData} {ps : List Str} {g : List Value → List Value → List Value} {gV : List V → List V → List V} (F : FunD K x qual params body scope [] [] f fd) (n : Nat) (ks : List Str)
    (h : ∀ (kV doc pm : Value) (an : Option Addr) (cdv ct : Value) (us ws : List Value), us.length = n → ws.length = ks.length → bindArgs (PySem.W.fnOf x qual params body scope .none kV doc pm an cdv ct) ⟨us, ks.zip ws⟩ = pure (ps.zip (g us ws)))
    (rel : ∀ {vs : List V} {us : List Value} {zs : List V} {ws : List Value}, Vals vs us → Vals zs ws → Vals (gV vs zs) (g us ws)) : KBn K fd ps n ks g gV := by
  obtain ⟨oc, od, dV, kV, doc, pm, an, cdv, ct, osl, rfl, lk, hcd, hD, hK⟩ := F.ex
  rcases hD with ⟨_, rfl⟩ | ⟨e, _⟩
  · exact ⟨fun s us ws _ l1 l2 => .of_eq (h kV doc pm an cdv ct us ws l1 l2), rel⟩
  · exact absurd rfl e
def gkA {α : Type} : List α → List α → List α := fun us ws => us ++ ws
def gkS {α : Type} : List α → List α → List α := fun us ws => us ++ ws.reverse
theorem gkA_rel {vs zs : List V} {us ws : List Value} (h1 : Vals vs us) (h2 : Vals zs ws) : Vals (gkA vs zs) (gkA us ws) := h1.append h2
theorem vals_rev : ∀ {zs : List V} {ws : List Value}, Vals zs ws → Vals zs.reverse ws.reverse
  | _, _, .nil => .nil
  | _, _, .cons r t => by
    rw [List.reverse_cons, List.reverse_cons]
    exact (vals_rev t).append (.cons r .nil)
theorem gkS_rel {vs zs : List V} {us ws : List Value} (h1 : Vals vs us) (h2 : Vals zs ws) : Vals (gkS vs zs) (gkS us ws) := h1.append (vals_rev h2)
section
variable {X : Cx} {e e1 e2 : Expr} {te t1 t2 : TE} {p pos kp1 kp2 : Pos} {CX : CXT} {x f g n1 n2 : Str} {C fI : Addr} {k : Nat} {fd : FuncData} {ps : List Str}
theorem do1 {K : PySem.W.Frag} {H : Hp} {v : V} {Q : VK} (T : OexC K C) (no : PySem.W.findIn K (.ref C) f = some none) (q : ∀ a H2, Same H H2 → ExcAt H2 a C (some [(f, v)]) → Q (.ref a) H2) (a : Addr) (na : H a = none) :
    spI1 K f [.ref a, v] (upd H a (exo a C none)) (fun w H2 => w = .non ∧ Q (.ref a) H2) (fun _ _ _ => False) := by
  refine ⟨a, C, v, rfl, T, no, upd_same, fun dx nd ne => ⟨rfl, ?_⟩⟩
  have nd' : H dx = none := by
    rw [upd_ne ne] at nd
    exact nd
  refine q a _ (fun b o h => ?_) (.made dx _ upd_same (by rw [upd_ne ne, upd_same]))
  have b1 := ne_of_none h na
  rw [upd_ne b1, upd_ne (ne_of_none h nd'), upd_ne b1]
  exact h
theorem do2 {K : PySem.W.Frag} {H : Hp} {v u : V} {Q : VK} (T : OexC K C) (no : PySem.W.findIn K (.ref C) f = some none) (no2 : PySem.W.findIn K (.ref C) g = some none) (q : ∀ a H2, Same H H2 → ExcAt H2 a C (some [(g, u), (f, v)]) → Q (.ref a) H2) (a : Addr) (na : H a = none) :
    spI2 K f g [.ref a, v, u] (upd H a (exo a C none)) (fun w H2 => w = .non ∧ Q (.ref a) H2) (fun _ _ _ => False) := by
  refine ⟨a, C, v, u, rfl, T, no, no2, upd_same, fun dx nd ne => ⟨rfl, ?_⟩⟩
  have nd' : H dx = none := by
    rw [upd_ne ne] at nd
    exact nd
  refine q a _ (fun b o h => ?_) (.made dx _ (by rw [upd_ne ne.symm, upd_same]) upd_same)
  have b1 := ne_of_none h na
  have b2 := ne_of_none h nd'
  rw [upd_ne b2, upd_ne b1, upd_ne b2, upd_ne b1]
  exact h
end
end Vf
namespace Vf
open PySem PySem.Spec PyProof.Rows L2
/-! ### a comprehension whose element may raise -/
theorem note_same {x : Value} {e1 e2 : Env} (h : e1.frame = e2.frame) : noteFrame x e1 = noteFrame x e2 := by
  unfold noteFrame PySem.frameOf
  simp only [h]
/-- behind the block: what a comprehension asks where nothing is raised, or what flies on from the block's own frame -/
def postX (M : Model) (A : Around) (E : Value → Shared → Prop) (use : Option (Value → Sem Unit)) (Q : Value → Shared → Prop) (acc : Value) (ce : Env) (r : Result) (t : Shared) : Prop :=
  match r with
  | .ok f => compPost M A E use Q acc ce.locals (.ok f) t
  | .error x => ∃ m, t.heap.Ns ce.locals m ∧ ∀ g, Heap.SameBut ce.locals t.heap g → wpAny M A (passOn "comprehension.variables-let-go" x ce : Sem Value) (fun _ _ => False) E { t with heap := g }
section
variable {M : Model} {A : Around} {E : Value → Shared → Prop} {s : Shared} {env : Env}
theorem comp_raising {e : Expr} {scope : Scope} {pos : Pos} {mk first : Sem Value} {c0 : Comprehension} {cs : List Comprehension} {clo : List (Str × Addr)} {use : Option (Value → Sem Unit)} {Q : Value → Shared → Prop}
    (h1 : clausesOf e = c0 :: cs) (h2 : ∀ x, foldedSetIterable c0.iter env x = pure x) (h3 : closureFor scope env = pure clo) (h4 : scope.kind = .function) (h5 : ∀ y ∈ scope.names, y.2 = .local → scope.names.lookup y.1 = some .local)
    (h : wpAny M A first (fun x t1 => wpAny M A (pyIter x) (fun i t2 => wpAny M A mk (fun acc t3 => wpAny M A (newFunctionEnv scope env.globals clo [] env.qual none .none (some env)) (fun ce t4 =>
      codeAny M A (.compStart e 0 i acc { ce with scope := relabel scope env }) (postX M A E use Q acc { ce with scope := relabel scope env }) t4) E t3) E t2) E t1) E s) : wpAny M A (comprehension e scope env pos mk false first use) Q E s := by
  unfold comprehension
  rw [h3, h1]
  refine wpAny_bind (wpAny_mono h (fun x t1 k1 => ?_) fun _ _ z => z)
  refine wpAny_bind (wpAny_standAt (wpAny_bind (wpAny_of_eq (h2 x) (wpAny_bind (wpAny_holding (wpAny_mono k1 (fun i t2 k2 => ?_) fun _ _ z => z))))))
  refine wpAny_standIf (wpAny_bind (wpAny_mono k2 (fun acc t3 k3 => ?_) fun _ _ z => z))
  refine wpAny_bind (wpAny_pure (wpAny_bind (wpAny_mono k3 (fun ce t4 k4 => ?_) fun _ _ z => z)))
  dsimp only
  have names : ∀ y ∈ (scope.names.filter fun y => (y.2 == .local || y.2 == .cell) && y.1 != (".0" : Str)).reverse, y.2 = .local → Env.kindOf { ce with scope := relabel scope env } y.1 = some .local := fun y hy hl =>
    lookup_relabel_local (h5 y (List.mem_filter.mp (List.mem_reverse.mp hy)).1 hl)
  refine wpAny_holding (wpAny_bind (wpAny_attempt (wpAny_holding (wpAny_run (codeAny_mono k4 fun r t hr => ?_)))))
  have later : ∀ y ∈ (scope.names.filter fun y => (y.2 == .local || y.2 == .cell) && y.1 != (".0" : Str)).reverse.drop 1 ++ (scope.names.filter fun y => (y.2 == .local || y.2 == .cell) && y.1 != (".0" : Str)).reverse.take 1,
      y.2 = .local → Env.kindOf { ce with scope := relabel scope env } y.1 = some .local := fun y hy hl => names y ((List.mem_append.mp hy).elim List.mem_of_mem_drop List.mem_of_mem_take) hl
  match r, use, hr with
  | .ok f, none, ⟨m, hn, go⟩ => exact wpAny_bind (wpAny_holding (wpAny_comp_letGo (cenv := { ce with scope := relabel scope env }) h4 _ t m names hn fun g _ _ sb => wpAny_pure (go g sb)))
  | .ok f, some u, hr =>
    refine wpAny_bind (wpAny_rule (wpAny_bind (wpAny_holding (wpAny_mono hr (fun _ t2 ⟨m, hn, go⟩ => ?_) fun _ _ z => z))))
    exact wpAny_bind (wpAny_comp_letGo (cenv := { ce with scope := relabel scope env }) h4 _ t2 m later hn fun g _ _ sb => wpAny_pure (go g sb))
  | .error x, none, ⟨m, hn, go⟩ => exact wpAny_bind (wpAny_holding (wpAny_comp_letGo (cenv := { ce with scope := relabel scope env }) h4 _ t m names hn fun g _ _ sb => wpAny_mono (go g sb) (fun _ _ z => z.elim) fun _ _ z => z))
  | .error x, some u, ⟨m, hn, go⟩ => exact wpAny_bind (wpAny_holding (wpAny_comp_letGo (cenv := { ce with scope := relabel scope env }) h4 _ t m names hn fun g _ _ sb => wpAny_mono (go g sb) (fun _ _ z => z.elim) fun _ _ z => z))
end
/-- the block's context, with its own wish about what is raised -/
abbrev blkX (X : Cx) (s : Shared) (H : Hp) (scope : Scope) (ce : Env) (fp : List Addr) (xe : Value → Shared → Prop) : Cx := { X.blk s H scope ce fp with xe := xe }
section
variable {X : Cx} {s0 : Shared} {H0 : Hp} {scope : Scope} {ce : Env} {fp : List Addr} {xe : Value → Shared → Prop} {pins : List (Addr × Obj)} {σ : L2.St} {H : Hp} {s : Shared}
theorem blk_to (I : Inv (X.blk s0 H0 scope ce fp) pins σ H s) : Inv (blkX X s0 H0 scope ce fp xe) pins σ H s :=
  ⟨⟨I.ok.mod, I.ok.kind, I.ok.glob, I.ok.blt, I.ok.above, I.ok.inj, I.ok.has, I.ok.cab, I.ok.hd, I.ok.frames, I.ok.stk, I.ok.exf, I.ok.bs, I.ok.bsz, I.ok.noex, I.ok.exfs, I.ok.funs, I.ok.frf⟩, I.os, I.bare, I.base, I.loc, I.cell, I.free, I.freeC, I.pin, I.hok, I.len⟩
theorem frames_but {B B' h h' : Heap} {C : Addr} (sb : Heap.SameBut C h h') (nb : ∀ b, B.get? b = none → B'.get? b = none) : ∀ {l : List Env}, h.FunFrames B l → C ∉ frs l → h'.FunFrames B' l
  | [], _, _ => trivial
  | env :: l, ⟨hk, ⟨L, o, hf, hn, ho, hd⟩, hr⟩, hC => by
    have nL : L ≠ C := fun e => hC (List.mem_filterMap.mpr ⟨env, List.mem_cons_self, e ▸ hf⟩)
    refine ⟨hk, ⟨L, o, hf, nb L hn, (sb.2 L nL).trans ho, hd⟩, frames_but sb nb hr fun hm => hC ?_⟩
    obtain ⟨e, he, q⟩ := List.mem_filterMap.mp hm
    exact List.mem_filterMap.mpr ⟨e, List.mem_cons_of_mem _ he, q⟩
end
section
variable {X : Cx} {E : XK}
/-- what the element's callee lets out flies on from the def -/
theorem passes_blk {s3 : Shared} {H3 : Hp} {scope : Scope} {ce : Env} {fp : List Addr} {pins : List (Addr × Obj)} {σ : L2.St} {use : Option (Value → Sem Unit)} {Q : Value → Shared → Prop} {acc : Value} (hs : X.stack = X.env :: X.outer) (hf : X.env.frame = some X.env.locals) (tk : Takes X fun cls d _ H => E cls d H)
    (I3 : Inv X pins σ H3 s3) (f3 : ∀ b ∈ fp, FpOk X pins H3 b) (cF : ce.frame = X.env.frame) (cL : ce.locals = s3.heap.objs.size) :
    Passes (L2.CX X.prog X.w) (blkX X s3 H3 scope ce fp (notedBy (model X.prog X.w) X.A ce fun e t => postX (model X.prog X.w) X.A X.xe use Q acc ce (.error e) t)) E := by
  intro pins' σ' H' s5 u s' I c
  obtain ⟨a0, B0, _, _, _, e0, fl0, _⟩ := id c
  subst e0
  obtain ⟨_, _, _, oe, vs, T, oT, ts, he, hz0, hd, h1, _, hTe, hT, hdT, h3⟩ := fl0
  obtain ⟨a, B, sI, pins2, σ2, H2, cls, d, e1, I2, nb, up, sky, na, os, ag, hE⟩ := L2.XE.of_call (W := fun cls d _ H => E cls d H) I (fun _ _ _ z => z) c
  cases e1
  have fl : HandSPX.FlyingZ B (X.env :: X.outer) a0 (Zc cls d) s'.heap := by
    have sky' : Sky B (X.env :: X.outer) a0 (Zc cls d) ce.locals s'.heap := hs ▸ sky
    rcases sky' with ⟨_, _, _, oe', vs', he', _, hd', h1'⟩ | z | ⟨_, _, _, oe', vs', T', oT', ts', he', _, hd', h1', _, _, hT', hdT', h3'⟩
    · rw [he] at he'
      cases he'
      rw [hd] at hd'
      cases hd'
      rw [h1] at h1'
      cases h1'
    · exact z
    · rw [he] at he'
      cases he'
      rw [hd] at hd'
      cases hd'
      rw [h1] at h1'
      cases h1'
      rw [hT] at hT'
      cases hT'
      rw [hdT] at hdT'
      cases hdT'
      rw [h3] at h3'
      cases h3'
  have frm : X.A.frames = some (X.env :: X.outer) := hs ▸ I3.ok.frames
  show wpAny (model X.prog X.w) X.A (noteFrame (.ref a0) ce) _ _ s'
  rw [note_same cF]
  refine HandSPX.looks_onZ Zc.steady frm hf fl fun g hh up1 => ?_
  -- the block's own names
  obtain ⟨m, hn, _⟩ := I2.loc
  have hn1 : g.Ns ce.locals m := up1.ns (up.ns hn)
  refine ⟨m, hn1, fun g2 sb => ?_⟩
  have dC : ∀ {b : Addr} {o : Obj} {vs : Array Value}, g.get? b = some o → o.data = .fields vs → b ≠ ce.locals := fun {b o vs} e1 e2 z => by
    obtain ⟨o', _, _, e3, e4, _⟩ := hn1
    rw [← z, e1] at e3
    cases e3
    rw [e2] at e4
    cases e4
  obtain ⟨k1, k2, k3, pe, pv, pT, poT, pts, phe, phz, phd, ph1, phn, phTe, phT, phdT, ph3⟩ := hh
  have na0 : a0 ≠ ce.locals := dC phe phd
  have nT : pT ≠ ce.locals := dC phT phdT
  have nC : ce.locals ∉ frs (X.env :: X.outer) := fun hm => by
    obtain ⟨_, o, e, _⟩ := I3.stack.mem (hs ▸ hm)
    have q := Heap.lt_size e
    rw [cL] at q
    exact absurd q (Nat.lt_irrefl _)
  -- the ground without the block
  have hid : ∀ {h : Heap} {b : Addr} {o : Obj}, (PySem.W.hideAll h [ce.locals]).get? b = some o → b ≠ ce.locals ∧ h.get? b = some o := fun {h b o} e => by
    refine ⟨fun z => ?_, PySem.W.of_hideAll _ e⟩
    have q := PySem.W.hideAll_none [ce.locals] (h := h) (b := b) (List.mem_singleton.mpr z)
    rw [q] at e
    cases e
  have st2 : (PySem.W.hideAll B [ce.locals]).StaysIn g2 := fun b o e => (sb.2 b (hid e).1).trans (k1 b o (hid e).2)
  have nB : ∀ b, B.get? b = none → (PySem.W.hideAll B [ce.locals]).get? b = none := fun b e => by
    cases q : (PySem.W.hideAll B [ce.locals]).get? b with
    | none => rfl
    | some o =>
      have z := (hid q).2
      rw [e] at z
      cases z
  have fr2 : g2.FunFrames (PySem.W.hideAll B [ce.locals]) (X.env :: X.outer) := frames_but sb nB k3 nC
  have tr2 : HandSPX.TracedZ g2 (PySem.W.hideAll B [ce.locals]) a0 (Zc cls d) (rawInt X.env.locals) := ⟨pe, pv, pT, poT, pts, (sb.2 _ na0).trans phe, phz, phd, ph1, nB _ phn, phTe, (sb.2 _ nT).trans phT, phdT, ph3⟩
  -- the state without the exception and the block
  have J0 : Inv X pins σ H2 sI := I3.call' (ch := fp) I2.os I2.base I2.hok I2.bare fun b hb => ⟨(f3 b hb).2.2.2.1, (f3 b hb).2.1, (f3 b hb).2.2.2.2.1, (f3 b hb).2.2.2.2.2⟩
  have nH : H2 s3.heap.objs.size = none := by
    have z : H2 ce.locals = none := I2.free
    rw [cL] at z
    exact z
  obtain ⟨f0, f1, _, f4, f5, f6⟩ := I3.fpOk (H' := H2) (Nat.le_refl _) nH
  have J : Inv X pins σ H2 { sI with heap := PySem.W.hideAll sI.heap [ce.locals] } := J0.turned (t' := sI.toks) (fun b o hb e => PySem.W.hideAll_get _ e fun z => hb (by rw [List.mem_singleton.mp z, cL])) f0 f1 f4 f5 f6
  show wpAny _ _ (passOn "comprehension.variables-let-go" (.ref a0) ce : Sem Value) _ _ _
  unfold PySem.passOn
  refine wpAny_bind (wpAny_field ((sb.2 _ na0).trans phe) phd ph1 ?_)
  rw [if_neg (show ¬ ((Value.ref pT == Value.none) = true) from by simp)]
  have out : wpAny (model X.prog X.w) X.A (setFlight (.ref a0) ce.frame) (fun _ t => wpAny (model X.prog X.w) X.A (throw (.ref a0) : Sem Value) (fun _ _ => False) X.xe t) X.xe { s' with heap := g2 } := by
    rw [cF, hf]
    refine HandSPX.setFlight_anyZ (fr := some X.env.locals) st2 fr2 tr2 fun g3 q1 q2 q3 up3 => wpAny_throw (tk _ _ ?_)
    refine ⟨a0, PySem.W.hideAll B [ce.locals], _, pins, σ, H2, cls, d, rfl, J, fun b o e hb => ?_, fun b o e hd => ?_, .inr (.inr ⟨q1, nB _ k2, hs ▸ q2, q3⟩), na, os, ag, hE⟩
    · exact PySem.W.hideAll_get _ (nb b o (hid e).2 hb) fun z => (hid e).1 (List.mem_singleton.mp z)
    · obtain ⟨x1, e1⟩ := up b o (hid e).2 hd
      obtain ⟨x2, e2⟩ := up1 b _ e1 hd
      exact up3 b { o with slots := x2 } ((sb.2 b (hid e).1).trans e2) hd
  first
    | exact wpAny_bind (wpAny_pure (wpAny_bind out))
    | exact wpAny_bind out
end
end Vf
namespace Vf
open PySem PySem.Spec PyProof.Rows L2
section
variable {X : Cx} {E : XK}
theorem lcR_core {pins : List (Addr × Obj)} {s : Shared} {σ : L2.St} {H : Hp} {Q : VK} {elt tg iter : Expr} {ifs : List Expr} {scope : Scope} {own : List (Str × Nat)} {pos pos' : Pos} {wi : TI} {g : TG} {tt : TT} {te : TE} {use : Option (Value → Sem Unit)} {Qf : Value → Shared → Prop} (hs : X.stack = X.env :: X.outer) (hf : X.env.frame = some X.env.locals) (tk : Takes X fun cls d _ H => E cls d H)
    (hc : X.calm = true) (hN : X.N.Nodup) (hi : PI X tg iter wi) (ok : BlkOk X.N X.env.scope scope own)
    (hg : ∀ (s : Shared) (H : Hp) (C : Addr) (cl : List (Str × Addr)) (fp : List Addr) (xe : Value → Shared → Prop), PG (blkX X s H scope (compEnvC scope cl C X.env) fp xe) tg g)
    (ht : ∀ (s : Shared) (H : Hp) (C : Addr) (cl : List (Str × Addr)) (fp : List Addr) (xe : Value → Shared → Prop), PTs (blkX X s H scope (compEnvC scope cl C X.env) fp xe) ifs tt)
    (he : ∀ (s : Shared) (H : Hp) (C : Addr) (cl : List (Str × Addr)) (fp : List Addr) (xe : Value → Shared → Prop), Passes (L2.CX X.prog X.w) (blkX X s H scope (compEnvC scope cl C X.env) fp xe) E → PE (blkX X s H scope (compEnvC scope cl C X.env) fp xe) elt te)
    (hsx : ∀ x, foldedSetIterable iter X.env x = pure x) (I : Inv X pins σ H s) (h : tLc wi g tt te (own.map (·.2)) σ H Q)
    (done : ∀ D C t m H', Inv X pins σ H' t → Q (.ref D) H' → t.heap.Ns C m → FpOk X pins H' C → compPost (model X.prog X.w) X.A X.xe use Qf (.ref D) C (.ok .next) t) :
    wpAny (model X.prog X.w) X.A (comprehension (.ListComp elt [⟨tg, iter, ifs, 0⟩] scope pos) scope X.env pos' (newList []) false (eval iter X.env) use) Qf X.xe s := by
  have clos : ∀ y ∈ scope.names, y.2 = .free → ∃ c, X.env.cells.lookup y.1 = some c := fun y hy e => by
    rcases ok.free y hy e with k | k
    · exact I.ok.has _ (Or.inl k)
    · exact I.ok.has _ (Or.inr k)
  refine comp_raising rfl hsx (closure_ok clos) ok.kind (fun y hy e => (ok.uniq y hy).trans (congrArg some e)) (thn (hi.run pins s σ H _ I h) fun _ t1 w1 => thn w1 fun _ t2 w2 => ?_)
  obtain ⟨it, fp, tn, J, H2, rfl, I2, T, st2, f2, q⟩ := w2
  refine wpAny_newObj_type (newEnv_comp ?_) (show 0 ≤ sizeLine from Nat.zero_le _)
  obtain ⟨D, hD⟩ : ∃ D, t2.heap.objs.size = D := ⟨_, rfl⟩
  rw [hD]
  obtain ⟨W, ⟨m0, w0⟩, turn⟩ := q D (I2.hok.fresh (Nat.le_of_eq hD))
  obtain ⟨t3, ht3⟩ : ∃ t3 : Shared, { t2 with heap := t2.heap.push { cls := .type "list", data := .seq ([] : List Value).toArray } } = t3 := ⟨_, rfl⟩
  have e3 : t3.heap = t2.heap.push { cls := .type "list", data := .seq ([] : List Value).toArray } := by rw [← ht3]
  have I3 : Inv X pins σ (upd H2 D (.lst [])) t3 := by
    rw [← ht3, ← hD]
    exact I2.laid (t' := t2.toks) (fun b o e => Heap.get?_push_of_some _ e) (Nat.le_refl _) ⟨Nat.zero_le _, [], 0, .nil, Heap.get?_push_size _ rfl⟩
  have lts : ∀ b ∈ fp, b < t2.heap.objs.size := fun b hb => let ⟨o, e, _⟩ := T.obj _ _ st2 b hb; Heap.lt_size e
  have f3 : ∀ b ∈ fp, FpOk X pins (upd H2 D (.lst [])) b ∧ b < t3.heap.objs.size := fun b hb => by
    have l := lts b hb
    have nD : b ≠ D := fun z => by
      rw [hD, z] at l
      exact absurd l (Nat.lt_irrefl _)
    refine ⟨⟨(upd_ne nD).trans (f2 b hb).1, (f2 b hb).2⟩, ?_⟩
    rw [e3, Heap.size_push]
    exact Nat.lt_succ_of_lt l
  have st3 : tn 0 t3.heap := T.keep _ _ _ st2 fun b _ o e => by
    rw [e3]
    exact Heap.get?_push_of_some _ e
  have I4 := block_start I3 ok hN f3
  have nfp : ∀ b ∈ fp, (upd H2 D (.lst [])) b = none := fun b hb => (f3 b hb).1.1
  rw [ht3]
  show codeAny _ _ (.compStart (.ListComp elt [⟨tg, iter, ifs, 0⟩] scope pos) 0 (.ref it) (.ref D) (compEnvC scope (cellsFrom (t3.heap.objs.size + 1) scope.names (cloFrom X.env.cells scope.names [])) t3.heap.objs.size X.env))
    (postX (model X.prog X.w) X.A X.xe use Qf (.ref D) (compEnvC scope (cellsFrom (t3.heap.objs.size + 1) scope.names (cloFrom X.env.cells scope.names [])) t3.heap.objs.size X.env)) { t3 with heap := pushCells (t3.heap.push { cls := .type "dict", data := .dict #[] }) scope.names }
  have eg := fun xe => hg t3 (upd H2 D (.lst [])) t3.heap.objs.size (cellsFrom (t3.heap.objs.size + 1) scope.names (cloFrom X.env.cells scope.names [])) fp xe
  have et := fun xe => ht t3 (upd H2 D (.lst [])) t3.heap.objs.size (cellsFrom (t3.heap.objs.size + 1) scope.names (cloFrom X.env.cells scope.names [])) fp xe
  have ee := fun xe => he t3 (upd H2 D (.lst [])) t3.heap.objs.size (cellsFrom (t3.heap.objs.size + 1) scope.names (cloFrom X.env.cells scope.names [])) fp xe
  have cF : (compEnvC scope (cellsFrom (t3.heap.objs.size + 1) scope.names (cloFrom X.env.cells scope.names [])) t3.heap.objs.size X.env).frame = X.env.frame := rfl
  have cL : (compEnvC scope (cellsFrom (t3.heap.objs.size + 1) scope.names (cloFrom X.env.cells scope.names [])) t3.heap.objs.size X.env).locals = t3.heap.objs.size := rfl
  generalize compEnvC scope (cellsFrom (t3.heap.objs.size + 1) scope.names (cloFrom X.env.cells scope.names [])) t3.heap.objs.size X.env = ce at I4 eg et ee cF cL ⊢
  generalize upd H2 D (.lst []) = H3 at I3 I4 eg et ee w0 nfp f3
  obtain ⟨t4, ht4⟩ : ∃ t4 : Shared, { t3 with heap := pushCells (t3.heap.push { cls := .type "dict", data := .dict #[] }) scope.names } = t4 := ⟨_, rfl⟩
  rw [ht4] at I4 ⊢
  have st4 : tn 0 t4.heap := T.keep _ _ _ st3 fun b _ o e => by
    rw [← ht4]
    exact pushCells_keeps _ _ _ _ (Heap.get?_push_of_some _ e)
  have ps := passes_blk (scope := scope) (use := use) (Q := Qf) (acc := .ref D) hs hf tk I3 (fun b hb => (f3 b hb).1) cF cL
  revert ps
  generalize hxe : (notedBy (model X.prog X.w) X.A ce fun e t => postX (model X.prog X.w) X.A X.xe use Qf (.ref D) ce (.error e) t) = xe
  intro ps
  have pg := eg xe
  have pt := et xe
  have pe := ee xe ps
  have stat : ∀ {σ' : L2.St} {H' : Hp} {s' : Shared}, Inv (blkX X t3 H3 scope ce fp xe) [] σ' H' s' → (∀ b ∈ fp, H' b = none) → ∀ b ∈ fp, FpOk (blkX X t3 H3 scope ce fp xe) [] H' b := fun {σ' H' s'} I' hn b hb =>
    ⟨hn b hb, (I'.ok.exf b hb).1, I'.ok.exfs b hb, Or.inl hb, fun x c e => (I'.ok.exf b hb).2 x c e, fun p hp => absurd (show p ∈ ([] : List (Addr × Obj)) ++ [] from hp) (by simp)⟩
  have loop : codeAny (model X.prog X.w) X.A (.compLoop (.ListComp elt [⟨tg, iter, ifs, 0⟩] scope pos) 0 (.ref it) (.ref D) ce) (postX (model X.prog X.w) X.A X.xe use Qf (.ref D) ce) t4 := by
    refine compLoop_any (fun n t => ∃ i H', Inv (blkX X t3 H3 scope ce fp xe) [] (wipe σ (own.map (·.2))) H' t ∧ tn i t.heap ∧ (∀ b ∈ fp, H' b = none) ∧ W i n H') ?_ m0 ⟨0, H3, blk_to I4, st4, nfp, w0⟩
    rintro n t5 ⟨i, H5, I5, st5, n5, w5⟩
    rw [hxe]
    rcases turn i n H5 w5 with ⟨stop, qq⟩ | ⟨go, Nx, hNx, step⟩
    · refine thnF (T.done (blkX X t3 H3 scope ce fp xe) rfl rfl rfl hc i [] t5 _ H5 (fun _ _ => False) I5 (stat I5 n5) st5 stop) fun r t6 ⟨hr, I6⟩ => ?_
      subst hr
      have I7 : Inv X pins σ H5 t6 := I3.call' (ch := fp) I6.os I6.base I6.hok I6.bare fun b hb => ⟨(f3 b hb).1.2.2.2.1, (f3 b hb).1.2.1, (f3 b hb).1.2.2.2.2.1, (f3 b hb).1.2.2.2.2.2⟩
      have nC : H5 t3.heap.objs.size = none := by
        have z : H5 ce.locals = none := I6.free
        rw [cL] at z
        exact z
      obtain ⟨m, hn, _⟩ := I6.loc
      have hn' : t6.heap.Ns t3.heap.objs.size m := cL ▸ hn
      show compPost _ _ _ _ _ _ ce.locals _ _
      rw [cL]
      exact done D _ t6 m H5 I7 qq hn' (I3.fpOk (Nat.le_refl _) nC)
    · refine thnF (T.item (blkX X t3 H3 scope ce fp xe) rfl rfl rfl hc i [] t5 _ H5 (fun _ _ => False) I5 (stat I5 n5) st5 go) fun r t6 ⟨u, hr, w6⟩ => ?_
      subst hr
      refine thnF w6 fun _ t7 ⟨x, H7, I7, r7, y7, st7, n7⟩ => ?_
      refine thn (pg.run _ t7 _ H7 x u _ (I7.pinned (stat I7 n7) (T.obj _ _ st7)) r7 (step x H7 y7)) fun _ t8 ⟨σ8, H8, I8, w8, q8⟩ => ?_
      refine thn (pt.run _ t8 σ8 H8 _ I8 q8) fun b t9 ⟨H9, I9, q9⟩ => ?_
      have again : ∀ {t : Shared} {H' : Hp}, Inv (blkX X t3 H3 scope ce fp xe) ([] ++ pinsAt fp t7.heap) σ8 H' t → Nx H' → ∃ m, m < n ∧ ∃ i H', Inv (blkX X t3 H3 scope ce fp xe) [] (wipe σ (own.map (·.2))) H' t ∧ tn i t.heap ∧ (∀ b ∈ fp, H' b = none) ∧ W i m H' := fun {t H'} I' nx => by
        obtain ⟨m', lm, w'⟩ := hNx H' nx
        have pinned : ∀ b ∈ fp, ∀ o, t7.heap.get? b = some o → t.heap.get? b = some o ∧ H' b = none := fun b hb o e => by
          have z := I'.pin (b, o) (List.mem_append_right _ (List.mem_append_right _ (mem_pinsAt hb e)))
          exact ⟨z.1, z.2.1⟩
        have same : (wipe σ (own.map (·.2))).length = σ8.length := by rw [← w8, wipe_length]
        refine ⟨m', lm, i + 1, H', (I'.unpinned (pins := [])).weak same (fun j v e => (wipe_some (by rw [w8]; exact e)).1), T.keep _ _ _ st7 fun b hb o e => (pinned b hb o e).1, fun b hb => ?_, w'⟩
        obtain ⟨o, e, _⟩ := T.obj _ _ st7 b hb
        exact (pinned b hb o e).2
      cases b with
      | false =>
        simp only [Bool.false_eq_true, if_false] at q9 ⊢
        exact again I9 q9
      | true =>
        simp only [if_true] at q9 ⊢
        refine thn (pe.run _ t9 σ8 H9 _ I9 q9) fun z t10 ⟨y, H10, I10, r10, acc, hacc, lacc, nx⟩ => ?_
        exact app_ok (X := blkX X t3 H3 scope ce fp xe) I10 hacc lacc r10 fun t11 I11 => again I11 nx
  exact codeAny_compStart_list loop (T.self X.A 0 _ _ _ st4 loop)
/-- [elt for target in iter if ..] in a def that may raise; the element's callee lets out E -/
theorem pe_lcR {elt tg iter : Expr} {ifs : List Expr} {scope : Scope} {own : List (Str × Nat)} {pos : Pos} {wi : TI} {g : TG} {tt : TT} {te : TE} (hs : X.stack = X.env :: X.outer) (hf : X.env.frame = some X.env.locals) (tk : Takes X fun cls d _ H => E cls d H)
    (hc : X.calm = true) (hN : X.N.Nodup) (hi : PI X tg iter wi) (ok : BlkOk X.N X.env.scope scope own)
    (hg : ∀ (s : Shared) (H : Hp) (C : Addr) (cl : List (Str × Addr)) (fp : List Addr) (xe : Value → Shared → Prop), PG (blkX X s H scope (compEnvC scope cl C X.env) fp xe) tg g)
    (ht : ∀ (s : Shared) (H : Hp) (C : Addr) (cl : List (Str × Addr)) (fp : List Addr) (xe : Value → Shared → Prop), PTs (blkX X s H scope (compEnvC scope cl C X.env) fp xe) ifs tt)
    (he : ∀ (s : Shared) (H : Hp) (C : Addr) (cl : List (Str × Addr)) (fp : List Addr) (xe : Value → Shared → Prop), Passes (L2.CX X.prog X.w) (blkX X s H scope (compEnvC scope cl C X.env) fp xe) E → PE (blkX X s H scope (compEnvC scope cl C X.env) fp xe) elt te)
    (hsx : ∀ x, foldedSetIterable iter X.env x = pure x := by intro _; rfl) : PE X (.ListComp elt [⟨tg, iter, ifs, 0⟩] scope pos) (tLc wi g tt te (own.map (·.2))) := by
  refine ⟨fun pins s σ H Q I h => ?_⟩
  rw [eval_ListComp]
  refine lcR_core hs hf tk hc hN hi ok hg ht he hsx I h fun D C t m H' J q hn ⟨p0, p1, _, p3, p4, p5⟩ => ⟨m, hn, fun g2 sb => ?_⟩
  exact ⟨.ref D, H', J.turned (t' := t.toks) (fun b o hb e => (sb.2 b hb).trans e) p0 p1 p3 p4 p5, rfl, q⟩
/-- name = [..] on one line -/
theorem ps_setLcR {i : Nat} {y : Str} {py spos : Pos} {elt tg iter : Expr} {ifs : List Expr} {scope : Scope} {own : List (Str × Nat)} {pos : Pos} {wi : TI} {g : TG} {tt : TT} {te : TE} (hy : X.N[i]? = some y) (hyl : X.env.scope.names.lookup y = some .local)
    (hsw : swapsWith (.ListComp elt [⟨tg, iter, ifs, 0⟩] scope pos) (some (.Name y py)) spos.line X.env = pure true) (hs : X.stack = X.env :: X.outer) (hf : X.env.frame = some X.env.locals) (tk : Takes X fun cls d _ H => E cls d H)
    (hc : X.calm = true) (hN : X.N.Nodup) (hi : PI X tg iter wi) (ok : BlkOk X.N X.env.scope scope own)
    (hg : ∀ (s : Shared) (H : Hp) (C : Addr) (cl : List (Str × Addr)) (fp : List Addr) (xe : Value → Shared → Prop), PG (blkX X s H scope (compEnvC scope cl C X.env) fp xe) tg g)
    (ht : ∀ (s : Shared) (H : Hp) (C : Addr) (cl : List (Str × Addr)) (fp : List Addr) (xe : Value → Shared → Prop), PTs (blkX X s H scope (compEnvC scope cl C X.env) fp xe) ifs tt)
    (he : ∀ (s : Shared) (H : Hp) (C : Addr) (cl : List (Str × Addr)) (fp : List Addr) (xe : Value → Shared → Prop), Passes (L2.CX X.prog X.w) (blkX X s H scope (compEnvC scope cl C X.env) fp xe) E → PE (blkX X s H scope (compEnvC scope cl C X.env) fp xe) elt te)
    (hsx : ∀ x, foldedSetIterable iter X.env x = pure x := by intro _; rfl) : PS X (.Assign [.Name y py] (.ListComp elt [⟨tg, iter, ifs, 0⟩] scope pos) spos) (tAsg (tLc wi g tt te (own.map (·.2))) (gName i)) := by
  refine ⟨fun pins s σ H D I h => ?_⟩
  rw [exec_Assign_Name_used _ _ _ _ hsw]
  refine wpAny_bind (wpAny_standAt (wpAny_bind ?_))
  show wpAny _ X.A (do let _ ← comprehension (.ListComp elt [⟨tg, iter, ifs, 0⟩] scope pos) scope X.env (firstIterPos [⟨tg, iter, ifs, 0⟩] pos) (newList []) false (eval iter X.env) (some (assign (.Name y py) X.env))) _ _ s
  have h1 : tLc wi g tt te (own.map (·.2)) σ H (fun x H1 => gName i x σ H1 D.nx) := h
  refine wpAny_bind (thn (lcR_core (Qf := fun _ t => SP X pins D .next t) hs hf tk hc hN hi ok hg ht he hsx I h1 fun L C t m H' J q hn p => ?_) fun _ _ z => wpAny_pure (wpAny_pure z))
  obtain ⟨p0, p1, _, p3, p4, p5⟩ := p
  refine wpAny_assign_Name (store_ok2 (v := V.ref L) J hN hy (Or.inl hyl) rfl (fun t2 J2 ⟨a, sb, ha⟩ => ?_) (Or.inr hyl))
  have nC : C ≠ a := ha.elim (fun z => z ▸ p1) fun z e => p4 y a z e.symm
  exact ⟨m, hn.sameBut sb nC, fun g2 sb2 => ⟨_, H', J2.turned (t' := t2.toks) (fun b o hb e => (sb2.2 b hb).trans e) p0 p1 p3 p4 p5, q⟩⟩
end
end Vf
namespace Vf
open PySem PySem.Spec PyProof.Rows L2
/-! ### a class's staticmethod -/
/-- C.m is a staticmethod around the def at f -/
structure SmC (K : PySem.W.Frag) (C f : Addr) (m : Str) : Prop where
  rd : PySem.W.readsIn K C (.type "type") = true
  ga : PySem.W.specialIn K (.ref C) "__getattribute__" = some (some (.builtin "type.__getattribute__"))
  at_ : PySem.W.findCls K (.ref C) (.type "type") m = some (.get (.builtin "staticmethod.__get__") (.ref (He.ma K C m)) .none (.ref C))
  rc : ∃ rest, PySem.W.recIn K (He.ma K C m) "staticmethod" = some (.ref f :: rest)
def smB (K : PySem.W.Frag) (x m : Str) : Bool := PySem.W.readsIn K (He.ga K x) (.type "type") && He5.wrapB K (He.ga K x) "staticmethod" "staticmethod.__get__" m
theorem smC_of {K : PySem.W.Frag} {x m : Str} (h : smB K x m = true) : SmC K (He.ga K x) (He5.wf K (He.ga K x) "staticmethod" m) m := by
  obtain ⟨h1, h2⟩ := He.ba h
  obtain ⟨k1, k2⟩ := He5.wrapB_ok h2
  refine ⟨h1, ?_, k1, k2⟩
  unfold PySem.W.readsIn at h1
  obtain ⟨h1, _⟩ := He.ba h1
  obtain ⟨h1, _⟩ := He.ba h1
  obtain ⟨h1, h3⟩ := He.ba h1
  obtain ⟨_, h4⟩ := He.ba h1
  unfold PySem.W.specialIn
  rw [beq_iff_eq.mp h4, Option.bind_some]
  exact beq_iff_eq.mp h3
/-- C.m(..) -/
def tSm (C : Addr) (sp : Sp) (dvs : List V) (E : XK) (ta : TE) (t : TA) : TE := fun σ H Q => ta σ H fun x H1 => x = .ref C ∧ t σ H1 fun vs H2 => sp (vs ++ dvs) H2 Q E
section
variable {X : Cx} {CX : CXT} {k : Nat} {C f : Addr} {fd : FuncData} {ps : List Str} {ds : List Value} {dvs : List V} {sp : Sp} {E : XK} {o e : Expr} {es : List Expr} {m : Str} {pos apos : Pos} {ta : TE} {t : TA} {pl : Sem Bool}
theorem pe_smeth (he : PE X o ta) (c : SmC X.K C f m) (F1 : FnOk X.prog X.w X.K X.mg X.base CX k f fd ps sp) (hk : PySem.W.keepIn X.K (.ref f) = true) (hr : Room k X.A) (hb : Binds X.K fd ps ds) (hd : Vals dvs ds) (hx : Passes CX X E) (ha : PA X (e :: es) t)
    (hst : starEach (e :: es) X.env = (false, eval e X.env) :: starEach es X.env := by rfl) (hpl : (backTo pos (starEach es X.env)).any (·.1) = false := by rfl)
    (ht : eval (.Call (.Attribute o m apos) (e :: es) [] pos) X.env = (do
      let ov ← eval o X.env
      standAt apos.atName
      let (f, first) ← holding [ov] (getMethod ov m pl)
      callWith pos f first (backTo pos (starEach (e :: es) X.env)) (backToKw pos (keywordEach [] X.env))) := by rfl) :
    PE X (.Call (.Attribute o m apos) (e :: es) [] pos) (tSm C sp dvs E ta t) := by
  refine ⟨fun pins s σ H Q I h => ?_⟩
  refine PySem.W.methodCall_KW (pl := pl) (thn (he.run pins s σ H _ I h) fun u s1 ⟨x, H1, I1, rx, ex, q⟩ => ?_) ht
  subst ex
  cases (show u = Value.ref C from rx)
  obtain ⟨rest, rc⟩ := c.rc
  refine PySem.W.method_cls I1.kIn c.ga (PySem.W.cls_bind I1.kIn c.rd c.at_ (wpAny_call (PySem.W.sm_get (s := { s1 with toks := s1.toks + 1 }) I1.kIn rc (PySem.W.handed_on rfl ?_))))
  have I2 := I1.tok (s1.toks + 1)
  refine PySem.W.callWith_K (first := []) (h₀ := X.base) I.ok.mod.kin hk (thn (ha.run pos pins _ σ H1 _ I2 q) fun us s3 ⟨vs, H2, I3, rv, q2⟩ => ⟨I3.kIn, ?_⟩) hst hpl
  exact run_fn F1 hr hb hd hx I3 rv q2
end
/-! ### the hook, with defs at any address -/
def asY (g : Addr → Option Obj) (n : Nat) : List Addr := He.asD g n ++ [cStatics]
section
variable (n : Nat) (fa : List He.Fa) (fn : List He.DefD) (ts : List He.Tab) (tf : List He.Defn) (ex : PySem.W.Frag → Bool) (sm : List He5.DefA)
abbrev AlY : Type := He.AlX × He.AlD
def obsK (g : Addr → Option Obj) (K : PySem.W.Frag) : AlY := ((He.obsT fa fn ts K, ex K && He.tabsB g tf K), (sm.all fun d => d.ok K, sm.map fun d => He5.fnA K (d.at_ K)))
def obsY (g : Addr → Option Obj) : AlY := obsK fa fn ts tf ex sm g (He.frT g (asY g n))
def valY (w : World) : AlY := (He.valX fn ts w, (true, sm.map He5.DefA.val))
structure SaysY (w : World) (h : Heap) (K : PySem.W.Frag) : Prop where
  x : He.SaysX fa fn ts tf ex w h K
  ok : (sm.all fun d => d.ok K) = true
  val : (sm.map fun d => He5.fnA K (d.at_ K)) = sm.map He5.DefA.val
variable {n fa fn ts tf ex sm}
theorem SaysY.def_ {w : World} {h : Heap} {K : PySem.W.Frag} (c : SaysY fa fn ts tf ex sm w h K) (i : Nat) {d : He5.DefA} (hd : sm[i]? = some d := by rfl) : ∃ fd, L2.FunD K d.name d.qual d.params d.body d.scope (d.dvs K) (d.kws K) (d.at_ K) fd := by
  have e2 : (sm.map fun d => He5.fnA K (d.at_ K))[i]? = (sm.map He5.DefA.val)[i]? := by rw [c.val]
  rw [List.getElem?_map, List.getElem?_map, hd] at e2
  exact He5.DefA.funD (Option.some.inj e2) (List.all_eq_true.mp c.ok d (List.mem_of_getElem? hd))
theorem saysY_of {w : World} {h : Heap} (e : obsY n fa fn ts tf ex sm h.get? = valY fn ts sm w) : SaysY fa fn ts tf ex sm w h (He.frT h.get? (asY h.get? n)) := by
  unfold obsY at e
  have tabs : ∀ a o, h.get? a = some o → He.emptyTab o = true → (He.frT h.get? (asY h.get? n)).lookup a = none := fun a o q z => He.frT_none q z
  generalize He.frT h.get? (asY h.get? n) = K at e tabs ⊢
  have a1 : He.obsT fa fn ts K = He.valT fn ts w := congrArg (fun z : AlY => z.1.1) e
  have a2 : (ex K && He.tabsB h.get? tf K) = true := congrArg (fun z : AlY => z.1.2) e
  have a3 : (sm.all fun d => d.ok K) = true := congrArg (fun z : AlY => z.2.1) e
  have a4 : (sm.map fun d => He5.fnA K (d.at_ K)) = sm.map He5.DefA.val := congrArg (fun z : AlY => z.2.2) e
  obtain ⟨b1, b2⟩ := He.ba a2
  have each : ∀ p ∈ tf, PySem.W.codeHdIn K (He.cT K p).1 (He.cT K p).2 = true ∧ ∃ o, h.get? (He.cT K p).2 = some o ∧ He.emptyTab o = true := fun p hp => by
    obtain ⟨q1, q2⟩ := He.ba (List.all_eq_true.mp b2 p hp)
    refine ⟨q1, ?_⟩
    cases q : h.get? (He.cT K p).2 with
    | none =>
      rw [q] at q2
      cases q2
    | some o =>
      rw [q] at q2
      exact ⟨o, rfl, q2⟩
  refine ⟨⟨a1, b1, fun p hp => (each p hp).1, fun p hp => ?_, fun p hp => ?_⟩, a3, a4⟩
  · obtain ⟨_, o, q, z⟩ := each p hp
    exact tabs _ o q z
  · obtain ⟨_, o, q, z⟩ := each p hp
    rw [q, He.emptyTab_eq z]
end
def hookY (n : Nat) (fa : List He.Fa) (fn : List He.DefD) (ts : List He.Tab) (tf : List He.Defn) (ex : PySem.W.Frag → Bool) (sm : List He5.DefA) : PySem.W.Hook where
  α := AlY
  obs := fun s => obsY n fa fn ts tf ex sm s.heap.get?
  val := fun w => valY fn ts sm w
  says := fun w h => ∃ K : PySem.W.Frag, K.In h ∧ SaysY fa fn ts tf ex sm w h K
  of := fun _ _ e => ⟨_, He.frT_in, saysY_of e⟩
  keeps := fun _ _ _ ⟨K, hK, c⟩ k => ⟨K, PySem.W.Frag.In.keeps hK k, ⟨⟨c.x.t, c.x.more, c.x.hd, c.x.out, fun p hp => k _ _ (c.x.empty p hp)⟩, c.ok, c.val⟩⟩
theorem obsY_eq {n : Nat} {fa : List He.Fa} {fn : List He.DefD} {ts : List He.Tab} {tf : List He.Defn} {ex : PySem.W.Frag → Bool} {sm : List He5.DefA} {g : Addr → Option Obj} {s : Shared} (h : ∀ a, g a = s.heap.get? a) : obsY n fa fn ts tf ex sm g = (hookY n fa fn ts tf ex sm).obs s := by
  rw [show g = s.heap.get? from funext h] <;> rfl
end Vf
namespace Vf
open PySem PySem.Spec PyProof.Rows L2
/-- what is never come to -/
theorem pss_never {X : Cx} {b : List Stmt} : PSs X b (fun _ _ _ => False) := ⟨fun _ _ _ _ _ _ h => h.elim⟩
end Vf
namespace K00
open PySem PySem.Spec PyProof.Rows L2 Vf
def dflA : PySem.W.Frag → Addr := He.dflAt ("Skin", some "__init__") 0
def dfl0 (K : PySem.W.Frag) : Bool := match K.lookup (dflA K) with
  | some ⟨.type c, _, .seq its _, _⟩ => decide (c = "tuple") && its.isEmpty
  | _ => false
theorem dfl0_ok {K : PySem.W.Frag} (h : dfl0 K = true) : ∃ od n sl, K.lookup (dflA K) = some ⟨.type "tuple", od, .seq #[] n, sl⟩ := by
  unfold dfl0 at h
  split at h
  · rename_i c od its n sl e
    obtain ⟨h1, h2⟩ := He.ba h
    have e1 : c = "tuple" := of_decide_eq_true h1
    subst e1
    have e2 : its = #[] := by simpa using h2
    subst e2
    exact ⟨od, n, sl, e⟩
  · cases h
def tabT (K : PySem.W.Frag) (x : Str) : Addr := (He.cT K (x, none)).2
def tf : List He.Defn := [("_law_raised_right", none)]
def clsL : List Str := ["BadKind", "BadSkin", "BadSheet", "BadCells", "BadRim", "BadNesting", "BadSaying", "BadBook", "BadBody", "BadCut", "BadNumber", "BadPaper", "BadDesk", "Misfit", "NoSide", "NoFace", "NoEdge", "NoCorner", "NoPlace", "NoFact", "NoName", "Missing", "Twice", "Crossing", "TooMuch", "Impossible", "TooMany", "Nothing", "BadText", "BadLine"]
def subB (x y : Str) : Bool := x == y || (y == "Missing" && (["NoSide", "NoFace", "NoEdge", "NoCorner", "NoPlace", "NoFact", "NoName"] : List Str).contains x) || y == "SewError"
def kitAll (K : PySem.W.Frag) : Bool := clsL.all fun x => excB K (He.ga K x) && (decide (PySem.W.kitOne K (.ref (He.ga K x)) (.type "ValueError") = some true) && (decide (PySem.W.kitOne K (.ref (He.ga K x)) (.type "KeyError") = some false) &&
  (decide (PySem.W.kitOne K (.ref (He.ga K x)) (.type "IndexError") = some false) && (decide (PySem.W.kitOne K (.ref (He.ga K x)) (.type "TypeError") = some false) && (("SewError" : Str) :: clsL).all fun y => decide (PySem.W.kitOne K (.ref (He.ga K x)) (.ref (He.ga K y)) = some (subB x y))))))
def excIn0 (K : PySem.W.Frag) : Bool := PySem.W.excIn K (He.ga K "Nothing") He.veBase "ValueError.__new__" && PySem.W.keepIn K (.ref (He.ga K "Nothing"))
def inhB (K : PySem.W.Frag) (x : Str) : Bool := decide (He.ma K (He.ga K x) "__init__" = He.ma K (He.ga K "Missing") "__init__")
def top (i : Nat) : Stmt := PySem.Challenge.pw_rimsewn_k00_errors_keep_their_fields.main.body.getD i (.Pass ⟨0, 0, 0, 0⟩)
abbrev s_wall : Stmt := top 0
abbrev s_BadKind_init : Stmt := inClass (top 3) 0
abbrev s_BadSkin_init : Stmt := inClass (top 4) 0
abbrev s_BadSheet_init : Stmt := inClass (top 5) 0
abbrev s_BadCells_init : Stmt := inClass (top 6) 0
abbrev s_BadRim_init : Stmt := inClass (top 7) 0
abbrev s_BadNesting_init : Stmt := inClass (top 8) 0
abbrev s_BadSaying_init : Stmt := inClass (top 9) 0
abbrev s_BadBook_init : Stmt := inClass (top 10) 0
abbrev s_BadBody_init : Stmt := inClass (top 11) 0
abbrev s_BadCut_init : Stmt := inClass (top 12) 0
abbrev s_BadNumber_init : Stmt := inClass (top 13) 0
abbrev s_BadPaper_init : Stmt := inClass (top 14) 0
abbrev s_BadDesk_init : Stmt := inClass (top 15) 0
abbrev s_Misfit_init : Stmt := inClass (top 16) 0
abbrev s_Missing_init : Stmt := inClass (top 17) 0
abbrev s_Twice_init : Stmt := inClass (top 25) 0
abbrev s_Crossing_init : Stmt := inClass (top 26) 0
abbrev s_TooMuch_init : Stmt := inClass (top 27) 0
abbrev s_Impossible_init : Stmt := inClass (top 28) 0
abbrev s_TooMany_init : Stmt := inClass (top 29) 0
abbrev s_BadText_init : Stmt := inClass (top 31) 0
abbrev s_BadLine_init : Stmt := inClass (top 32) 0
abbrev s_is_grid : Stmt := top 35
abbrev s_need_kind : Stmt := top 36
abbrev s_sides_of : Stmt := top 37
abbrev s_full_of : Stmt := top 38
abbrev s_is_integer : Stmt := top 40
abbrev s_is_within : Stmt := top 41
abbrev s_is_listed : Stmt := top 42
abbrev s_is_row : Stmt := top 43
abbrev s_first_twice : Stmt := top 44
abbrev s_words_of : Stmt := top 47
abbrev s_natural_of : Stmt := top 48
abbrev s_word_at : Stmt := top 49
abbrev s_number_at : Stmt := top 50
abbrev s_is_seam : Stmt := top 53
abbrev s_need_seams : Stmt := top 54
abbrev s_sides_in : Stmt := top 55
abbrev s_mates_of : Stmt := top 56
abbrev s_turned_sides : Stmt := top 57
abbrev s_Skin_init : Stmt := inClass (top 58) 0
abbrev s_Skin_need_side : Stmt := inClass (top 58) 1
abbrev s_Skin_mate : Stmt := inClass (top 58) 2
abbrev s_Skin_next : Stmt := inClass (top 58) 3
abbrev s_Skin_back : Stmt := inClass (top 58) 4
abbrev s_Skin_face : Stmt := inClass (top 58) 5
abbrev s_Skin_with_seams : Stmt := inClass (top 58) 6
abbrev s_Skin_mirrored : Stmt := inClass (top 58) 7
abbrev s_Skin_mirror_of : Stmt := inClass (top 58) 8
abbrev s_Skin_eq : Stmt := inClass (top 58) 9
abbrev s_Skin_str : Stmt := inClass (top 58) 10
abbrev s_need_skin : Stmt := top 59
abbrev s_skin_words : Stmt := top 60
abbrev s_read_seams : Stmt := top 61
abbrev s_round_from : Stmt := top 63
abbrev s_place_from : Stmt := top 64
abbrev s_places : Stmt := top 65
abbrev s_rim_from : Stmt := top 66
abbrev s_rims : Stmt := top 67
abbrev s_pieces : Stmt := top 68
abbrev s_surplus : Stmt := top 69
abbrev s_need_flat : Stmt := top 71
abbrev s_Sheet_init : Stmt := inClass (top 72) 0
abbrev s_Sheet_len : Stmt := inClass (top 72) 1
abbrev s_Sheet_put_on : Stmt := inClass (top 72) 3
abbrev s_Sheet_tucked : Stmt := inClass (top 72) 4
abbrev s_Sheet_taken : Stmt := inClass (top 72) 5
abbrev s_Sheet_mirrored : Stmt := inClass (top 72) 6
abbrev s_Sheet_eq : Stmt := inClass (top 72) 7
abbrev s_Sheet_str : Stmt := inClass (top 72) 8
abbrev s_need_sheet : Stmt := top 73
abbrev s_Rim_init : Stmt := inClass (top 76) 0
abbrev s_Rim_len : Stmt := inClass (top 76) 1
abbrev s_Rim_turned : Stmt := inClass (top 76) 3
abbrev s_Rim_mirrored : Stmt := inClass (top 76) 4
abbrev s_Rim_eq : Stmt := inClass (top 76) 5
abbrev s_Rim_str : Stmt := inClass (top 76) 6
abbrev s_amount_at : Stmt := top 77
abbrev s_is_pairing : Stmt := top 79
abbrev s_first_crossing : Stmt := top 80
abbrev s_places_by : Stmt := top 81
abbrev s_Nesting_init : Stmt := inClass (top 82) 0
abbrev s_Nesting_len : Stmt := inClass (top 82) 1
abbrev s_Nesting_meets : Stmt := inClass (top 82) 2
abbrev s_Nesting_turned : Stmt := inClass (top 82) 3
abbrev s_Nesting_mirrored : Stmt := inClass (top 82) 4
abbrev s_Nesting_eq : Stmt := inClass (top 82) 5
abbrev s_Nesting_str : Stmt := inClass (top 82) 6
abbrev s_pair_of : Stmt := top 83
abbrev s_read_partners : Stmt := top 84
abbrev s_least_unpaired : Stmt := top 85
abbrev s_can_follow : Stmt := top 86
abbrev s_law_pen : Stmt := top 88
abbrev s_law_draw : Stmt := top 89
abbrev s_law_value : Stmt := top 90
abbrev s_law_bad : Stmt := top 91
abbrev s_law_missing : Stmt := top 92
abbrev s_law_other : Stmt := top 93
abbrev s_law_is_only : Stmt := top 94
abbrev s_law_parts : Stmt := top 95
abbrev s_law_parts_named : Stmt := top 96
abbrev s_law_values : Stmt := top 97
abbrev s_law_values_named : Stmt := top 98
abbrev s_law_one_right : Stmt := top 99
abbrev s_law_two_right : Stmt := top 100
abbrev s_law_heard : Stmt := top 101
abbrev s_law_raised_right : Stmt := top 102
abbrev s_law : Stmt := top 103
def d_wall : He.DefD := ⟨("_wall", none), "_wall", "_wall", defArgs s_wall, defBody s_wall, defScope s_wall, [], []⟩
def d_BadKind_init : He.DefD := ⟨("BadKind", some "__init__"), "__init__", "BadKind.__init__", defArgs s_BadKind_init, defBody s_BadKind_init, defScope s_BadKind_init, [], []⟩
def d_BadSkin_init : He.DefD := ⟨("BadSkin", some "__init__"), "__init__", "BadSkin.__init__", defArgs s_BadSkin_init, defBody s_BadSkin_init, defScope s_BadSkin_init, [], []⟩
def d_BadSheet_init : He.DefD := ⟨("BadSheet", some "__init__"), "__init__", "BadSheet.__init__", defArgs s_BadSheet_init, defBody s_BadSheet_init, defScope s_BadSheet_init, [], []⟩
def d_BadCells_init : He.DefD := ⟨("BadCells", some "__init__"), "__init__", "BadCells.__init__", defArgs s_BadCells_init, defBody s_BadCells_init, defScope s_BadCells_init, [], []⟩
def d_BadRim_init : He.DefD := ⟨("BadRim", some "__init__"), "__init__", "BadRim.__init__", defArgs s_BadRim_init, defBody s_BadRim_init, defScope s_BadRim_init, [], []⟩
def d_BadNesting_init : He.DefD := ⟨("BadNesting", some "__init__"), "__init__", "BadNesting.__init__", defArgs s_BadNesting_init, defBody s_BadNesting_init, defScope s_BadNesting_init, [], []⟩
def d_BadSaying_init : He.DefD := ⟨("BadSaying", some "__init__"), "__init__", "BadSaying.__init__", defArgs s_BadSaying_init, defBody s_BadSaying_init, defScope s_BadSaying_init, [], []⟩
def d_BadBook_init : He.DefD := ⟨("BadBook", some "__init__"), "__init__", "BadBook.__init__", defArgs s_BadBook_init, defBody s_BadBook_init, defScope s_BadBook_init, [], []⟩
def d_BadBody_init : He.DefD := ⟨("BadBody", some "__init__"), "__init__", "BadBody.__init__", defArgs s_BadBody_init, defBody s_BadBody_init, defScope s_BadBody_init, [], []⟩
def d_BadCut_init : He.DefD := ⟨("BadCut", some "__init__"), "__init__", "BadCut.__init__", defArgs s_BadCut_init, defBody s_BadCut_init, defScope s_BadCut_init, [], []⟩
def d_BadNumber_init : He.DefD := ⟨("BadNumber", some "__init__"), "__init__", "BadNumber.__init__", defArgs s_BadNumber_init, defBody s_BadNumber_init, defScope s_BadNumber_init, [], []⟩
def d_BadPaper_init : He.DefD := ⟨("BadPaper", some "__init__"), "__init__", "BadPaper.__init__", defArgs s_BadPaper_init, defBody s_BadPaper_init, defScope s_BadPaper_init, [], []⟩
def d_BadDesk_init : He.DefD := ⟨("BadDesk", some "__init__"), "__init__", "BadDesk.__init__", defArgs s_BadDesk_init, defBody s_BadDesk_init, defScope s_BadDesk_init, [], []⟩
def d_Misfit_init : He.DefD := ⟨("Misfit", some "__init__"), "__init__", "Misfit.__init__", defArgs s_Misfit_init, defBody s_Misfit_init, defScope s_Misfit_init, [], []⟩
def d_Missing_init : He.DefD := ⟨("Missing", some "__init__"), "__init__", "Missing.__init__", defArgs s_Missing_init, defBody s_Missing_init, defScope s_Missing_init, [], []⟩
def d_Twice_init : He.DefD := ⟨("Twice", some "__init__"), "__init__", "Twice.__init__", defArgs s_Twice_init, defBody s_Twice_init, defScope s_Twice_init, [], []⟩
def d_Crossing_init : He.DefD := ⟨("Crossing", some "__init__"), "__init__", "Crossing.__init__", defArgs s_Crossing_init, defBody s_Crossing_init, defScope s_Crossing_init, [], []⟩
def d_TooMuch_init : He.DefD := ⟨("TooMuch", some "__init__"), "__init__", "TooMuch.__init__", defArgs s_TooMuch_init, defBody s_TooMuch_init, defScope s_TooMuch_init, [], []⟩
def d_Impossible_init : He.DefD := ⟨("Impossible", some "__init__"), "__init__", "Impossible.__init__", defArgs s_Impossible_init, defBody s_Impossible_init, defScope s_Impossible_init, [], []⟩
def d_TooMany_init : He.DefD := ⟨("TooMany", some "__init__"), "__init__", "TooMany.__init__", defArgs s_TooMany_init, defBody s_TooMany_init, defScope s_TooMany_init, [], []⟩
def d_BadText_init : He.DefD := ⟨("BadText", some "__init__"), "__init__", "BadText.__init__", defArgs s_BadText_init, defBody s_BadText_init, defScope s_BadText_init, [], []⟩
def d_BadLine_init : He.DefD := ⟨("BadLine", some "__init__"), "__init__", "BadLine.__init__", defArgs s_BadLine_init, defBody s_BadLine_init, defScope s_BadLine_init, [], []⟩
def d_is_grid : He.DefD := ⟨("is_grid", none), "is_grid", "is_grid", defArgs s_is_grid, defBody s_is_grid, defScope s_is_grid, [], []⟩
def d_need_kind : He.DefD := ⟨("need_kind", none), "need_kind", "need_kind", defArgs s_need_kind, defBody s_need_kind, defScope s_need_kind, [], []⟩
def d_sides_of : He.DefD := ⟨("sides_of", none), "sides_of", "sides_of", defArgs s_sides_of, defBody s_sides_of, defScope s_sides_of, [], []⟩
def d_full_of : He.DefD := ⟨("full_of", none), "full_of", "full_of", defArgs s_full_of, defBody s_full_of, defScope s_full_of, [], []⟩
def d_is_integer : He.DefD := ⟨("is_integer", none), "is_integer", "is_integer", defArgs s_is_integer, defBody s_is_integer, defScope s_is_integer, [], []⟩
def d_is_within : He.DefD := ⟨("is_within", none), "is_within", "is_within", defArgs s_is_within, defBody s_is_within, defScope s_is_within, [], []⟩
def d_is_listed : He.DefD := ⟨("is_listed", none), "is_listed", "is_listed", defArgs s_is_listed, defBody s_is_listed, defScope s_is_listed, [], []⟩
def d_is_row : He.DefD := ⟨("is_row", none), "is_row", "is_row", defArgs s_is_row, defBody s_is_row, defScope s_is_row, [], []⟩
def d_first_twice : He.DefD := ⟨("first_twice", none), "first_twice", "first_twice", defArgs s_first_twice, defBody s_first_twice, defScope s_first_twice, [], []⟩
def d_words_of : He.DefD := ⟨("words_of", none), "words_of", "words_of", defArgs s_words_of, defBody s_words_of, defScope s_words_of, [], []⟩
def d_natural_of : He.DefD := ⟨("natural_of", none), "natural_of", "natural_of", defArgs s_natural_of, defBody s_natural_of, defScope s_natural_of, [], []⟩
def d_word_at : He.DefD := ⟨("word_at", none), "word_at", "word_at", defArgs s_word_at, defBody s_word_at, defScope s_word_at, [], []⟩
def d_number_at : He.DefD := ⟨("number_at", none), "number_at", "number_at", defArgs s_number_at, defBody s_number_at, defScope s_number_at, [], []⟩
def d_is_seam : He.DefD := ⟨("is_seam", none), "is_seam", "is_seam", defArgs s_is_seam, defBody s_is_seam, defScope s_is_seam, [], []⟩
def d_need_seams : He.DefD := ⟨("need_seams", none), "need_seams", "need_seams", defArgs s_need_seams, defBody s_need_seams, defScope s_need_seams, [], []⟩
def d_sides_in : He.DefD := ⟨("sides_in", none), "sides_in", "sides_in", defArgs s_sides_in, defBody s_sides_in, defScope s_sides_in, [], []⟩
def d_mates_of : He.DefD := ⟨("mates_of", none), "mates_of", "mates_of", defArgs s_mates_of, defBody s_mates_of, defScope s_mates_of, [], []⟩
def d_turned_sides : He.DefD := ⟨("turned_sides", none), "turned_sides", "turned_sides", defArgs s_turned_sides, defBody s_turned_sides, defScope s_turned_sides, [], []⟩
def d_Skin_init : He.DefD := ⟨("Skin", some "__init__"), "__init__", "Skin.__init__", defArgs s_Skin_init, defBody s_Skin_init, defScope s_Skin_init, [.adr dflA], []⟩
def d_Skin_need_side : He.DefD := ⟨("Skin", some "need_side"), "need_side", "Skin.need_side", defArgs s_Skin_need_side, defBody s_Skin_need_side, defScope s_Skin_need_side, [], []⟩
def d_Skin_mate : He.DefD := ⟨("Skin", some "mate"), "mate", "Skin.mate", defArgs s_Skin_mate, defBody s_Skin_mate, defScope s_Skin_mate, [], []⟩
def d_Skin_next : He.DefD := ⟨("Skin", some "next"), "next", "Skin.next", defArgs s_Skin_next, defBody s_Skin_next, defScope s_Skin_next, [], []⟩
def d_Skin_back : He.DefD := ⟨("Skin", some "back"), "back", "Skin.back", defArgs s_Skin_back, defBody s_Skin_back, defScope s_Skin_back, [], []⟩
def d_Skin_face : He.DefD := ⟨("Skin", some "face"), "face", "Skin.face", defArgs s_Skin_face, defBody s_Skin_face, defScope s_Skin_face, [], []⟩
def d_Skin_with_seams : He.DefD := ⟨("Skin", some "with_seams"), "with_seams", "Skin.with_seams", defArgs s_Skin_with_seams, defBody s_Skin_with_seams, defScope s_Skin_with_seams, [], []⟩
def d_Skin_mirrored : He.DefD := ⟨("Skin", some "mirrored"), "mirrored", "Skin.mirrored", defArgs s_Skin_mirrored, defBody s_Skin_mirrored, defScope s_Skin_mirrored, [], []⟩
def d_Skin_mirror_of : He.DefD := ⟨("Skin", some "mirror_of"), "mirror_of", "Skin.mirror_of", defArgs s_Skin_mirror_of, defBody s_Skin_mirror_of, defScope s_Skin_mirror_of, [], []⟩
def d_Skin_eq : He.DefD := ⟨("Skin", some "__eq__"), "__eq__", "Skin.__eq__", defArgs s_Skin_eq, defBody s_Skin_eq, defScope s_Skin_eq, [], []⟩
def d_Skin_str : He.DefD := ⟨("Skin", some "__str__"), "__str__", "Skin.__str__", defArgs s_Skin_str, defBody s_Skin_str, defScope s_Skin_str, [], []⟩
def d_need_skin : He.DefD := ⟨("need_skin", none), "need_skin", "need_skin", defArgs s_need_skin, defBody s_need_skin, defScope s_need_skin, [], []⟩
def d_skin_words : He.DefD := ⟨("skin_words", none), "skin_words", "skin_words", defArgs s_skin_words, defBody s_skin_words, defScope s_skin_words, [], []⟩
def d_read_seams : He.DefD := ⟨("read_seams", none), "read_seams", "read_seams", defArgs s_read_seams, defBody s_read_seams, defScope s_read_seams, [], []⟩
def d_round_from : He.DefD := ⟨("round_from", none), "round_from", "round_from", defArgs s_round_from, defBody s_round_from, defScope s_round_from, [], []⟩
def d_place_from : He.DefD := ⟨("place_from", none), "place_from", "place_from", defArgs s_place_from, defBody s_place_from, defScope s_place_from, [], []⟩
def d_places : He.DefD := ⟨("places", none), "places", "places", defArgs s_places, defBody s_places, defScope s_places, [], []⟩
def d_rim_from : He.DefD := ⟨("rim_from", none), "rim_from", "rim_from", defArgs s_rim_from, defBody s_rim_from, defScope s_rim_from, [], []⟩
def d_rims : He.DefD := ⟨("rims", none), "rims", "rims", defArgs s_rims, defBody s_rims, defScope s_rims, [], []⟩
def d_pieces : He.DefD := ⟨("pieces", none), "pieces", "pieces", defArgs s_pieces, defBody s_pieces, defScope s_pieces, [], []⟩
def d_surplus : He.DefD := ⟨("surplus", none), "surplus", "surplus", defArgs s_surplus, defBody s_surplus, defScope s_surplus, [], []⟩
def d_need_flat : He.DefD := ⟨("need_flat", none), "need_flat", "need_flat", defArgs s_need_flat, defBody s_need_flat, defScope s_need_flat, [], []⟩
def d_Sheet_init : He.DefD := ⟨("Sheet", some "__init__"), "__init__", "Sheet.__init__", defArgs s_Sheet_init, defBody s_Sheet_init, defScope s_Sheet_init, [], []⟩
def d_Sheet_len : He.DefD := ⟨("Sheet", some "__len__"), "__len__", "Sheet.__len__", defArgs s_Sheet_len, defBody s_Sheet_len, defScope s_Sheet_len, [], []⟩
def d_Sheet_put_on : He.DefD := ⟨("Sheet", some "put_on"), "put_on", "Sheet.put_on", defArgs s_Sheet_put_on, defBody s_Sheet_put_on, defScope s_Sheet_put_on, [], []⟩
def d_Sheet_tucked : He.DefD := ⟨("Sheet", some "tucked"), "tucked", "Sheet.tucked", defArgs s_Sheet_tucked, defBody s_Sheet_tucked, defScope s_Sheet_tucked, [], []⟩
def d_Sheet_taken : He.DefD := ⟨("Sheet", some "taken"), "taken", "Sheet.taken", defArgs s_Sheet_taken, defBody s_Sheet_taken, defScope s_Sheet_taken, [], []⟩
def d_Sheet_mirrored : He.DefD := ⟨("Sheet", some "mirrored"), "mirrored", "Sheet.mirrored", defArgs s_Sheet_mirrored, defBody s_Sheet_mirrored, defScope s_Sheet_mirrored, [], []⟩
def d_Sheet_eq : He.DefD := ⟨("Sheet", some "__eq__"), "__eq__", "Sheet.__eq__", defArgs s_Sheet_eq, defBody s_Sheet_eq, defScope s_Sheet_eq, [], []⟩
def d_Sheet_str : He.DefD := ⟨("Sheet", some "__str__"), "__str__", "Sheet.__str__", defArgs s_Sheet_str, defBody s_Sheet_str, defScope s_Sheet_str, [], []⟩
def d_need_sheet : He.DefD := ⟨("need_sheet", none), "need_sheet", "need_sheet", defArgs s_need_sheet, defBody s_need_sheet, defScope s_need_sheet, [], []⟩
def d_Rim_init : He.DefD := ⟨("Rim", some "__init__"), "__init__", "Rim.__init__", defArgs s_Rim_init, defBody s_Rim_init, defScope s_Rim_init, [], []⟩
def d_Rim_len : He.DefD := ⟨("Rim", some "__len__"), "__len__", "Rim.__len__", defArgs s_Rim_len, defBody s_Rim_len, defScope s_Rim_len, [], []⟩
def d_Rim_turned : He.DefD := ⟨("Rim", some "turned"), "turned", "Rim.turned", defArgs s_Rim_turned, defBody s_Rim_turned, defScope s_Rim_turned, [], []⟩
def d_Rim_mirrored : He.DefD := ⟨("Rim", some "mirrored"), "mirrored", "Rim.mirrored", defArgs s_Rim_mirrored, defBody s_Rim_mirrored, defScope s_Rim_mirrored, [], []⟩
def d_Rim_eq : He.DefD := ⟨("Rim", some "__eq__"), "__eq__", "Rim.__eq__", defArgs s_Rim_eq, defBody s_Rim_eq, defScope s_Rim_eq, [], []⟩
def d_Rim_str : He.DefD := ⟨("Rim", some "__str__"), "__str__", "Rim.__str__", defArgs s_Rim_str, defBody s_Rim_str, defScope s_Rim_str, [], []⟩
def d_amount_at : He.DefD := ⟨("amount_at", none), "amount_at", "amount_at", defArgs s_amount_at, defBody s_amount_at, defScope s_amount_at, [], []⟩
def d_is_pairing : He.DefD := ⟨("is_pairing", none), "is_pairing", "is_pairing", defArgs s_is_pairing, defBody s_is_pairing, defScope s_is_pairing, [], []⟩
def d_first_crossing : He.DefD := ⟨("first_crossing", none), "first_crossing", "first_crossing", defArgs s_first_crossing, defBody s_first_crossing, defScope s_first_crossing, [], []⟩
def d_places_by : He.DefD := ⟨("places_by", none), "places_by", "places_by", defArgs s_places_by, defBody s_places_by, defScope s_places_by, [], []⟩
def d_Nesting_init : He.DefD := ⟨("Nesting", some "__init__"), "__init__", "Nesting.__init__", defArgs s_Nesting_init, defBody s_Nesting_init, defScope s_Nesting_init, [], []⟩
def d_Nesting_len : He.DefD := ⟨("Nesting", some "__len__"), "__len__", "Nesting.__len__", defArgs s_Nesting_len, defBody s_Nesting_len, defScope s_Nesting_len, [], []⟩
def d_Nesting_meets : He.DefD := ⟨("Nesting", some "meets"), "meets", "Nesting.meets", defArgs s_Nesting_meets, defBody s_Nesting_meets, defScope s_Nesting_meets, [], []⟩
def d_Nesting_turned : He.DefD := ⟨("Nesting", some "turned"), "turned", "Nesting.turned", defArgs s_Nesting_turned, defBody s_Nesting_turned, defScope s_Nesting_turned, [], []⟩
def d_Nesting_mirrored : He.DefD := ⟨("Nesting", some "mirrored"), "mirrored", "Nesting.mirrored", defArgs s_Nesting_mirrored, defBody s_Nesting_mirrored, defScope s_Nesting_mirrored, [], []⟩
def d_Nesting_eq : He.DefD := ⟨("Nesting", some "__eq__"), "__eq__", "Nesting.__eq__", defArgs s_Nesting_eq, defBody s_Nesting_eq, defScope s_Nesting_eq, [], []⟩
def d_Nesting_str : He.DefD := ⟨("Nesting", some "__str__"), "__str__", "Nesting.__str__", defArgs s_Nesting_str, defBody s_Nesting_str, defScope s_Nesting_str, [], []⟩
def d_pair_of : He.DefD := ⟨("pair_of", none), "pair_of", "pair_of", defArgs s_pair_of, defBody s_pair_of, defScope s_pair_of, [], []⟩
def d_read_partners : He.DefD := ⟨("read_partners", none), "read_partners", "read_partners", defArgs s_read_partners, defBody s_read_partners, defScope s_read_partners, [], []⟩
def d_least_unpaired : He.DefD := ⟨("least_unpaired", none), "least_unpaired", "least_unpaired", defArgs s_least_unpaired, defBody s_least_unpaired, defScope s_least_unpaired, [], []⟩
def d_can_follow : He.DefD := ⟨("can_follow", none), "can_follow", "can_follow", defArgs s_can_follow, defBody s_can_follow, defScope s_can_follow, [], []⟩
def d_law_pen : He.DefD := ⟨("_law_pen", none), "_law_pen", "_law_pen", defArgs s_law_pen, defBody s_law_pen, defScope s_law_pen, [], []⟩
def d_law_draw : He.DefD := ⟨("_law_draw", none), "_law_draw", "_law_draw", defArgs s_law_draw, defBody s_law_draw, defScope s_law_draw, [], []⟩
def d_law_value : He.DefD := ⟨("_law_value", none), "_law_value", "_law_value", defArgs s_law_value, defBody s_law_value, defScope s_law_value, [], []⟩
def d_law_bad : He.DefD := ⟨("_law_bad", none), "_law_bad", "_law_bad", defArgs s_law_bad, defBody s_law_bad, defScope s_law_bad, [], []⟩
def d_law_missing : He.DefD := ⟨("_law_missing", none), "_law_missing", "_law_missing", defArgs s_law_missing, defBody s_law_missing, defScope s_law_missing, [], []⟩
def d_law_other : He.DefD := ⟨("_law_other", none), "_law_other", "_law_other", defArgs s_law_other, defBody s_law_other, defScope s_law_other, [], []⟩
def d_law_is_only : He.DefD := ⟨("_law_is_only", none), "_law_is_only", "_law_is_only", defArgs s_law_is_only, defBody s_law_is_only, defScope s_law_is_only, [], []⟩
def d_law_parts : He.DefD := ⟨("_law_parts", none), "_law_parts", "_law_parts", defArgs s_law_parts, defBody s_law_parts, defScope s_law_parts, [], []⟩
def d_law_parts_named : He.DefD := ⟨("_law_parts_named", none), "_law_parts_named", "_law_parts_named", defArgs s_law_parts_named, defBody s_law_parts_named, defScope s_law_parts_named, [], []⟩
def d_law_values : He.DefD := ⟨("_law_values", none), "_law_values", "_law_values", defArgs s_law_values, defBody s_law_values, defScope s_law_values, [], []⟩
def d_law_values_named : He.DefD := ⟨("_law_values_named", none), "_law_values_named", "_law_values_named", defArgs s_law_values_named, defBody s_law_values_named, defScope s_law_values_named, [], []⟩
def d_law_one_right : He.DefD := ⟨("_law_one_right", none), "_law_one_right", "_law_one_right", defArgs s_law_one_right, defBody s_law_one_right, defScope s_law_one_right, [], []⟩
def d_law_two_right : He.DefD := ⟨("_law_two_right", none), "_law_two_right", "_law_two_right", defArgs s_law_two_right, defBody s_law_two_right, defScope s_law_two_right, [], []⟩
def d_law_heard : He.DefD := ⟨("_law_heard", none), "_law_heard", "_law_heard", defArgs s_law_heard, defBody s_law_heard, defScope s_law_heard, [], []⟩
def d_law_raised_right : He.DefD := ⟨("_law_raised_right", none), "_law_raised_right", "_law_raised_right", defArgs s_law_raised_right, defBody s_law_raised_right, defScope s_law_raised_right, [], []⟩
def d_law : He.DefD := ⟨("law", none), "law", "law", defArgs s_law, defBody s_law, defScope s_law, [], []⟩
def fn : List He.DefD := [d_wall, d_BadKind_init, d_BadSkin_init, d_BadSheet_init, d_BadCells_init, d_BadRim_init, d_BadNesting_init, d_BadSaying_init, d_BadBook_init, d_BadBody_init, d_BadCut_init, d_BadNumber_init, d_BadPaper_init, d_BadDesk_init, d_Misfit_init, d_Missing_init, d_Twice_init, d_Crossing_init, d_TooMuch_init, d_Impossible_init, d_TooMany_init, d_BadText_init, d_BadLine_init, d_is_grid, d_need_kind, d_sides_of, d_full_of, d_is_integer, d_is_within, d_is_listed, d_is_row, d_first_twice, d_words_of, d_natural_of, d_word_at, d_number_at, d_is_seam, d_need_seams, d_sides_in, d_mates_of, d_turned_sides, d_Skin_init, d_Skin_need_side, d_Skin_mate, d_Skin_next, d_Skin_back, d_Skin_face, d_Skin_with_seams, d_Skin_mirrored, d_Skin_mirror_of, d_Skin_eq, d_Skin_str, d_need_skin, d_skin_words, d_read_seams, d_round_from, d_place_from, d_places, d_rim_from, d_rims, d_pieces, d_surplus, d_need_flat, d_Sheet_init, d_Sheet_len, d_Sheet_put_on, d_Sheet_tucked, d_Sheet_taken, d_Sheet_mirrored, d_Sheet_eq, d_Sheet_str, d_need_sheet, d_Rim_init, d_Rim_len, d_Rim_turned, d_Rim_mirrored, d_Rim_eq, d_Rim_str, d_amount_at, d_is_pairing, d_first_crossing, d_places_by, d_Nesting_init, d_Nesting_len, d_Nesting_meets, d_Nesting_turned, d_Nesting_mirrored, d_Nesting_eq, d_Nesting_str, d_pair_of, d_read_partners, d_least_unpaired, d_can_follow, d_law_pen, d_law_draw, d_law_value, d_law_bad, d_law_missing, d_law_other, d_law_is_only, d_law_parts, d_law_parts_named, d_law_values, d_law_values_named, d_law_one_right, d_law_two_right, d_law_heard, d_law_raised_right, d_law]
def fa : List He.Fa := [.glo "_wall", .glo "SewError", .glo "BadKind", .glo "BadSkin", .glo "BadSheet", .glo "BadCells", .glo "BadRim", .glo "BadNesting", .glo "BadSaying", .glo "BadBook", .glo "BadBody", .glo "BadCut", .glo "BadNumber", .glo "BadPaper", .glo "BadDesk", .glo "Misfit", .glo "Missing", .glo "NoSide", .glo "NoFace", .glo "NoEdge", .glo "NoCorner", .glo "NoPlace", .glo "NoFact", .glo "NoName", .glo "Twice", .glo "Crossing", .glo "TooMuch", .glo "Impossible", .glo "TooMany", .glo "Nothing", .glo "BadText", .glo "BadLine", .glo "is_grid", .glo "need_kind", .glo "sides_of", .glo "full_of", .glo "is_integer", .glo "is_within", .glo "is_listed", .glo "is_row", .glo "first_twice", .glo "words_of", .glo "natural_of", .glo "word_at", .glo "number_at", .glo "is_seam", .glo "need_seams", .glo "sides_in", .glo "mates_of", .glo "turned_sides", .glo "Skin", .glo "need_skin", .glo "skin_words", .glo "read_seams", .glo "round_from", .glo "place_from", .glo "places", .glo "rim_from", .glo "rims", .glo "pieces", .glo "surplus", .glo "need_flat", .glo "Sheet", .glo "need_sheet", .glo "Rim", .glo "amount_at", .glo "is_pairing", .glo "first_crossing", .glo "places_by", .glo "Nesting", .glo "pair_of", .glo "read_partners", .glo "least_unpaired", .glo "can_follow", .glo "_law_pen", .glo "_law_draw", .glo "_law_value", .glo "_law_bad", .glo "_law_missing", .glo "_law_other", .glo "_law_is_only", .glo "_law_parts", .glo "_law_parts_named", .glo "_law_values", .glo "_law_values_named", .glo "_law_one_right", .glo "_law_two_right", .glo "_law_heard", .glo "_law_raised_right", .glo "law", .glo "KINDS", .int "LONGEST_NUMBER" 60, .int "MOST_FACES" 24, .int "MOST_EDGES" 50, .free "IndexError", .free "KeyError", .free "TypeError", .free "ValueError", .free "abs", .free "all", .free "any", .free "bool", .free "enumerate", .free "int", .free "isinstance", .free "len", .free "list", .free "max", .free "min", .free "range", .free "set", .free "sorted", .free "staticmethod", .free "str", .free "sum", .free "tuple", .free "zip", .cls "Skin", .mkr "Skin", .mkr "Rim", .mkr "Nesting", .noat "Skin" "kind", .noat "Skin" "faces", .noat "Skin" "turn", .noat "Skin" "full", .noat "Skin" "sides", .noat "Skin" "seams", .noat "Skin" "mates", .noat "Skin" "nexts", .noat "Skin" "backs", .noat "Skin" "free", .meth "Skin" "need_side", .meth "Skin" "face", .exm "BadKind" "SewError" true, .exm "BadSkin" "SewError" true, .exm "BadRim" "SewError" true, .exm "Crossing" "SewError" true, .exm "Twice" "SewError" true, .exm "TooMany" "SewError" true, .exm "NoSide" "SewError" true, .exm "BadText" "SewError" true, .exc "Nothing"]
def ex (K : PySem.W.Frag) : Bool := [He.tupB K "KINDS" [.str "square", .str "triangle"], dfl0 K, kitAll K, excIn0 K, errB K "BadKind" ["part"], errB K "BadSkin" ["part"], errB K "BadSheet" ["part"], errB K "BadCells" ["part"], errB K "BadRim" ["part"], errB K "BadNesting" ["part"], errB K "BadSaying" ["part"], errB K "BadBook" ["part"], errB K "BadBody" ["part"], errB K "BadCut" ["part"], errB K "BadNumber" ["part"], errB K "BadPaper" ["part"], errB K "BadDesk" ["part"], errB K "Misfit" ["part"], errB K "NoSide" ["value"], errB K "NoFace" ["value"], errB K "NoEdge" ["value"], errB K "NoCorner" ["value"], errB K "NoPlace" ["value"], errB K "NoFact" ["value"], errB K "NoName" ["value"], errB K "Missing" ["value"], errB K "Twice" ["value"], errB K "Crossing" ["one", "other"], errB K "TooMuch" ["corner"], errB K "Impossible" ["paper"], errB K "TooMany" ["what", "most"], errB K "BadText" ["line", "word"], errB K "BadLine" ["line", "error"], inhB K "NoSide", inhB K "NoFace", inhB K "NoEdge", inhB K "NoCorner", inhB K "NoPlace", inhB K "NoFact", inhB K "NoName", smB K "Rim" "read"].all id
abbrev R : PySem.W.OpenRow := PySem.W.OpenLaw.row PySem.Challenge.rw_rimsewn_k00_errors_keep_their_fields
abbrev s_Rim_read : Stmt := inClass (top 76) 7
def d_Rim_read : He5.DefA := ⟨fun K => He5.wf K (He.ga K "Rim") "staticmethod" "read", "read", "Rim.read", defArgs s_Rim_read, defBody s_Rim_read, defScope s_Rim_read, [], []⟩
def sm : List He5.DefA := [d_Rim_read]

abbrev hk : PySem.W.Hook := hookY 6 fa fn [] tf ex sm
def ob (s : PySem.W.SharedT) : AlY := obsY 6 fa fn [] tf ex sm (HandSHeadRun.getT s)
theorem ob_eq (s : PySem.W.SharedT) : ob s = hk.obs s.abs := obsY_eq (HandSHeadRun.getT_eq s)
def loose : List Str := [("_wall" : Str), ("SewError" : Str), ("BadKind" : Str), ("BadSkin" : Str), ("BadSheet" : Str), ("BadCells" : Str), ("BadRim" : Str), ("BadNesting" : Str), ("BadSaying" : Str), ("BadBook" : Str), ("BadBody" : Str), ("BadCut" : Str), ("BadNumber" : Str), ("BadPaper" : Str), ("BadDesk" : Str), ("Misfit" : Str), ("Missing" : Str), ("NoSide" : Str), ("NoFace" : Str), ("NoEdge" : Str), ("NoCorner" : Str), ("NoPlace" : Str), ("NoFact" : Str), ("NoName" : Str), ("Twice" : Str), ("Crossing" : Str), ("TooMuch" : Str), ("Impossible" : Str), ("TooMany" : Str), ("Nothing" : Str), ("BadText" : Str), ("BadLine" : Str), ("KINDS" : Str), ("is_grid" : Str), ("need_kind" : Str), ("sides_of" : Str), ("full_of" : Str), ("is_integer" : Str), ("is_within" : Str), ("is_listed" : Str), ("is_row" : Str), ("first_twice" : Str), ("LONGEST_NUMBER" : Str), ("words_of" : Str), ("natural_of" : Str), ("word_at" : Str), ("number_at" : Str), ("MOST_FACES" : Str), ("is_seam" : Str), ("need_seams" : Str), ("sides_in" : Str), ("mates_of" : Str), ("turned_sides" : Str), ("Skin" : Str), ("need_skin" : Str), ("skin_words" : Str), ("read_seams" : Str), ("round_from" : Str), ("place_from" : Str), ("places" : Str), ("rim_from" : Str), ("rims" : Str), ("pieces" : Str), ("surplus" : Str), ("need_flat" : Str), ("Sheet" : Str), ("need_sheet" : Str), ("MOST_EDGES" : Str), ("Rim" : Str), ("amount_at" : Str), ("is_pairing" : Str), ("first_crossing" : Str), ("places_by" : Str), ("Nesting" : Str), ("pair_of" : Str), ("read_partners" : Str), ("least_unpaired" : Str), ("can_follow" : Str), ("_law_pen" : Str), ("_law_draw" : Str), ("_law_value" : Str), ("_law_bad" : Str), ("_law_missing" : Str), ("_law_other" : Str), ("_law_is_only" : Str), ("_law_parts" : Str), ("_law_parts_named" : Str), ("_law_values" : Str), ("_law_values_named" : Str), ("_law_one_right" : Str), ("_law_two_right" : Str), ("_law_heard" : Str), ("_law_raised_right" : Str)]
structure Txt (K : PySem.W.Frag) (mg : Str → Option Value) : Prop where
  g_SewError : mg "SewError" = some (.ref (He.ga K "SewError"))
  g_BadKind : mg "BadKind" = some (.ref (He.ga K "BadKind"))
  g_BadSkin : mg "BadSkin" = some (.ref (He.ga K "BadSkin"))
  g_BadSheet : mg "BadSheet" = some (.ref (He.ga K "BadSheet"))
  g_BadCells : mg "BadCells" = some (.ref (He.ga K "BadCells"))
  g_BadRim : mg "BadRim" = some (.ref (He.ga K "BadRim"))
  g_BadNesting : mg "BadNesting" = some (.ref (He.ga K "BadNesting"))
  g_BadSaying : mg "BadSaying" = some (.ref (He.ga K "BadSaying"))
  g_BadBook : mg "BadBook" = some (.ref (He.ga K "BadBook"))
  g_BadBody : mg "BadBody" = some (.ref (He.ga K "BadBody"))
  g_BadCut : mg "BadCut" = some (.ref (He.ga K "BadCut"))
  g_BadNumber : mg "BadNumber" = some (.ref (He.ga K "BadNumber"))
  g_BadPaper : mg "BadPaper" = some (.ref (He.ga K "BadPaper"))
  g_BadDesk : mg "BadDesk" = some (.ref (He.ga K "BadDesk"))
  g_Misfit : mg "Misfit" = some (.ref (He.ga K "Misfit"))
  g_Missing : mg "Missing" = some (.ref (He.ga K "Missing"))
  g_NoSide : mg "NoSide" = some (.ref (He.ga K "NoSide"))
  g_NoFace : mg "NoFace" = some (.ref (He.ga K "NoFace"))
  g_NoEdge : mg "NoEdge" = some (.ref (He.ga K "NoEdge"))
  g_NoCorner : mg "NoCorner" = some (.ref (He.ga K "NoCorner"))
  g_NoPlace : mg "NoPlace" = some (.ref (He.ga K "NoPlace"))
  g_NoFact : mg "NoFact" = some (.ref (He.ga K "NoFact"))
  g_NoName : mg "NoName" = some (.ref (He.ga K "NoName"))
  g_Twice : mg "Twice" = some (.ref (He.ga K "Twice"))
  g_Crossing : mg "Crossing" = some (.ref (He.ga K "Crossing"))
  g_TooMuch : mg "TooMuch" = some (.ref (He.ga K "TooMuch"))
  g_Impossible : mg "Impossible" = some (.ref (He.ga K "Impossible"))
  g_TooMany : mg "TooMany" = some (.ref (He.ga K "TooMany"))
  g_Nothing : mg "Nothing" = some (.ref (He.ga K "Nothing"))
  g_BadText : mg "BadText" = some (.ref (He.ga K "BadText"))
  g_BadLine : mg "BadLine" = some (.ref (He.ga K "BadLine"))
  g_Skin : mg "Skin" = some (.ref (He.ga K "Skin"))
  g_Sheet : mg "Sheet" = some (.ref (He.ga K "Sheet"))
  g_Rim : mg "Rim" = some (.ref (He.ga K "Rim"))
  g_Nesting : mg "Nesting" = some (.ref (He.ga K "Nesting"))
  g_KINDS : mg "KINDS" = some (.ref (He.ga K "KINDS"))
  c_LONGEST_NUMBER : ∃ t, mg "LONGEST_NUMBER" = some (.int 60 t)
  c_MOST_FACES : ∃ t, mg "MOST_FACES" = some (.int 24 t)
  c_MOST_EDGES : ∃ t, mg "MOST_EDGES" = some (.int 50 t)
  n_IndexError : mg "IndexError" = none
  n_KeyError : mg "KeyError" = none
  n_TypeError : mg "TypeError" = none
  n_ValueError : mg "ValueError" = none
  n_abs : mg "abs" = none
  n_all : mg "all" = none
  n_any : mg "any" = none
  n_bool : mg "bool" = none
  n_enumerate : mg "enumerate" = none
  n_int : mg "int" = none
  n_isinstance : mg "isinstance" = none
  n_len : mg "len" = none
  n_list : mg "list" = none
  n_max : mg "max" = none
  n_min : mg "min" = none
  n_range : mg "range" = none
  n_set : mg "set" = none
  n_sorted : mg "sorted" = none
  n_staticmethod : mg "staticmethod" = none
  n_str : mg "str" = none
  n_sum : mg "sum" = none
  n_tuple : mg "tuple" = none
  n_zip : mg "zip" = none
  cl_Skin : Cls K (He.ga K "Skin")
  mk_Skin : Mk K (He.ga K "Skin") (He.ma K (He.ga K "Skin") "__init__")
  mk_Rim : Mk K (He.ga K "Rim") (He.ma K (He.ga K "Rim") "__init__")
  mk_Nesting : Mk K (He.ga K "Nesting") (He.ma K (He.ga K "Nesting") "__init__")
  no_Skin_kind : NoAttr K (He.ga K "Skin") "kind"
  no_Skin_faces : NoAttr K (He.ga K "Skin") "faces"
  no_Skin_turn : NoAttr K (He.ga K "Skin") "turn"
  no_Skin_full : NoAttr K (He.ga K "Skin") "full"
  no_Skin_sides : NoAttr K (He.ga K "Skin") "sides"
  no_Skin_seams : NoAttr K (He.ga K "Skin") "seams"
  no_Skin_mates : NoAttr K (He.ga K "Skin") "mates"
  no_Skin_nexts : NoAttr K (He.ga K "Skin") "nexts"
  no_Skin_backs : NoAttr K (He.ga K "Skin") "backs"
  no_Skin_free : NoAttr K (He.ga K "Skin") "free"
  me_Skin_need_side : Meth K (He.ga K "Skin") "need_side" (He.ma K (He.ga K "Skin") "need_side")
  me_Skin_face : Meth K (He.ga K "Skin") "face" (He.ma K (He.ga K "Skin") "face")
  ex_BadKind : PySem.W.exmOne K (.ref (He.ga K "BadKind")) (.ref (He.ga K "SewError")) = some true
  ex_BadSkin : PySem.W.exmOne K (.ref (He.ga K "BadSkin")) (.ref (He.ga K "SewError")) = some true
  ex_BadRim : PySem.W.exmOne K (.ref (He.ga K "BadRim")) (.ref (He.ga K "SewError")) = some true
  ex_Crossing : PySem.W.exmOne K (.ref (He.ga K "Crossing")) (.ref (He.ga K "SewError")) = some true
  ex_Twice : PySem.W.exmOne K (.ref (He.ga K "Twice")) (.ref (He.ga K "SewError")) = some true
  ex_TooMany : PySem.W.exmOne K (.ref (He.ga K "TooMany")) (.ref (He.ga K "SewError")) = some true
  ex_NoSide : PySem.W.exmOne K (.ref (He.ga K "NoSide")) (.ref (He.ga K "SewError")) = some true
  ex_BadText : PySem.W.exmOne K (.ref (He.ga K "BadText")) (.ref (He.ga K "SewError")) = some true
  kinds : ∀ H, SqT K H (He.ga K "KINDS") [.str "square", .str "triangle"]
  dfl : ∃ od n sl, K.lookup (dflA K) = some ⟨.type "tuple", od, .seq #[] n, sl⟩
  kits : kitAll K = true
  exn : excIn0 K = true
  er_BadKind : ErrC K "BadKind" ["part"]
  er_BadSkin : ErrC K "BadSkin" ["part"]
  er_BadSheet : ErrC K "BadSheet" ["part"]
  er_BadCells : ErrC K "BadCells" ["part"]
  er_BadRim : ErrC K "BadRim" ["part"]
  er_BadNesting : ErrC K "BadNesting" ["part"]
  er_BadSaying : ErrC K "BadSaying" ["part"]
  er_BadBook : ErrC K "BadBook" ["part"]
  er_BadBody : ErrC K "BadBody" ["part"]
  er_BadCut : ErrC K "BadCut" ["part"]
  er_BadNumber : ErrC K "BadNumber" ["part"]
  er_BadPaper : ErrC K "BadPaper" ["part"]
  er_BadDesk : ErrC K "BadDesk" ["part"]
  er_Misfit : ErrC K "Misfit" ["part"]
  er_NoSide : ErrC K "NoSide" ["value"]
  er_NoFace : ErrC K "NoFace" ["value"]
  er_NoEdge : ErrC K "NoEdge" ["value"]
  er_NoCorner : ErrC K "NoCorner" ["value"]
  er_NoPlace : ErrC K "NoPlace" ["value"]
  er_NoFact : ErrC K "NoFact" ["value"]
  er_NoName : ErrC K "NoName" ["value"]
  er_Missing : ErrC K "Missing" ["value"]
  er_Twice : ErrC K "Twice" ["value"]
  er_Crossing : ErrC K "Crossing" ["one", "other"]
  er_TooMuch : ErrC K "TooMuch" ["corner"]
  er_Impossible : ErrC K "Impossible" ["paper"]
  er_TooMany : ErrC K "TooMany" ["what", "most"]
  er_BadText : ErrC K "BadText" ["line", "word"]
  er_BadLine : ErrC K "BadLine" ["line", "error"]
  ih_NoSide : He.ma K (He.ga K "NoSide") "__init__" = He.ma K (He.ga K "Missing") "__init__"
  ih_NoFace : He.ma K (He.ga K "NoFace") "__init__" = He.ma K (He.ga K "Missing") "__init__"
  ih_NoEdge : He.ma K (He.ga K "NoEdge") "__init__" = He.ma K (He.ga K "Missing") "__init__"
  ih_NoCorner : He.ma K (He.ga K "NoCorner") "__init__" = He.ma K (He.ga K "Missing") "__init__"
  ih_NoPlace : He.ma K (He.ga K "NoPlace") "__init__" = He.ma K (He.ga K "Missing") "__init__"
  ih_NoFact : He.ma K (He.ga K "NoFact") "__init__" = He.ma K (He.ga K "Missing") "__init__"
  ih_NoName : He.ma K (He.ga K "NoName") "__init__" = He.ma K (He.ga K "Missing") "__init__"
  sm_Rim_read : SmC K (He.ga K "Rim") (He5.wf K (He.ga K "Rim") "staticmethod" "read") "read"
def exl (K : PySem.W.Frag) : List Bool := [He.tupB K "KINDS" [.str "square", .str "triangle"], dfl0 K, kitAll K, excIn0 K, errB K "BadKind" ["part"], errB K "BadSkin" ["part"], errB K "BadSheet" ["part"], errB K "BadCells" ["part"], errB K "BadRim" ["part"], errB K "BadNesting" ["part"], errB K "BadSaying" ["part"], errB K "BadBook" ["part"], errB K "BadBody" ["part"], errB K "BadCut" ["part"], errB K "BadNumber" ["part"], errB K "BadPaper" ["part"], errB K "BadDesk" ["part"], errB K "Misfit" ["part"], errB K "NoSide" ["value"], errB K "NoFace" ["value"], errB K "NoEdge" ["value"], errB K "NoCorner" ["value"], errB K "NoPlace" ["value"], errB K "NoFact" ["value"], errB K "NoName" ["value"], errB K "Missing" ["value"], errB K "Twice" ["value"], errB K "Crossing" ["one", "other"], errB K "TooMuch" ["corner"], errB K "Impossible" ["paper"], errB K "TooMany" ["what", "most"], errB K "BadText" ["line", "word"], errB K "BadLine" ["line", "error"], inhB K "NoSide", inhB K "NoFace", inhB K "NoEdge", inhB K "NoCorner", inhB K "NoPlace", inhB K "NoFact", inhB K "NoName", smB K "Rim" "read"]
theorem exx {K : PySem.W.Frag} (h : ex K = true) {i : Nat} {b : Bool} (e : (exl K)[i]? = some b) : b = true := List.all_eq_true.mp (show (exl K).all id = true from h) b (List.mem_of_getElem? e)
theorem txt_of {w : World} {K : PySem.W.Frag} {h : Heap} {mg : Str → Option Value} (X : K.In h) (G : h.Ns mainGlobals mg) (c : He.SaysX fa fn [] tf ex w h K) : Txt K mg :=
  ⟨He.glo_ok X G (c.t.d.fact 1 (f := .glo "SewError") rfl),
   He.glo_ok X G (c.t.d.fact 2 (f := .glo "BadKind") rfl),
   He.glo_ok X G (c.t.d.fact 3 (f := .glo "BadSkin") rfl),
   He.glo_ok X G (c.t.d.fact 4 (f := .glo "BadSheet") rfl),
   He.glo_ok X G (c.t.d.fact 5 (f := .glo "BadCells") rfl),
   He.glo_ok X G (c.t.d.fact 6 (f := .glo "BadRim") rfl),
   He.glo_ok X G (c.t.d.fact 7 (f := .glo "BadNesting") rfl),
   He.glo_ok X G (c.t.d.fact 8 (f := .glo "BadSaying") rfl),
   He.glo_ok X G (c.t.d.fact 9 (f := .glo "BadBook") rfl),
   He.glo_ok X G (c.t.d.fact 10 (f := .glo "BadBody") rfl),
   He.glo_ok X G (c.t.d.fact 11 (f := .glo "BadCut") rfl),
   He.glo_ok X G (c.t.d.fact 12 (f := .glo "BadNumber") rfl),
   He.glo_ok X G (c.t.d.fact 13 (f := .glo "BadPaper") rfl),
   He.glo_ok X G (c.t.d.fact 14 (f := .glo "BadDesk") rfl),
   He.glo_ok X G (c.t.d.fact 15 (f := .glo "Misfit") rfl),
   He.glo_ok X G (c.t.d.fact 16 (f := .glo "Missing") rfl),
   He.glo_ok X G (c.t.d.fact 17 (f := .glo "NoSide") rfl),
   He.glo_ok X G (c.t.d.fact 18 (f := .glo "NoFace") rfl),
   He.glo_ok X G (c.t.d.fact 19 (f := .glo "NoEdge") rfl),
   He.glo_ok X G (c.t.d.fact 20 (f := .glo "NoCorner") rfl),
   He.glo_ok X G (c.t.d.fact 21 (f := .glo "NoPlace") rfl),
   He.glo_ok X G (c.t.d.fact 22 (f := .glo "NoFact") rfl),
   He.glo_ok X G (c.t.d.fact 23 (f := .glo "NoName") rfl),
   He.glo_ok X G (c.t.d.fact 24 (f := .glo "Twice") rfl),
   He.glo_ok X G (c.t.d.fact 25 (f := .glo "Crossing") rfl),
   He.glo_ok X G (c.t.d.fact 26 (f := .glo "TooMuch") rfl),
   He.glo_ok X G (c.t.d.fact 27 (f := .glo "Impossible") rfl),
   He.glo_ok X G (c.t.d.fact 28 (f := .glo "TooMany") rfl),
   He.glo_ok X G (c.t.d.fact 29 (f := .glo "Nothing") rfl),
   He.glo_ok X G (c.t.d.fact 30 (f := .glo "BadText") rfl),
   He.glo_ok X G (c.t.d.fact 31 (f := .glo "BadLine") rfl),
   He.glo_ok X G (c.t.d.fact 50 (f := .glo "Skin") rfl),
   He.glo_ok X G (c.t.d.fact 62 (f := .glo "Sheet") rfl),
   He.glo_ok X G (c.t.d.fact 64 (f := .glo "Rim") rfl),
   He.glo_ok X G (c.t.d.fact 69 (f := .glo "Nesting") rfl),
   He.glo_ok X G (c.t.d.fact 90 (f := .glo "KINDS") rfl),
   He.int_ok X G (c.t.d.fact 91 (f := .int "LONGEST_NUMBER" 60) rfl),
   He.int_ok X G (c.t.d.fact 92 (f := .int "MOST_FACES" 24) rfl),
   He.int_ok X G (c.t.d.fact 93 (f := .int "MOST_EDGES" 50) rfl),
   He.free_ok X G (c.t.d.fact 94 (f := .free "IndexError") rfl),
   He.free_ok X G (c.t.d.fact 95 (f := .free "KeyError") rfl),
   He.free_ok X G (c.t.d.fact 96 (f := .free "TypeError") rfl),
   He.free_ok X G (c.t.d.fact 97 (f := .free "ValueError") rfl),
   He.free_ok X G (c.t.d.fact 98 (f := .free "abs") rfl),
   He.free_ok X G (c.t.d.fact 99 (f := .free "all") rfl),
   He.free_ok X G (c.t.d.fact 100 (f := .free "any") rfl),
   He.free_ok X G (c.t.d.fact 101 (f := .free "bool") rfl),
   He.free_ok X G (c.t.d.fact 102 (f := .free "enumerate") rfl),
   He.free_ok X G (c.t.d.fact 103 (f := .free "int") rfl),
   He.free_ok X G (c.t.d.fact 104 (f := .free "isinstance") rfl),
   He.free_ok X G (c.t.d.fact 105 (f := .free "len") rfl),
   He.free_ok X G (c.t.d.fact 106 (f := .free "list") rfl),
   He.free_ok X G (c.t.d.fact 107 (f := .free "max") rfl),
   He.free_ok X G (c.t.d.fact 108 (f := .free "min") rfl),
   He.free_ok X G (c.t.d.fact 109 (f := .free "range") rfl),
   He.free_ok X G (c.t.d.fact 110 (f := .free "set") rfl),
   He.free_ok X G (c.t.d.fact 111 (f := .free "sorted") rfl),
   He.free_ok X G (c.t.d.fact 112 (f := .free "staticmethod") rfl),
   He.free_ok X G (c.t.d.fact 113 (f := .free "str") rfl),
   He.free_ok X G (c.t.d.fact 114 (f := .free "sum") rfl),
   He.free_ok X G (c.t.d.fact 115 (f := .free "tuple") rfl),
   He.free_ok X G (c.t.d.fact 116 (f := .free "zip") rfl),
   He.cls_ok (c.t.d.fact 117 (f := .cls "Skin") rfl),
   He.mkr_ok (c.t.d.fact 118 (f := .mkr "Skin") rfl),
   He.mkr_ok (c.t.d.fact 119 (f := .mkr "Rim") rfl),
   He.mkr_ok (c.t.d.fact 120 (f := .mkr "Nesting") rfl),
   He.noat_ok (c.t.d.fact 121 (f := .noat "Skin" "kind") rfl),
   He.noat_ok (c.t.d.fact 122 (f := .noat "Skin" "faces") rfl),
   He.noat_ok (c.t.d.fact 123 (f := .noat "Skin" "turn") rfl),
   He.noat_ok (c.t.d.fact 124 (f := .noat "Skin" "full") rfl),
   He.noat_ok (c.t.d.fact 125 (f := .noat "Skin" "sides") rfl),
   He.noat_ok (c.t.d.fact 126 (f := .noat "Skin" "seams") rfl),
   He.noat_ok (c.t.d.fact 127 (f := .noat "Skin" "mates") rfl),
   He.noat_ok (c.t.d.fact 128 (f := .noat "Skin" "nexts") rfl),
   He.noat_ok (c.t.d.fact 129 (f := .noat "Skin" "backs") rfl),
   He.noat_ok (c.t.d.fact 130 (f := .noat "Skin" "free") rfl),
   He.meth_ok (c.t.d.fact 131 (f := .meth "Skin" "need_side") rfl),
   He.meth_ok (c.t.d.fact 132 (f := .meth "Skin" "face") rfl),
   He.exm_ok (c.t.d.fact 133 (f := .exm "BadKind" "SewError" true) rfl),
   He.exm_ok (c.t.d.fact 134 (f := .exm "BadSkin" "SewError" true) rfl),
   He.exm_ok (c.t.d.fact 135 (f := .exm "BadRim" "SewError" true) rfl),
   He.exm_ok (c.t.d.fact 136 (f := .exm "Crossing" "SewError" true) rfl),
   He.exm_ok (c.t.d.fact 137 (f := .exm "Twice" "SewError" true) rfl),
   He.exm_ok (c.t.d.fact 138 (f := .exm "TooMany" "SewError" true) rfl),
   He.exm_ok (c.t.d.fact 139 (f := .exm "NoSide" "SewError" true) rfl),
   He.exm_ok (c.t.d.fact 140 (f := .exm "BadText" "SewError" true) rfl),
   fun H => He.tupB_ok (exx c.more (i := 0) rfl) H,
   dfl0_ok (exx c.more (i := 1) rfl),
   exx c.more (i := 2) rfl,
   exx c.more (i := 3) rfl,
   errC_of (exx c.more (i := 4) rfl),
   errC_of (exx c.more (i := 5) rfl),
   errC_of (exx c.more (i := 6) rfl),
   errC_of (exx c.more (i := 7) rfl),
   errC_of (exx c.more (i := 8) rfl),
   errC_of (exx c.more (i := 9) rfl),
   errC_of (exx c.more (i := 10) rfl),
   errC_of (exx c.more (i := 11) rfl),
   errC_of (exx c.more (i := 12) rfl),
   errC_of (exx c.more (i := 13) rfl),
   errC_of (exx c.more (i := 14) rfl),
   errC_of (exx c.more (i := 15) rfl),
   errC_of (exx c.more (i := 16) rfl),
   errC_of (exx c.more (i := 17) rfl),
   errC_of (exx c.more (i := 18) rfl),
   errC_of (exx c.more (i := 19) rfl),
   errC_of (exx c.more (i := 20) rfl),
   errC_of (exx c.more (i := 21) rfl),
   errC_of (exx c.more (i := 22) rfl),
   errC_of (exx c.more (i := 23) rfl),
   errC_of (exx c.more (i := 24) rfl),
   errC_of (exx c.more (i := 25) rfl),
   errC_of (exx c.more (i := 26) rfl),
   errC_of (exx c.more (i := 27) rfl),
   errC_of (exx c.more (i := 28) rfl),
   errC_of (exx c.more (i := 29) rfl),
   errC_of (exx c.more (i := 30) rfl),
   errC_of (exx c.more (i := 31) rfl),
   errC_of (exx c.more (i := 32) rfl),
   of_decide_eq_true (exx c.more (i := 33) rfl),
   of_decide_eq_true (exx c.more (i := 34) rfl),
   of_decide_eq_true (exx c.more (i := 35) rfl),
   of_decide_eq_true (exx c.more (i := 36) rfl),
   of_decide_eq_true (exx c.more (i := 37) rfl),
   of_decide_eq_true (exx c.more (i := 38) rfl),
   of_decide_eq_true (exx c.more (i := 39) rfl),
   smC_of (exx c.more (i := 40) rfl)⟩
end K00

namespace K00
open PySem PySem.W
open_shared top for (PySem.Challenge.pw_rimsewn_k00_errors_keep_their_fields) leaving 71
end K00

namespace Vf
open PySem PySem.W PySem.Calls PyProof.Rows HandSHeadRun
theorem left_mid {p q : Program} {loose : List Str} {Xt : Shared → Bool} {α : Type} {Yf : Shared → α} {Ya : World → α} {N M T n0 : Nat} {ann : Option Value} {mid : World → OsState → SharedT} {th : Thread}
    (e : opening p = plainProg p.main.scope.names) (hN : Nat.ble 600 N = true) (f : ∀ s, fenceModules? p s = some s) (le : Nat.ble T N = true)
    (sz : ∀ w : World, ((boot_heap w.params).objs.size, bootAnn w) = (n0, ann))
    (pre : ∀ (w : World) (os : OsState) (r : Shared), topRun treeTable p w n0 ann M (mid w os).abs th = some r → topRun treeTable p w n0 ann T ⟨boot_heap w.params, #[], boot_drawn, boot_toks, os⟩ (topStub p) = some r)
    (run : ∀ (w : World) (os : OsState), (goF (stepT (denote treeTable) p w) n0 ann M (mid w os) th).map (fun s => (looksF p (boot_heap w.params) s.abs, openSeen q loose (importedModules p.main.body) Xt true s.abs, Yf s.abs)) = some (true, openGood q loose, Ya w)) :
    LeftO p q loose Xt Yf Ya N true := fun w => by
  obtain ⟨⟨h, gs, d, k, os⟩, a, a'⟩ := Option.map_eq_some_iff.mp (boot_open e hN f w)
  obtain ⟨rfl, rfl, rfl, rfl⟩ : h = boot_heap w.params ∧ gs = Array.mk [] ∧ d = boot_drawn ∧ k = boot_toks := by simpa using a'
  obtain ⟨s, hs, hv⟩ := Option.map_eq_some_iff.mp (run w os)
  obtain ⟨l1, l2, l3⟩ : _ ∧ _ ∧ _ := by simpa only [Prod.mk.injEq] using hv
  obtain ⟨rfl, rfl⟩ := Prod.mk.inj (sz w)
  have r := topRun_mono (N - T) _ _ _ _ (pre w os _ (goF_ok hs))
  rw [show T + (N - T) = N by have := Nat.le_of_ble_eq_true le; omega] at r
  have l1' : (staticsOk (importedModules p.main.body) (boot_heap w.params) s.abs.heap && namesBound p s.abs.heap && gensDone s.abs && laidKept (boot_heap w.params) s.abs.heap) = true := l1
  have t : topFrom treeTable p w N ⟨boot_heap w.params, Array.mk [], boot_drawn, boot_toks, os⟩ = some s.abs := by
    unfold topFrom
    dsimp only
    rw [boot_ns]
    show (topRun treeTable p w (boot_heap w.params).objs.size (bootAnn w) N ⟨boot_heap w.params, #[], boot_drawn, boot_toks, os⟩ (topStub p)).bind _ = _
    rw [r]
    show (match staticsOk (importedModules p.main.body) (boot_heap w.params) s.abs.heap && namesBound p s.abs.heap && gensDone s.abs && laidKept (boot_heap w.params) s.abs.heap with | true => some s.abs | false => none) = _
    rw [l1']
  unfold openEnds
  rw [a]
  show (topFrom treeTable p w N _).map _ = _
  rw [t]
  exact congrArg some (Prod.ext l2 l3)
end Vf

namespace K00
open PySem PySem.W PySem.Calls PyProof.Rows HandSHeadRun

@[reducible] noncomputable def PRG := PySem.Challenge.pw_rimsewn_k00_errors_keep_their_fields
@[reducible] noncomputable def bdE : List Stmt := behindTheImports PRG
@[reducible] noncomputable def cdE : Code := Code.body bdE K00.top.env_1
@[reducible] noncomputable def zP : Pos := ⟨0, 0, 0, 0⟩
noncomputable def startB (w : World) (os : OsState) : SharedT := ⟨K00.top.tree_4 w.params, 15, {}, Array.mk [], {}, 187, os⟩
noncomputable def midS (w : World) (os : OsState) : SharedT := ⟨K00.top.tree_660 w.params, 549, {}, Array.mk [], {}, 900, os⟩
noncomputable def midTh : Thread := restOf (bdE.drop 33) K00.top.env_1 cdE ⟨110, 0, 114, 26⟩ [topFrame zP]
theorem pre_go (w : World) (os : OsState) : topGo treeTable PRG w 11 (some (.ref 6)) 12 ⟨boot_heap w.params, #[], boot_drawn, boot_toks, os⟩ (topStub PRG) = some ((startB w os).abs, ⟨denote treeTable cdE, cdE, zP, [topFrame zP]⟩) := by kernel_rfl
theorem pre_blk (w : World) (os : OsState) : segRun treeTable PRG w 11 (some (.ref 6)) 1 1 (startB w os).abs (blockOf bdE K00.top.env_1 cdE zP [topFrame zP]) = some (.next, (startB w os).abs, cdE, zP) := by kernel_rfl
theorem body_eq : K00.top.sts_4 ++ (K00.top.sts_28 ++ (K00.top.sts_51 ++ (K00.top.sts_74 ++ (K00.top.sts_97 ++ (K00.top.sts_120 ++ (K00.top.sts_143 ++ (K00.top.sts_166 ++ (K00.top.sts_189 ++ (K00.top.sts_212 ++ (K00.top.sts_235 ++ (K00.top.sts_258 ++ (K00.top.sts_281 ++ (K00.top.sts_304 ++ (K00.top.sts_327 ++ (K00.top.sts_350 ++ (K00.top.sts_373 ++ (K00.top.sts_389 ++ (K00.top.sts_405 ++ (K00.top.sts_421 ++ (K00.top.sts_437 ++ (K00.top.sts_453 ++ (K00.top.sts_469 ++ (K00.top.sts_485 ++ (K00.top.sts_508 ++ (K00.top.sts_531 ++ (K00.top.sts_554 ++ (K00.top.sts_577 ++ (K00.top.sts_600 ++ (K00.top.sts_616 ++ (K00.top.sts_639 ++ ((bdE.drop 33)))))))))))))))))))))))))))))))) = bdE := by kernel_rfl
theorem pre_sz (w : World) : ((boot_heap w.params).objs.size, bootAnn w) = (11, some (.ref 6)) := by kernel_rfl
theorem pre_all (w : World) (os : OsState) (r : Shared) (h : topRun treeTable PRG w 11 (some (.ref 6)) 4600 (midS w os).abs midTh = some r) :
    topRun treeTable PRG w 11 (some (.ref 6)) 12068 ⟨boot_heap w.params, #[], boot_drawn, boot_toks, os⟩ (topStub PRG) = some r := by
  have z := K00.top.chain PRG bdE w os (bdE.drop 33) 4600 r h
  rw [body_eq] at z
  exact go_top (pre_go w os) (piece_block (pre_blk w os) z)
end K00

namespace K00
open PySem PySem.Spec PyProof.Rows L2 Vf LamX
def adrs : List Nat := [3, 6, 4, 21, 31, 51, 70, 89, 108, 127, 146, 165, 184, 203, 222, 241, 260, 279, 298, 317, 329, 341, 353, 365, 377, 389, 401, 420, 439, 458, 477, 496, 508, 527, 546, 549, 556, 563, 570, 577, 584, 591, 598, 603, 610, 617, 624, 631, 638, 645, 650, 655, 662, 667, 764, 775, 780, 787, 794, 801, 808, 815, 820, 825, 832, 837, 921, 932, 1000, 1011, 1016, 1023, 1030, 1095, 1104, 1109, 1116, 1121, 1126, 1133, 1140, 1147, 1154, 1161, 1166, 1173, 1180, 1187, 1194, 1201, 1208, 1215, 1222, 1229, 0, 20, 30, 50, 69, 88, 107, 126, 145, 164, 183, 202, 221, 240, 259, 278, 297, 316, 328, 340, 352, 364, 376, 388, 400, 419, 438, 457, 476, 495, 507, 526, 545, 555, 562, 569, 576, 583, 590, 597, 602, 609, 616, 623, 630, 637, 644, 649, 654, 661, 666, 763, 774, 779, 786, 793, 800, 807, 814, 819, 824, 831, 836, 920, 931, 999, 1010, 1015, 1022, 1029, 1094, 1103, 1108, 1115, 1120, 1125, 1132, 1139, 1146, 1153, 1160, 1165, 1172, 1179, 1186, 1193, 1200, 1207, 1214, 1221, 1228, 15, 16, 17, 18, 19, 29, 32, 48, 49, 67, 68, 86, 87, 105, 106, 124, 125, 143, 144, 162, 163, 181, 182, 200, 201, 219, 220, 238, 239, 257, 258, 276, 277, 295, 296, 314, 315, 327, 339, 351, 363, 375, 387, 399, 417, 418, 436, 437, 455, 456, 474, 475, 493, 494, 506, 524, 525, 543, 544, 550, 551, 552, 553, 554, 557, 558, 559, 560, 561, 564, 565, 566, 567, 568, 571, 572, 573, 574, 575, 578, 579, 580, 581, 582, 585, 586, 587, 588, 589, 592, 593, 594, 595, 596, 599, 600, 601, 604, 605, 606, 607, 608, 611, 612, 613, 614, 615, 618, 619, 620, 621, 622, 625, 626, 627, 628, 629, 632, 633, 634, 635, 636, 639, 640, 641, 642, 643, 646, 647, 648, 651, 652, 653, 656, 657, 658, 659, 660, 663, 664, 665, 681, 688, 695, 702, 709, 716, 723, 730, 737, 744, 751, 760, 762, 765, 766, 769, 770, 771, 772, 773, 776, 777, 778, 781, 782, 783, 784, 785, 788, 789, 790, 791, 792, 795, 796, 797, 798, 799, 802, 803, 804, 805, 806, 809, 810, 811, 812, 813, 816, 817, 818, 821, 822, 823, 826, 827, 828, 829, 830, 833, 834, 835, 849, 856, 865, 873, 880, 887, 894, 901, 908, 917, 919, 922, 923, 926, 927, 928, 929, 930, 946, 953, 962, 970, 977, 984, 989, 996, 998, 1001, 1002, 1005, 1006, 1007, 1008, 1009, 1012, 1013, 1014, 1017, 1018, 1019, 1020, 1021, 1024, 1025, 1026, 1027, 1028, 1042, 1049, 1056, 1063, 1070, 1077, 1082, 1091, 1093, 1096, 1097, 1100, 1101, 1102, 1105, 1106, 1107, 1110, 1111, 1112, 1113, 1114, 1117, 1118, 1119, 1122, 1123, 1124, 1127, 1128, 1129, 1130, 1131, 1134, 1135, 1136, 1137, 1138, 1141, 1142, 1143, 1144, 1145, 1148, 1149, 1150, 1151, 1152, 1155, 1156, 1157, 1158, 1159, 1162, 1163, 1164, 1167, 1168, 1169, 1170, 1171, 1174, 1175, 1176, 1177, 1178, 1181, 1182, 1183, 1184, 1185, 1188, 1189, 1190, 1191, 1192, 1195, 1196, 1197, 1198, 1199, 1202, 1203, 1204, 1205, 1206, 1209, 1210, 1211, 1212, 1213, 1216, 1217, 1218, 1219, 1220, 1223, 1224, 1225, 1226, 1227, 47, 66, 85, 104, 123, 142, 161, 180, 199, 218, 237, 256, 275, 294, 313, 416, 435, 454, 473, 492, 523, 542, 680, 676, 687, 694, 701, 708, 715, 722, 729, 736, 743, 750, 758, 759, 848, 855, 863, 864, 872, 879, 886, 893, 900, 907, 915, 916, 945, 952, 960, 961, 969, 976, 983, 988, 994, 995, 1041, 1048, 1055, 1062, 1069, 1076, 1081, 1089, 1090, 42, 43, 44, 45, 46, 61, 62, 63, 64, 65, 80, 81, 82, 83, 84, 99, 100, 101, 102, 103, 118, 119, 120, 121, 122, 137, 138, 139, 140, 141, 156, 157, 158, 159, 160, 175, 176, 177, 178, 179, 194, 195, 196, 197, 198, 213, 214, 215, 216, 217, 232, 233, 234, 235, 236, 251, 252, 253, 254, 255, 270, 271, 272, 273, 274, 289, 290, 291, 292, 293, 308, 309, 310, 311, 312, 411, 412, 413, 414, 415, 430, 431, 432, 433, 434, 449, 450, 451, 452, 453, 468, 469, 470, 471, 472, 487, 488, 489, 490, 491, 518, 519, 520, 521, 522, 537, 538, 539, 540, 541, 677, 678, 679, 675, 682, 683, 684, 685, 686, 689, 690, 691, 692, 693, 696, 697, 698, 699, 700, 703, 704, 705, 706, 707, 710, 711, 712, 713, 714, 717, 718, 719, 720, 721, 724, 725, 726, 727, 728, 731, 732, 733, 734, 735, 738, 739, 740, 741, 742, 745, 746, 747, 748, 749, 757, 761, 845, 846, 847, 850, 851, 852, 853, 854, 862, 866, 867, 868, 869, 870, 871, 874, 875, 876, 877, 878, 881, 882, 883, 884, 885, 888, 889, 890, 891, 892, 895, 896, 897, 898, 899, 902, 903, 904, 905, 906, 914, 918, 940, 941, 942, 943, 944, 947, 948, 949, 950, 951, 959, 963, 964, 965, 966, 967, 968, 971, 972, 973, 974, 975, 978, 979, 980, 981, 982, 985, 986, 987, 993, 997, 1038, 1039, 1040, 1043, 1044, 1045, 1046, 1047, 1050, 1051, 1052, 1053, 1054, 1057, 1058, 1059, 1060, 1061, 1064, 1065, 1066, 1067, 1068, 1071, 1072, 1073, 1074, 1075, 1078, 1079, 1080, 1088, 1092, 752, 753, 754, 755, 756, 857, 858, 859, 860, 861, 909, 910, 911, 912, 913, 954, 955, 956, 957, 958, 990, 991, 992, 1083, 1084, 1085, 1086, 1087, 2]
theorem saysZ_of {w : World} {h : Heap} {as : List Addr} (e : obsK fa fn [] tf ex sm h.get? (He.frT h.get? as) = valY fn [] sm w) : SaysY fa fn [] tf ex sm w h (He.frT h.get? as) := by
  have tabs : ∀ a o, h.get? a = some o → He.emptyTab o = true → (He.frT h.get? as).lookup a = none := fun a o q z => He.frT_none q z
  generalize He.frT h.get? as = K at e tabs ⊢
  have a1 : He.obsT fa fn [] K = He.valT fn [] w := congrArg (fun z : AlY => z.1.1) e
  have a2 : (ex K && He.tabsB h.get? tf K) = true := congrArg (fun z : AlY => z.1.2) e
  have a3 : (sm.all fun d => d.ok K) = true := congrArg (fun z : AlY => z.2.1) e
  have a4 : (sm.map fun d => He5.fnA K (d.at_ K)) = sm.map He5.DefA.val := congrArg (fun z : AlY => z.2.2) e
  obtain ⟨b1, b2⟩ := He.ba a2
  have each : ∀ p ∈ tf, PySem.W.codeHdIn K (He.cT K p).1 (He.cT K p).2 = true ∧ ∃ o, h.get? (He.cT K p).2 = some o ∧ He.emptyTab o = true := fun p hp => by
    obtain ⟨q1, q2⟩ := He.ba (List.all_eq_true.mp b2 p hp)
    refine ⟨q1, ?_⟩
    cases q : h.get? (He.cT K p).2 with
    | none =>
      rw [q] at q2
      cases q2
    | some o =>
      rw [q] at q2
      exact ⟨o, rfl, q2⟩
  refine ⟨⟨a1, b1, fun p hp => (each p hp).1, fun p hp => ?_, fun p hp => ?_⟩, a3, a4⟩
  · obtain ⟨_, o, q, z⟩ := each p hp
    exact tabs _ o q z
  · obtain ⟨_, o, q, z⟩ := each p hp
    rw [q, He.emptyTab_eq z]

noncomputable def hl : PySem.W.Hook where
  α := AlY
  obs := fun s => obsK fa fn [] tf ex sm s.heap.get? (He.frT s.heap.get? adrs)
  val := fun w => valY fn [] sm w
  says := fun w h => ∃ K : PySem.W.Frag, K.In h ∧ SaysY fa fn [] tf ex sm w h K
  of := fun _ _ e => ⟨_, He.frT_in, saysZ_of e⟩
  keeps := fun _ _ _ ⟨K, hK, c⟩ k => ⟨K, PySem.W.Frag.In.keeps hK k, ⟨⟨c.x.t, c.x.more, c.x.hd, c.x.out, fun p hp => k _ _ (c.x.empty p hp)⟩, c.ok, c.val⟩⟩
noncomputable def obL (s : PySem.W.SharedT) : AlY := obsK fa fn [] tf ex sm (HandSHeadRun.getT s) (He.frT (HandSHeadRun.getT s) adrs)
theorem obL_eq (s : PySem.W.SharedT) : obL s = hl.obs s.abs := by
  show obsK fa fn [] tf ex sm (HandSHeadRun.getT s) (He.frT (HandSHeadRun.getT s) adrs) = obsK fa fn [] tf ex sm s.abs.heap.get? (He.frT s.abs.heap.get? adrs)
  rw [show HandSHeadRun.getT s = s.abs.heap.get? from funext fun a => HandSHeadRun.getT_eq s a]
end K00

namespace K00
open PySem PySem.W PySem.Spec PyProof.Rows L2 Vf HandSHeadRun
theorem runA (w : World) (os : OsState) : (goF (stepQ (denQ tabQ) PRG w) 11 (some (.ref 6)) 4600 (midS w os) midTh).map (fun s => (looksF PRG (boot_heap w.params) s.abs, seenQ (view PRG [103]) loose (importedModules PRG.main.body) (fun s => xlAt (view PRG [103]) [] s && recOk R.toRowW.records s) s.abs)) = some (true, openGood (view PRG [103]) loose) := by
  kernel_rfl
end K00

namespace K00
open PySem PySem.W PySem.Spec PyProof.Rows L2 Vf HandSHeadRun
theorem both {α β γ : Type} {x : Option α} {f : α → β} {g : α → γ} {a : β} {b : γ} (h : x.map f = some a) (k : x.map g = some b) : x.map (fun s => (f s, g s)) = some (a, b) := by
  cases x with
  | none => cases h
  | some s => exact congrArg some (Prod.ext (Option.some.inj h) (Option.some.inj k))
noncomputable def FT (s : SharedT) : PySem.W.Frag := He.frT (HandSHeadRun.getT s) adrs
theorem runB1 (w : World) (os : OsState) : (goF (stepQ (denQ tabQ) PRG w) 11 (some (.ref 6)) 4600 (midS w os) midTh).map (fun s => He.obsT fa fn [] (FT s)) = some (He.valT fn [] w) := by
  kernel_rfl
theorem runB2 (w : World) (os : OsState) : (goF (stepQ (denQ tabQ) PRG w) 11 (some (.ref 6)) 4600 (midS w os) midTh).map (fun s => ((ex (FT s) && He.tabsB (HandSHeadRun.getT s) tf (FT s)), (sm.all fun d => d.ok (FT s)), sm.map fun d => He5.fnA (FT s) (d.at_ (FT s)))) = some (true, true, sm.map He5.DefA.val) := by
  kernel_rfl
theorem runB (w : World) (os : OsState) : (goF (stepQ (denQ tabQ) PRG w) 11 (some (.ref 6)) 4600 (midS w os) midTh).map obL = some (hl.val w) := by
  have z := both (runB1 w os) (runB2 w os)
  cases e : goF (stepQ (denQ tabQ) PRG w) 11 (some (.ref 6)) 4600 (midS w os) midTh with
  | none => rw [e] at z; cases z
  | some s =>
    rw [e] at z
    have z' : (He.obsT fa fn [] (FT s), (ex (FT s) && He.tabsB (HandSHeadRun.getT s) tf (FT s)), (sm.all fun d => d.ok (FT s)), sm.map fun d => He5.fnA (FT s) (d.at_ (FT s))) = (He.valT fn [] w, true, true, sm.map He5.DefA.val) := Option.some.inj z
    obtain ⟨z1, z2⟩ := Prod.mk.inj z'
    obtain ⟨z3, z4⟩ := Prod.mk.inj z2
    exact congrArg some (Prod.ext (Prod.ext z1 z3) z4)
theorem runL (w : World) (os : OsState) : (goF (stepT (denote treeTable) PRG w) 11 (some (.ref 6)) 4600 (midS w os) midTh).map (fun s => (looksF PRG (boot_heap w.params) s.abs, openSeen (view PRG [103]) loose (importedModules PRG.main.body) (fun s => xlAt (view PRG [103]) [] s && recOk R.toRowW.records s) true s.abs, hl.obs s.abs)) = some (true, openGood (view PRG [103]) loose, hl.val w) := by
  have z := both (runA w os) (runB w os)
  rw [← stepQ_eq, ← denQ_eq, ← tabQ_eq] at z
  cases e : goF (stepT (denote treeTable) PRG w) 11 (some (.ref 6)) 4600 (midS w os) midTh with
  | none => rw [e] at z; cases z
  | some s =>
    rw [e] at z
    have z' : ((looksF PRG (boot_heap w.params) s.abs, seenQ (view PRG [103]) loose (importedModules PRG.main.body) (fun s => xlAt (view PRG [103]) [] s && recOk R.toRowW.records s) s.abs), obL s) = ((true, openGood (view PRG [103]) loose), hl.val w) := Option.some.inj z
    obtain ⟨z1, z2⟩ := Prod.mk.inj z'
    obtain ⟨z3, z4⟩ := Prod.mk.inj z1
    exact congrArg some (Prod.ext z3 (Prod.ext ((seenQ_eq _ _ _ _ _).trans z4) ((obL_eq s).symm.trans z2)))
theorem leftL : LeftO R.prog (view R.prog [103]) loose (fun s => xlAt (view R.prog [103]) [] s && recOk R.toRowW.records s) hl.obs hl.val 20000 true :=
  left_mid (p := PRG) (by kernel_rfl) (by decide) (fun s => by kernel_rfl) (by decide) pre_sz pre_all runL
end K00
namespace Vf
open PySem PySem.W PySem.Calls PyProof.Rows HandSHeadRun
theorem head_left {r : OpenRow} {q : Program} {H : Hook} {N : Nat} {loose : List PySem.Str} {d : DefRec} {kwd : List (PySem.Str × PySem.Expr)}
    (left : LeftO r.prog q loose (fun s => xlAt q [] s && recOk r.toRowW.records s) H.obs H.val N true)
    (hdef : defOf q r.name = some (d, kwd)) (hp : r.prog.theDef r.name = some (d.params, d.body, d.scope)) (hk : kwWritten? d.params.kwonlyargs d.params.kw_defaults = some kwd)
    (hwr : (!r.writes || r.records.isEmpty) = true) (k1 : r.wellSaid = true) (ok : (chainsOk q && opensWell r.prog && (frees r.toRowW && r.within.isEmpty)) = true) (hb : r.prog.bare) (hw : r.toRowW.promised)
    (call : WalkO q loose (XL q []) H.says r.toRowW d kwd fun f vs => PySem.call f vs) : r.Holds :=
  holds_open (r := r) (q := q) (loose := loose) (XP := XL q []) (YP := H.says) (d := d) (kwd := kwd) left H.of H.keeps (fun s z => xl_of s (Bool.and_eq_true_iff.mp z).1) XL.keeps hdef hp hk (fun s z => recFacts_of (Bool.and_eq_true_iff.mp z).2) hwr k1 ok hb hw call
end Vf

namespace Vf
open PySem PySem.Spec PyProof.Rows L2
/-! ### min, max of a tuple of two ints; str of an own object -/
section
variable {X : Cx}
theorem alike_two {i j : Int} : PySem.W.AlikeAll [.int i, .int j] := by
  refine ⟨fun x hx y hy => ?_, fun x hx => ?_⟩
  · simp only [List.mem_cons, List.not_mem_nil, or_false] at hx hy
    rcases hx with rfl | rfl <;> rcases hy with rfl | rfl <;> simp [PySem.W.alike]
  · simp only [List.mem_cons, List.not_mem_nil, or_false] at hx
    rcases hx with rfl | rfl <;> exact fun z => nomatch z
theorem depth_two {i j : Int} : PyData.depthAll [.int i, .int j] ≤ 2 := by simp [PyData.depthAll, PyData.depth]
theorem lt_ints {i j : Int} : PySem.W.dataLt (.int i) (.int j) = decide (i < j) := by
  unfold PySem.W.dataLt
  simp [PySem.W.keyToks, PyProof.Rows.lexLt]
  rfl
def rMinT (K : PySem.W.Frag) : List V → Hp → VK → Prop := fun vs H Q => ∃ (a : Addr) (i j : Int), vs = [.ref a] ∧ SqT K H a [.int i, .int j] ∧ Q (.int (if j < i then j else i)) H
def rMaxT (K : PySem.W.Frag) : List V → Hp → VK → Prop := fun vs H Q => ∃ (a : Addr) (i j : Int), vs = [.ref a] ∧ SqT K H a [.int i, .int j] ∧ Q (.int (if i < j then j else i)) H
theorem cr_minT (hc : X.calm = true) (hu : X.A.units + 64 < cLine) : CallR X (.builtin "min") (rMinT X.K) := by
  intro pins s σ H vs us Q I r h
  obtain ⟨a, i, j, rfl, hs, q⟩ := h
  obtain ⟨its, rv, hl, _⟩ := I.tuple hs
  rw [Vals.ref1 r]
  obtain ⟨u1, u2, rfl, ⟨t1, rfl⟩, ⟨t2, rfl⟩⟩ := vals2 rv
  refine PySem.W.min_tuple_data (as := []) (x := .int i) (xs := [.int j]) (I.ok.hd hc) hl (.cons (.int ..) (.cons (.int ..) .nil)) alike_two (by have := depth_two (i := i) (j := j); omega) fun n v h' tk bs hv hr hk => ?_
  have e : PySem.W.minD (.int i) [.int j] = .int (if j < i then j else i) := by
    show (if PySem.W.dataLt (.int j) (.int i) = true then PyData.int j else PyData.int i) = _
    rw [lt_ints]
    by_cases h : j < i
    · rw [if_pos (decide_eq_true h), if_pos h]
    · rw [if_neg (by simpa using h), if_neg h]
  rw [e] at hr
  cases hr
  exact ⟨.int _, H, I.kept hk, ⟨_, rfl⟩, q⟩
theorem cr_maxT (hc : X.calm = true) (hu : X.A.units + 64 < cLine) : CallR X (.builtin "max") (rMaxT X.K) := by
  intro pins s σ H vs us Q I r h
  obtain ⟨a, i, j, rfl, hs, q⟩ := h
  obtain ⟨its, rv, hl, _⟩ := I.tuple hs
  rw [Vals.ref1 r]
  obtain ⟨u1, u2, rfl, ⟨t1, rfl⟩, ⟨t2, rfl⟩⟩ := vals2 rv
  refine PySem.W.max_tuple_data (as := []) (x := .int i) (xs := [.int j]) (I.ok.hd hc) hl (.cons (.int ..) (.cons (.int ..) .nil)) alike_two (by have := depth_two (i := i) (j := j); omega) fun n v h' tk bs hv hr hk => ?_
  have e : PySem.W.maxD (.int i) [.int j] = .int (if i < j then j else i) := by
    show (if PySem.W.dataLt (.int i) (.int j) = true then PyData.int j else PyData.int i) = _
    rw [lt_ints]
    by_cases h : i < j
    · rw [if_pos (decide_eq_true h), if_pos h]
    · rw [if_neg (by simpa using h), if_neg h]
  rw [e] at hr
  cases hr
  exact ⟨.int _, H, I.kept hk, ⟨_, rfl⟩, q⟩
/-- str(o), o's class with its own __str__ -/
def rStrO (C : Addr) (sp : Sp) : List V → Hp → VK → Prop := fun xs H Q => ∃ (a dx : Addr) (fs : List (Str × V)), xs = [.ref a] ∧ H a = some (.ins C dx fs) ∧ sp [.ref a] H (fun v H' => ∃ z, v = .str z ∧ Q (.str z) H') (fun _ _ _ => False)
theorem call_strO {C f : Addr} {k : Nat} {fd : FuncData} {ps : List Str} {sp : Sp} (M : Meth X.K C "__str__" f) (F : FnOk X.prog X.w X.K X.mg X.base CX0 k f fd ps sp) (hb : Binds X.K fd ps []) (hr : Room (k + 2) X.A) : CallR X (.type "str") (rStrO C sp) := by
  intro pins s σ H xs us Q I r h
  obtain ⟨a, dx, fs, rfl, e, h⟩ := h
  rw [Vals.ref1 r]
  obtain ⟨mA, O, _⟩ := ins_get I.hok e
  obtain ⟨od, J, _⟩ := O.look
  have hr2 : Room k X.A.in1.in1 := hr.in1.in1
  refine PySem.W.kso_call hr2.units0 I.kIn J M.at_ M.fn ?_
  have e0 : Env0 X.prog X.w X.K X.mg X.base X.A.in1.in1 X.stack s H := ⟨I.env0.frames, I.env0.mod, I.env0.bs, I.env0.bsz, I.env0.funs, I.env0.frf, I.env0.hok, I.env0.bare⟩
  refine wpAny_call (codeAny_mono (F.run X.A.in1.in1 X.stack s H ⟨[.ref a], []⟩ [.ref a] [.ref a] _ _ hr2 e0 (hb s [.ref a] I.kIn (F.len _ _ _ _ h)) (.cons rfl .nil) h) fun r s' hq => ?_)
  cases r with
  | error e => exact (show False from hq).elim
  | ok fl =>
    cases fl with
    | ret u =>
      obtain ⟨v, H', os, bare, un, hok, rv, z, rfl, q⟩ := hq
      obtain ⟨t, rfl⟩ := rv
      exact I.after ⟨.str z, H', os, bare, un, hok, ⟨t, rfl⟩, q⟩
    | next => exact False.elim hq
    | brk => exact False.elim hq
    | cont => exact False.elim hq
end
/-! ### isinstance of the exception that a suite holds, its fields told -/
def rIsZ (K : PySem.W.Frag) (a : Addr) (cls : Value) (d : Option Addr) : List V → Hp → VK → Prop := fun xs H Q => ∃ (c : V) (u : Value) (D dd : Addr) (fs : List (Str × V)) (b : Bool), xs = [.ref a, c] ∧ ClsV c u ∧ cls = .ref D ∧ d = some dd ∧ H dd = some (.xd fs) ∧ ExcC K D ∧ PySem.W.kitOne K (.ref D) u = some b ∧ Q (.bl b) H
def rIsZT (K : PySem.W.Frag) (a : Addr) (cls : Value) (d : Option Addr) : List V → Hp → VK → Prop := fun xs H Q => ∃ (tp : Addr) (cs : List V) (us : List Value) (D dd : Addr) (fs : List (Str × V)) (b : Bool), xs = [.ref a, .ref tp] ∧ H tp = some (.tup cs) ∧ Paired ClsV cs us ∧ cls = .ref D ∧ d = some dd ∧ H dd = some (.xd fs) ∧ ExcC K D ∧ PySem.W.kitAny K (.ref D) us = some b ∧ Q (.bl b) H
section
variable {X : Cx} {a : Addr} {oe : Obj} {cls : Value} {d : Option Addr} {pn : List (Addr × Obj)}
theorem inst_held {pins : List (Addr × Obj)} {σ : L2.St} {H : Hp} {s : Shared} {D dd : Addr} {fs : List (Str × V)} (hz : Zc cls d oe) (hf : ∃ vs, oe.data = .fields vs) (I : Inv (X.suite a ((a, oe) :: pn)) pins σ H s) (e1 : cls = .ref D) (e2 : d = some dd) (hd : H dd = some (.xd fs)) :
    ∃ o : Obj, PySem.W.InstAt s.heap a oe D (some o) := by
  obtain ⟨hget, _⟩ := I.pin (a, oe) (List.mem_append.mpr (.inl List.mem_cons_self))
  obtain ⟨vs, hv⟩ := hf
  obtain ⟨m, ⟨o, es, ep, ho, _⟩, _⟩ := (show ObjOk _ _ H s.heap dd (.xd fs) from I.hok dd _ hd)
  refine ⟨o, ?_⟩
  obtain ⟨oc, od, oda, osl⟩ := oe
  obtain ⟨h1, h2⟩ := hz
  dsimp only at h1 h2 hv
  subst h1 h2 hv e1 e2
  exact ⟨hget, rfl, rfl, ho⟩
theorem kit_held {K : PySem.W.Frag} {D : Addr} {o : Obj} (C : ExcC K D) : PySem.W.KitX K (.ref a) (.ref D) fun h => PySem.W.InstAt h a oe D (some o) := by
  refine PySem.W.kitx_exc ?_ C.hg C.hk C.hs C.ha C.hn C.ht C.hm
  obtain ⟨cd, hc, _⟩ := PySem.W.any_some C.hd
  rw [hc] <;> rfl
theorem call_isZ (hz : Zc cls d oe) (hf : ∃ vs, oe.data = .fields vs) : CallR (X.suite a ((a, oe) :: pn)) (.builtin "isinstance") (rIsZ X.K a cls d) := by
  intro pins s σ H xs us Q I r h
  obtain ⟨c, u, D, dd, fs, b, rfl, k, e1, e2, hd, C, e, q⟩ := h
  obtain ⟨u1, u2, rfl, r1, r2⟩ := vals2 r
  have e3 := k.eq r2
  subst e3
  cases (show u1 = Value.ref a from r1)
  obtain ⟨o, J⟩ := inst_held hz hf I e1 e2 hd
  exact PySem.W.kia_one (kit_held C) I.kIn J e (fun z => nomatch z) fun tk => ⟨.bl b, H, I.tok tk, rfl, q⟩
theorem call_isZT (hz : Zc cls d oe) (hf : ∃ vs, oe.data = .fields vs) : CallR (X.suite a ((a, oe) :: pn)) (.builtin "isinstance") (rIsZT X.K a cls d) := by
  intro pins s σ H xs us Q I r h
  obtain ⟨tp, cs, ws, D, dd, fs, b, rfl, hT, k, e1, e2, hd, C, e, q⟩ := h
  obtain ⟨u1, u2, rfl, r1, r2⟩ := vals2 r
  cases (show u2 = Value.ref tp from r2)
  cases (show u1 = Value.ref a from r1)
  obtain ⟨o, J⟩ := inst_held hz hf I e1 e2 hd
  obtain ⟨_, its, rv, o2, h1, h2, n, h3⟩ := (show ObjOk _ _ H s.heap tp (.tup cs) from I.hok tp _ hT)
  have e3 := ClsV.all k rv
  subst e3
  obtain ⟨oc, od, dt, sl⟩ := o2
  simp only at h2 h3
  subst h2 h3
  exact PySem.W.kia_tup (kit_held C) I.kIn J h1 e (fun z => nomatch z) fun tk => ⟨.bl b, H, I.tok tk, rfl, q⟩
end
/-! ### kinds of values -/
inductive Kd where
  | int | str | bool | none | list | tuple | dict
def Kd.nm : Kd → String
  | .int => "int"
  | .str => "str"
  | .bool => "bool"
  | .none => "NoneType"
  | .list => "list"
  | .tuple => "tuple"
  | .dict => "dict"
def KdV (K : PySem.W.Frag) (H : Hp) : V → Kd → Prop
  | .int _, .int => True
  | .str _, .str => True
  | .bl _, .bool => True
  | .non, .none => True
  | .ref a, .list => ∃ xs, H a = some (.lst xs)
  | .ref a, .tuple => (∃ xs, H a = some (.tup xs)) ∨ ∃ o, K.lookup a = some o ∧ o.cls = .type "tuple"
  | .ref a, .dict => ∃ kvs, H a = some (.dK kvs)
  | _, _ => False
theorem KdV.ext {K : PySem.W.Frag} {H H' : Hp} {v : V} {k : Kd} (h : KdV K H v k) (s : ∀ a o, v = .ref a → H a = some o → (∀ ps, o ≠ .tbl ps) → H' a = some o) : KdV K H' v k := by
  cases v <;> cases k <;> first | exact h | exact h.elim | skip
  · obtain ⟨xs, e⟩ := h
    exact ⟨xs, s _ _ rfl e fun _ z => nomatch z⟩
  · rcases h with ⟨xs, e⟩ | h
    · exact .inl ⟨xs, s _ _ rfl e fun _ z => nomatch z⟩
    · exact .inr h
  · obtain ⟨xs, e⟩ := h
    exact ⟨xs, s _ _ rfl e fun _ z => nomatch z⟩
theorem KdV.same {K : PySem.W.Frag} {H H' : Hp} {v : V} {k : Kd} (h : KdV K H v k) (s : Same H H') : KdV K H' v k := h.ext fun a o _ e _ => s a o e
theorem KdV.ty {K : PySem.W.Frag} {H : Hp} {v : V} {k : Kd} (h : KdV K H v k) : TyX K H v (.type k.nm) := by
  cases v <;> cases k <;> first | exact h.elim | skip
  · exact .base .non
  · exact .base (.bl _)
  · exact .base (.int _)
  · exact .base (.str _)
  · obtain ⟨xs, e⟩ := h
    exact .base (.lst e)
  · rcases h with ⟨xs, e⟩ | ⟨o, e, c⟩
    · exact .base (.tup e)
    · exact .kTuple e c
  · obtain ⟨xs, e⟩ := h
    exact .base (.dK e)
def Kd.is (T : String) : Kd → Bool
  | .int => T == "int"
  | .str => T == "str"
  | .bool => T == "bool" || T == "int"
  | .list => T == "list"
  | .tuple => T == "tuple"
  | .dict => T == "dict"
  | .none => false
theorem kd_is {K : PySem.W.Frag} {k : Kd} {T : String} (hT : T ∈ kinds5) : PySem.W.kitOne K (.type k.nm) (.type T) = some (k.is T) := by
  cases k <;>
  · simp only [kinds5, List.mem_cons, List.not_mem_nil, or_false] at hT
    rcases hT with rfl | rfl | rfl | rfl | rfl <;> exact kit_ty (by decide +kernel)
def Kd.seq (k : Kd) : Bool := k.is "list" || k.is "tuple"
theorem kd_seq {K : PySem.W.Frag} {k : Kd} : PySem.W.kitAny K (.type k.nm) [.type "list", .type "tuple"] = some k.seq := by
  refine kitAny_cons (kd_is (by decide)) (fun e => ?_) (fun e => by unfold Kd.seq; rw [e]; rfl)
  unfold Kd.seq
  rw [e, Bool.false_or]
  refine kitAny_cons (kd_is (by decide)) (fun e => ?_) (fun e => e)
  rw [e]
  exact kitAny_nil
end Vf
namespace Vf
open PySem PySem.Spec PyProof.Rows L2
theorem sqT_same {K : PySem.W.Frag} {H H' : Hp} {a : Addr} {xs : List V} (h : SqT K H a xs) (s : Same H H') : SqT K H' a xs := by
  rcases h with (h | ⟨o, h⟩) | h
  · exact .inl (.inl (s _ _ h))
  · exact .inl (.inr ⟨o, s _ _ h⟩)
  · exact .inr h
theorem sqL_same {K : PySem.W.Frag} {H H' : Hp} {a : Addr} {xs : List V} (h : SqL K H a xs) (s : Same H H') : SqL K H' a xs := by
  rcases h with (h | ⟨o, h⟩) | h
  · exact .inl (.inl (s _ _ h))
  · exact .inl (.inr ⟨o, s _ _ h⟩)
  · exact .inr h
/-! ### the rules whose readings name the written part, it told -/
section
variable {X : Cx} {K : PySem.W.Frag}
theorem pe_fldK {a : Expr} {f : Str} {pos : Pos} {ta : TE} (hK : X.K = K) (ha : PE X a ta) (hb : attributeBase a f X.env (eval a X.env) = eval a X.env) : PE X (.Attribute a f pos) (tFld K ta f) := by
  subst hK
  exact pe_fld ha hb
theorem cr_minTK (hK : X.K = K) (hc : X.calm = true) (hu : X.A.units + 64 < cLine) : CallR X (.builtin "min") (rMinT K) := by
  subst hK
  exact cr_minT hc hu
theorem cr_maxTK (hK : X.K = K) (hc : X.calm = true) (hu : X.A.units + 64 < cLine) : CallR X (.builtin "max") (rMaxT K) := by
  subst hK
  exact cr_maxT hc hu
theorem ix_tupK (hK : X.K = K) : IxR X (rIxT K) := by
  subst hK
  exact ix_tup
theorem ix_listK (hK : X.K = K) : IxR X (rIxL K) := by
  subst hK
  exact ix_list
theorem pg_tupK {es : List Expr} {k : Nat} {pos : Pos} {t : TGs} {n : Nat} (hK : X.K = K) (hc : X.calm = true) (h : PGs X es t)
    (hn : (assignEach es X.env).length = n := by rfl) (hst : (assignEach es X.env).findIdx? (·.1) = none := by rfl) : PG X (.Tuple es k pos) (gTup K n t) := by
  subst hK
  exact pg_tup hc h hn hst
theorem op_in_seqK (hK : X.K = K) : OpR X (compareOp .In) (rIn K false) := by
  subst hK
  exact op_in_seq
theorem op_notIn_seqK (hK : X.K = K) : OpR X (compareOp .NotIn) (rIn K true) := by
  subst hK
  exact op_notIn_seq
end
/-- a method of an own class, by its class and name -/
def HasM (P : Program) (w : World) (K : PySem.W.Frag) (mg : Str → Option Value) (base : Heap) (CX : CXT) (x m : Str) (k : Nat) (ps : List Str) (sp : Sp) : Prop :=
  ∃ fd : FuncData, FnOk P w K mg base CX k (He.ma K (He.ga K x) m) fd ps sp ∧ Binds K fd ps []
/-- f(k = v, ..) of a def with defaults: n positional values, keywords ks; g puts positional values, defaults, keywords' values in the parameters' order -/
theorem kbn_dfl {K : PySem.W.Frag} {x qual : Str} {params : Arguments} {body : List Stmt} {scope : Scope} {dvs : List V} {f : Addr} {fd : FuncData} {ps : List Str} (F : FunD K x qual params body scope dvs [] f fd) (n : Nat) (ks : List Str) (g : {α : Type} → List α → List α → List α → List α) (hd : dvs ≠ [])
    (hrel : ∀ {vs ds zs : List V} {us its ws : List Value}, Vals vs us → Vals ds its → Vals zs ws → Vals (g vs ds zs) (g us its ws))
    (h : ∀ (T : Addr) (kV doc pm : Value) (an : Option Addr) (cdv ct : Value) (us its ws : List Value), us.length = n → its.length = dvs.length → ws.length = ks.length →
      ∃ k, bindArgs (PySem.W.fnOf x qual params body scope (.ref T) kV doc pm an cdv ct) ⟨us, ks.zip ws⟩ = seqItems? (.ref T) >>= k ∧ k (some its.toArray) = pure (ps.zip (g us its ws))) :
    ∃ its : List Value, KBn K fd ps n ks (fun us ws => g us its ws) (fun vs zs => g vs dvs zs) := by
  obtain ⟨oc, od, dV, kV, doc, pm, an, cdv, ct, osl, rfl, lk, hcd, hD, hK⟩ := F.ex
  rcases hD with ⟨e, _⟩ | ⟨_, T, o, its, m, rfl, lT, oT, rT⟩
  · exact absurd e hd
  · refine ⟨its, ⟨fun s us ws X l1 l2 => ?_, fun r1 r2 => hrel r1 rT r2⟩⟩
    obtain ⟨k, e1, e2⟩ := h T kV doc pm an cdv ct us its ws l1 rT.length.symm l2
    refine BindsTo.of_looks fun M => ?_
    rw [e1]
    exact looks_items X lT oT (.of_pure e2)
end Vf
namespace K00
open PySem PySem.Spec PyProof.Rows L2 Vf
def gSK {α : Type} : List α → List α → List α → List α := fun us ds ws => match us, ds, ws with
  | [s], [d], [f, k] => [s, k, f, d]
  | _, _, _ => []
theorem gSK_rel {vs ds zs : List V} {us its ws : List Value} (h1 : Vals vs us) (h2 : Vals ds its) (h3 : Vals zs ws) : Vals (gSK vs ds zs) (gSK us its ws) := by
  cases h1 with
  | nil => exact .nil
  | cons r1 h1 =>
    cases h1 with
    | cons _ _ => exact .nil
    | nil =>
      cases h2 with
      | nil => exact .nil
      | cons r2 h2 =>
        cases h2 with
        | cons _ _ => exact .nil
        | nil =>
          cases h3 with
          | nil => exact .nil
          | cons r3 h3 =>
            cases h3 with
            | nil => exact .nil
            | cons r4 h3 =>
              cases h3 with
              | cons _ _ => exact .nil
              | nil => exact .cons r1 (.cons r4 (.cons r3 (.cons r2 .nil)))
/-- Skin's __init__ and how its arguments come -/
def HasI (P : Program) (w : World) (K : PySem.W.Frag) (mg : Str → Option Value) (base : Heap) (k : Nat) (sp : Sp) : Prop :=
  ∃ fd : FuncData, FnOk P w K mg base (L2.CX P w) k (He.ma K (He.ga K "Skin") "__init__") fd ["self", "kind", "faces", "seams"] sp ∧ Binds K fd ["self", "kind", "faces", "seams"] [] ∧
    (∃ ds : List Value, Vals [.ref (dflA K)] ds ∧ Binds K fd ["self", "kind", "faces", "seams"] ds) ∧ ∃ its : List Value, True ∧ KBn K fd ["self", "kind", "faces", "seams"] 1 ["faces", "kind"] (fun us ws => gSK us its ws) (fun vs zs => gSK vs [.ref (dflA K)] zs)
theorem bindsI {K : PySem.W.Frag} {f : Addr} {fd : FuncData} (F : FunD K "__init__" "Skin.__init__" (defArgs s_Skin_init) (defBody s_Skin_init) (defScope s_Skin_init) [.ref (dflA K)] [] f fd) :
    Binds K fd ["self", "kind", "faces", "seams"] [] ∧ (∃ ds : List Value, Vals [.ref (dflA K)] ds ∧ Binds K fd ["self", "kind", "faces", "seams"] ds) ∧
      ∃ its : List Value, True ∧ KBn K fd ["self", "kind", "faces", "seams"] 1 ["faces", "kind"] (fun us ws => gSK us its ws) (fun vs zs => gSK vs [.ref (dflA K)] zs) := by
  refine ⟨?_, ?_, ?_⟩
  · obtain ⟨ds, r, b⟩ := FunD.binds1 (ps := ["self", "kind", "faces", "seams"]) F 4 1 (by simp) rfl (fun T kV doc pm an cdv ct us its h1 h2 => match us, its, h1, h2 with
      | [_, _, _, _], [_], _, _ => ⟨_, rfl, rfl⟩)
    cases r
    exact b
  · exact FunD.binds1 (ps := ["self", "kind", "faces", "seams"]) F 3 0 (by simp) rfl (fun T kV doc pm an cdv ct us its h1 h2 => match us, its, h1, h2 with
      | [_, _, _], [_], _, _ => ⟨_, rfl, rfl⟩)
  · obtain ⟨its, k⟩ := kbn_dfl (ps := ["self", "kind", "faces", "seams"]) F 1 ["faces", "kind"] gSK (by simp) gSK_rel (fun T kV doc pm an cdv ct us its ws h1 h2 h3 => match us, its, ws, h1, h2, h3 with
      | [_], [_], [_, _], _, _, _ => ⟨_, rfl, rfl⟩)
    exact ⟨its, True.intro, k⟩
/-- an own error class' __init__, called by place and by name, in the fields' order and the other way about -/
def HasE (P : Program) (w : World) (K : PySem.W.Frag) (mg : Str → Option Value) (base : Heap) (x : Str) (k : Nat) (ps : List Str) (sp : Sp) : Prop :=
  ∃ fd : FuncData, FnOk P w K mg base CX0 k (He.ma K (He.ga K x) "__init__") fd ps sp ∧ Binds K fd ps [] ∧ KBn K fd ps 1 (ps.drop 1) gkA gkA ∧ KBn K fd ps 1 (ps.drop 1).reverse gkS gkS
end K00

namespace K00
open PySem PySem.Spec PyProof.Rows L2 Vf LamX
section
variable {hh : Heap} {P : Program} {w : World} {K : PySem.W.Frag} {mg : Str → Option Value} {base : Heap}
/-! ### what the checks tell -/
def isI : V → Bool
  | .int _ => true
  | _ => false
def isB : V → Bool
  | .bl _ => true
  | _ => false
def isS : V → Bool
  | .str _ => true
  | _ => false
theorem kd_int {H : Hp} {v : V} {k : Kd} (h : KdV K H v k) : k.is "int" = (isI v || isB v) := by
  cases v <;> cases k <;> first | rfl | exact h.elim
theorem kd_bool {H : Hp} {v : V} {k : Kd} (h : KdV K H v k) : k.is "bool" = isB v := by
  cases v <;> cases k <;> first | rfl | exact h.elim
theorem kd_str {H : Hp} {v : V} {k : Kd} (h : KdV K H v k) : k.is "str" = isS v := by
  cases v <;> cases k <;> first | rfl | exact h.elim
def isGrid (v : V) : Bool := isS v && inV v [.str "square", .str "triangle"]
def sp_is_grid (K : PySem.W.Frag) : Sp := fun vs H Q _ => ∃ (v : V) (k : Kd), vs = [v] ∧ KdV K H v k ∧ Q (.bl (isGrid v)) H
theorem sc_is_grid : FnScope ["value"] ["value"] (defScope s_is_grid) := ⟨rfl, rfl, rfl, by decide +kernel, rfl, by decide +kernel, by decide +kernel⟩
theorem ok_is_grid {f : Addr} {fd : FuncData} (F : FunD K "is_grid" "is_grid" (defArgs s_is_grid) (defBody s_is_grid) (defScope s_is_grid) [] [] f fd) (Tx : Txt K mg)   : FnOk P w K mg base CX0 1 f fd ["value"] (sp_is_grid K) := by
  refine FunD.ok F sc_is_grid (fun vs H Q E h => ?_) (fun cdv A outer s H vs Q E hr h => ?_)
  · obtain ⟨v, k, rfl, _⟩ := h
    rfl
  · obtain ⟨v, k, rfl, hk, q⟩ := h
    refine ⟨_, PSs.nox (pss_one (ps_ret (pe_and (pe_callB call_isi (by rfl) Tx.n_isinstance (by decide +kernel) (pa_cons (pv 0) (pa_cons (pe_bltn (v := .ty "str") (by rfl) Tx.n_str (by decide +kernel) rfl) pa_nil))) (pe_one (pe_cmpR op_in_seq (pv 0) (pe_glob (v := .ref (He.ga K "KINDS")) (by rfl) Tx.g_KINDS rfl) rfl))))), ?_⟩
    refine ⟨_, rfl, v, _, _, _, _, rfl, .ty "str", hk.ty, kd_is (by decide), _, rfl, ?_⟩
    rw [kd_str hk]
    cases v with
    | str z => exact ⟨_, rfl, _, _, rfl, .inr (Tx.kinds _), rfl, rfl, q⟩
    | _ => exact q
theorem has_is_grid (Tx : Txt K mg) (c : He.SaysX fa fn [] tf ex w hh K) (X : K.In hh) (GG : hh.Ns mainGlobals mg)   : Has P w K mg base "is_grid" 1 ["value"] (sp_is_grid K) := by
  obtain ⟨fd, F⟩ := c.t.d.def_ 23 (d := d_is_grid) rfl
  exact ⟨_, fd, ok_is_grid F Tx , He.glo_ok X GG (c.t.d.fact 32 (f := .glo "is_grid") rfl), F.kp, F.bindsN fun _ _ _ _ _ _ us hl => match us, hl with | [_], _ => rfl⟩
def sp_is_integer (K : PySem.W.Frag) : Sp := fun vs H Q _ => ∃ (v : V) (k : Kd), vs = [v] ∧ KdV K H v k ∧ Q (.bl (isI v)) H
theorem sc_is_integer : FnScope ["value"] ["value"] (defScope s_is_integer) := ⟨rfl, rfl, rfl, by decide +kernel, rfl, by decide +kernel, by decide +kernel⟩
theorem ok_is_integer {f : Addr} {fd : FuncData} (F : FunD K "is_integer" "is_integer" (defArgs s_is_integer) (defBody s_is_integer) (defScope s_is_integer) [] [] f fd) (Tx : Txt K mg)   : FnOk P w K mg base CX0 1 f fd ["value"] (sp_is_integer K) := by
  refine FunD.ok F sc_is_integer (fun vs H Q E h => ?_) (fun cdv A outer s H vs Q E hr h => ?_)
  · obtain ⟨v, k, rfl, _⟩ := h
    rfl
  · obtain ⟨v, k, rfl, hk, q⟩ := h
    refine ⟨_, PSs.nox (pss_one (ps_ret (pe_and (pe_callB call_isi (by rfl) Tx.n_isinstance (by decide +kernel) (pa_cons (pv 0) (pa_cons (pe_bltn (v := .ty "int") (by rfl) Tx.n_int (by decide +kernel) rfl) pa_nil))) (pe_one (pe_not (pe_callB call_isi (by rfl) Tx.n_isinstance (by decide +kernel) (pa_cons (pv 0) (pa_cons (pe_bltn (v := .ty "bool") (by rfl) Tx.n_bool (by decide +kernel) rfl) pa_nil)))))))), ?_⟩
    refine ⟨_, rfl, v, _, _, _, _, rfl, .ty "int", hk.ty, kd_is (by decide), _, rfl, ?_⟩
    rw [kd_int hk]
    refine ite2 (fun e => ?_) (fun e => ?_)
    · refine ⟨_, rfl, v, _, _, _, _, rfl, .ty "bool", hk.ty, kd_is (by decide), _, rfl, ?_⟩
      rw [kd_bool hk]
      cases v <;> first | exact q | cases e
    · cases v <;> first | exact q | exact absurd rfl e
theorem has_is_integer (Tx : Txt K mg) (c : He.SaysX fa fn [] tf ex w hh K) (X : K.In hh) (GG : hh.Ns mainGlobals mg)   : Has P w K mg base "is_integer" 1 ["value"] (sp_is_integer K) := by
  obtain ⟨fd, F⟩ := c.t.d.def_ 27 (d := d_is_integer) rfl
  exact ⟨_, fd, ok_is_integer F Tx , He.glo_ok X GG (c.t.d.fact 36 (f := .glo "is_integer") rfl), F.kp, F.bindsN fun _ _ _ _ _ _ us hl => match us, hl with | [_], _ => rfl⟩
def lo1 (x : Int) : V → Bool
  | .int i => decide (i ≤ x)
  | _ => true
def hi1 (x : Int) : V → Bool
  | .int j => decide (x ≤ j)
  | _ => true
def bnd (v l m : V) : Bool := match v with
  | .int x => lo1 x l && hi1 x m
  | _ => false
def noi : V → Bool
  | .non => true
  | .int _ => true
  | _ => false
def sp_is_within (K : PySem.W.Frag) : Sp := fun vs H Q _ => ∃ (v l m : V) (k : Kd), vs = [v, l, m] ∧ KdV K H v k ∧ noi l = true ∧ noi m = true ∧ Q (.bl (bnd v l m)) H
theorem sc_is_within : FnScope ["value", "least", "most"] ["value", "least", "most"] (defScope s_is_within) := ⟨rfl, rfl, rfl, by decide +kernel, rfl, by decide +kernel, by decide +kernel⟩
theorem ok_is_within {f : Addr} {fd : FuncData} (F : FunD K "is_within" "is_within" (defArgs s_is_within) (defBody s_is_within) (defScope s_is_within) [] [] f fd) (Tx : Txt K mg) (h_is_integer : Has P w K mg base "is_integer" 1 ["value"] (sp_is_integer K))  : FnOk P w K mg base CX0 2 f fd ["value", "least", "most"] (sp_is_within K) := by
  obtain ⟨f_is_integer, fd_is_integer, G_is_integer, g_is_integer, k_is_integer, b_is_integer⟩ := h_is_integer
  refine FunD.ok F sc_is_within (fun vs H Q E h => ?_) (fun cdv A outer s H vs Q E hr h => ?_)
  · obtain ⟨v, l, m, k, rfl, _⟩ := h
    rfl
  · obtain ⟨v, l, m, k, rfl, hk, hl, hm, q⟩ := h
    refine ⟨_, PSs.nox (pss_cons (ps_if (pt_not (pt_val (pe_call G_is_integer (hr.mono (by decide)) (by rfl) g_is_integer k_is_integer b_is_integer .nil pass0 (pa_cons (pv 0) pa_nil)))) (pss_one (ps_ret pe_bl)) pss_nil)
        (pss_one (ps_ret (pe_and (pe_or (pe_cmpR op_isN (pv 1) pe_non (nomark _)) (pe_one (pe_cmpR op_ge (pv 0) (pv 1) (nomark _)))) (pe_one (pe_or (pe_cmpR op_isN (pv 2) pe_non (nomark _)) (pe_one (pe_cmpR op_le (pv 0) (pv 2) (nomark _))))))))), ?_⟩
    refine ⟨_, rfl, v, k, rfl, hk, _, rfl, ite2 (fun e => ?_) (fun e => ?_)⟩
    · cases v <;> first | exact q | cases e
    · cases v with
      | int x =>
        cases l with
        | non =>
          refine ⟨_, rfl, rfl, _, rfl, ?_⟩
          refine ⟨_, rfl, ?_⟩
          cases m with
          | non => exact ⟨_, rfl, rfl, _, rfl, q⟩
          | int j => exact ⟨_, rfl, rfl, _, rfl, _, rfl, _, rfl, _, _, rfl, rfl, q⟩
          | _ => cases hm
        | int i =>
          refine ⟨_, rfl, rfl, _, rfl, _, rfl, _, rfl, _, _, rfl, rfl, _, rfl, ?_⟩
          refine ite2 (fun e1 => ?_) (fun e1 => ?_)
          · have q2 : Q (.bl (hi1 x m)) H := by
              have q3 : Q (.bl (decide (i ≤ x) && hi1 x m)) H := q
              rw [e1, Bool.true_and] at q3
              exact q3
            cases m with
            | non => exact ⟨_, rfl, rfl, _, rfl, q2⟩
            | int j => exact ⟨_, rfl, rfl, _, rfl, _, rfl, _, rfl, _, _, rfl, rfl, q2⟩
            | _ => cases hm
          · have q3 : Q (.bl (decide (i ≤ x) && hi1 x m)) H := q
            rw [Bool.eq_false_iff.mpr e1, Bool.false_and] at q3
            exact q3
        | _ => cases hl
      | _ => exact absurd rfl e
theorem has_is_within (Tx : Txt K mg) (c : He.SaysX fa fn [] tf ex w hh K) (X : K.In hh) (GG : hh.Ns mainGlobals mg) (h_is_integer : Has P w K mg base "is_integer" 1 ["value"] (sp_is_integer K))  : Has P w K mg base "is_within" 2 ["value", "least", "most"] (sp_is_within K) := by
  obtain ⟨fd, F⟩ := c.t.d.def_ 28 (d := d_is_within) rfl
  exact ⟨_, fd, ok_is_within F Tx h_is_integer, He.glo_ok X GG (c.t.d.fact 37 (f := .glo "is_within") rfl), F.kp, F.bindsN fun _ _ _ _ _ _ us hl => match us, hl with | [_, _, _], _ => rfl⟩
def sp_is_listed (K : PySem.W.Frag) : Sp := fun vs H Q _ => ∃ (v : V) (k : Kd), vs = [v] ∧ KdV K H v k ∧ ∀ H', Same H H' → Q (.bl k.seq) H'
theorem sc_is_listed : FnScope ["value"] ["value"] (defScope s_is_listed) := ⟨rfl, rfl, rfl, by decide +kernel, rfl, by decide +kernel, by decide +kernel⟩
theorem ok_is_listed {f : Addr} {fd : FuncData} (F : FunD K "is_listed" "is_listed" (defArgs s_is_listed) (defBody s_is_listed) (defScope s_is_listed) [] [] f fd) (Tx : Txt K mg)   : FnOk P w K mg base CX0 1 f fd ["value"] (sp_is_listed K) := by
  refine FunD.ok F sc_is_listed (fun vs H Q E h => ?_) (fun cdv A outer s H vs Q E hr h => ?_)
  · obtain ⟨v, k, rfl, _⟩ := h
    rfl
  · obtain ⟨v, k, rfl, hk, q⟩ := h
    refine ⟨_, PSs.nox (pss_one (ps_ret (pe_callB call_isiT (by rfl) Tx.n_isinstance (by decide +kernel) (pa_cons (pv 0) (pa_cons (pe_tup (pa_cons (pe_bltn (v := .ty "list") (by rfl) Tx.n_list (by decide +kernel) rfl) (pa_cons (pe_bltn (v := .ty "tuple") (by rfl) Tx.n_tuple (by decide +kernel) rfl) pa_nil))) pa_nil))))), ?_⟩
    refine ⟨_, rfl, le_line (by decide), fun t nt => ?_⟩
    exact ⟨v, t, _, _, _, _, rfl, upd_same, .cons (.ty "list") (.cons (.ty "tuple") .nil), (hk.same (same_new nt)).ty, kd_seq, q _ (same_new nt)⟩
theorem has_is_listed (Tx : Txt K mg) (c : He.SaysX fa fn [] tf ex w hh K) (X : K.In hh) (GG : hh.Ns mainGlobals mg)   : Has P w K mg base "is_listed" 1 ["value"] (sp_is_listed K) := by
  obtain ⟨fd, F⟩ := c.t.d.def_ 29 (d := d_is_listed) rfl
  exact ⟨_, fd, ok_is_listed F Tx , He.glo_ok X GG (c.t.d.fact 38 (f := .glo "is_listed") rfl), F.kp, F.bindsN fun _ _ _ _ _ _ us hl => match us, hl with | [_], _ => rfl⟩
/-! ### the error classes' own __init__ -/
def sp_BadKind_init (K : PySem.W.Frag) : Sp := spI1 K "part"
def sp_BadSkin_init (K : PySem.W.Frag) : Sp := spI1 K "part"
def sp_BadSheet_init (K : PySem.W.Frag) : Sp := spI1 K "part"
def sp_BadCells_init (K : PySem.W.Frag) : Sp := spI1 K "part"
def sp_BadRim_init (K : PySem.W.Frag) : Sp := spI1 K "part"
def sp_BadNesting_init (K : PySem.W.Frag) : Sp := spI1 K "part"
def sp_BadSaying_init (K : PySem.W.Frag) : Sp := spI1 K "part"
def sp_BadBook_init (K : PySem.W.Frag) : Sp := spI1 K "part"
def sp_BadBody_init (K : PySem.W.Frag) : Sp := spI1 K "part"
def sp_BadCut_init (K : PySem.W.Frag) : Sp := spI1 K "part"
def sp_BadNumber_init (K : PySem.W.Frag) : Sp := spI1 K "part"
def sp_BadPaper_init (K : PySem.W.Frag) : Sp := spI1 K "part"
def sp_BadDesk_init (K : PySem.W.Frag) : Sp := spI1 K "part"
def sp_Misfit_init (K : PySem.W.Frag) : Sp := spI1 K "part"
def sp_Missing_init (K : PySem.W.Frag) : Sp := spI1 K "value"
def sp_Twice_init (K : PySem.W.Frag) : Sp := spI1 K "value"
def sp_TooMuch_init (K : PySem.W.Frag) : Sp := spI1 K "corner"
def sp_Impossible_init (K : PySem.W.Frag) : Sp := spI1 K "paper"
def sp_Crossing_init (K : PySem.W.Frag) : Sp := spI2 K "one" "other"
def sp_TooMany_init (K : PySem.W.Frag) : Sp := spI2 K "what" "most"
def sp_BadText_init (K : PySem.W.Frag) : Sp := spI2 K "line" "word"
def sp_BadLine_init (K : PySem.W.Frag) : Sp := spI2 K "line" "error"
theorem sc_BadKind_init : FnScope ["self", "part"] ["self", "part"] (defScope s_BadKind_init) := ⟨rfl, rfl, rfl, by decide +kernel, rfl, by decide +kernel, by decide +kernel⟩
theorem ok_BadKind_init {f : Addr} {fd : FuncData} (F : FunD K "__init__" "BadKind.__init__" (defArgs s_BadKind_init) (defBody s_BadKind_init) (defScope s_BadKind_init) [] [] f fd) (Tx : Txt K mg)   : FnOk P w K mg base CX0 1 f fd ["self", "part"] (sp_BadKind_init K) := by
  refine FunD.ok F sc_BadKind_init (fun vs H Q E h => ?_) (fun cdv A outer s H vs Q E hr h => ?_)
  · obtain ⟨a, C, v, rfl, _⟩ := h
    rfl
  · obtain ⟨a, C, v, rfl, T, no, e, q⟩ := h
    refine ⟨_, PSs.nox (pss_one (ps_ost (pv 0) (pv 1))), ?_⟩
    exact ⟨_, rfl, _, rfl, a, C, rfl, T, no, .inl ⟨e, fun dx nd ne => q dx nd ne⟩⟩
theorem has_BadKind_init (Tx : Txt K mg) (c : He.SaysX fa fn [] tf ex w hh K) (X : K.In hh) (GG : hh.Ns mainGlobals mg)   : HasE P w K mg base "BadKind" 1 ["self", "part"] (sp_BadKind_init K) := by
  obtain ⟨fd, F⟩ := c.t.d.def_ 1 (d := d_BadKind_init) rfl
  exact ⟨fd, ok_BadKind_init F Tx , F.bindsN fun _ _ _ _ _ _ us hl => match us, hl with | [_, _], _ => rfl, kbn_at F 1 _ (fun _ _ _ _ _ _ us ws l1 l2 => match us, ws, l1, l2 with | [_], [_], _, _ => rfl)  gkA_rel, kbn_at F 1 _ (fun _ _ _ _ _ _ us ws l1 l2 => match us, ws, l1, l2 with | [_], [_], _, _ => rfl)  gkS_rel⟩
theorem sc_BadSkin_init : FnScope ["self", "part"] ["self", "part"] (defScope s_BadSkin_init) := ⟨rfl, rfl, rfl, by decide +kernel, rfl, by decide +kernel, by decide +kernel⟩
theorem ok_BadSkin_init {f : Addr} {fd : FuncData} (F : FunD K "__init__" "BadSkin.__init__" (defArgs s_BadSkin_init) (defBody s_BadSkin_init) (defScope s_BadSkin_init) [] [] f fd) (Tx : Txt K mg)   : FnOk P w K mg base CX0 1 f fd ["self", "part"] (sp_BadSkin_init K) := by
  refine FunD.ok F sc_BadSkin_init (fun vs H Q E h => ?_) (fun cdv A outer s H vs Q E hr h => ?_)
  · obtain ⟨a, C, v, rfl, _⟩ := h
    rfl
  · obtain ⟨a, C, v, rfl, T, no, e, q⟩ := h
    refine ⟨_, PSs.nox (pss_one (ps_ost (pv 0) (pv 1))), ?_⟩
    exact ⟨_, rfl, _, rfl, a, C, rfl, T, no, .inl ⟨e, fun dx nd ne => q dx nd ne⟩⟩
theorem has_BadSkin_init (Tx : Txt K mg) (c : He.SaysX fa fn [] tf ex w hh K) (X : K.In hh) (GG : hh.Ns mainGlobals mg)   : HasE P w K mg base "BadSkin" 1 ["self", "part"] (sp_BadSkin_init K) := by
  obtain ⟨fd, F⟩ := c.t.d.def_ 2 (d := d_BadSkin_init) rfl
  exact ⟨fd, ok_BadSkin_init F Tx , F.bindsN fun _ _ _ _ _ _ us hl => match us, hl with | [_, _], _ => rfl, kbn_at F 1 _ (fun _ _ _ _ _ _ us ws l1 l2 => match us, ws, l1, l2 with | [_], [_], _, _ => rfl)  gkA_rel, kbn_at F 1 _ (fun _ _ _ _ _ _ us ws l1 l2 => match us, ws, l1, l2 with | [_], [_], _, _ => rfl)  gkS_rel⟩
theorem sc_BadSheet_init : FnScope ["self", "part"] ["self", "part"] (defScope s_BadSheet_init) := ⟨rfl, rfl, rfl, by decide +kernel, rfl, by decide +kernel, by decide +kernel⟩
theorem ok_BadSheet_init {f : Addr} {fd : FuncData} (F : FunD K "__init__" "BadSheet.__init__" (defArgs s_BadSheet_init) (defBody s_BadSheet_init) (defScope s_BadSheet_init) [] [] f fd) (Tx : Txt K mg)   : FnOk P w K mg base CX0 1 f fd ["self", "part"] (sp_BadSheet_init K) := by
  refine FunD.ok F sc_BadSheet_init (fun vs H Q E h => ?_) (fun cdv A outer s H vs Q E hr h => ?_)
  · obtain ⟨a, C, v, rfl, _⟩ := h
    rfl
  · obtain ⟨a, C, v, rfl, T, no, e, q⟩ := h
    refine ⟨_, PSs.nox (pss_one (ps_ost (pv 0) (pv 1))), ?_⟩
    exact ⟨_, rfl, _, rfl, a, C, rfl, T, no, .inl ⟨e, fun dx nd ne => q dx nd ne⟩⟩
theorem has_BadSheet_init (Tx : Txt K mg) (c : He.SaysX fa fn [] tf ex w hh K) (X : K.In hh) (GG : hh.Ns mainGlobals mg)   : HasE P w K mg base "BadSheet" 1 ["self", "part"] (sp_BadSheet_init K) := by
  obtain ⟨fd, F⟩ := c.t.d.def_ 3 (d := d_BadSheet_init) rfl
  exact ⟨fd, ok_BadSheet_init F Tx , F.bindsN fun _ _ _ _ _ _ us hl => match us, hl with | [_, _], _ => rfl, kbn_at F 1 _ (fun _ _ _ _ _ _ us ws l1 l2 => match us, ws, l1, l2 with | [_], [_], _, _ => rfl)  gkA_rel, kbn_at F 1 _ (fun _ _ _ _ _ _ us ws l1 l2 => match us, ws, l1, l2 with | [_], [_], _, _ => rfl)  gkS_rel⟩
theorem sc_BadCells_init : FnScope ["self", "part"] ["self", "part"] (defScope s_BadCells_init) := ⟨rfl, rfl, rfl, by decide +kernel, rfl, by decide +kernel, by decide +kernel⟩
theorem ok_BadCells_init {f : Addr} {fd : FuncData} (F : FunD K "__init__" "BadCells.__init__" (defArgs s_BadCells_init) (defBody s_BadCells_init) (defScope s_BadCells_init) [] [] f fd) (Tx : Txt K mg)   : FnOk P w K mg base CX0 1 f fd ["self", "part"] (sp_BadCells_init K) := by
  refine FunD.ok F sc_BadCells_init (fun vs H Q E h => ?_) (fun cdv A outer s H vs Q E hr h => ?_)
  · obtain ⟨a, C, v, rfl, _⟩ := h
    rfl
  · obtain ⟨a, C, v, rfl, T, no, e, q⟩ := h
    refine ⟨_, PSs.nox (pss_one (ps_ost (pv 0) (pv 1))), ?_⟩
    exact ⟨_, rfl, _, rfl, a, C, rfl, T, no, .inl ⟨e, fun dx nd ne => q dx nd ne⟩⟩
theorem has_BadCells_init (Tx : Txt K mg) (c : He.SaysX fa fn [] tf ex w hh K) (X : K.In hh) (GG : hh.Ns mainGlobals mg)   : HasE P w K mg base "BadCells" 1 ["self", "part"] (sp_BadCells_init K) := by
  obtain ⟨fd, F⟩ := c.t.d.def_ 4 (d := d_BadCells_init) rfl
  exact ⟨fd, ok_BadCells_init F Tx , F.bindsN fun _ _ _ _ _ _ us hl => match us, hl with | [_, _], _ => rfl, kbn_at F 1 _ (fun _ _ _ _ _ _ us ws l1 l2 => match us, ws, l1, l2 with | [_], [_], _, _ => rfl)  gkA_rel, kbn_at F 1 _ (fun _ _ _ _ _ _ us ws l1 l2 => match us, ws, l1, l2 with | [_], [_], _, _ => rfl)  gkS_rel⟩
theorem sc_BadRim_init : FnScope ["self", "part"] ["self", "part"] (defScope s_BadRim_init) := ⟨rfl, rfl, rfl, by decide +kernel, rfl, by decide +kernel, by decide +kernel⟩
theorem ok_BadRim_init {f : Addr} {fd : FuncData} (F : FunD K "__init__" "BadRim.__init__" (defArgs s_BadRim_init) (defBody s_BadRim_init) (defScope s_BadRim_init) [] [] f fd) (Tx : Txt K mg)   : FnOk P w K mg base CX0 1 f fd ["self", "part"] (sp_BadRim_init K) := by
  refine FunD.ok F sc_BadRim_init (fun vs H Q E h => ?_) (fun cdv A outer s H vs Q E hr h => ?_)
  · obtain ⟨a, C, v, rfl, _⟩ := h
    rfl
  · obtain ⟨a, C, v, rfl, T, no, e, q⟩ := h
    refine ⟨_, PSs.nox (pss_one (ps_ost (pv 0) (pv 1))), ?_⟩
    exact ⟨_, rfl, _, rfl, a, C, rfl, T, no, .inl ⟨e, fun dx nd ne => q dx nd ne⟩⟩
theorem has_BadRim_init (Tx : Txt K mg) (c : He.SaysX fa fn [] tf ex w hh K) (X : K.In hh) (GG : hh.Ns mainGlobals mg)   : HasE P w K mg base "BadRim" 1 ["self", "part"] (sp_BadRim_init K) := by
  obtain ⟨fd, F⟩ := c.t.d.def_ 5 (d := d_BadRim_init) rfl
  exact ⟨fd, ok_BadRim_init F Tx , F.bindsN fun _ _ _ _ _ _ us hl => match us, hl with | [_, _], _ => rfl, kbn_at F 1 _ (fun _ _ _ _ _ _ us ws l1 l2 => match us, ws, l1, l2 with | [_], [_], _, _ => rfl)  gkA_rel, kbn_at F 1 _ (fun _ _ _ _ _ _ us ws l1 l2 => match us, ws, l1, l2 with | [_], [_], _, _ => rfl)  gkS_rel⟩
theorem sc_BadNesting_init : FnScope ["self", "part"] ["self", "part"] (defScope s_BadNesting_init) := ⟨rfl, rfl, rfl, by decide +kernel, rfl, by decide +kernel, by decide +kernel⟩
theorem ok_BadNesting_init {f : Addr} {fd : FuncData} (F : FunD K "__init__" "BadNesting.__init__" (defArgs s_BadNesting_init) (defBody s_BadNesting_init) (defScope s_BadNesting_init) [] [] f fd) (Tx : Txt K mg)   : FnOk P w K mg base CX0 1 f fd ["self", "part"] (sp_BadNesting_init K) := by
  refine FunD.ok F sc_BadNesting_init (fun vs H Q E h => ?_) (fun cdv A outer s H vs Q E hr h => ?_)
  · obtain ⟨a, C, v, rfl, _⟩ := h
    rfl
  · obtain ⟨a, C, v, rfl, T, no, e, q⟩ := h
    refine ⟨_, PSs.nox (pss_one (ps_ost (pv 0) (pv 1))), ?_⟩
    exact ⟨_, rfl, _, rfl, a, C, rfl, T, no, .inl ⟨e, fun dx nd ne => q dx nd ne⟩⟩
theorem has_BadNesting_init (Tx : Txt K mg) (c : He.SaysX fa fn [] tf ex w hh K) (X : K.In hh) (GG : hh.Ns mainGlobals mg)   : HasE P w K mg base "BadNesting" 1 ["self", "part"] (sp_BadNesting_init K) := by
  obtain ⟨fd, F⟩ := c.t.d.def_ 6 (d := d_BadNesting_init) rfl
  exact ⟨fd, ok_BadNesting_init F Tx , F.bindsN fun _ _ _ _ _ _ us hl => match us, hl with | [_, _], _ => rfl, kbn_at F 1 _ (fun _ _ _ _ _ _ us ws l1 l2 => match us, ws, l1, l2 with | [_], [_], _, _ => rfl)  gkA_rel, kbn_at F 1 _ (fun _ _ _ _ _ _ us ws l1 l2 => match us, ws, l1, l2 with | [_], [_], _, _ => rfl)  gkS_rel⟩
theorem sc_BadSaying_init : FnScope ["self", "part"] ["self", "part"] (defScope s_BadSaying_init) := ⟨rfl, rfl, rfl, by decide +kernel, rfl, by decide +kernel, by decide +kernel⟩
theorem ok_BadSaying_init {f : Addr} {fd : FuncData} (F : FunD K "__init__" "BadSaying.__init__" (defArgs s_BadSaying_init) (defBody s_BadSaying_init) (defScope s_BadSaying_init) [] [] f fd) (Tx : Txt K mg)   : FnOk P w K mg base CX0 1 f fd ["self", "part"] (sp_BadSaying_init K) := by
  refine FunD.ok F sc_BadSaying_init (fun vs H Q E h => ?_) (fun cdv A outer s H vs Q E hr h => ?_)
  · obtain ⟨a, C, v, rfl, _⟩ := h
    rfl
  · obtain ⟨a, C, v, rfl, T, no, e, q⟩ := h
    refine ⟨_, PSs.nox (pss_one (ps_ost (pv 0) (pv 1))), ?_⟩
    exact ⟨_, rfl, _, rfl, a, C, rfl, T, no, .inl ⟨e, fun dx nd ne => q dx nd ne⟩⟩
theorem has_BadSaying_init (Tx : Txt K mg) (c : He.SaysX fa fn [] tf ex w hh K) (X : K.In hh) (GG : hh.Ns mainGlobals mg)   : HasE P w K mg base "BadSaying" 1 ["self", "part"] (sp_BadSaying_init K) := by
  obtain ⟨fd, F⟩ := c.t.d.def_ 7 (d := d_BadSaying_init) rfl
  exact ⟨fd, ok_BadSaying_init F Tx , F.bindsN fun _ _ _ _ _ _ us hl => match us, hl with | [_, _], _ => rfl, kbn_at F 1 _ (fun _ _ _ _ _ _ us ws l1 l2 => match us, ws, l1, l2 with | [_], [_], _, _ => rfl)  gkA_rel, kbn_at F 1 _ (fun _ _ _ _ _ _ us ws l1 l2 => match us, ws, l1, l2 with | [_], [_], _, _ => rfl)  gkS_rel⟩
theorem sc_BadBook_init : FnScope ["self", "part"] ["self", "part"] (defScope s_BadBook_init) := ⟨rfl, rfl, rfl, by decide +kernel, rfl, by decide +kernel, by decide +kernel⟩
theorem ok_BadBook_init {f : Addr} {fd : FuncData} (F : FunD K "__init__" "BadBook.__init__" (defArgs s_BadBook_init) (defBody s_BadBook_init) (defScope s_BadBook_init) [] [] f fd) (Tx : Txt K mg)   : FnOk P w K mg base CX0 1 f fd ["self", "part"] (sp_BadBook_init K) := by
  refine FunD.ok F sc_BadBook_init (fun vs H Q E h => ?_) (fun cdv A outer s H vs Q E hr h => ?_)
  · obtain ⟨a, C, v, rfl, _⟩ := h
    rfl
  · obtain ⟨a, C, v, rfl, T, no, e, q⟩ := h
    refine ⟨_, PSs.nox (pss_one (ps_ost (pv 0) (pv 1))), ?_⟩
    exact ⟨_, rfl, _, rfl, a, C, rfl, T, no, .inl ⟨e, fun dx nd ne => q dx nd ne⟩⟩
theorem has_BadBook_init (Tx : Txt K mg) (c : He.SaysX fa fn [] tf ex w hh K) (X : K.In hh) (GG : hh.Ns mainGlobals mg)   : HasE P w K mg base "BadBook" 1 ["self", "part"] (sp_BadBook_init K) := by
  obtain ⟨fd, F⟩ := c.t.d.def_ 8 (d := d_BadBook_init) rfl
  exact ⟨fd, ok_BadBook_init F Tx , F.bindsN fun _ _ _ _ _ _ us hl => match us, hl with | [_, _], _ => rfl, kbn_at F 1 _ (fun _ _ _ _ _ _ us ws l1 l2 => match us, ws, l1, l2 with | [_], [_], _, _ => rfl)  gkA_rel, kbn_at F 1 _ (fun _ _ _ _ _ _ us ws l1 l2 => match us, ws, l1, l2 with | [_], [_], _, _ => rfl)  gkS_rel⟩
theorem sc_BadBody_init : FnScope ["self", "part"] ["self", "part"] (defScope s_BadBody_init) := ⟨rfl, rfl, rfl, by decide +kernel, rfl, by decide +kernel, by decide +kernel⟩
theorem ok_BadBody_init {f : Addr} {fd : FuncData} (F : FunD K "__init__" "BadBody.__init__" (defArgs s_BadBody_init) (defBody s_BadBody_init) (defScope s_BadBody_init) [] [] f fd) (Tx : Txt K mg)   : FnOk P w K mg base CX0 1 f fd ["self", "part"] (sp_BadBody_init K) := by
  refine FunD.ok F sc_BadBody_init (fun vs H Q E h => ?_) (fun cdv A outer s H vs Q E hr h => ?_)
  · obtain ⟨a, C, v, rfl, _⟩ := h
    rfl
  · obtain ⟨a, C, v, rfl, T, no, e, q⟩ := h
    refine ⟨_, PSs.nox (pss_one (ps_ost (pv 0) (pv 1))), ?_⟩
    exact ⟨_, rfl, _, rfl, a, C, rfl, T, no, .inl ⟨e, fun dx nd ne => q dx nd ne⟩⟩
theorem has_BadBody_init (Tx : Txt K mg) (c : He.SaysX fa fn [] tf ex w hh K) (X : K.In hh) (GG : hh.Ns mainGlobals mg)   : HasE P w K mg base "BadBody" 1 ["self", "part"] (sp_BadBody_init K) := by
  obtain ⟨fd, F⟩ := c.t.d.def_ 9 (d := d_BadBody_init) rfl
  exact ⟨fd, ok_BadBody_init F Tx , F.bindsN fun _ _ _ _ _ _ us hl => match us, hl with | [_, _], _ => rfl, kbn_at F 1 _ (fun _ _ _ _ _ _ us ws l1 l2 => match us, ws, l1, l2 with | [_], [_], _, _ => rfl)  gkA_rel, kbn_at F 1 _ (fun _ _ _ _ _ _ us ws l1 l2 => match us, ws, l1, l2 with | [_], [_], _, _ => rfl)  gkS_rel⟩
theorem sc_BadCut_init : FnScope ["self", "part"] ["self", "part"] (defScope s_BadCut_init) := ⟨rfl, rfl, rfl, by decide +kernel, rfl, by decide +kernel, by decide +kernel⟩
theorem ok_BadCut_init {f : Addr} {fd : FuncData} (F : FunD K "__init__" "BadCut.__init__" (defArgs s_BadCut_init) (defBody s_BadCut_init) (defScope s_BadCut_init) [] [] f fd) (Tx : Txt K mg)   : FnOk P w K mg base CX0 1 f fd ["self", "part"] (sp_BadCut_init K) := by
  refine FunD.ok F sc_BadCut_init (fun vs H Q E h => ?_) (fun cdv A outer s H vs Q E hr h => ?_)
  · obtain ⟨a, C, v, rfl, _⟩ := h
    rfl
  · obtain ⟨a, C, v, rfl, T, no, e, q⟩ := h
    refine ⟨_, PSs.nox (pss_one (ps_ost (pv 0) (pv 1))), ?_⟩
    exact ⟨_, rfl, _, rfl, a, C, rfl, T, no, .inl ⟨e, fun dx nd ne => q dx nd ne⟩⟩
theorem has_BadCut_init (Tx : Txt K mg) (c : He.SaysX fa fn [] tf ex w hh K) (X : K.In hh) (GG : hh.Ns mainGlobals mg)   : HasE P w K mg base "BadCut" 1 ["self", "part"] (sp_BadCut_init K) := by
  obtain ⟨fd, F⟩ := c.t.d.def_ 10 (d := d_BadCut_init) rfl
  exact ⟨fd, ok_BadCut_init F Tx , F.bindsN fun _ _ _ _ _ _ us hl => match us, hl with | [_, _], _ => rfl, kbn_at F 1 _ (fun _ _ _ _ _ _ us ws l1 l2 => match us, ws, l1, l2 with | [_], [_], _, _ => rfl)  gkA_rel, kbn_at F 1 _ (fun _ _ _ _ _ _ us ws l1 l2 => match us, ws, l1, l2 with | [_], [_], _, _ => rfl)  gkS_rel⟩
theorem sc_BadNumber_init : FnScope ["self", "part"] ["self", "part"] (defScope s_BadNumber_init) := ⟨rfl, rfl, rfl, by decide +kernel, rfl, by decide +kernel, by decide +kernel⟩
theorem ok_BadNumber_init {f : Addr} {fd : FuncData} (F : FunD K "__init__" "BadNumber.__init__" (defArgs s_BadNumber_init) (defBody s_BadNumber_init) (defScope s_BadNumber_init) [] [] f fd) (Tx : Txt K mg)   : FnOk P w K mg base CX0 1 f fd ["self", "part"] (sp_BadNumber_init K) := by
  refine FunD.ok F sc_BadNumber_init (fun vs H Q E h => ?_) (fun cdv A outer s H vs Q E hr h => ?_)
  · obtain ⟨a, C, v, rfl, _⟩ := h
    rfl
  · obtain ⟨a, C, v, rfl, T, no, e, q⟩ := h
    refine ⟨_, PSs.nox (pss_one (ps_ost (pv 0) (pv 1))), ?_⟩
    exact ⟨_, rfl, _, rfl, a, C, rfl, T, no, .inl ⟨e, fun dx nd ne => q dx nd ne⟩⟩
theorem has_BadNumber_init (Tx : Txt K mg) (c : He.SaysX fa fn [] tf ex w hh K) (X : K.In hh) (GG : hh.Ns mainGlobals mg)   : HasE P w K mg base "BadNumber" 1 ["self", "part"] (sp_BadNumber_init K) := by
  obtain ⟨fd, F⟩ := c.t.d.def_ 11 (d := d_BadNumber_init) rfl
  exact ⟨fd, ok_BadNumber_init F Tx , F.bindsN fun _ _ _ _ _ _ us hl => match us, hl with | [_, _], _ => rfl, kbn_at F 1 _ (fun _ _ _ _ _ _ us ws l1 l2 => match us, ws, l1, l2 with | [_], [_], _, _ => rfl)  gkA_rel, kbn_at F 1 _ (fun _ _ _ _ _ _ us ws l1 l2 => match us, ws, l1, l2 with | [_], [_], _, _ => rfl)  gkS_rel⟩
theorem sc_BadPaper_init : FnScope ["self", "part"] ["self", "part"] (defScope s_BadPaper_init) := ⟨rfl, rfl, rfl, by decide +kernel, rfl, by decide +kernel, by decide +kernel⟩
theorem ok_BadPaper_init {f : Addr} {fd : FuncData} (F : FunD K "__init__" "BadPaper.__init__" (defArgs s_BadPaper_init) (defBody s_BadPaper_init) (defScope s_BadPaper_init) [] [] f fd) (Tx : Txt K mg)   : FnOk P w K mg base CX0 1 f fd ["self", "part"] (sp_BadPaper_init K) := by
  refine FunD.ok F sc_BadPaper_init (fun vs H Q E h => ?_) (fun cdv A outer s H vs Q E hr h => ?_)
  · obtain ⟨a, C, v, rfl, _⟩ := h
    rfl
  · obtain ⟨a, C, v, rfl, T, no, e, q⟩ := h
    refine ⟨_, PSs.nox (pss_one (ps_ost (pv 0) (pv 1))), ?_⟩
    exact ⟨_, rfl, _, rfl, a, C, rfl, T, no, .inl ⟨e, fun dx nd ne => q dx nd ne⟩⟩
theorem has_BadPaper_init (Tx : Txt K mg) (c : He.SaysX fa fn [] tf ex w hh K) (X : K.In hh) (GG : hh.Ns mainGlobals mg)   : HasE P w K mg base "BadPaper" 1 ["self", "part"] (sp_BadPaper_init K) := by
  obtain ⟨fd, F⟩ := c.t.d.def_ 12 (d := d_BadPaper_init) rfl
  exact ⟨fd, ok_BadPaper_init F Tx , F.bindsN fun _ _ _ _ _ _ us hl => match us, hl with | [_, _], _ => rfl, kbn_at F 1 _ (fun _ _ _ _ _ _ us ws l1 l2 => match us, ws, l1, l2 with | [_], [_], _, _ => rfl)  gkA_rel, kbn_at F 1 _ (fun _ _ _ _ _ _ us ws l1 l2 => match us, ws, l1, l2 with | [_], [_], _, _ => rfl)  gkS_rel⟩
theorem sc_BadDesk_init : FnScope ["self", "part"] ["self", "part"] (defScope s_BadDesk_init) := ⟨rfl, rfl, rfl, by decide +kernel, rfl, by decide +kernel, by decide +kernel⟩
theorem ok_BadDesk_init {f : Addr} {fd : FuncData} (F : FunD K "__init__" "BadDesk.__init__" (defArgs s_BadDesk_init) (defBody s_BadDesk_init) (defScope s_BadDesk_init) [] [] f fd) (Tx : Txt K mg)   : FnOk P w K mg base CX0 1 f fd ["self", "part"] (sp_BadDesk_init K) := by
  refine FunD.ok F sc_BadDesk_init (fun vs H Q E h => ?_) (fun cdv A outer s H vs Q E hr h => ?_)
  · obtain ⟨a, C, v, rfl, _⟩ := h
    rfl
  · obtain ⟨a, C, v, rfl, T, no, e, q⟩ := h
    refine ⟨_, PSs.nox (pss_one (ps_ost (pv 0) (pv 1))), ?_⟩
    exact ⟨_, rfl, _, rfl, a, C, rfl, T, no, .inl ⟨e, fun dx nd ne => q dx nd ne⟩⟩
theorem has_BadDesk_init (Tx : Txt K mg) (c : He.SaysX fa fn [] tf ex w hh K) (X : K.In hh) (GG : hh.Ns mainGlobals mg)   : HasE P w K mg base "BadDesk" 1 ["self", "part"] (sp_BadDesk_init K) := by
  obtain ⟨fd, F⟩ := c.t.d.def_ 13 (d := d_BadDesk_init) rfl
  exact ⟨fd, ok_BadDesk_init F Tx , F.bindsN fun _ _ _ _ _ _ us hl => match us, hl with | [_, _], _ => rfl, kbn_at F 1 _ (fun _ _ _ _ _ _ us ws l1 l2 => match us, ws, l1, l2 with | [_], [_], _, _ => rfl)  gkA_rel, kbn_at F 1 _ (fun _ _ _ _ _ _ us ws l1 l2 => match us, ws, l1, l2 with | [_], [_], _, _ => rfl)  gkS_rel⟩
theorem sc_Misfit_init : FnScope ["self", "part"] ["self", "part"] (defScope s_Misfit_init) := ⟨rfl, rfl, rfl, by decide +kernel, rfl, by decide +kernel, by decide +kernel⟩
theorem ok_Misfit_init {f : Addr} {fd : FuncData} (F : FunD K "__init__" "Misfit.__init__" (defArgs s_Misfit_init) (defBody s_Misfit_init) (defScope s_Misfit_init) [] [] f fd) (Tx : Txt K mg)   : FnOk P w K mg base CX0 1 f fd ["self", "part"] (sp_Misfit_init K) := by
  refine FunD.ok F sc_Misfit_init (fun vs H Q E h => ?_) (fun cdv A outer s H vs Q E hr h => ?_)
  · obtain ⟨a, C, v, rfl, _⟩ := h
    rfl
  · obtain ⟨a, C, v, rfl, T, no, e, q⟩ := h
    refine ⟨_, PSs.nox (pss_one (ps_ost (pv 0) (pv 1))), ?_⟩
    exact ⟨_, rfl, _, rfl, a, C, rfl, T, no, .inl ⟨e, fun dx nd ne => q dx nd ne⟩⟩
theorem has_Misfit_init (Tx : Txt K mg) (c : He.SaysX fa fn [] tf ex w hh K) (X : K.In hh) (GG : hh.Ns mainGlobals mg)   : HasE P w K mg base "Misfit" 1 ["self", "part"] (sp_Misfit_init K) := by
  obtain ⟨fd, F⟩ := c.t.d.def_ 14 (d := d_Misfit_init) rfl
  exact ⟨fd, ok_Misfit_init F Tx , F.bindsN fun _ _ _ _ _ _ us hl => match us, hl with | [_, _], _ => rfl, kbn_at F 1 _ (fun _ _ _ _ _ _ us ws l1 l2 => match us, ws, l1, l2 with | [_], [_], _, _ => rfl)  gkA_rel, kbn_at F 1 _ (fun _ _ _ _ _ _ us ws l1 l2 => match us, ws, l1, l2 with | [_], [_], _, _ => rfl)  gkS_rel⟩
theorem sc_Missing_init : FnScope ["self", "value"] ["self", "value"] (defScope s_Missing_init) := ⟨rfl, rfl, rfl, by decide +kernel, rfl, by decide +kernel, by decide +kernel⟩
theorem ok_Missing_init {f : Addr} {fd : FuncData} (F : FunD K "__init__" "Missing.__init__" (defArgs s_Missing_init) (defBody s_Missing_init) (defScope s_Missing_init) [] [] f fd) (Tx : Txt K mg)   : FnOk P w K mg base CX0 1 f fd ["self", "value"] (sp_Missing_init K) := by
  refine FunD.ok F sc_Missing_init (fun vs H Q E h => ?_) (fun cdv A outer s H vs Q E hr h => ?_)
  · obtain ⟨a, C, v, rfl, _⟩ := h
    rfl
  · obtain ⟨a, C, v, rfl, T, no, e, q⟩ := h
    refine ⟨_, PSs.nox (pss_one (ps_ost (pv 0) (pv 1))), ?_⟩
    exact ⟨_, rfl, _, rfl, a, C, rfl, T, no, .inl ⟨e, fun dx nd ne => q dx nd ne⟩⟩
theorem has_Missing_init (Tx : Txt K mg) (c : He.SaysX fa fn [] tf ex w hh K) (X : K.In hh) (GG : hh.Ns mainGlobals mg)   : HasE P w K mg base "Missing" 1 ["self", "value"] (sp_Missing_init K) := by
  obtain ⟨fd, F⟩ := c.t.d.def_ 15 (d := d_Missing_init) rfl
  exact ⟨fd, ok_Missing_init F Tx , F.bindsN fun _ _ _ _ _ _ us hl => match us, hl with | [_, _], _ => rfl, kbn_at F 1 _ (fun _ _ _ _ _ _ us ws l1 l2 => match us, ws, l1, l2 with | [_], [_], _, _ => rfl)  gkA_rel, kbn_at F 1 _ (fun _ _ _ _ _ _ us ws l1 l2 => match us, ws, l1, l2 with | [_], [_], _, _ => rfl)  gkS_rel⟩
theorem sc_Twice_init : FnScope ["self", "value"] ["self", "value"] (defScope s_Twice_init) := ⟨rfl, rfl, rfl, by decide +kernel, rfl, by decide +kernel, by decide +kernel⟩
theorem ok_Twice_init {f : Addr} {fd : FuncData} (F : FunD K "__init__" "Twice.__init__" (defArgs s_Twice_init) (defBody s_Twice_init) (defScope s_Twice_init) [] [] f fd) (Tx : Txt K mg)   : FnOk P w K mg base CX0 1 f fd ["self", "value"] (sp_Twice_init K) := by
  refine FunD.ok F sc_Twice_init (fun vs H Q E h => ?_) (fun cdv A outer s H vs Q E hr h => ?_)
  · obtain ⟨a, C, v, rfl, _⟩ := h
    rfl
  · obtain ⟨a, C, v, rfl, T, no, e, q⟩ := h
    refine ⟨_, PSs.nox (pss_one (ps_ost (pv 0) (pv 1))), ?_⟩
    exact ⟨_, rfl, _, rfl, a, C, rfl, T, no, .inl ⟨e, fun dx nd ne => q dx nd ne⟩⟩
theorem has_Twice_init (Tx : Txt K mg) (c : He.SaysX fa fn [] tf ex w hh K) (X : K.In hh) (GG : hh.Ns mainGlobals mg)   : HasE P w K mg base "Twice" 1 ["self", "value"] (sp_Twice_init K) := by
  obtain ⟨fd, F⟩ := c.t.d.def_ 16 (d := d_Twice_init) rfl
  exact ⟨fd, ok_Twice_init F Tx , F.bindsN fun _ _ _ _ _ _ us hl => match us, hl with | [_, _], _ => rfl, kbn_at F 1 _ (fun _ _ _ _ _ _ us ws l1 l2 => match us, ws, l1, l2 with | [_], [_], _, _ => rfl)  gkA_rel, kbn_at F 1 _ (fun _ _ _ _ _ _ us ws l1 l2 => match us, ws, l1, l2 with | [_], [_], _, _ => rfl)  gkS_rel⟩
theorem sc_TooMuch_init : FnScope ["self", "corner"] ["self", "corner"] (defScope s_TooMuch_init) := ⟨rfl, rfl, rfl, by decide +kernel, rfl, by decide +kernel, by decide +kernel⟩
theorem ok_TooMuch_init {f : Addr} {fd : FuncData} (F : FunD K "__init__" "TooMuch.__init__" (defArgs s_TooMuch_init) (defBody s_TooMuch_init) (defScope s_TooMuch_init) [] [] f fd) (Tx : Txt K mg)   : FnOk P w K mg base CX0 1 f fd ["self", "corner"] (sp_TooMuch_init K) := by
  refine FunD.ok F sc_TooMuch_init (fun vs H Q E h => ?_) (fun cdv A outer s H vs Q E hr h => ?_)
  · obtain ⟨a, C, v, rfl, _⟩ := h
    rfl
  · obtain ⟨a, C, v, rfl, T, no, e, q⟩ := h
    refine ⟨_, PSs.nox (pss_one (ps_ost (pv 0) (pv 1))), ?_⟩
    exact ⟨_, rfl, _, rfl, a, C, rfl, T, no, .inl ⟨e, fun dx nd ne => q dx nd ne⟩⟩
theorem has_TooMuch_init (Tx : Txt K mg) (c : He.SaysX fa fn [] tf ex w hh K) (X : K.In hh) (GG : hh.Ns mainGlobals mg)   : HasE P w K mg base "TooMuch" 1 ["self", "corner"] (sp_TooMuch_init K) := by
  obtain ⟨fd, F⟩ := c.t.d.def_ 18 (d := d_TooMuch_init) rfl
  exact ⟨fd, ok_TooMuch_init F Tx , F.bindsN fun _ _ _ _ _ _ us hl => match us, hl with | [_, _], _ => rfl, kbn_at F 1 _ (fun _ _ _ _ _ _ us ws l1 l2 => match us, ws, l1, l2 with | [_], [_], _, _ => rfl)  gkA_rel, kbn_at F 1 _ (fun _ _ _ _ _ _ us ws l1 l2 => match us, ws, l1, l2 with | [_], [_], _, _ => rfl)  gkS_rel⟩
theorem sc_Impossible_init : FnScope ["self", "paper"] ["self", "paper"] (defScope s_Impossible_init) := ⟨rfl, rfl, rfl, by decide +kernel, rfl, by decide +kernel, by decide +kernel⟩
theorem ok_Impossible_init {f : Addr} {fd : FuncData} (F : FunD K "__init__" "Impossible.__init__" (defArgs s_Impossible_init) (defBody s_Impossible_init) (defScope s_Impossible_init) [] [] f fd) (Tx : Txt K mg)   : FnOk P w K mg base CX0 1 f fd ["self", "paper"] (sp_Impossible_init K) := by
  refine FunD.ok F sc_Impossible_init (fun vs H Q E h => ?_) (fun cdv A outer s H vs Q E hr h => ?_)
  · obtain ⟨a, C, v, rfl, _⟩ := h
    rfl
  · obtain ⟨a, C, v, rfl, T, no, e, q⟩ := h
    refine ⟨_, PSs.nox (pss_one (ps_ost (pv 0) (pv 1))), ?_⟩
    exact ⟨_, rfl, _, rfl, a, C, rfl, T, no, .inl ⟨e, fun dx nd ne => q dx nd ne⟩⟩
theorem has_Impossible_init (Tx : Txt K mg) (c : He.SaysX fa fn [] tf ex w hh K) (X : K.In hh) (GG : hh.Ns mainGlobals mg)   : HasE P w K mg base "Impossible" 1 ["self", "paper"] (sp_Impossible_init K) := by
  obtain ⟨fd, F⟩ := c.t.d.def_ 19 (d := d_Impossible_init) rfl
  exact ⟨fd, ok_Impossible_init F Tx , F.bindsN fun _ _ _ _ _ _ us hl => match us, hl with | [_, _], _ => rfl, kbn_at F 1 _ (fun _ _ _ _ _ _ us ws l1 l2 => match us, ws, l1, l2 with | [_], [_], _, _ => rfl)  gkA_rel, kbn_at F 1 _ (fun _ _ _ _ _ _ us ws l1 l2 => match us, ws, l1, l2 with | [_], [_], _, _ => rfl)  gkS_rel⟩
theorem sc_Crossing_init : FnScope ["self", "one", "other"] ["self", "one", "other"] (defScope s_Crossing_init) := ⟨rfl, rfl, rfl, by decide +kernel, rfl, by decide +kernel, by decide +kernel⟩
theorem ok_Crossing_init {f : Addr} {fd : FuncData} (F : FunD K "__init__" "Crossing.__init__" (defArgs s_Crossing_init) (defBody s_Crossing_init) (defScope s_Crossing_init) [] [] f fd) (Tx : Txt K mg)   : FnOk P w K mg base CX0 1 f fd ["self", "one", "other"] (sp_Crossing_init K) := by
  refine FunD.ok F sc_Crossing_init (fun vs H Q E h => ?_) (fun cdv A outer s H vs Q E hr h => ?_)
  · obtain ⟨a, C, v, u, rfl, _⟩ := h
    rfl
  · obtain ⟨a, C, v, u, rfl, T, no, no2, e, q⟩ := h
    refine ⟨_, PSs.nox (pss_cons (ps_ost (pv 0) (pv 1))
        (pss_one (ps_ost (pv 0) (pv 2)))), ?_⟩
    refine ⟨_, rfl, _, rfl, a, C, rfl, T, no, .inl ⟨e, fun dx nd ne => ?_⟩⟩
    exact ⟨_, rfl, _, rfl, a, C, rfl, T, no2, .inr ⟨dx, [("one", v)], upd_same, by rw [upd_ne ne, upd_same], (show 1 ≤ 900 by decide), q dx nd ne⟩⟩
theorem has_Crossing_init (Tx : Txt K mg) (c : He.SaysX fa fn [] tf ex w hh K) (X : K.In hh) (GG : hh.Ns mainGlobals mg)   : HasE P w K mg base "Crossing" 1 ["self", "one", "other"] (sp_Crossing_init K) := by
  obtain ⟨fd, F⟩ := c.t.d.def_ 17 (d := d_Crossing_init) rfl
  exact ⟨fd, ok_Crossing_init F Tx , F.bindsN fun _ _ _ _ _ _ us hl => match us, hl with | [_, _, _], _ => rfl, kbn_at F 1 _ (fun _ _ _ _ _ _ us ws l1 l2 => match us, ws, l1, l2 with | [_], [_, _], _, _ => rfl)  gkA_rel, kbn_at F 1 _ (fun _ _ _ _ _ _ us ws l1 l2 => match us, ws, l1, l2 with | [_], [_, _], _, _ => rfl)  gkS_rel⟩
theorem sc_TooMany_init : FnScope ["self", "what", "most"] ["self", "what", "most"] (defScope s_TooMany_init) := ⟨rfl, rfl, rfl, by decide +kernel, rfl, by decide +kernel, by decide +kernel⟩
theorem ok_TooMany_init {f : Addr} {fd : FuncData} (F : FunD K "__init__" "TooMany.__init__" (defArgs s_TooMany_init) (defBody s_TooMany_init) (defScope s_TooMany_init) [] [] f fd) (Tx : Txt K mg)   : FnOk P w K mg base CX0 1 f fd ["self", "what", "most"] (sp_TooMany_init K) := by
  refine FunD.ok F sc_TooMany_init (fun vs H Q E h => ?_) (fun cdv A outer s H vs Q E hr h => ?_)
  · obtain ⟨a, C, v, u, rfl, _⟩ := h
    rfl
  · obtain ⟨a, C, v, u, rfl, T, no, no2, e, q⟩ := h
    refine ⟨_, PSs.nox (pss_cons (ps_ost (pv 0) (pv 1))
        (pss_one (ps_ost (pv 0) (pv 2)))), ?_⟩
    refine ⟨_, rfl, _, rfl, a, C, rfl, T, no, .inl ⟨e, fun dx nd ne => ?_⟩⟩
    exact ⟨_, rfl, _, rfl, a, C, rfl, T, no2, .inr ⟨dx, [("what", v)], upd_same, by rw [upd_ne ne, upd_same], (show 1 ≤ 900 by decide), q dx nd ne⟩⟩
theorem has_TooMany_init (Tx : Txt K mg) (c : He.SaysX fa fn [] tf ex w hh K) (X : K.In hh) (GG : hh.Ns mainGlobals mg)   : HasE P w K mg base "TooMany" 1 ["self", "what", "most"] (sp_TooMany_init K) := by
  obtain ⟨fd, F⟩ := c.t.d.def_ 20 (d := d_TooMany_init) rfl
  exact ⟨fd, ok_TooMany_init F Tx , F.bindsN fun _ _ _ _ _ _ us hl => match us, hl with | [_, _, _], _ => rfl, kbn_at F 1 _ (fun _ _ _ _ _ _ us ws l1 l2 => match us, ws, l1, l2 with | [_], [_, _], _, _ => rfl)  gkA_rel, kbn_at F 1 _ (fun _ _ _ _ _ _ us ws l1 l2 => match us, ws, l1, l2 with | [_], [_, _], _, _ => rfl)  gkS_rel⟩
theorem sc_BadText_init : FnScope ["self", "line", "word"] ["self", "line", "word"] (defScope s_BadText_init) := ⟨rfl, rfl, rfl, by decide +kernel, rfl, by decide +kernel, by decide +kernel⟩
theorem ok_BadText_init {f : Addr} {fd : FuncData} (F : FunD K "__init__" "BadText.__init__" (defArgs s_BadText_init) (defBody s_BadText_init) (defScope s_BadText_init) [] [] f fd) (Tx : Txt K mg)   : FnOk P w K mg base CX0 1 f fd ["self", "line", "word"] (sp_BadText_init K) := by
  refine FunD.ok F sc_BadText_init (fun vs H Q E h => ?_) (fun cdv A outer s H vs Q E hr h => ?_)
  · obtain ⟨a, C, v, u, rfl, _⟩ := h
    rfl
  · obtain ⟨a, C, v, u, rfl, T, no, no2, e, q⟩ := h
    refine ⟨_, PSs.nox (pss_cons (ps_ost (pv 0) (pv 1))
        (pss_one (ps_ost (pv 0) (pv 2)))), ?_⟩
    refine ⟨_, rfl, _, rfl, a, C, rfl, T, no, .inl ⟨e, fun dx nd ne => ?_⟩⟩
    exact ⟨_, rfl, _, rfl, a, C, rfl, T, no2, .inr ⟨dx, [("line", v)], upd_same, by rw [upd_ne ne, upd_same], (show 1 ≤ 900 by decide), q dx nd ne⟩⟩
theorem has_BadText_init (Tx : Txt K mg) (c : He.SaysX fa fn [] tf ex w hh K) (X : K.In hh) (GG : hh.Ns mainGlobals mg)   : HasE P w K mg base "BadText" 1 ["self", "line", "word"] (sp_BadText_init K) := by
  obtain ⟨fd, F⟩ := c.t.d.def_ 21 (d := d_BadText_init) rfl
  exact ⟨fd, ok_BadText_init F Tx , F.bindsN fun _ _ _ _ _ _ us hl => match us, hl with | [_, _, _], _ => rfl, kbn_at F 1 _ (fun _ _ _ _ _ _ us ws l1 l2 => match us, ws, l1, l2 with | [_], [_, _], _, _ => rfl)  gkA_rel, kbn_at F 1 _ (fun _ _ _ _ _ _ us ws l1 l2 => match us, ws, l1, l2 with | [_], [_, _], _, _ => rfl)  gkS_rel⟩
theorem sc_BadLine_init : FnScope ["self", "line", "error"] ["self", "line", "error"] (defScope s_BadLine_init) := ⟨rfl, rfl, rfl, by decide +kernel, rfl, by decide +kernel, by decide +kernel⟩
theorem ok_BadLine_init {f : Addr} {fd : FuncData} (F : FunD K "__init__" "BadLine.__init__" (defArgs s_BadLine_init) (defBody s_BadLine_init) (defScope s_BadLine_init) [] [] f fd) (Tx : Txt K mg)   : FnOk P w K mg base CX0 1 f fd ["self", "line", "error"] (sp_BadLine_init K) := by
  refine FunD.ok F sc_BadLine_init (fun vs H Q E h => ?_) (fun cdv A outer s H vs Q E hr h => ?_)
  · obtain ⟨a, C, v, u, rfl, _⟩ := h
    rfl
  · obtain ⟨a, C, v, u, rfl, T, no, no2, e, q⟩ := h
    refine ⟨_, PSs.nox (pss_cons (ps_ost (pv 0) (pv 1))
        (pss_one (ps_ost (pv 0) (pv 2)))), ?_⟩
    refine ⟨_, rfl, _, rfl, a, C, rfl, T, no, .inl ⟨e, fun dx nd ne => ?_⟩⟩
    exact ⟨_, rfl, _, rfl, a, C, rfl, T, no2, .inr ⟨dx, [("line", v)], upd_same, by rw [upd_ne ne, upd_same], (show 1 ≤ 900 by decide), q dx nd ne⟩⟩
theorem has_BadLine_init (Tx : Txt K mg) (c : He.SaysX fa fn [] tf ex w hh K) (X : K.In hh) (GG : hh.Ns mainGlobals mg)   : HasE P w K mg base "BadLine" 1 ["self", "line", "error"] (sp_BadLine_init K) := by
  obtain ⟨fd, F⟩ := c.t.d.def_ 22 (d := d_BadLine_init) rfl
  exact ⟨fd, ok_BadLine_init F Tx , F.bindsN fun _ _ _ _ _ _ us hl => match us, hl with | [_, _, _], _ => rfl, kbn_at F 1 _ (fun _ _ _ _ _ _ us ws l1 l2 => match us, ws, l1, l2 with | [_], [_, _], _, _ => rfl)  gkA_rel, kbn_at F 1 _ (fun _ _ _ _ _ _ us ws l1 l2 => match us, ws, l1, l2 with | [_], [_, _], _, _ => rfl)  gkS_rel⟩
/-! ### kinds of grid -/
def turnOf (z : Str) : Int := if z = "square" then 4 else 3
def fullOf (z : Str) : Int := if z = "square" then 4 else 6
def kdErr (K : PySem.W.Frag) (E : XK) (H : Hp) : Prop := Rz E (He.ga K "BadKind") [("part", .str "kind")] H
def sp_need_kind (K : PySem.W.Frag) : Sp := fun vs H Q E => ∃ (v : V) (k : Kd), vs = [v] ∧ KdV K H v k ∧ (isGrid v = true → Q .non H) ∧ (isGrid v = false → kdErr K E H)
theorem sc_need_kind : FnScope ["kind"] ["kind"] (defScope s_need_kind) := ⟨rfl, rfl, rfl, by decide +kernel, rfl, by decide +kernel, by decide +kernel⟩
theorem ok_need_kind {f : Addr} {fd : FuncData} (F : FunD K "need_kind" "need_kind" (defArgs s_need_kind) (defBody s_need_kind) (defScope s_need_kind) [] [] f fd) (Tx : Txt K mg) (h_is_grid : Has P w K mg base "is_grid" 1 ["value"] (sp_is_grid K)) (h_BadKind_init : HasE P w K mg base "BadKind" 1 ["self", "part"] (sp_BadKind_init K))  : FnOk P w K mg base (L2.CX P w) 3 f fd ["kind"] (sp_need_kind K) := by
  obtain ⟨f_is_grid, fd_is_grid, G_is_grid, g_is_grid, k_is_grid, b_is_grid⟩ := h_is_grid
  obtain ⟨fd_BadKind_init, G_BadKind_init, b_BadKind_init, kb_BadKind_init, ks_BadKind_init⟩ := h_BadKind_init
  refine FunD.ok F sc_need_kind (fun vs H Q E h => ?_) (fun cdv A outer s H vs Q E hr h => ?_)
  · obtain ⟨v, k, rfl, _⟩ := h
    rfl
  · obtain ⟨v, k, rfl, hk, q, r⟩ := h
    refine ⟨_, (pss_one (ps_if (pt_not (pt_val (pe_call G_is_grid (hr.mono (by decide)) (by rfl) g_is_grid k_is_grid b_is_grid .nil pass0 (pa_cons (pv 0) pa_nil)))) (pss_one (ps_raise rfl (takes_of rfl rfl rfl rfl) (pmk_oex Tx.er_BadKind.oex Tx.er_BadKind.ini Tx.er_BadKind.fn G_BadKind_init (hr.mono (by decide)) b_BadKind_init .nil pass0 (by rfl) Tx.g_BadKind (pa_cons pe_str pa_nil)))) pss_nil)), ?_⟩
    refine ⟨_, rfl, v, k, rfl, hk, _, rfl, ?_⟩
    cases e : isGrid v with
    | true => exact q e
    | false => exact mk1 Tx.er_BadKind.oex (Tx.er_BadKind.no "part" (by simp)) (r e)
theorem has_need_kind (Tx : Txt K mg) (c : He.SaysX fa fn [] tf ex w hh K) (X : K.In hh) (GG : hh.Ns mainGlobals mg) (h_is_grid : Has P w K mg base "is_grid" 1 ["value"] (sp_is_grid K)) (h_BadKind_init : HasE P w K mg base "BadKind" 1 ["self", "part"] (sp_BadKind_init K))  : HasX P w K mg base "need_kind" 3 ["kind"] (sp_need_kind K) := by
  obtain ⟨fd, F⟩ := c.t.d.def_ 24 (d := d_need_kind) rfl
  exact ⟨_, fd, ok_need_kind F Tx h_is_grid h_BadKind_init, He.glo_ok X GG (c.t.d.fact 33 (f := .glo "need_kind") rfl), F.kp, F.bindsN fun _ _ _ _ _ _ us hl => match us, hl with | [_], _ => rfl⟩
def sp_sides_of (K : PySem.W.Frag) : Sp := fun vs H Q E => ∃ (v : V) (k : Kd), vs = [v] ∧ KdV K H v k ∧ (∀ z, v = .str z → isGrid v = true → Q (.int (turnOf z)) H) ∧ (isGrid v = false → kdErr K E H)
theorem grid_str {v : V} (h : isGrid v = true) : ∃ z, v = .str z := by
  cases v with
  | str z => exact ⟨z, rfl⟩
  | _ => cases h
theorem str_sq (z : Str) : decide (V.str z = V.str "square") = decide (z = "square") := by
  by_cases h : z = "square"
  · rw [h, decide_eq_true rfl, decide_eq_true rfl]
  · rw [decide_eq_false h, decide_eq_false fun e => h (by injection e)]
theorem sc_sides_of : FnScope ["kind"] ["kind"] (defScope s_sides_of) := ⟨rfl, rfl, rfl, by decide +kernel, rfl, by decide +kernel, by decide +kernel⟩
theorem ok_sides_of {f : Addr} {fd : FuncData} (F : FunD K "sides_of" "sides_of" (defArgs s_sides_of) (defBody s_sides_of) (defScope s_sides_of) [] [] f fd) (Tx : Txt K mg) (h_need_kind : HasX P w K mg base "need_kind" 3 ["kind"] (sp_need_kind K))  : FnOk P w K mg base (L2.CX P w) 4 f fd ["kind"] (sp_sides_of K) := by
  obtain ⟨f_need_kind, fd_need_kind, G_need_kind, g_need_kind, k_need_kind, b_need_kind⟩ := h_need_kind
  refine FunD.ok F sc_sides_of (fun vs H Q E h => ?_) (fun cdv A outer s H vs Q E hr h => ?_)
  · obtain ⟨v, k, rfl, _⟩ := h
    rfl
  · obtain ⟨v, k, rfl, hk, q, r⟩ := h
    refine ⟨_, (pss_cons (ps_expr (pe_call G_need_kind (hr.mono (by decide)) (by rfl) g_need_kind k_need_kind b_need_kind .nil (passE rfl rfl rfl rfl) (pa_cons (pv 0) pa_nil)))
        (pss_one (ps_ret (pe_ifExp (pt_cmpR op_eq (pv 0) pe_str (nomark _)) pe_int pe_int)))), ?_⟩
    refine ⟨_, rfl, v, k, rfl, hk, fun e => ?_, fun e => r e⟩
    obtain ⟨z, rfl⟩ := grid_str e
    have q2 := q z rfl e
    refine ⟨_, rfl, rfl, _, rfl, ?_⟩
    rw [str_sq]
    unfold turnOf at q2
    refine ite2 (fun hz => ?_) (fun hz => ?_)
    · rw [if_pos (of_decide_eq_true hz)] at q2
      exact q2
    · rw [if_neg fun e => hz (decide_eq_true e)] at q2
      exact q2
theorem has_sides_of (Tx : Txt K mg) (c : He.SaysX fa fn [] tf ex w hh K) (X : K.In hh) (GG : hh.Ns mainGlobals mg) (h_need_kind : HasX P w K mg base "need_kind" 3 ["kind"] (sp_need_kind K))  : HasX P w K mg base "sides_of" 4 ["kind"] (sp_sides_of K) := by
  obtain ⟨fd, F⟩ := c.t.d.def_ 25 (d := d_sides_of) rfl
  exact ⟨_, fd, ok_sides_of F Tx h_need_kind, He.glo_ok X GG (c.t.d.fact 34 (f := .glo "sides_of") rfl), F.kp, F.bindsN fun _ _ _ _ _ _ us hl => match us, hl with | [_], _ => rfl⟩

def sp_full_of (K : PySem.W.Frag) : Sp := fun vs H Q E => ∃ (v : V) (k : Kd), vs = [v] ∧ KdV K H v k ∧ (∀ z, v = .str z → isGrid v = true → Q (.int (fullOf z)) H) ∧ (isGrid v = false → kdErr K E H)
theorem sc_full_of : FnScope ["kind"] ["kind"] (defScope s_full_of) := ⟨rfl, rfl, rfl, by decide +kernel, rfl, by decide +kernel, by decide +kernel⟩
theorem ok_full_of {f : Addr} {fd : FuncData} (F : FunD K "full_of" "full_of" (defArgs s_full_of) (defBody s_full_of) (defScope s_full_of) [] [] f fd) (Tx : Txt K mg) (h_need_kind : HasX P w K mg base "need_kind" 3 ["kind"] (sp_need_kind K))  : FnOk P w K mg base (L2.CX P w) 4 f fd ["kind"] (sp_full_of K) := by
  obtain ⟨f_need_kind, fd_need_kind, G_need_kind, g_need_kind, k_need_kind, b_need_kind⟩ := h_need_kind
  refine FunD.ok F sc_full_of (fun vs H Q E h => ?_) (fun cdv A outer s H vs Q E hr h => ?_)
  · obtain ⟨v, k, rfl, _⟩ := h
    rfl
  · obtain ⟨v, k, rfl, hk, q, r⟩ := h
    refine ⟨_, (pss_cons (ps_expr (pe_call G_need_kind (hr.mono (by decide)) (by rfl) g_need_kind k_need_kind b_need_kind .nil (passE rfl rfl rfl rfl) (pa_cons (pv 0) pa_nil)))
        (pss_one (ps_ret (pe_ifExp (pt_cmpR op_eq (pv 0) pe_str (nomark _)) pe_int pe_int)))), ?_⟩
    refine ⟨_, rfl, v, k, rfl, hk, fun e => ?_, fun e => r e⟩
    obtain ⟨z, rfl⟩ := grid_str e
    have q2 := q z rfl e
    refine ⟨_, rfl, rfl, _, rfl, ?_⟩
    rw [str_sq]
    unfold fullOf at q2
    refine ite2 (fun hz => ?_) (fun hz => ?_)
    · rw [if_pos (of_decide_eq_true hz)] at q2
      exact q2
    · rw [if_neg fun e => hz (decide_eq_true e)] at q2
      exact q2
theorem has_full_of (Tx : Txt K mg) (c : He.SaysX fa fn [] tf ex w hh K) (X : K.In hh) (GG : hh.Ns mainGlobals mg) (h_need_kind : HasX P w K mg base "need_kind" 3 ["kind"] (sp_need_kind K))  : HasX P w K mg base "full_of" 4 ["kind"] (sp_full_of K) := by
  obtain ⟨fd, F⟩ := c.t.d.def_ 26 (d := d_full_of) rfl
  exact ⟨_, fd, ok_full_of F Tx h_need_kind, He.glo_ok X GG (c.t.d.fact 35 (f := .glo "full_of") rfl), F.kp, F.bindsN fun _ _ _ _ _ _ us hl => match us, hl with | [_], _ => rfl⟩

end
end K00

namespace K00
open PySem PySem.Spec PyProof.Rows L2 Vf LamX
section
variable {hh : Heap} {P : Program} {w : World} {K : PySem.W.Frag} {mg : Str → Option Value} {base : Heap}
/-! ### the first that stands twice -/
theorem run_it {J : It} {n : Nat} {G : Hp → Prop} {Y : Nat → Hp → V → Hp → Prop} (w : Walk J n G Y) {B : (Hp → Prop) → V → Hp → Prop} {H0 : Hp} {Qd : Hp → Prop} (Pv : Nat → Hp → Prop) (h0 : Pv 0 H0) (hG : ∀ i H, i ≤ n → Pv i H → G H)
    (hs : ∀ i x H H', i < n → Pv i H → Y i H x H' → B (Pv (i + 1)) x H') (hd : ∀ H, Pv n H → Qd H) :
    ∃ W : Nat → Nat → Hp → Prop, (∃ m, W 0 m H0) ∧ ∀ i m H, W i m H → (J.stop i H ∧ Qd H) ∨ (J.go i H ∧ ∃ Nx : Hp → Prop, (∀ H', Nx H' → ∃ m', m' < m ∧ W (i + 1) m' H') ∧ ∀ x H', J.yld i H x H' → B Nx x H') := by
  refine ⟨fun i m H => m = n - i ∧ i ≤ n ∧ Pv i H, ⟨n, by simp, Nat.zero_le _, h0⟩, ?_⟩
  rintro i m H ⟨rfl, hi, p⟩
  have q := hG i H hi p
  by_cases hlt : i < n
  · exact .inr ⟨w.goes i H hlt q, Pv (i + 1), fun H' p' => ⟨n - (i + 1), by omega, rfl, hlt, p'⟩, fun x H' y => hs i x H H' hlt p (w.yields i H x H' hlt q y)⟩
  · have e : i = n := by omega
    subst e
    exact .inl ⟨w.stops H q, hd H p⟩
def optV : Option Int → V
  | none => .non
  | some t => .int t
def twF (seen : List Int) : List Int → Option Int
  | [] => none
  | x :: r => if x ∈ seen then some x else twF (x :: seen) r
def tw (ns : List Int) : Option Int := twF [] ns
def sp_first_twice (K : PySem.W.Frag) : Sp := fun vs H Q _ => ∃ (a : Addr) (ns : List Int), vs = [.ref a] ∧ SqL K H a (ns.map V.int) ∧ ns.length ≤ 1000 ∧ ∀ H', Same H H' → Q (optV (tw ns)) H'
theorem sc_first_twice : FnScope ["values", "seen", "value"] ["values"] (defScope s_first_twice) := ⟨rfl, rfl, rfl, by decide +kernel, rfl, by decide +kernel, by decide +kernel⟩
theorem ok_first_twice {f : Addr} {fd : FuncData} (F : FunD K "first_twice" "first_twice" (defArgs s_first_twice) (defBody s_first_twice) (defScope s_first_twice) [] [] f fd) (Tx : Txt K mg)   : FnOk P w K mg base CX0 1 f fd ["values"] (sp_first_twice K) := by
  refine FunD.ok F sc_first_twice (fun vs H Q E h => ?_) (fun cdv A outer s H vs Q E hr h => ?_)
  · obtain ⟨a, ns, rfl, _⟩ := h
    rfl
  · obtain ⟨a, ns, rfl, ha, hl, q⟩ := h
    refine ⟨_, PSs.nox (pss_cons (ps_set (i := 1) sc_first_twice.nd rfl (Or.inl rfl) (pe_callTy0 cr_set0K (by rfl) Tx.n_set (by decide +kernel)))
        (pss_cons (ps_for PassesOwn.never rfl (pi_list (pv 0)) (pg_name (i := 2) sc_first_twice.nd rfl (Or.inl rfl)) (pss_cons (ps_if (pt_cmpR or_sinK (pv 2) (pv 1) rfl) (pss_one (ps_ret (pv 2))) pss_nil)
        (pss_one (ps_expr (pe_saddK (pv 1) (pa_cons (pv 2) pa_nil))))))
        (pss_one (ps_ret pe_non)))), ?_⟩
    refine ⟨rfl, fun s ns0 => ?_⟩
    have s1 : Same H (upd H s (SetK P w s (fun _ => false) 0)) := same_new ns0
    refine ⟨_, rfl, a, rfl, ⟨_, sqL_same ha s1⟩, ?_⟩
    refine for_it (walk_list (K := K) (a := a) (xs := ns.map V.int)) (fun i σ H2 => ∃ (v : Option V) (seen : List Int) (S : Key → Bool) (n : Nat), σ = [some (.ref a), some (.ref s), v] ∧ Same H H2 ∧ H2 s = some (SetK P w s S n) ∧ n ≤ i ∧ (∀ k : Int, S (.inl k) = decide (k ∈ seen)) ∧ tw ns = twF seen (ns.drop i))
      ⟨none, [], _, 0, rfl, s1, upd_same, Nat.le_refl _, fun k => by simp, rfl⟩ (fun i σ H2 _ p => ?_) (fun i x σ H2 H3 hi p y => ?_) (fun σ H2 p => ?_)
    · obtain ⟨_, _, _, _, _, s2, _⟩ := p
      exact sqL_same ha s2
    · obtain ⟨v, seen, S, n, rfl, s2, hs, hn, hS, ht⟩ := p
      obtain ⟨rfl, hx⟩ := y
      rw [List.getElem?_map] at hx
      obtain ⟨m, hm, rfl⟩ := Option.map_eq_some_iff.mp hx
      obtain ⟨hlt, hm2⟩ := List.getElem?_eq_some_iff.mp hm
      have hd : ns.drop i = m :: ns.drop (i + 1) := by rw [List.drop_eq_getElem_cons hlt, hm2]
      rw [hd] at ht
      rw [List.length_map] at hi
      refine ⟨_, rfl, _, rfl, .inl m, s, S, n, rfl, rfl, hs, _, rfl, ?_⟩
      have ht2 : tw ns = if m ∈ seen then some m else twF (m :: seen) (ns.drop (i + 1)) := ht
      show if S (.inl m) = true then _ else _
      refine ite2 (fun e => ?_) (fun e => ?_)
      · rw [hS m] at e
        rw [if_pos (of_decide_eq_true e)] at ht2
        rw [ht2] at q
        exact ⟨_, rfl, q _ s2⟩
      · rw [hS m] at e
        rw [if_neg fun z => e (decide_eq_true z)] at ht2
        refine ⟨_, rfl, ⟨s, S, n, rfl, hs⟩, _, rfl, s, .inl m, S, n, rfl, rfl, hs, by show n + 1 < 4096; omega, ?_⟩
        refine ⟨_, m :: seen, _, _, rfl, Same.mut s2 ns0, upd_same, ?_, fun k => ?_, ht2⟩
        · split <;> omega
        · rw [hS k]
          by_cases hk : k = m
          · subst hk
            simp
          · simp [hk]
    · obtain ⟨v, seen, S, n, rfl, s2, hs, hn, hS, ht⟩ := p
      rw [List.length_map, List.drop_length] at ht
      have ht2 : tw ns = none := ht
      rw [ht2] at q
      exact q _ s2
theorem has_first_twice (Tx : Txt K mg) (c : He.SaysX fa fn [] tf ex w hh K) (X : K.In hh) (GG : hh.Ns mainGlobals mg)   : Has P w K mg base "first_twice" 1 ["values"] (sp_first_twice K) := by
  obtain ⟨fd, F⟩ := c.t.d.def_ 31 (d := d_first_twice) rfl
  exact ⟨_, fd, ok_first_twice F Tx , He.glo_ok X GG (c.t.d.fact 40 (f := .glo "first_twice") rfl), F.kp, F.bindsN fun _ _ _ _ _ _ us hl => match us, hl with | [_], _ => rfl⟩
/-! ### seams -/
/-- what is_seam tells of a value -/
def SeamSays (K : PySem.W.Frag) (H : Hp) (v : V) (k : Kd) (n : Int) (b : Bool) : Prop := (k.seq = false ∧ b = false) ∨ (k.seq = true ∧ ∃ (a : Addr) (xs : List V), v = .ref a ∧ (H a = some (.lst xs) ∨ H a = some (.tup xs)) ∧
  ((xs.length ≠ 2 ∧ b = false) ∨ ∃ (x y : V) (kx ky : Kd), xs = [x, y] ∧ KdV K H x kx ∧ KdV K H y ky ∧ b = (bnd x (.int 0) (.int (n - 1)) && (bnd y (.int 0) (.int (n - 1)) && !decide (x = y)))))
theorem SeamSays.same {H H' : Hp} {v : V} {k : Kd} {n : Int} {b : Bool} (h : SeamSays K H v k n b) (s : Same H H') : SeamSays K H' v k n b := by
  rcases h with h | ⟨h1, a, xs, e, h2, h3⟩
  · exact .inl h
  · refine .inr ⟨h1, a, xs, e, ?_, ?_⟩
    · rcases h2 with h2 | h2
      · exact .inl (s _ _ h2)
      · exact .inr (s _ _ h2)
    · rcases h3 with h3 | ⟨x, y, kx, ky, e1, h4, h5, h6⟩
      · exact .inl h3
      · exact .inr ⟨x, y, kx, ky, e1, h4.same s, h5.same s, h6⟩
theorem bnd_int {v l m : V} (h : bnd v l m = true) : ∃ i, v = .int i := by
  cases v with
  | int i => exact ⟨i, rfl⟩
  | _ => cases h
theorem len_ne {xs : List V} (h : xs.length ≠ 2) : (!decide (V.int (xs.length : Int) = V.int 2)) = true := by
  rw [decide_eq_false, Bool.not_false]
  intro e
  injection e with e
  omega
theorem len_eq {x y : V} : (!decide (V.int ([x, y].length : Int) = V.int 2)) = false := rfl
def sp_is_seam (K : PySem.W.Frag) : Sp := fun vs H Q _ => ∃ (v : V) (k : Kd) (n : Int) (b : Bool), vs = [v, .int n] ∧ KdV K H v k ∧ SeamSays K H v k n b ∧ ∀ H', Same H H' → Q (.bl b) H'
theorem sc_is_seam : FnScope ["value", "sides", "one", "other"] ["value", "sides"] (defScope s_is_seam) := ⟨rfl, rfl, rfl, by decide +kernel, rfl, by decide +kernel, by decide +kernel⟩
theorem ok_is_seam {f : Addr} {fd : FuncData} (F : FunD K "is_seam" "is_seam" (defArgs s_is_seam) (defBody s_is_seam) (defScope s_is_seam) [] [] f fd) (Tx : Txt K mg) (h_is_listed : Has P w K mg base "is_listed" 1 ["value"] (sp_is_listed K)) (h_is_within : Has P w K mg base "is_within" 2 ["value", "least", "most"] (sp_is_within K))  : FnOk P w K mg base CX0 3 f fd ["value", "sides"] (sp_is_seam K) := by
  obtain ⟨f_is_listed, fd_is_listed, G_is_listed, g_is_listed, k_is_listed, b_is_listed⟩ := h_is_listed
  obtain ⟨f_is_within, fd_is_within, G_is_within, g_is_within, k_is_within, b_is_within⟩ := h_is_within
  refine FunD.ok F sc_is_seam (fun vs H Q E h => ?_) (fun cdv A outer s H vs Q E hr h => ?_)
  · obtain ⟨v, k, n, b, rfl, _⟩ := h
    rfl
  · obtain ⟨v, k, n, b, rfl, hk, hs, q⟩ := h
    rcases hs with ⟨h1, rfl⟩ | ⟨h1, a, xs, rfl, h2, h3⟩
    · refine ⟨_, PSs.nox (pss_cons (ps_if (PW.pt (pw_or (pt_not (pt_val (pe_call G_is_listed (hr.mono (by decide)) (by rfl) g_is_listed k_is_listed b_is_listed .nil pass0 (pa_cons (pv 0) pa_nil)))) (pw_or1 (pt_cmpR op_ne (pe_callB call_len_seq (by rfl) Tx.n_len (by decide +kernel) (pa_cons (pv 0) pa_nil)) pe_int (nomark _))))) (pss_one (ps_ret pe_bl)) pss_nil)
        (pss_cons (ps_asg (pv 0) (pg_tup (by rfl) (pgs_cons (pg_name (i := 2) sc_is_seam.nd rfl (Or.inl rfl)) (pgs_cons (pg_name (i := 3) sc_is_seam.nd rfl (Or.inl rfl)) pgs_nil))))
        (pss_one (ps_ret (pe_and (pe_call G_is_within (hr.mono (by decide)) (by rfl) g_is_within k_is_within b_is_within .nil pass0 (pa_cons (pv 2) (pa_cons pe_int (pa_cons (pe_op op_sub (pv 1) pe_int) pa_nil)))) (pe_and (pe_call G_is_within (hr.mono (by decide)) (by rfl) g_is_within k_is_within b_is_within .nil pass0 (pa_cons (pv 3) (pa_cons pe_int (pa_cons (pe_op op_sub (pv 1) pe_int) pa_nil)))) (pe_one (pe_cmpR op_ne (pv 2) (pv 3) (nomark _))))))))), ?_⟩
      refine ⟨_, rfl, v, k, rfl, hk, fun H1 s1 => ⟨_, rfl, ?_⟩⟩
      rw [h1]
      exact iteT (q _ s1)
    · rcases h2 with h2 | h2
      · refine ⟨_, PSs.nox (pss_cons (ps_if (PW.pt (pw_or (pt_not (pt_val (pe_call G_is_listed (hr.mono (by decide)) (by rfl) g_is_listed k_is_listed b_is_listed .nil pass0 (pa_cons (pv 0) pa_nil)))) (pw_or1 (pt_cmpR op_ne (pe_callB call_len_seq (by rfl) Tx.n_len (by decide +kernel) (pa_cons (pv 0) pa_nil)) pe_int (nomark _))))) (pss_one (ps_ret pe_bl)) pss_nil)
        (pss_cons (ps_asg (pv 0) (pg_unl (by rfl) (pgs_cons (pg_name (i := 2) sc_is_seam.nd rfl (Or.inl rfl)) (pgs_cons (pg_name (i := 3) sc_is_seam.nd rfl (Or.inl rfl)) pgs_nil))))
        (pss_one (ps_ret (pe_and (pe_call G_is_within (hr.mono (by decide)) (by rfl) g_is_within k_is_within b_is_within .nil pass0 (pa_cons (pv 2) (pa_cons pe_int (pa_cons (pe_op op_sub (pv 1) pe_int) pa_nil)))) (pe_and (pe_call G_is_within (hr.mono (by decide)) (by rfl) g_is_within k_is_within b_is_within .nil pass0 (pa_cons (pv 3) (pa_cons pe_int (pa_cons (pe_op op_sub (pv 1) pe_int) pa_nil)))) (pe_one (pe_cmpR op_ne (pv 2) (pv 3) (nomark _))))))))), ?_⟩
        refine ⟨_, rfl, _, k, rfl, hk, fun H1 s1 => ⟨_, rfl, ?_⟩⟩
        rw [h1]
        refine iteF ?_
        have h2' := s1 _ _ h2
        refine ⟨_, rfl, a, _, rfl, .inl (SqL.of h2'), rfl, _, rfl, ?_⟩
        rcases h3 with ⟨h3, rfl⟩ | ⟨x, y, kx, ky, rfl, hx, hy, e⟩
        · exact ite2 (fun _ => q _ s1) (fun e => absurd (len_ne h3) e)
        · refine ite2 (fun e => absurd e (by rw [len_eq]; exact Bool.false_ne_true)) (fun _ => ?_)
          refine ⟨_, rfl, a, _, rfl, SqL.of h2', rfl, x, [y], rfl, y, [], rfl, rfl, ?_⟩
          refine ⟨_, rfl, _, rfl, _, _, rfl, rfl, x, .int 0, .int (n - 1), kx, rfl, hx.same s1, rfl, rfl, _, rfl, ?_⟩
          refine ite2 (fun e1 => ?_) (fun e1 => ?_)
          · refine ⟨_, rfl, _, rfl, _, _, rfl, rfl, y, .int 0, .int (n - 1), ky, rfl, hy.same s1, rfl, rfl, _, rfl, ?_⟩
            have q1 := q H1 s1
            rw [e, e1, Bool.true_and] at q1
            refine ite2 (fun e2 => ?_) (fun e2 => ?_)
            · rw [e2, Bool.true_and] at q1
              obtain ⟨i, rfl⟩ := bnd_int e1
              obtain ⟨j, rfl⟩ := bnd_int e2
              exact ⟨_, rfl, _, rfl, rfl, q1⟩
            · rw [Bool.eq_false_iff.mpr e2, Bool.false_and] at q1
              exact q1
          · have q1 := q H1 s1
            rw [e, Bool.eq_false_iff.mpr e1, Bool.false_and] at q1
            exact q1
      · refine ⟨_, PSs.nox (pss_cons (ps_if (PW.pt (pw_or (pt_not (pt_val (pe_call G_is_listed (hr.mono (by decide)) (by rfl) g_is_listed k_is_listed b_is_listed .nil pass0 (pa_cons (pv 0) pa_nil)))) (pw_or1 (pt_cmpR op_ne (pe_callB call_len_seq (by rfl) Tx.n_len (by decide +kernel) (pa_cons (pv 0) pa_nil)) pe_int (nomark _))))) (pss_one (ps_ret pe_bl)) pss_nil)
        (pss_cons (ps_asg (pv 0) (pg_tup (by rfl) (pgs_cons (pg_name (i := 2) sc_is_seam.nd rfl (Or.inl rfl)) (pgs_cons (pg_name (i := 3) sc_is_seam.nd rfl (Or.inl rfl)) pgs_nil))))
        (pss_one (ps_ret (pe_and (pe_call G_is_within (hr.mono (by decide)) (by rfl) g_is_within k_is_within b_is_within .nil pass0 (pa_cons (pv 2) (pa_cons pe_int (pa_cons (pe_op op_sub (pv 1) pe_int) pa_nil)))) (pe_and (pe_call G_is_within (hr.mono (by decide)) (by rfl) g_is_within k_is_within b_is_within .nil pass0 (pa_cons (pv 3) (pa_cons pe_int (pa_cons (pe_op op_sub (pv 1) pe_int) pa_nil)))) (pe_one (pe_cmpR op_ne (pv 2) (pv 3) (nomark _))))))))), ?_⟩
        refine ⟨_, rfl, _, k, rfl, hk, fun H1 s1 => ⟨_, rfl, ?_⟩⟩
        rw [h1]
        refine iteF ?_
        have h2' := s1 _ _ h2
        refine ⟨_, rfl, a, _, rfl, .inr (SqT.of h2'), rfl, _, rfl, ?_⟩
        rcases h3 with ⟨h3, rfl⟩ | ⟨x, y, kx, ky, rfl, hx, hy, e⟩
        · exact ite2 (fun _ => q _ s1) (fun e => absurd (len_ne h3) e)
        · refine ite2 (fun e => absurd e (by rw [len_eq]; exact Bool.false_ne_true)) (fun _ => ?_)
          refine ⟨_, rfl, a, _, rfl, SqT.of h2', rfl, x, [y], rfl, y, [], rfl, rfl, ?_⟩
          refine ⟨_, rfl, _, rfl, _, _, rfl, rfl, x, .int 0, .int (n - 1), kx, rfl, hx.same s1, rfl, rfl, _, rfl, ?_⟩
          refine ite2 (fun e1 => ?_) (fun e1 => ?_)
          · refine ⟨_, rfl, _, rfl, _, _, rfl, rfl, y, .int 0, .int (n - 1), ky, rfl, hy.same s1, rfl, rfl, _, rfl, ?_⟩
            have q1 := q H1 s1
            rw [e, e1, Bool.true_and] at q1
            refine ite2 (fun e2 => ?_) (fun e2 => ?_)
            · rw [e2, Bool.true_and] at q1
              obtain ⟨i, rfl⟩ := bnd_int e1
              obtain ⟨j, rfl⟩ := bnd_int e2
              exact ⟨_, rfl, _, rfl, rfl, q1⟩
            · rw [Bool.eq_false_iff.mpr e2, Bool.false_and] at q1
              exact q1
          · have q1 := q H1 s1
            rw [e, Bool.eq_false_iff.mpr e1, Bool.false_and] at q1
            exact q1
theorem has_is_seam (Tx : Txt K mg) (c : He.SaysX fa fn [] tf ex w hh K) (X : K.In hh) (GG : hh.Ns mainGlobals mg) (h_is_listed : Has P w K mg base "is_listed" 1 ["value"] (sp_is_listed K)) (h_is_within : Has P w K mg base "is_within" 2 ["value", "least", "most"] (sp_is_within K))  : Has P w K mg base "is_seam" 3 ["value", "sides"] (sp_is_seam K) := by
  obtain ⟨fd, F⟩ := c.t.d.def_ 36 (d := d_is_seam) rfl
  exact ⟨_, fd, ok_is_seam F Tx h_is_listed h_is_within, He.glo_ok X GG (c.t.d.fact 45 (f := .glo "is_seam") rfl), F.kp, F.bindsN fun _ _ _ _ _ _ us hl => match us, hl with | [_, _], _ => rfl⟩

end
end K00

namespace K00
open PySem PySem.Spec PyProof.Rows L2 Vf LamX
section
variable {hh : Heap} {P : Program} {w : World} {K : PySem.W.Frag} {mg : Str → Option Value} {base : Heap}
/-! ### the seams of a skin -/
def smErr (K : PySem.W.Frag) (E : XK) (H : Hp) : Prop := Rz E (He.ga K "BadSkin") [("part", .str "seams")] H
theorem bls_mapf (f : V → Bool) (xs : List V) : (xs.filter fun _ => true).map (fun x => V.bl (f x)) = (xs.map f).map V.bl := by
  rw [List.filter_eq_self.mpr fun _ _ => rfl, List.map_map]
  rfl
/-- the items of a list or a tuple -/
def Box (K : PySem.W.Frag) (H : Hp) (a : Addr) (xs : List V) : Prop := H a = some (.lst xs) ∨ SqT K H a xs
theorem Box.same {H H' : Hp} {a : Addr} {xs : List V} (h : Box K H a xs) (s : Same H H') : Box K H' a xs := by
  rcases h with h | h
  · exact .inl (s _ _ h)
  · exact .inr (sqT_same h s)
def sp_need_seams (K : PySem.W.Frag) : Sp := fun vs H Q E => ∃ (v : V) (k : Kd) (n : Int), vs = [v, .int n] ∧ KdV K H v k ∧
  ((k.seq = false ∧ smErr K E H) ∨ (k.seq = true ∧ ∃ (a : Addr) (xs : List V) (f : V → Bool), v = .ref a ∧ Box K H a xs ∧ xs.length ≤ 1000 ∧ (∀ x ∈ xs, ∃ kx, KdV K H x kx ∧ SeamSays K H x kx n (f x)) ∧
    (xs.all f = true → ∀ H', Same H H' → Q .non H') ∧ (xs.all f = false → smErr K E H)))
theorem all_id {f : V → Bool} {xs : List V} : (xs.map f).all id = xs.all f := by
  rw [List.all_map]
  rfl
theorem sc_need_seams : FnScope ["seams", "sides", "seam"] ["seams", "sides"] (defScope s_need_seams) := ⟨rfl, rfl, rfl, by decide +kernel, rfl, by decide +kernel, by decide +kernel⟩
theorem ok_need_seams {f : Addr} {fd : FuncData} (F : FunD K "need_seams" "need_seams" (defArgs s_need_seams) (defBody s_need_seams) (defScope s_need_seams) [] [] f fd) (Tx : Txt K mg) (h_is_listed : Has P w K mg base "is_listed" 1 ["value"] (sp_is_listed K)) (h_is_seam : Has P w K mg base "is_seam" 3 ["value", "sides"] (sp_is_seam K)) (h_BadSkin_init : HasE P w K mg base "BadSkin" 1 ["self", "part"] (sp_BadSkin_init K))  : FnOk P w K mg base (L2.CX P w) 4 f fd ["seams", "sides"] (sp_need_seams K) := by
  obtain ⟨f_is_listed, fd_is_listed, G_is_listed, g_is_listed, k_is_listed, b_is_listed⟩ := h_is_listed
  obtain ⟨f_is_seam, fd_is_seam, G_is_seam, g_is_seam, k_is_seam, b_is_seam⟩ := h_is_seam
  obtain ⟨fd_BadSkin_init, G_BadSkin_init, b_BadSkin_init, kb_BadSkin_init, ks_BadSkin_init⟩ := h_BadSkin_init
  refine FunD.ok F sc_need_seams (fun vs H Q E h => ?_) (fun cdv A outer s H vs Q E hr h => ?_)
  · obtain ⟨v, k, n, rfl, _⟩ := h
    rfl
  · obtain ⟨v, k, n, rfl, hk, h⟩ := h
    rcases h with ⟨h1, r⟩ | ⟨h1, a, xs, f, rfl, hb, hl, hx, q, r⟩
    · refine ⟨_, (pss_one (ps_if (PW.pt (pw_or (pt_not (pt_val (pe_call G_is_listed (hr.mono (by decide)) (by rfl) g_is_listed k_is_listed b_is_listed .nil pass0 (pa_cons (pv 0) pa_nil)))) (pw_or1 (pt_not (pt_val (pe_callB (cr_all rfl) (by rfl) Tx.n_all (by decide +kernel) (pa_cons (pe_lc (own := [("seam", 2)]) (g := gName 2) (tt := tYes) rfl sc_need_seams.nd (pi_list (pv 0)) (blkOk_by (own := [("seam", 2)]) (N := ["seams", "sides", "seam"]) (sc := defScope s_need_seams) (by decide +kernel)) (fun _ _ _ _ _ => (pg_name (i := 2) sc_need_seams.nd rfl (Or.inl rfl))) (fun _ _ _ _ _ => pts_nil) (fun _ _ _ _ _ => (pe_call G_is_seam (hr.mono (by decide)) (by rfl) g_is_seam k_is_seam b_is_seam .nil pass0 (pa_cons (pv 2) (pa_cons (pv 1) pa_nil))))) pa_nil))))))) (pss_one (ps_raise rfl (takes_of rfl rfl rfl rfl) (pmk_oex Tx.er_BadSkin.oex Tx.er_BadSkin.ini Tx.er_BadSkin.fn G_BadSkin_init (hr.mono (by decide)) b_BadSkin_init .nil pass0 (by rfl) Tx.g_BadSkin (pa_cons pe_str pa_nil)))) pss_nil)), ?_⟩
      refine ⟨_, rfl, v, k, rfl, hk, fun H1 s1 => ⟨_, rfl, ?_⟩⟩
      rw [h1]
      exact iteT (mk1 Tx.er_BadSkin.oex (Tx.er_BadSkin.no "part" (by simp)) (r.same s1))
    · rcases hb with hb | hb
      · refine ⟨_, (pss_one (ps_if (PW.pt (pw_or (pt_not (pt_val (pe_call G_is_listed (hr.mono (by decide)) (by rfl) g_is_listed k_is_listed b_is_listed .nil pass0 (pa_cons (pv 0) pa_nil)))) (pw_or1 (pt_not (pt_val (pe_callB (cr_all rfl) (by rfl) Tx.n_all (by decide +kernel) (pa_cons (pe_lc (own := [("seam", 2)]) (g := gName 2) (tt := tYes) rfl sc_need_seams.nd (pi_list (pv 0)) (blkOk_by (own := [("seam", 2)]) (N := ["seams", "sides", "seam"]) (sc := defScope s_need_seams) (by decide +kernel)) (fun _ _ _ _ _ => (pg_name (i := 2) sc_need_seams.nd rfl (Or.inl rfl))) (fun _ _ _ _ _ => pts_nil) (fun _ _ _ _ _ => (pe_call G_is_seam (hr.mono (by decide)) (by rfl) g_is_seam k_is_seam b_is_seam .nil pass0 (pa_cons (pv 2) (pa_cons (pv 1) pa_nil))))) pa_nil))))))) (pss_one (ps_raise rfl (takes_of rfl rfl rfl rfl) (pmk_oex Tx.er_BadSkin.oex Tx.er_BadSkin.ini Tx.er_BadSkin.fn G_BadSkin_init (hr.mono (by decide)) b_BadSkin_init .nil pass0 (by rfl) Tx.g_BadSkin (pa_cons pe_str pa_nil)))) pss_nil)), ?_⟩
        refine ⟨_, rfl, _, k, rfl, hk, fun H1 s1 => ⟨_, rfl, ?_⟩⟩
        rw [h1]
        refine iteF ?_
        refine ⟨_, rfl, a, rfl, ⟨xs, SqL.of (s1 _ _ hb)⟩, fun D nD => ?_⟩
        refine lc_pure (walk_list (K := K) (a := a) (xs := xs)) xs rfl (by omega) (fun i H x H' y => ⟨same_of_eq y.1, y.2⟩) (fun x => .bl (f x)) (fun _ => true) nD (fun H s => SqL.of (s _ _ (s1 _ _ hb))) (fun i x H2 Q1 Q0 hi s2 q1 q0 => ?_) (fun H2 s2 hD => ?_)
        · refine ⟨rfl, ?_⟩
          obtain ⟨kx, h2, h3⟩ := hx x (List.mem_of_getElem? hi)
          exact ⟨_, rfl, _, rfl, x, kx, n, f x, rfl, (h2.same s1).same s2, (h3.same s1).same s2, fun H4 s4 => q1 rfl _ s4⟩
        · rw [bls_mapf] at hD
          refine ⟨D, _, rfl, SqL.of hD, _, rfl, ?_⟩
          rw [all_id]
          cases e : xs.all f with
          | true => exact q e _ (s1.trans s2)
          | false => exact mk1 Tx.er_BadSkin.oex (Tx.er_BadSkin.no "part" (by simp)) ((r e).same (s1.trans s2))
      · refine ⟨_, (pss_one (ps_if (PW.pt (pw_or (pt_not (pt_val (pe_call G_is_listed (hr.mono (by decide)) (by rfl) g_is_listed k_is_listed b_is_listed .nil pass0 (pa_cons (pv 0) pa_nil)))) (pw_or1 (pt_not (pt_val (pe_callB (cr_all rfl) (by rfl) Tx.n_all (by decide +kernel) (pa_cons (pe_lc (own := [("seam", 2)]) (g := gName 2) (tt := tYes) rfl sc_need_seams.nd (pi_tup (pv 0)) (blkOk_by (own := [("seam", 2)]) (N := ["seams", "sides", "seam"]) (sc := defScope s_need_seams) (by decide +kernel)) (fun _ _ _ _ _ => (pg_name (i := 2) sc_need_seams.nd rfl (Or.inl rfl))) (fun _ _ _ _ _ => pts_nil) (fun _ _ _ _ _ => (pe_call G_is_seam (hr.mono (by decide)) (by rfl) g_is_seam k_is_seam b_is_seam .nil pass0 (pa_cons (pv 2) (pa_cons (pv 1) pa_nil))))) pa_nil))))))) (pss_one (ps_raise rfl (takes_of rfl rfl rfl rfl) (pmk_oex Tx.er_BadSkin.oex Tx.er_BadSkin.ini Tx.er_BadSkin.fn G_BadSkin_init (hr.mono (by decide)) b_BadSkin_init .nil pass0 (by rfl) Tx.g_BadSkin (pa_cons pe_str pa_nil)))) pss_nil)), ?_⟩
        refine ⟨_, rfl, _, k, rfl, hk, fun H1 s1 => ⟨_, rfl, ?_⟩⟩
        rw [h1]
        refine iteF ?_
        refine ⟨_, rfl, a, rfl, ⟨xs, sqT_same hb s1⟩, fun D nD => ?_⟩
        refine lc_pure (walk_tup (K := K) (a := a) (xs := xs)) xs rfl (by omega) (fun i H x H' y => ⟨same_of_eq y.1, y.2⟩) (fun x => .bl (f x)) (fun _ => true) nD (fun H s => sqT_same (sqT_same hb s1) s) (fun i x H2 Q1 Q0 hi s2 q1 q0 => ?_) (fun H2 s2 hD => ?_)
        · refine ⟨rfl, ?_⟩
          obtain ⟨kx, h2, h3⟩ := hx x (List.mem_of_getElem? hi)
          exact ⟨_, rfl, _, rfl, x, kx, n, f x, rfl, (h2.same s1).same s2, (h3.same s1).same s2, fun H4 s4 => q1 rfl _ s4⟩
        · rw [bls_mapf] at hD
          refine ⟨D, _, rfl, SqL.of hD, _, rfl, ?_⟩
          rw [all_id]
          cases e : xs.all f with
          | true => exact q e _ (s1.trans s2)
          | false => exact mk1 Tx.er_BadSkin.oex (Tx.er_BadSkin.no "part" (by simp)) ((r e).same (s1.trans s2))
theorem has_need_seams (Tx : Txt K mg) (c : He.SaysX fa fn [] tf ex w hh K) (X : K.In hh) (GG : hh.Ns mainGlobals mg) (h_is_listed : Has P w K mg base "is_listed" 1 ["value"] (sp_is_listed K)) (h_is_seam : Has P w K mg base "is_seam" 3 ["value", "sides"] (sp_is_seam K)) (h_BadSkin_init : HasE P w K mg base "BadSkin" 1 ["self", "part"] (sp_BadSkin_init K))  : HasX P w K mg base "need_seams" 4 ["seams", "sides"] (sp_need_seams K) := by
  obtain ⟨fd, F⟩ := c.t.d.def_ 37 (d := d_need_seams) rfl
  exact ⟨_, fd, ok_need_seams F Tx h_is_listed h_is_seam h_BadSkin_init, He.glo_ok X GG (c.t.d.fact 46 (f := .glo "need_seams") rfl), F.kp, F.bindsN fun _ _ _ _ _ _ us hl => match us, hl with | [_, _], _ => rfl⟩
/-! ### pairs of sides -/
/-- the tuples at ts are the pairs ps -/
structure Seams (H : Hp) (ts : List Addr) (ps : List (Int × Int)) : Prop where
  len : ts.length = ps.length
  at_ : ∀ (i : Nat) (t : Addr) (p : Int × Int), ts[i]? = some t → ps[i]? = some p → H t = some (.tup [.int p.1, .int p.2])
theorem Seams.same {H H' : Hp} {ts : List Addr} {ps : List (Int × Int)} (h : Seams H ts ps) (s : Same H H') : Seams H' ts ps := ⟨h.len, fun i t p h1 h2 => s _ _ (h.at_ i t p h1 h2)⟩
def flat2 (ps : List (Int × Int)) : List Int := ps.flatMap fun p => [p.1, p.2]
theorem flat2_len (ps : List (Int × Int)) : (flat2 ps).length = 2 * ps.length := by
  unfold flat2
  induction ps with
  | nil => rfl
  | cons p r ih => simp only [List.flatMap_cons, List.length_append, List.length_cons, List.length_nil, ih]; omega
theorem flat2_take {ps : List (Int × Int)} {i : Nat} {p : Int × Int} (h : ps[i]? = some p) : flat2 (ps.take (i + 1)) = flat2 (ps.take i) ++ [p.1, p.2] := by
  unfold flat2
  rw [List.take_add_one, h, Option.toList_some, List.flatMap_append]
  rfl
/-- one seam of the walk -/
theorem Seams.get {H : Hp} {ts : List Addr} {ps : List (Int × Int)} (h : Seams H ts ps) {i : Nat} {x : V} (hx : (ts.map V.ref)[i]? = some x) : ∃ t p, x = .ref t ∧ ts[i]? = some t ∧ ps[i]? = some p ∧ H t = some (.tup [.int p.1, .int p.2]) := by
  rw [List.getElem?_map] at hx
  obtain ⟨t, ht, rfl⟩ := Option.map_eq_some_iff.mp hx
  obtain ⟨hlt, _⟩ := List.getElem?_eq_some_iff.mp ht
  rw [h.len] at hlt
  exact ⟨t, ps[i], rfl, ht, List.getElem?_eq_getElem hlt, h.at_ i t _ ht (List.getElem?_eq_getElem hlt)⟩
def sp_sides_in (K : PySem.W.Frag) : Sp := fun vs H Q _ => ∃ (a : Addr) (ts : List Addr) (ps : List (Int × Int)), vs = [.ref a] ∧ Box K H a (ts.map V.ref) ∧ Seams H ts ps ∧ ps.length ≤ 400 ∧
  ∀ H' r, Same H H' → H r = none → H' r = some (.lst ((flat2 ps).map V.int)) → Q (.ref r) H'
theorem two_at {x y : Int} {j : Nat} {v : V} (h : [V.int x, V.int y][j]? = some v) : ∃ m, v = .int m ∧ [x, y].take (j + 1) = [x, y].take j ++ [m] := by
  match j, h with
  | 0, h => exact ⟨x, (Option.some.inj h).symm, rfl⟩
  | 1, h => exact ⟨y, (Option.some.inj h).symm, rfl⟩
  | j + 2, h => simp at h
theorem sc_sides_in : FnScope ["seams", "seam", "side"] ["seams"] (defScope s_sides_in) := ⟨rfl, rfl, rfl, by decide +kernel, rfl, by decide +kernel, by decide +kernel⟩
theorem ok_sides_in {f : Addr} {fd : FuncData} (F : FunD K "sides_in" "sides_in" (defArgs s_sides_in) (defBody s_sides_in) (defScope s_sides_in) [] [] f fd) (Tx : Txt K mg)   : FnOk P w K mg base CX0 1 f fd ["seams"] (sp_sides_in K) := by
  refine FunD.ok F sc_sides_in (fun vs H Q E h => ?_) (fun cdv A outer s H vs Q E hr h => ?_)
  · obtain ⟨a, ts, ps, rfl, _⟩ := h
    rfl
  · obtain ⟨a, ts, ps, rfl, hb, hs, hl, q⟩ := h
    have len2 : ∀ (i j : Nat) (pr : Int × Int), ((flat2 (ps.take i) ++ [pr.1, pr.2].take j).map V.int).length < sizeLine := fun i j pr => by
      refine small_line ?_
      rw [List.length_map, List.length_append, flat2_len, List.length_take, List.length_take]
      have : [pr.1, pr.2].length = 2 := rfl
      omega
    rcases hb with hb | hb
    · refine ⟨_, PSs.nox (pss_one (ps_ret (pe_lc2 (wi1 := iTup K (tVar 1)) (own := [("seam", 1), ("side", 2)]) (vs1 := [2]) (tt := tYes) (tt1 := tYes) rfl sc_sides_in.nd (pi_list (pv 0)) (blkOk_by (own := [("seam", 1), ("side", 2)]) (N := ["seams", "seam", "side"]) (sc := defScope s_sides_in) (by decide +kernel)) (by decide) (fun _ _ _ _ _ => (pg_name (i := 1) sc_sides_in.nd rfl (Or.inl rfl))) (fun _ _ _ _ _ => pts_nil) (fun _ _ _ _ _ => (pi_tup (pv 1))) (fun _ _ _ _ _ => (pg_name (i := 2) sc_sides_in.nd rfl (Or.inl rfl))) (fun _ _ _ _ _ => pts_nil) (fun _ _ _ _ _ => (pv 2))))), ?_⟩
      refine ⟨_, rfl, a, rfl, ⟨_, SqL.of hb⟩, fun D nD => ?_⟩
      refine run_it (walk_list (K := K) (a := a) (xs := ts.map V.ref)) (fun i H' => Same H H' ∧ H' D = some (.lst ((flat2 (ps.take i)).map V.int))) ⟨same_new nD, upd_same⟩ (fun i H' _ p => SqL.of (p.1 _ _ hb)) (fun i x H2 H3 hi p y => ?_) (fun H' p => ?_)
      · obtain ⟨rfl, hx⟩ := y
        obtain ⟨t, pr, rfl, ht, hp, htup⟩ := hs.get hx
        refine ⟨rfl, ?_⟩
        refine ⟨_, rfl, t, rfl, ⟨_, SqT.of (p.1 _ _ htup)⟩, ?_⟩
        refine run_it (walk_tup (K := K) (a := t) (xs := [.int pr.1, .int pr.2])) (fun j H' => Same H H' ∧ H' D = some (.lst ((flat2 (ps.take i) ++ [pr.1, pr.2].take j).map V.int))) ⟨p.1, by rw [List.take_zero, List.append_nil]; exact p.2⟩ (fun j H' _ p => SqT.of (p.1 _ _ htup)) (fun j x H4 H5 hj p4 y4 => ?_) (fun H' p4 => ?_)
        · obtain ⟨rfl, hx2⟩ := y4
          obtain ⟨m, rfl, em⟩ := two_at hx2
          refine ⟨rfl, ?_⟩
          refine ⟨_, rfl, _, p4.2, len2 i j pr, Same.mut p4.1 nD, ?_⟩
          rw [upd_same, em]
          simp only [List.map_append, List.append_assoc, List.map_cons, List.map_nil]
        · refine ⟨p4.1, ?_⟩
          rw [p4.2, flat2_take hp]
          rfl
      · refine q _ _ p.1 nD ?_
        rw [p.2, List.length_map, hs.len, List.take_length]
    · refine ⟨_, PSs.nox (pss_one (ps_ret (pe_lc2 (wi1 := iTup K (tVar 1)) (own := [("seam", 1), ("side", 2)]) (vs1 := [2]) (tt := tYes) (tt1 := tYes) rfl sc_sides_in.nd (pi_tup (pv 0)) (blkOk_by (own := [("seam", 1), ("side", 2)]) (N := ["seams", "seam", "side"]) (sc := defScope s_sides_in) (by decide +kernel)) (by decide) (fun _ _ _ _ _ => (pg_name (i := 1) sc_sides_in.nd rfl (Or.inl rfl))) (fun _ _ _ _ _ => pts_nil) (fun _ _ _ _ _ => (pi_tup (pv 1))) (fun _ _ _ _ _ => (pg_name (i := 2) sc_sides_in.nd rfl (Or.inl rfl))) (fun _ _ _ _ _ => pts_nil) (fun _ _ _ _ _ => (pv 2))))), ?_⟩
      refine ⟨_, rfl, a, rfl, ⟨_, hb⟩, fun D nD => ?_⟩
      refine run_it (walk_tup (K := K) (a := a) (xs := ts.map V.ref)) (fun i H' => Same H H' ∧ H' D = some (.lst ((flat2 (ps.take i)).map V.int))) ⟨same_new nD, upd_same⟩ (fun i H' _ p => sqT_same hb p.1) (fun i x H2 H3 hi p y => ?_) (fun H' p => ?_)
      · obtain ⟨rfl, hx⟩ := y
        obtain ⟨t, pr, rfl, ht, hp, htup⟩ := hs.get hx
        refine ⟨rfl, ?_⟩
        refine ⟨_, rfl, t, rfl, ⟨_, SqT.of (p.1 _ _ htup)⟩, ?_⟩
        refine run_it (walk_tup (K := K) (a := t) (xs := [.int pr.1, .int pr.2])) (fun j H' => Same H H' ∧ H' D = some (.lst ((flat2 (ps.take i) ++ [pr.1, pr.2].take j).map V.int))) ⟨p.1, by rw [List.take_zero, List.append_nil]; exact p.2⟩ (fun j H' _ p => SqT.of (p.1 _ _ htup)) (fun j x H4 H5 hj p4 y4 => ?_) (fun H' p4 => ?_)
        · obtain ⟨rfl, hx2⟩ := y4
          obtain ⟨m, rfl, em⟩ := two_at hx2
          refine ⟨rfl, ?_⟩
          refine ⟨_, rfl, _, p4.2, len2 i j pr, Same.mut p4.1 nD, ?_⟩
          rw [upd_same, em]
          simp only [List.map_append, List.append_assoc, List.map_cons, List.map_nil]
        · refine ⟨p4.1, ?_⟩
          rw [p4.2, flat2_take hp]
          rfl
      · refine q _ _ p.1 nD ?_
        rw [p.2, List.length_map, hs.len, List.take_length]
theorem has_sides_in (Tx : Txt K mg) (c : He.SaysX fa fn [] tf ex w hh K) (X : K.In hh) (GG : hh.Ns mainGlobals mg)   : Has P w K mg base "sides_in" 1 ["seams"] (sp_sides_in K) := by
  obtain ⟨fd, F⟩ := c.t.d.def_ 38 (d := d_sides_in) rfl
  exact ⟨_, fd, ok_sides_in F Tx , He.glo_ok X GG (c.t.d.fact 47 (f := .glo "sides_in") rfl), F.kp, F.bindsN fun _ _ _ _ _ _ us hl => match us, hl with | [_], _ => rfl⟩
/-! ### mates -/
def msF (ms : List V) (p : Int × Int) : List V := (ms.set p.1.toNat (.int p.2)).set p.2.toNat (.int p.1)
def msL (ps : List (Int × Int)) (n : Nat) : List V := ps.foldl msF (List.replicate n .non)
theorem msF_len (ms : List V) (p : Int × Int) : (msF ms p).length = ms.length := by unfold msF; simp
theorem msL_len (ps : List (Int × Int)) (n : Nat) : (msL ps n).length = n := by
  unfold msL
  suffices h : ∀ ms : List V, (ps.foldl msF ms).length = ms.length by rw [h, List.length_replicate]
  induction ps with
  | nil => intro ms; rfl
  | cons p r ih => intro ms; rw [List.foldl_cons, ih, msF_len]
theorem msL_take {ps : List (Int × Int)} {i n : Nat} {p : Int × Int} (h : ps[i]? = some p) : msL (ps.take (i + 1)) n = msF (msL (ps.take i) n) p := by
  unfold msL
  rw [List.take_add_one, h, Option.toList_some, List.foldl_append]
  rfl
/-- a pair of sides of a skin of n sides -/
def Pok (n : Int) (p : Int × Int) : Prop := 0 ≤ p.1 ∧ p.1 < n ∧ 0 ≤ p.2 ∧ p.2 < n ∧ p.1 ≠ p.2
theorem ixN_at {n j : Nat} (hj : j < n) : ixN n (j : Int) = some j := by
  unfold ixN
  rw [if_pos (by omega), if_pos (by omega)]
  simp
theorem ixN_in {n : Nat} {i : Int} (h0 : 0 ≤ i) (h1 : i < n) : ixN n i = some i.toNat := by
  obtain ⟨j, rfl⟩ := Int.eq_ofNat_of_zero_le h0
  rw [ixN_at (by omega)]
  rfl
def sp_mates_of (K : PySem.W.Frag) : Sp := fun vs H Q _ => ∃ (a : Addr) (ts : List Addr) (ps : List (Int × Int)) (n : Int), vs = [.ref a, .int n] ∧ Box K H a (ts.map V.ref) ∧ Seams H ts ps ∧ (∀ p ∈ ps, Pok n p) ∧ 0 ≤ n ∧ n ≤ 100 ∧
  ∀ H' r, Same H H' → H r = none → H' r = some (.tup (msL ps n.toNat)) → Q (.ref r) H'
theorem rep_one (n : Nat) : (List.replicate n [V.non]).flatten = List.replicate n V.non := by
  induction n with
  | zero => rfl
  | succ n ih => rw [List.replicate_succ, List.flatten_cons, ih, List.replicate_succ]; rfl
theorem sc_mates_of : FnScope ["seams", "sides", "mates", "one", "other"] ["seams", "sides"] (defScope s_mates_of) := ⟨rfl, rfl, rfl, by decide +kernel, rfl, by decide +kernel, by decide +kernel⟩
theorem ok_mates_of {f : Addr} {fd : FuncData} (F : FunD K "mates_of" "mates_of" (defArgs s_mates_of) (defBody s_mates_of) (defScope s_mates_of) [] [] f fd) (Tx : Txt K mg)   : FnOk P w K mg base CX0 1 f fd ["seams", "sides"] (sp_mates_of K) := by
  refine FunD.ok F sc_mates_of (fun vs H Q E h => ?_) (fun cdv A outer s H vs Q E hr h => ?_)
  · obtain ⟨a, ts, ps, n, rfl, _⟩ := h
    rfl
  · obtain ⟨a, ts, ps, n, rfl, hb, hs, hok, n0, n1, q⟩ := h
    rcases hb with hb | hb
    · refine ⟨_, PSs.nox (pss_cons (ps_set (i := 2) sc_mates_of.nd rfl (Or.inl rfl) (pe_op op_rep (pe_lst (pa_cons pe_non pa_nil)) (pv 1)))
        (pss_cons (ps_for PassesOwn.never rfl (pi_list (pv 0)) (pg_tup (by rfl) (pgs_cons (pg_name (i := 3) sc_mates_of.nd rfl (Or.inl rfl)) (pgs_cons (pg_name (i := 4) sc_mates_of.nd rfl (Or.inl rfl)) pgs_nil))) (pss_cons (ps_asg (pv 4) (pg_sub (pv 2) (pv 3) set_list))
        (pss_one (ps_asg (pv 3) (pg_sub (pv 2) (pv 4) set_list)))))
        (pss_one (ps_ret (pe_callTy call_tuple_of (by rfl) Tx.n_tuple (by decide +kernel) (pa_cons (pv 2) pa_nil)))))), ?_⟩
      refine ⟨le_line (n := 1) (by decide), fun l nl => ⟨_, rfl, l, n, _, rfl, rfl, upd_same, by omega, by omega, le_line (by show 1 * n.toNat ≤ 100000; omega), fun m nm => ?_⟩⟩
      rw [rep_one]
      have s1 : Same H (upd H l (.lst [.non])) := same_new nl
      have nm0 : H m = none := s1.free nm
      have s2 := s1.trans (same_new (o := .lst (List.replicate n.toNat .non)) nm)
      refine ⟨_, rfl, a, rfl, ⟨_, SqL.of (s2 _ _ hb)⟩, ?_⟩
      refine for_it (walk_list (K := K) (a := a) (xs := ts.map V.ref)) (fun i σ H2 => ∃ (x y : Option V), σ = [some (.ref a), some (.int n), some (.ref m), x, y] ∧ Same H H2 ∧ H2 m = some (.lst (msL (ps.take i) n.toNat)))
        ⟨none, none, rfl, s2, upd_same⟩ (fun i σ H2 _ p => ?_) (fun i x σ H2 H3 hi p y => ?_) (fun σ H2 p => ?_)
      · obtain ⟨_, _, _, s3, _⟩ := p
        exact SqL.of (s3 _ _ hb)
      · obtain ⟨x0, y0, rfl, s3, hm⟩ := p
        obtain ⟨rfl, hx⟩ := y
        obtain ⟨t, pr, rfl, ht, hp, htup⟩ := hs.get hx
        obtain ⟨p0, p1, p2, p3, p4⟩ := hok pr (List.mem_of_getElem? hp)
        refine ⟨t, _, rfl, SqT.of (s3 _ _ htup), rfl, _, _, rfl, _, _, rfl, rfl, ?_⟩
        refine ⟨_, rfl, _, rfl, _, rfl, m, _, pr.1, pr.1.toNat, rfl, rfl, hm, ixN_in p0 (by rw [msL_len]; omega), ?_⟩
        refine ⟨_, rfl, _, rfl, _, rfl, m, _, pr.2, pr.2.toNat, rfl, rfl, upd_same, ixN_in p2 (by rw [List.length_set, msL_len]; omega), ?_⟩
        refine ⟨_, _, rfl, Same.mut (Same.mut s3 nm0) nm0, ?_⟩
        rw [upd_same, msL_take hp]
        rfl
      · obtain ⟨x0, y0, rfl, s3, hm⟩ := p
        rw [List.length_map, hs.len, List.take_length] at hm
        refine ⟨_, rfl, m, _, rfl, .inl ⟨SqL.of hm, fun r nr => ?_⟩⟩
        exact q _ _ (s3.trans (same_new nr)) (s3.free nr) upd_same
    · refine ⟨_, PSs.nox (pss_cons (ps_set (i := 2) sc_mates_of.nd rfl (Or.inl rfl) (pe_op op_rep (pe_lst (pa_cons pe_non pa_nil)) (pv 1)))
        (pss_cons (ps_for PassesOwn.never rfl (pi_tup (pv 0)) (pg_tup (by rfl) (pgs_cons (pg_name (i := 3) sc_mates_of.nd rfl (Or.inl rfl)) (pgs_cons (pg_name (i := 4) sc_mates_of.nd rfl (Or.inl rfl)) pgs_nil))) (pss_cons (ps_asg (pv 4) (pg_sub (pv 2) (pv 3) set_list))
        (pss_one (ps_asg (pv 3) (pg_sub (pv 2) (pv 4) set_list)))))
        (pss_one (ps_ret (pe_callTy call_tuple_of (by rfl) Tx.n_tuple (by decide +kernel) (pa_cons (pv 2) pa_nil)))))), ?_⟩
      refine ⟨le_line (n := 1) (by decide), fun l nl => ⟨_, rfl, l, n, _, rfl, rfl, upd_same, by omega, by omega, le_line (by show 1 * n.toNat ≤ 100000; omega), fun m nm => ?_⟩⟩
      rw [rep_one]
      have s1 : Same H (upd H l (.lst [.non])) := same_new nl
      have nm0 : H m = none := s1.free nm
      have s2 := s1.trans (same_new (o := .lst (List.replicate n.toNat .non)) nm)
      refine ⟨_, rfl, a, rfl, ⟨_, sqT_same hb s2⟩, ?_⟩
      refine for_it (walk_tup (K := K) (a := a) (xs := ts.map V.ref)) (fun i σ H2 => ∃ (x y : Option V), σ = [some (.ref a), some (.int n), some (.ref m), x, y] ∧ Same H H2 ∧ H2 m = some (.lst (msL (ps.take i) n.toNat)))
        ⟨none, none, rfl, s2, upd_same⟩ (fun i σ H2 _ p => ?_) (fun i x σ H2 H3 hi p y => ?_) (fun σ H2 p => ?_)
      · obtain ⟨_, _, _, s3, _⟩ := p
        exact sqT_same hb s3
      · obtain ⟨x0, y0, rfl, s3, hm⟩ := p
        obtain ⟨rfl, hx⟩ := y
        obtain ⟨t, pr, rfl, ht, hp, htup⟩ := hs.get hx
        obtain ⟨p0, p1, p2, p3, p4⟩ := hok pr (List.mem_of_getElem? hp)
        refine ⟨t, _, rfl, SqT.of (s3 _ _ htup), rfl, _, _, rfl, _, _, rfl, rfl, ?_⟩
        refine ⟨_, rfl, _, rfl, _, rfl, m, _, pr.1, pr.1.toNat, rfl, rfl, hm, ixN_in p0 (by rw [msL_len]; omega), ?_⟩
        refine ⟨_, rfl, _, rfl, _, rfl, m, _, pr.2, pr.2.toNat, rfl, rfl, upd_same, ixN_in p2 (by rw [List.length_set, msL_len]; omega), ?_⟩
        refine ⟨_, _, rfl, Same.mut (Same.mut s3 nm0) nm0, ?_⟩
        rw [upd_same, msL_take hp]
        rfl
      · obtain ⟨x0, y0, rfl, s3, hm⟩ := p
        rw [List.length_map, hs.len, List.take_length] at hm
        refine ⟨_, rfl, m, _, rfl, .inl ⟨SqL.of hm, fun r nr => ?_⟩⟩
        exact q _ _ (s3.trans (same_new nr)) (s3.free nr) upd_same
theorem has_mates_of (Tx : Txt K mg) (c : He.SaysX fa fn [] tf ex w hh K) (X : K.In hh) (GG : hh.Ns mainGlobals mg)   : Has P w K mg base "mates_of" 1 ["seams", "sides"] (sp_mates_of K) := by
  obtain ⟨fd, F⟩ := c.t.d.def_ 39 (d := d_mates_of) rfl
  exact ⟨_, fd, ok_mates_of F Tx , He.glo_ok X GG (c.t.d.fact 48 (f := .glo "mates_of") rfl), F.kp, F.bindsN fun _ _ _ _ _ _ us hl => match us, hl with | [_, _], _ => rfl⟩

end
end K00

namespace K00
open PySem PySem.Spec PyProof.Rows L2 Vf LamX
section
variable {hh : Heap} {P : Program} {w : World} {K : PySem.W.Frag} {mg : Str → Option Value} {base : Heap}
/-! ### a skin -/
theorem st_app {f : Str} {v : V} : ∀ {fs : List (Str × V)} {ns : List Str}, fs.map (·.1) = ns → f ∉ ns → putF f v fs = fs ++ [(f, v)]
  | [], _, _, _ => rfl
  | (g, x) :: r, ns, hn, hf => by
    subst hn
    have h1 : g ≠ f := fun e => hf (by rw [e]; exact List.mem_cons_self ..)
    have h2 : f ∉ r.map (·.1) := fun e => hf (List.mem_cons_of_mem _ e)
    show (if g = f then (g, v) :: r else (g, x) :: putF f v r) = _
    rw [if_neg h1, st_app rfl h2]
    rfl
def srt (p : Int × Int) : Int × Int := (if p.2 < p.1 then p.2 else p.1, if p.1 < p.2 then p.2 else p.1)
def freeB (ms : List V) (i : Nat) : Bool := match ms[i]? with
  | some .non => true
  | _ => false
def frL (ps : List (Int × Int)) (n : Nat) : List Int := ((List.range n).filter (freeB (msL ps n))).map Int.ofNat
def skF (z : Str) (n : Int) (st mt : Addr) (nb : Addr × Addr) (ft : Addr) : List (Str × V) := [("kind", .str z), ("faces", .int n), ("turn", .int (turnOf z)), ("full", .int (fullOf z)), ("sides", .int (n * turnOf z)), ("seams", .ref st), ("mates", .ref mt), ("nexts", .ref nb.1), ("backs", .ref nb.2), ("free", .ref ft)]
/-- for each side the one so many places behind it in its face -/
def tnF (t b : Int) : V → V
  | .int i => .int (i / t * t + (i + b) % t)
  | v => v
def tnL (N : Nat) (t b : Int) : List V := (List.range N).map fun i : Nat => V.int ((i : Int) / t * t + ((i : Int) + b) % t)
/-- a skin of the kind z, of n faces, with the seams ps as told -/
structure SkinIs (K : PySem.W.Frag) (H : Hp) (x : Addr) (z : Str) (n : Int) (ps : List (Int × Int)) (dx st mt ft : Addr) (us : List Addr) (qs : List (Int × Int)) : Prop where
  ins0 : ∃ nb : Addr × Addr, H x = some (.ins (He.ga K "Skin") dx (skF z n st mt nb ft)) ∧ H nb.1 = some (.tup (tnL (n * turnOf z).toNat (turnOf z) 1)) ∧ H nb.2 = some (.tup (tnL (n * turnOf z).toNat (turnOf z) (turnOf z - 1)))
  seams : H st = some (.tup (us.map V.ref))
  sts : Seams H us qs
  perm : qs.Perm (ps.map srt)
  mates : H mt = some (.tup (msL ps (n * turnOf z).toNat))
  free : H ft = some (.tup ((frL ps (n * turnOf z).toNat).map V.int))
noncomputable def SkinIs.nb {H : Hp} {x dx st mt ft : Addr} {us : List Addr} {z : Str} {n : Int} {ps qs : List (Int × Int)} (h : SkinIs K H x z n ps dx st mt ft us qs) : Addr × Addr := Classical.choose h.ins0
theorem SkinIs.ins {H : Hp} {x dx st mt ft : Addr} {us : List Addr} {z : Str} {n : Int} {ps qs : List (Int × Int)} (h : SkinIs K H x z n ps dx st mt ft us qs) : H x = some (.ins (He.ga K "Skin") dx (skF z n st mt h.nb ft)) := (Classical.choose_spec h.ins0).1
theorem SkinIs.nexts {H : Hp} {x dx st mt ft : Addr} {us : List Addr} {z : Str} {n : Int} {ps qs : List (Int × Int)} (h : SkinIs K H x z n ps dx st mt ft us qs) : H h.nb.1 = some (.tup (tnL (n * turnOf z).toNat (turnOf z) 1)) := (Classical.choose_spec h.ins0).2.1
theorem SkinIs.backs {H : Hp} {x dx st mt ft : Addr} {us : List Addr} {z : Str} {n : Int} {ps qs : List (Int × Int)} (h : SkinIs K H x z n ps dx st mt ft us qs) : H h.nb.2 = some (.tup (tnL (n * turnOf z).toNat (turnOf z) (turnOf z - 1))) := (Classical.choose_spec h.ins0).2.2
def SkinAt (K : PySem.W.Frag) (H : Hp) (x : Addr) (z : Str) (n : Int) (ps : List (Int × Int)) : Prop := ∃ dx st mt ft us qs, SkinIs K H x z n ps dx st mt ft us qs
def SBox (K : PySem.W.Frag) (H : Hp) (a : Addr) (xs : List V) : Prop := H a = some (.lst xs) ∨ H a = some (.tup xs) ∨ (xs = [] ∧ a = dflA K)
theorem SBox.box {H : Hp} {a : Addr} {xs : List V} (Tx : Txt K mg) (h : SBox K H a xs) : Box K H a xs := by
  rcases h with h | h | ⟨rfl, rfl⟩
  · exact .inl h
  · exact .inr (SqT.of h)
  · obtain ⟨od, n, sl, e⟩ := Tx.dfl
    exact .inr (.inr ⟨_, #[], n, e, rfl, rfl, Nat.zero_le _, .nil⟩)
theorem SBox.kd {H : Hp} {a : Addr} {xs : List V} (Tx : Txt K mg) (h : SBox K H a xs) : ∃ k : Kd, KdV K H (.ref a) k ∧ k.seq = true := by
  rcases h with h | h | ⟨rfl, rfl⟩
  · exact ⟨.list, ⟨_, h⟩, rfl⟩
  · exact ⟨.tuple, .inl ⟨_, h⟩, rfl⟩
  · obtain ⟨od, n, sl, e⟩ := Tx.dfl
    exact ⟨.tuple, .inr ⟨_, e, rfl⟩, rfl⟩
theorem SBox.same {H H' : Hp} {a : Addr} {xs : List V} (h : SBox K H a xs) (s : Same H H') : SBox K H' a xs := by
  rcases h with h | h | h
  · exact .inl (s _ _ h)
  · exact .inr (.inl (s _ _ h))
  · exact .inr (.inr h)
theorem says_ok {H : Hp} {t : Addr} {p : Int × Int} {n : Int} (h : H t = some (.tup [.int p.1, .int p.2])) (hp : Pok n p) : KdV K H (.ref t) .tuple ∧ SeamSays K H (.ref t) .tuple n true := by
  obtain ⟨h0, h1, h2, h3, h4⟩ := hp
  refine ⟨.inl ⟨_, h⟩, .inr ⟨rfl, t, _, rfl, .inr h, .inr ⟨_, _, .int, .int, rfl, True.intro, True.intro, ?_⟩⟩⟩
  have e1 : bnd (.int p.1) (.int 0) (.int (n - 1)) = true := by
    show (decide (0 ≤ p.1) && decide (p.1 ≤ n - 1)) = true
    rw [decide_eq_true h0, decide_eq_true (by omega)] <;> rfl
  have e2 : bnd (.int p.2) (.int 0) (.int (n - 1)) = true := by
    show (decide (0 ≤ p.2) && decide (p.2 ≤ n - 1)) = true
    rw [decide_eq_true h2, decide_eq_true (by omega)] <;> rfl
  rw [e1, e2, decide_eq_false (fun e => h4 (by injection e))]
  rfl
theorem items_ok {H : Hp} {ts : List Addr} {ps : List (Int × Int)} {n : Int} (hs : Seams H ts ps) (hok : ∀ p ∈ ps, Pok n p) : ∀ x ∈ ts.map V.ref, ∃ kx, KdV K H x kx ∧ SeamSays K H x kx n true := fun x hx => by
  obtain ⟨i, hi, e⟩ := List.mem_iff_getElem.mp hx
  obtain ⟨t, p, rfl, ht, hp, htup⟩ := hs.get (by rw [List.getElem?_eq_getElem hi, e])
  exact ⟨.tuple, says_ok htup (hok p (List.mem_of_getElem? hp))⟩
theorem turn_in (z : Str) : turnOf z = 4 ∨ turnOf z = 3 := by
  unfold turnOf
  by_cases h : z = "square"
  · exact .inl (if_pos h)
  · exact .inr (if_neg h)
def pairOf (H : Hp) (v : V) : Int × Int := match v with
  | .ref t => (match H t with
    | some (.tup [.int i, .int j]) => (i, j)
    | _ => (0, 0))
  | _ => (0, 0)
def addrOf : V → Addr
  | .ref t => t
  | _ => 0
theorem pairOf_at {H : Hp} {t : Addr} {p : Int × Int} (h : H t = some (.tup [.int p.1, .int p.2])) : pairOf H (.ref t) = p := by
  unfold pairOf
  simp only [h]
theorem perm_seams {H : Hp} {ts : List Addr} {ps : List (Int × Int)} {ys : List V} (hs : Seams H ts ps) (hp : ys.Perm (ts.map V.ref)) : ∃ us qs, ys = us.map V.ref ∧ Seams H us qs ∧ qs.Perm ps := by
  have all : ∀ y ∈ ys, ∃ (t : Addr) (p : Int × Int), y = .ref t ∧ H t = some (.tup [.int p.1, .int p.2]) := fun y hy => by
    obtain ⟨i, hi, e⟩ := List.mem_iff_getElem.mp (hp.mem_iff.mp hy)
    obtain ⟨t, p, e1, _, _, htup⟩ := hs.get (by rw [List.getElem?_eq_getElem hi, e])
    exact ⟨t, p, e1, htup⟩
  refine ⟨ys.map addrOf, ys.map (pairOf H), ?_, ⟨by rw [List.length_map, List.length_map], fun i t p h1 h2 => ?_⟩, ?_⟩
  · rw [List.map_map]
    conv => lhs; rw [← List.map_id ys]
    refine List.map_congr_left fun y hy => ?_
    obtain ⟨t, p, rfl, _⟩ := all y hy
    rfl
  · rw [List.getElem?_map] at h1 h2
    obtain ⟨y, hy, rfl⟩ := Option.map_eq_some_iff.mp h1
    rw [hy] at h2
    obtain ⟨t, p, rfl, htup⟩ := all y (List.mem_of_getElem? hy)
    have e := Option.some.inj h2
    rw [pairOf_at htup] at e
    subst e
    exact htup
  · have e : (ts.map V.ref).map (pairOf H) = ps := by
      refine List.ext_getElem? fun i => ?_
      rw [List.getElem?_map]
      cases h : (ts.map V.ref)[i]? with
      | none =>
        rw [List.getElem?_eq_none_iff, List.length_map, hs.len] at h
        rw [Option.map_none, eq_comm, List.getElem?_eq_none_iff]
        exact h
      | some x =>
        obtain ⟨t, p, rfl, _, hp2, htup⟩ := hs.get h
        rw [Option.map_some, pairOf_at htup, hp2]
    have h2 := hp.map (pairOf H)
    rw [e] at h2
    exact h2
def fcErr (K : PySem.W.Frag) (E : XK) (H : Hp) : Prop := Rz E (He.ga K "BadSkin") [("part", .str "faces")] H
def twErr (K : PySem.W.Frag) (E : XK) (H : Hp) (t : Int) : Prop := Rz E (He.ga K "Twice") [("value", .int t)] H
def mnErr (K : PySem.W.Frag) (E : XK) (H : Hp) : Prop := Rz E (He.ga K "TooMany") [("most", .int 24), ("what", .str "faces")] H
/-- what Skin(kv, fv, sv) does: ok, when it is made, or E -/
inductive SkDo (K : PySem.W.Frag) (E : XK) (H : Hp) (kv fv sv : V) (ok : Str → Int → List (Int × Int) → Prop) : Prop where
  | kind (g : isGrid kv = false) (e : kdErr K E H)
  | faces (g : isGrid kv = true) (b : bnd fv (.int 1) .non = false) (e : fcErr K E H)
  | seams (z : Str) (n : Int) (k : Kd) (ez : kv = .str z) (g : isGrid kv = true) (en : fv = .int n) (b : 1 ≤ n) (hk : KdV K H sv k) (e : smErr K E H)
      (h : k.seq = false ∨ (k.seq = true ∧ ∃ (a : Addr) (xs : List V) (f : V → Bool), sv = .ref a ∧ Box K H a xs ∧ xs.length ≤ 1000 ∧ (∀ x ∈ xs, ∃ kx, KdV K H x kx ∧ SeamSays K H x kx (n * turnOf z) (f x)) ∧ xs.all f = false))
  | made (z : Str) (n : Int) (a : Addr) (ts : List Addr) (ps : List (Int × Int)) (ez : kv = .str z) (g : isGrid kv = true) (en : fv = .int n) (b : 1 ≤ n) (es : sv = .ref a) (hb : SBox K H a (ts.map V.ref)) (hs : Seams H ts ps) (hl : ps.length ≤ 400)
      (hok : ∀ p ∈ ps, Pok (n * turnOf z) p) (e1 : ∀ t, tw (flat2 ps) = some t → twErr K E H t) (e2 : tw (flat2 ps) = none → 24 < n → mnErr K E H) (q : tw (flat2 ps) = none → n ≤ 24 → ok z n ps)
def sp_Skin_init (K : PySem.W.Frag) : Sp := fun vs H Q E => ∃ (x dx : Addr) (kv fv sv : V) (k1 k2 : Kd), vs = [.ref x, kv, fv, sv] ∧ H x = some (.ins (He.ga K "Skin") dx []) ∧ KdV K H kv k1 ∧ KdV K H fv k2 ∧
  SkDo K E H kv fv sv fun z n ps => ∀ H', Kp x H H' → SkinAt K H' x z n ps → Q .non H'
/-- while the fields are stored -/
structure Stg (K : PySem.W.Frag) (x dx : Addr) (H0 H' : Hp) (fs : List (Str × V)) : Prop where
  ins : H' x = some (.ins (He.ga K "Skin") dx fs)
  kp : Kp x H0 H'
theorem Stg.put {x dx : Addr} {H0 H' : Hp} {fs : List (Str × V)} {f : Str} {v : V} {ns : List Str} (h : Stg K x dx H0 H' fs) (hn : fs.map (·.1) = ns) (hf : f ∉ ns) : Stg K x dx H0 (upd H' x (.ins (He.ga K "Skin") dx (putF f v fs))) (fs ++ [(f, v)]) :=
  ⟨by rw [upd_same, st_app hn hf], h.kp.set⟩
theorem hbl_kp {x dx a : Addr} {H H' : Hp} {xs : List V} {fs : List (Str × V)} {C : Addr} (hx : H x = some (.ins C dx fs)) (hb : H a = some (.lst xs)) (k : Kp x H H') : SqL K H' a xs := by
  refine SqL.of (k _ _ (fun e => ?_) hb)
  rw [e, hx] at hb
  cases hb
theorem hbt_kp {x dx a : Addr} {H H' : Hp} {xs : List V} {fs : List (Str × V)} {C : Addr} (hx : H x = some (.ins C dx fs)) (hb : SqT K H a xs) (k : Kp x H H') : SqT K H' a xs := by
  rcases hb with (hb | ⟨o, hb⟩) | hb
  · refine .inl (.inl (k _ _ (fun e => ?_) hb))
    rw [e, hx] at hb
    cases hb
  · refine .inl (.inr ⟨o, k _ _ (fun e => ?_) hb⟩)
    rw [e, hx] at hb
    cases hb
  · exact .inr hb
theorem seams_kp {x dx : Addr} {H H' : Hp} {ts : List Addr} {ps : List (Int × Int)} {fs : List (Str × V)} {C : Addr} (hx : H x = some (.ins C dx fs)) (hs : Seams H ts ps) (k : Kp x H H') : Seams H' ts ps :=
  ⟨hs.len, fun i t p h1 h2 => by
    have h := hs.at_ i t p h1 h2
    refine k _ _ (fun e => ?_) h
    rw [e, hx] at h
    cases h⟩
theorem Seams.upd {x dx : Addr} {H : Hp} {ts : List Addr} {ps : List (Int × Int)} {fs : List (Str × V)} {C : Addr} {o : HO} (hs : Seams H ts ps) (hx : H x = some (.ins C dx fs)) : Seams (L2.upd H x o) ts ps := seams_kp hx hs (Kp.refl x H).set
theorem Seams.push {H : Hp} {us : List Addr} {ps : List (Int × Int)} {T D : Addr} {p : Int × Int} {xs ys : List V} (hs : Seams H us ps) (nT : H T = none) (hD : H D = some (.lst xs)) :
    Seams (L2.upd (L2.upd H T (.tup [.int p.1, .int p.2])) D (.lst ys)) (us ++ [T]) (ps ++ [p]) := by
  refine ⟨by rw [List.length_append, List.length_append, hs.len] <;> rfl, fun i t q h1 h2 => ?_⟩
  have hTD : T ≠ D := (ne_of_none hD nT).symm
  by_cases hi : i < us.length
  · rw [List.getElem?_append_left hi] at h1
    rw [List.getElem?_append_left (by rw [← hs.len]; exact hi)] at h2
    have h := hs.at_ i t q h1 h2
    have tD : t ≠ D := fun e => by
      rw [e, hD] at h
      cases h
    rw [upd_ne tD, upd_ne (ne_of_none h nT)]
    exact h
  · rw [List.getElem?_append_right (by omega)] at h1
    rw [List.getElem?_append_right (by rw [← hs.len]; omega)] at h2
    obtain ⟨k, hk⟩ : ∃ k, i - us.length = k := ⟨_, rfl⟩
    rw [← hs.len, hk] at h2
    rw [hk] at h1
    cases k with
    | zero =>
      cases h1
      cases h2
      rw [upd_ne hTD, upd_same]
    | succ k => simp at h1
theorem tup_upd {x dx st : Addr} {H : Hp} {xs : List V} {fs : List (Str × V)} {C : Addr} {o : HO} (hx : H x = some (.ins C dx fs)) (h : H st = some (.tup xs)) : L2.upd H x o st = some (.tup xs) := by
  rw [upd_ne fun e => ?_]
  · exact h
  · rw [e, hx] at h
    cases h
theorem box_kp {x dx a : Addr} {H H' : Hp} {xs : List V} {fs : List (Str × V)} {C : Addr} (hx : H x = some (.ins C dx fs)) (hb : Box K H a xs) (k : Kp x H H') : Box K H' a xs := by
  rcases hb with hb | hb
  · refine .inl (k _ _ (fun e => ?_) hb)
    rw [e, hx] at hb
    cases hb
  · exact .inr (hbt_kp hx hb k)
def rgL (N : Nat) : List V := (List.range N).map fun i => V.int ((0 : Int) + (i : Nat))
theorem rgL_len (N : Nat) : (rgL N).length = N := by unfold rgL; simp
theorem rgL_at {N i : Nat} (h : i < N) : (rgL N)[i]? = some (V.int ((0 : Int) + (i : Nat))) := by
  unfold rgL
  rw [List.getElem?_map, List.getElem?_range h]
  rfl
theorem rgL_get {N i : Nat} {v : V} (h : (rgL N)[i]? = some v) : i < N ∧ v = .int (i : Nat) := by
  obtain ⟨hlt, _⟩ := List.getElem?_eq_some_iff.mp h
  rw [rgL_len] at hlt
  rw [rgL_at hlt] at h
  refine ⟨hlt, ?_⟩
  rw [← Option.some.inj h, Int.zero_add]
def keepF (ms : List V) : V → Bool
  | .int i => freeB ms i.toNat
  | _ => false
theorem keepF_at {ms : List V} {i : Nat} {v : V} (h : ms[i]? = some v) : keepF ms (.int (i : Nat)) = decide (v = .non) := by
  show freeB ms (Int.toNat (i : Int)) = _
  rw [Int.toNat_natCast]
  unfold freeB
  rw [h]
  cases v <;> first | rfl | (symm; exact decide_eq_false fun e => nomatch e)
theorem rgL_keep {ps : List (Int × Int)} {N : Nat} : (rgL N).filter (keepF (msL ps N)) = (frL ps N).map V.int := by
  unfold rgL frL
  rw [List.filter_map, List.map_map]
  have e1 : (keepF (msL ps N) ∘ fun i : Nat => V.int ((0 : Int) + (i : Nat))) = freeB (msL ps N) := by
    funext i
    show freeB (msL ps N) ((0 : Int) + (i : Nat)).toNat = _
    rw [Int.zero_add, Int.toNat_natCast]
  rw [e1]
  refine List.map_congr_left fun i _ => ?_
  show V.int ((0 : Int) + (i : Nat)) = V.int (Int.ofNat i)
  rw [Int.zero_add]
  rfl
theorem rgL_tn {N : Nat} {t b : Int} : ((rgL N).filter fun _ => true).map (tnF t b) = tnL N t b := by
  rw [List.filter_eq_self.mpr fun _ _ => rfl]
  unfold rgL tnL
  rw [List.map_map]
  refine List.map_congr_left fun i _ => ?_
  show V.int ((0 + (i : Int)) / t * t + ((0 + (i : Int)) + b) % t) = _
  rw [Int.zero_add]
def sp_turned_sides (K : PySem.W.Frag) : Sp := fun vs H Q _ => ∃ (n t b : Int), vs = [.int n, .int t, .int b] ∧ 0 ≤ n ∧ n ≤ 200 ∧ 0 < t ∧ t ≤ 10 ∧ ∀ H' r, Same H H' → H r = none → H' r = some (.tup (tnL n.toNat t b)) → Q (.ref r) H'
theorem sc_turned_sides : FnScope ["sides", "turn", "by", "side"] ["sides", "turn", "by"] (defScope s_turned_sides) := ⟨rfl, rfl, rfl, by decide +kernel, rfl, by decide +kernel, by decide +kernel⟩
theorem ok_turned_sides {f : Addr} {fd : FuncData} (F : FunD K "turned_sides" "turned_sides" (defArgs s_turned_sides) (defBody s_turned_sides) (defScope s_turned_sides) [] [] f fd) (Tx : Txt K mg)   : FnOk P w K mg base CX0 1 f fd ["sides", "turn", "by"] (sp_turned_sides K) := by
  refine FunD.ok F sc_turned_sides (fun vs H Q E h => ?_) (fun cdv A outer s H vs Q E hr h => ?_)
  · obtain ⟨n, t, b, rfl, _⟩ := h
    rfl
  · obtain ⟨n, t, b, rfl, n0, n1, t0, t1, q⟩ := h
    obtain ⟨N, rfl⟩ := Int.eq_ofNat_of_zero_le n0
    refine ⟨_, PSs.nox (pss_one (ps_ret (pe_callTy call_tuple_of (by rfl) Tx.n_tuple (by decide +kernel) (pa_cons (pe_lc (own := [("side", 3)]) (g := gName 3) (tt := tYes) rfl sc_turned_sides.nd (pi_range1 (by rfl) Tx.n_range (pa_cons (pv 0) pa_nil)) (blkOk_by (own := [("side", 3)]) (N := ["sides", "turn", "by", "side"]) (sc := defScope s_turned_sides) (by decide +kernel)) (fun _ _ _ _ _ => (pg_name (i := 3) sc_turned_sides.nd rfl (Or.inl rfl))) (fun _ _ _ _ _ => pts_nil) (fun _ _ _ _ _ => (pe_op op_add (pe_op op_mul (pe_op op_fdiv (pv 3) (pv 1)) (pv 1)) (pe_op op_mod (pe_op op_add (pv 3) (pv 2)) (pv 1))))) pa_nil)))), ?_⟩
    refine ⟨_, rfl, _, rfl, by omega, by omega, fun D nD => ?_⟩
    refine lc_pure ((walk_range (lo := 0) (n := (N : Int).toNat)).mono (Y' := fun i H x H' => H' = H ∧ (rgL N)[i]? = some x) (fun _ h => h) (fun i H x H' hi _ y => ⟨y.1, by rw [y.2]; exact rgL_at hi⟩)) (rgL N) (by rw [rgL_len]; rfl) (by rw [rgL_len]; omega) (fun i H x H' y => ⟨same_of_eq y.1, y.2⟩) (tnF t b) (fun _ => true) nD (fun _ _ => True.intro) (fun i v H2 Q1 Q0 hi s2 q1 q0 => ?_) (fun H2 s2 hD => ?_)
    · refine ⟨rfl, ?_⟩
      obtain ⟨iN, rfl⟩ := rgL_get hi
      exact ⟨_, rfl, _, rfl, _, _, rfl, rfl, ⟨t0, by omega⟩, _, rfl, _, _, rfl, rfl, .inr ⟨by omega, by omega⟩, _, rfl, _, rfl, _, _, rfl, rfl, _, rfl, _, _, rfl, rfl, t0, _, _, rfl, rfl, q1 rfl _ (Same.refl _)⟩
    · rw [rgL_tn] at hD
      refine ⟨D, _, rfl, .inl ⟨SqL.of hD, fun r nr => ?_⟩⟩
      exact q _ r (s2.trans (same_new nr)) (s2.free nr) upd_same
theorem has_turned_sides (Tx : Txt K mg) (c : He.SaysX fa fn [] tf ex w hh K) (X : K.In hh) (GG : hh.Ns mainGlobals mg)   : Has P w K mg base "turned_sides" 1 ["sides", "turn", "by"] (sp_turned_sides K) := by
  obtain ⟨fd, F⟩ := c.t.d.def_ 40 (d := d_turned_sides) rfl
  exact ⟨_, fd, ok_turned_sides F Tx , He.glo_ok X GG (c.t.d.fact 49 (f := .glo "turned_sides") rfl), F.kp, F.bindsN fun _ _ _ _ _ _ us hl => match us, hl with | [_, _, _], _ => rfl⟩
theorem sc_Skin_init : FnScope ["self", "kind", "faces", "seams", "turn", "twice", "seam", "side"] ["self", "kind", "faces", "seams"] (defScope s_Skin_init) := ⟨rfl, rfl, rfl, by decide +kernel, rfl, by decide +kernel, by decide +kernel⟩
theorem ok_Skin_init {f : Addr} {fd : FuncData} (F : FunD K "__init__" "Skin.__init__" (defArgs s_Skin_init) (defBody s_Skin_init) (defScope s_Skin_init) [.ref (dflA K)] [] f fd) (Tx : Txt K mg) (h_need_kind : HasX P w K mg base "need_kind" 3 ["kind"] (sp_need_kind K)) (h_is_within : Has P w K mg base "is_within" 2 ["value", "least", "most"] (sp_is_within K)) (h_BadSkin_init : HasE P w K mg base "BadSkin" 1 ["self", "part"] (sp_BadSkin_init K)) (h_sides_of : HasX P w K mg base "sides_of" 4 ["kind"] (sp_sides_of K)) (h_need_seams : HasX P w K mg base "need_seams" 4 ["seams", "sides"] (sp_need_seams K)) (h_first_twice : Has P w K mg base "first_twice" 1 ["values"] (sp_first_twice K)) (h_sides_in : Has P w K mg base "sides_in" 1 ["seams"] (sp_sides_in K)) (h_Twice_init : HasE P w K mg base "Twice" 1 ["self", "value"] (sp_Twice_init K)) (h_TooMany_init : HasE P w K mg base "TooMany" 1 ["self", "what", "most"] (sp_TooMany_init K)) (h_full_of : HasX P w K mg base "full_of" 4 ["kind"] (sp_full_of K)) (h_mates_of : Has P w K mg base "mates_of" 1 ["seams", "sides"] (sp_mates_of K)) (h_turned_sides : Has P w K mg base "turned_sides" 1 ["sides", "turn", "by"] (sp_turned_sides K))  : FnOk P w K mg base (L2.CX P w) 5 f fd ["self", "kind", "faces", "seams"] (sp_Skin_init K) := by
  obtain ⟨f_need_kind, fd_need_kind, G_need_kind, g_need_kind, k_need_kind, b_need_kind⟩ := h_need_kind
  obtain ⟨f_is_within, fd_is_within, G_is_within, g_is_within, k_is_within, b_is_within⟩ := h_is_within
  obtain ⟨fd_BadSkin_init, G_BadSkin_init, b_BadSkin_init, kb_BadSkin_init, ks_BadSkin_init⟩ := h_BadSkin_init
  obtain ⟨f_sides_of, fd_sides_of, G_sides_of, g_sides_of, k_sides_of, b_sides_of⟩ := h_sides_of
  obtain ⟨f_need_seams, fd_need_seams, G_need_seams, g_need_seams, k_need_seams, b_need_seams⟩ := h_need_seams
  obtain ⟨f_first_twice, fd_first_twice, G_first_twice, g_first_twice, k_first_twice, b_first_twice⟩ := h_first_twice
  obtain ⟨f_sides_in, fd_sides_in, G_sides_in, g_sides_in, k_sides_in, b_sides_in⟩ := h_sides_in
  obtain ⟨fd_Twice_init, G_Twice_init, b_Twice_init, kb_Twice_init, ks_Twice_init⟩ := h_Twice_init
  obtain ⟨fd_TooMany_init, G_TooMany_init, b_TooMany_init, kb_TooMany_init, ks_TooMany_init⟩ := h_TooMany_init
  obtain ⟨f_full_of, fd_full_of, G_full_of, g_full_of, k_full_of, b_full_of⟩ := h_full_of
  obtain ⟨f_mates_of, fd_mates_of, G_mates_of, g_mates_of, k_mates_of, b_mates_of⟩ := h_mates_of
  obtain ⟨f_turned_sides, fd_turned_sides, G_turned_sides, g_turned_sides, k_turned_sides, b_turned_sides⟩ := h_turned_sides
  refine FunD.ok F sc_Skin_init (fun vs H Q E h => ?_) (fun cdv A outer s H vs Q E hr h => ?_)
  · obtain ⟨x, dx, kv, fv, sv, k1, k2, rfl, _⟩ := h
    rfl
  · obtain ⟨x, dx, kv, fv, sv, k1, k2, rfl, hx, hk1, hk2, h⟩ := h
    cases h with
    | kind g e =>
      refine ⟨_, (pss_cons (ps_expr (pe_call G_need_kind (hr.mono (by decide)) (by rfl) g_need_kind k_need_kind b_need_kind .nil (passE rfl rfl rfl rfl) (pa_cons (pv 1) pa_nil)))
        (pss_cons (ps_if (pt_not (pt_val (pe_call G_is_within (hr.mono (by decide)) (by rfl) g_is_within k_is_within b_is_within .nil pass0 (pa_cons (pv 2) (pa_cons pe_int (pa_cons pe_non pa_nil)))))) (pss_one (ps_raise rfl (takes_of rfl rfl rfl rfl) (pmk_oex Tx.er_BadSkin.oex Tx.er_BadSkin.ini Tx.er_BadSkin.fn G_BadSkin_init (hr.mono (by decide)) b_BadSkin_init .nil pass0 (by rfl) Tx.g_BadSkin (pa_cons pe_str pa_nil)))) pss_nil)
        (pss_cons (ps_set (i := 4) sc_Skin_init.nd rfl (Or.inl rfl) (pe_call G_sides_of (hr.mono (by decide)) (by rfl) g_sides_of k_sides_of b_sides_of .nil (passE rfl rfl rfl rfl) (pa_cons (pv 1) pa_nil)))
        (pss_cons (ps_expr (pe_call G_need_seams (hr.mono (by decide)) (by rfl) g_need_seams k_need_seams b_need_seams .nil (passE rfl rfl rfl rfl) (pa_cons (pv 3) (pa_cons (pe_op op_mul (pv 2) (pv 4)) pa_nil))))
        (pss_cons (ps_set (i := 5) sc_Skin_init.nd rfl (Or.inl rfl) (pe_call G_first_twice (hr.mono (by decide)) (by rfl) g_first_twice k_first_twice b_first_twice .nil pass0 (pa_cons (pe_call G_sides_in (hr.mono (by decide)) (by rfl) g_sides_in k_sides_in b_sides_in .nil pass0 (pa_cons (pv 3) pa_nil)) pa_nil)))
        (pss_cons (ps_if (pt_cmpR op_notN (pv 5) pe_non (nomark _)) (pss_one (ps_raise rfl (takes_of rfl rfl rfl rfl) (pmk_oex Tx.er_Twice.oex Tx.er_Twice.ini Tx.er_Twice.fn G_Twice_init (hr.mono (by decide)) b_Twice_init .nil pass0 (by rfl) Tx.g_Twice (pa_cons (pv 5) pa_nil)))) pss_nil)
        (pss_cons (ps_if (pt_cmpR op_gt (pv 2) (pe_glob (v := .int 24) (by rfl) (Tx.c_MOST_FACES).choose_spec ⟨_, rfl⟩) (nomark _)) (pss_one (ps_raise rfl (takes_of rfl rfl rfl rfl) (pmk_oex Tx.er_TooMany.oex Tx.er_TooMany.ini Tx.er_TooMany.fn G_TooMany_init (hr.mono (by decide)) b_TooMany_init .nil pass0 (by rfl) Tx.g_TooMany (pa_cons pe_str (pa_cons (pe_glob (v := .int 24) (by rfl) (Tx.c_MOST_FACES).choose_spec ⟨_, rfl⟩) pa_nil))))) pss_nil)
        (C8.pss_cut (ps_fld (pv 0) (pv 1) rfl)
        (C8.pss_cut (ps_fld (pv 0) (pv 2) rfl)
        (C8.pss_cut (ps_fld (pv 0) (pv 4) rfl)
        (C8.pss_cut (ps_fld (pv 0) (pe_call G_full_of (hr.mono (by decide)) (by rfl) g_full_of k_full_of b_full_of .nil (passE rfl rfl rfl rfl) (pa_cons (pv 1) pa_nil)) rfl)
        (C8.pss_cut (ps_fld (pv 0) (pe_op op_mul (pv 2) (pv 4)) rfl)
        (C8.pss_cut (ps_fld (pv 0) (pe_callTy call_tuple_of (by rfl) Tx.n_tuple (by decide +kernel) (pa_cons (pe_callB cr_sortedP (by rfl) Tx.n_sorted (by decide +kernel) (pa_cons (pe_lc (own := [("seam", 6)]) (g := gName 6) (tt := tYes) rfl sc_Skin_init.nd (pi_list (pv 3)) (blkOk_by (own := [("seam", 6)]) (N := ["self", "kind", "faces", "seams", "turn", "twice", "seam", "side"]) (sc := defScope s_Skin_init) (by decide +kernel)) (fun _ _ _ _ _ => (pg_name (i := 6) sc_Skin_init.nd rfl (Or.inl rfl))) (fun _ _ _ _ _ => pts_nil) (fun _ _ _ _ _ => (pe_tup (pa_cons (pe_callB (cr_minTK (K := K) rfl rfl hr.units) (by rfl) Tx.n_min (by decide +kernel) (pa_cons (pv 6) pa_nil)) (pa_cons (pe_callB (cr_maxTK (K := K) rfl rfl hr.units) (by rfl) Tx.n_max (by decide +kernel) (pa_cons (pv 6) pa_nil)) pa_nil))))) pa_nil)) pa_nil)) rfl)
        (C8.pss_cut (ps_fld (pv 0) (pe_call G_mates_of (hr.mono (by decide)) (by rfl) g_mates_of k_mates_of b_mates_of .nil pass0 (pa_cons (pv 3) (pa_cons (pe_fld (pv 0) rfl) pa_nil))) rfl)
        (C8.pss_cut (ps_fld (pv 0) (pe_call G_turned_sides (hr.mono (by decide)) (by rfl) g_turned_sides k_turned_sides b_turned_sides .nil pass0 (pa_cons (pe_fld (pv 0) rfl) (pa_cons (pv 4) (pa_cons pe_int pa_nil)))) rfl)
        (C8.pss_cut (ps_fld (pv 0) (pe_call G_turned_sides (hr.mono (by decide)) (by rfl) g_turned_sides k_turned_sides b_turned_sides .nil pass0 (pa_cons (pe_fld (pv 0) rfl) (pa_cons (pv 4) (pa_cons (pe_op op_sub (pv 4) pe_int) pa_nil)))) rfl)
        (pss_one (ps_fld (pv 0) (pe_callTy call_tuple_of (by rfl) Tx.n_tuple (by decide +kernel) (pa_cons (pe_lc (own := [("side", 7)]) (g := gName 7) rfl sc_Skin_init.nd (pi_range1 (by rfl) Tx.n_range (pa_cons (pe_fld (pv 0) rfl) pa_nil)) (blkOk_by (own := [("side", 7)]) (N := ["self", "kind", "faces", "seams", "turn", "twice", "seam", "side"]) (sc := defScope s_Skin_init) (by decide +kernel)) (fun _ _ _ _ _ => (pg_name (i := 7) sc_Skin_init.nd rfl (Or.inl rfl))) (fun _ _ _ _ _ => (pts_one (pt_cmpR op_isN (pe_ix (ix_tupK (K := K) rfl) (pe_fldK (K := K) rfl (pv 0) rfl) (pv 7) (fun _ _ => rfl)) pe_non (nomark _)))) (fun _ _ _ _ _ => (pv 7))) pa_nil)) rfl)))))))))))))))))), ?_⟩
      exact ⟨_, rfl, kv, k1, rfl, hk1, fun g1 => absurd g (by rw [g1]; decide), fun _ => e⟩
    | faces g b e =>
      refine ⟨_, (pss_cons (ps_expr (pe_call G_need_kind (hr.mono (by decide)) (by rfl) g_need_kind k_need_kind b_need_kind .nil (passE rfl rfl rfl rfl) (pa_cons (pv 1) pa_nil)))
        (pss_cons (ps_if (pt_not (pt_val (pe_call G_is_within (hr.mono (by decide)) (by rfl) g_is_within k_is_within b_is_within .nil pass0 (pa_cons (pv 2) (pa_cons pe_int (pa_cons pe_non pa_nil)))))) (pss_one (ps_raise rfl (takes_of rfl rfl rfl rfl) (pmk_oex Tx.er_BadSkin.oex Tx.er_BadSkin.ini Tx.er_BadSkin.fn G_BadSkin_init (hr.mono (by decide)) b_BadSkin_init .nil pass0 (by rfl) Tx.g_BadSkin (pa_cons pe_str pa_nil)))) pss_nil)
        (pss_cons (ps_set (i := 4) sc_Skin_init.nd rfl (Or.inl rfl) (pe_call G_sides_of (hr.mono (by decide)) (by rfl) g_sides_of k_sides_of b_sides_of .nil (passE rfl rfl rfl rfl) (pa_cons (pv 1) pa_nil)))
        (pss_cons (ps_expr (pe_call G_need_seams (hr.mono (by decide)) (by rfl) g_need_seams k_need_seams b_need_seams .nil (passE rfl rfl rfl rfl) (pa_cons (pv 3) (pa_cons (pe_op op_mul (pv 2) (pv 4)) pa_nil))))
        (pss_cons (ps_set (i := 5) sc_Skin_init.nd rfl (Or.inl rfl) (pe_call G_first_twice (hr.mono (by decide)) (by rfl) g_first_twice k_first_twice b_first_twice .nil pass0 (pa_cons (pe_call G_sides_in (hr.mono (by decide)) (by rfl) g_sides_in k_sides_in b_sides_in .nil pass0 (pa_cons (pv 3) pa_nil)) pa_nil)))
        (pss_cons (ps_if (pt_cmpR op_notN (pv 5) pe_non (nomark _)) (pss_one (ps_raise rfl (takes_of rfl rfl rfl rfl) (pmk_oex Tx.er_Twice.oex Tx.er_Twice.ini Tx.er_Twice.fn G_Twice_init (hr.mono (by decide)) b_Twice_init .nil pass0 (by rfl) Tx.g_Twice (pa_cons (pv 5) pa_nil)))) pss_nil)
        (pss_cons (ps_if (pt_cmpR op_gt (pv 2) (pe_glob (v := .int 24) (by rfl) (Tx.c_MOST_FACES).choose_spec ⟨_, rfl⟩) (nomark _)) (pss_one (ps_raise rfl (takes_of rfl rfl rfl rfl) (pmk_oex Tx.er_TooMany.oex Tx.er_TooMany.ini Tx.er_TooMany.fn G_TooMany_init (hr.mono (by decide)) b_TooMany_init .nil pass0 (by rfl) Tx.g_TooMany (pa_cons pe_str (pa_cons (pe_glob (v := .int 24) (by rfl) (Tx.c_MOST_FACES).choose_spec ⟨_, rfl⟩) pa_nil))))) pss_nil)
        (C8.pss_cut (ps_fld (pv 0) (pv 1) rfl)
        (C8.pss_cut (ps_fld (pv 0) (pv 2) rfl)
        (C8.pss_cut (ps_fld (pv 0) (pv 4) rfl)
        (C8.pss_cut (ps_fld (pv 0) (pe_call G_full_of (hr.mono (by decide)) (by rfl) g_full_of k_full_of b_full_of .nil (passE rfl rfl rfl rfl) (pa_cons (pv 1) pa_nil)) rfl)
        (C8.pss_cut (ps_fld (pv 0) (pe_op op_mul (pv 2) (pv 4)) rfl)
        (C8.pss_cut (ps_fld (pv 0) (pe_callTy call_tuple_of (by rfl) Tx.n_tuple (by decide +kernel) (pa_cons (pe_callB cr_sortedP (by rfl) Tx.n_sorted (by decide +kernel) (pa_cons (pe_lc (own := [("seam", 6)]) (g := gName 6) (tt := tYes) rfl sc_Skin_init.nd (pi_list (pv 3)) (blkOk_by (own := [("seam", 6)]) (N := ["self", "kind", "faces", "seams", "turn", "twice", "seam", "side"]) (sc := defScope s_Skin_init) (by decide +kernel)) (fun _ _ _ _ _ => (pg_name (i := 6) sc_Skin_init.nd rfl (Or.inl rfl))) (fun _ _ _ _ _ => pts_nil) (fun _ _ _ _ _ => (pe_tup (pa_cons (pe_callB (cr_minTK (K := K) rfl rfl hr.units) (by rfl) Tx.n_min (by decide +kernel) (pa_cons (pv 6) pa_nil)) (pa_cons (pe_callB (cr_maxTK (K := K) rfl rfl hr.units) (by rfl) Tx.n_max (by decide +kernel) (pa_cons (pv 6) pa_nil)) pa_nil))))) pa_nil)) pa_nil)) rfl)
        (C8.pss_cut (ps_fld (pv 0) (pe_call G_mates_of (hr.mono (by decide)) (by rfl) g_mates_of k_mates_of b_mates_of .nil pass0 (pa_cons (pv 3) (pa_cons (pe_fld (pv 0) rfl) pa_nil))) rfl)
        (C8.pss_cut (ps_fld (pv 0) (pe_call G_turned_sides (hr.mono (by decide)) (by rfl) g_turned_sides k_turned_sides b_turned_sides .nil pass0 (pa_cons (pe_fld (pv 0) rfl) (pa_cons (pv 4) (pa_cons pe_int pa_nil)))) rfl)
        (C8.pss_cut (ps_fld (pv 0) (pe_call G_turned_sides (hr.mono (by decide)) (by rfl) g_turned_sides k_turned_sides b_turned_sides .nil pass0 (pa_cons (pe_fld (pv 0) rfl) (pa_cons (pv 4) (pa_cons (pe_op op_sub (pv 4) pe_int) pa_nil)))) rfl)
        (pss_one (ps_fld (pv 0) (pe_callTy call_tuple_of (by rfl) Tx.n_tuple (by decide +kernel) (pa_cons (pe_lc (own := [("side", 7)]) (g := gName 7) rfl sc_Skin_init.nd (pi_range1 (by rfl) Tx.n_range (pa_cons (pe_fld (pv 0) rfl) pa_nil)) (blkOk_by (own := [("side", 7)]) (N := ["self", "kind", "faces", "seams", "turn", "twice", "seam", "side"]) (sc := defScope s_Skin_init) (by decide +kernel)) (fun _ _ _ _ _ => (pg_name (i := 7) sc_Skin_init.nd rfl (Or.inl rfl))) (fun _ _ _ _ _ => (pts_one (pt_cmpR op_isN (pe_ix (ix_tupK (K := K) rfl) (pe_fldK (K := K) rfl (pv 0) rfl) (pv 7) (fun _ _ => rfl)) pe_non (nomark _)))) (fun _ _ _ _ _ => (pv 7))) pa_nil)) rfl)))))))))))))))))), ?_⟩
      refine ⟨_, rfl, kv, k1, rfl, hk1, fun _ => ?_, fun g1 => absurd g (by rw [g1]; decide)⟩
      refine ⟨_, rfl, fv, .int 1, .non, k2, rfl, hk2, rfl, rfl, _, rfl, ?_⟩
      rw [b]
      exact iteT (mk1 Tx.er_BadSkin.oex (Tx.er_BadSkin.no "part" (by simp)) e)
    | seams z n k ez g en b hk e hh =>
      subst ez en
      refine ⟨_, (pss_cons (ps_expr (pe_call G_need_kind (hr.mono (by decide)) (by rfl) g_need_kind k_need_kind b_need_kind .nil (passE rfl rfl rfl rfl) (pa_cons (pv 1) pa_nil)))
        (pss_cons (ps_if (pt_not (pt_val (pe_call G_is_within (hr.mono (by decide)) (by rfl) g_is_within k_is_within b_is_within .nil pass0 (pa_cons (pv 2) (pa_cons pe_int (pa_cons pe_non pa_nil)))))) (pss_one (ps_raise rfl (takes_of rfl rfl rfl rfl) (pmk_oex Tx.er_BadSkin.oex Tx.er_BadSkin.ini Tx.er_BadSkin.fn G_BadSkin_init (hr.mono (by decide)) b_BadSkin_init .nil pass0 (by rfl) Tx.g_BadSkin (pa_cons pe_str pa_nil)))) pss_nil)
        (pss_cons (ps_set (i := 4) sc_Skin_init.nd rfl (Or.inl rfl) (pe_call G_sides_of (hr.mono (by decide)) (by rfl) g_sides_of k_sides_of b_sides_of .nil (passE rfl rfl rfl rfl) (pa_cons (pv 1) pa_nil)))
        (pss_cons (ps_expr (pe_call G_need_seams (hr.mono (by decide)) (by rfl) g_need_seams k_need_seams b_need_seams .nil (passE rfl rfl rfl rfl) (pa_cons (pv 3) (pa_cons (pe_op op_mul (pv 2) (pv 4)) pa_nil))))
        (pss_cons (ps_set (i := 5) sc_Skin_init.nd rfl (Or.inl rfl) (pe_call G_first_twice (hr.mono (by decide)) (by rfl) g_first_twice k_first_twice b_first_twice .nil pass0 (pa_cons (pe_call G_sides_in (hr.mono (by decide)) (by rfl) g_sides_in k_sides_in b_sides_in .nil pass0 (pa_cons (pv 3) pa_nil)) pa_nil)))
        (pss_cons (ps_if (pt_cmpR op_notN (pv 5) pe_non (nomark _)) (pss_one (ps_raise rfl (takes_of rfl rfl rfl rfl) (pmk_oex Tx.er_Twice.oex Tx.er_Twice.ini Tx.er_Twice.fn G_Twice_init (hr.mono (by decide)) b_Twice_init .nil pass0 (by rfl) Tx.g_Twice (pa_cons (pv 5) pa_nil)))) pss_nil)
        (pss_cons (ps_if (pt_cmpR op_gt (pv 2) (pe_glob (v := .int 24) (by rfl) (Tx.c_MOST_FACES).choose_spec ⟨_, rfl⟩) (nomark _)) (pss_one (ps_raise rfl (takes_of rfl rfl rfl rfl) (pmk_oex Tx.er_TooMany.oex Tx.er_TooMany.ini Tx.er_TooMany.fn G_TooMany_init (hr.mono (by decide)) b_TooMany_init .nil pass0 (by rfl) Tx.g_TooMany (pa_cons pe_str (pa_cons (pe_glob (v := .int 24) (by rfl) (Tx.c_MOST_FACES).choose_spec ⟨_, rfl⟩) pa_nil))))) pss_nil)
        (C8.pss_cut (ps_fld (pv 0) (pv 1) rfl)
        (C8.pss_cut (ps_fld (pv 0) (pv 2) rfl)
        (C8.pss_cut (ps_fld (pv 0) (pv 4) rfl)
        (C8.pss_cut (ps_fld (pv 0) (pe_call G_full_of (hr.mono (by decide)) (by rfl) g_full_of k_full_of b_full_of .nil (passE rfl rfl rfl rfl) (pa_cons (pv 1) pa_nil)) rfl)
        (C8.pss_cut (ps_fld (pv 0) (pe_op op_mul (pv 2) (pv 4)) rfl)
        (C8.pss_cut (ps_fld (pv 0) (pe_callTy call_tuple_of (by rfl) Tx.n_tuple (by decide +kernel) (pa_cons (pe_callB cr_sortedP (by rfl) Tx.n_sorted (by decide +kernel) (pa_cons (pe_lc (own := [("seam", 6)]) (g := gName 6) (tt := tYes) rfl sc_Skin_init.nd (pi_list (pv 3)) (blkOk_by (own := [("seam", 6)]) (N := ["self", "kind", "faces", "seams", "turn", "twice", "seam", "side"]) (sc := defScope s_Skin_init) (by decide +kernel)) (fun _ _ _ _ _ => (pg_name (i := 6) sc_Skin_init.nd rfl (Or.inl rfl))) (fun _ _ _ _ _ => pts_nil) (fun _ _ _ _ _ => (pe_tup (pa_cons (pe_callB (cr_minTK (K := K) rfl rfl hr.units) (by rfl) Tx.n_min (by decide +kernel) (pa_cons (pv 6) pa_nil)) (pa_cons (pe_callB (cr_maxTK (K := K) rfl rfl hr.units) (by rfl) Tx.n_max (by decide +kernel) (pa_cons (pv 6) pa_nil)) pa_nil))))) pa_nil)) pa_nil)) rfl)
        (C8.pss_cut (ps_fld (pv 0) (pe_call G_mates_of (hr.mono (by decide)) (by rfl) g_mates_of k_mates_of b_mates_of .nil pass0 (pa_cons (pv 3) (pa_cons (pe_fld (pv 0) rfl) pa_nil))) rfl)
        (C8.pss_cut (ps_fld (pv 0) (pe_call G_turned_sides (hr.mono (by decide)) (by rfl) g_turned_sides k_turned_sides b_turned_sides .nil pass0 (pa_cons (pe_fld (pv 0) rfl) (pa_cons (pv 4) (pa_cons pe_int pa_nil)))) rfl)
        (C8.pss_cut (ps_fld (pv 0) (pe_call G_turned_sides (hr.mono (by decide)) (by rfl) g_turned_sides k_turned_sides b_turned_sides .nil pass0 (pa_cons (pe_fld (pv 0) rfl) (pa_cons (pv 4) (pa_cons (pe_op op_sub (pv 4) pe_int) pa_nil)))) rfl)
        (pss_one (ps_fld (pv 0) (pe_callTy call_tuple_of (by rfl) Tx.n_tuple (by decide +kernel) (pa_cons (pe_lc (own := [("side", 7)]) (g := gName 7) rfl sc_Skin_init.nd (pi_range1 (by rfl) Tx.n_range (pa_cons (pe_fld (pv 0) rfl) pa_nil)) (blkOk_by (own := [("side", 7)]) (N := ["self", "kind", "faces", "seams", "turn", "twice", "seam", "side"]) (sc := defScope s_Skin_init) (by decide +kernel)) (fun _ _ _ _ _ => (pg_name (i := 7) sc_Skin_init.nd rfl (Or.inl rfl))) (fun _ _ _ _ _ => (pts_one (pt_cmpR op_isN (pe_ix (ix_tupK (K := K) rfl) (pe_fldK (K := K) rfl (pv 0) rfl) (pv 7) (fun _ _ => rfl)) pe_non (nomark _)))) (fun _ _ _ _ _ => (pv 7))) pa_nil)) rfl)))))))))))))))))), ?_⟩
      refine ⟨_, rfl, _, k1, rfl, hk1, fun _ => ?_, fun g1 => absurd g (by rw [g1]; decide)⟩
      refine ⟨_, rfl, _, .int 1, .non, k2, rfl, hk2, rfl, rfl, _, rfl, ?_⟩
      rw [show bnd (.int n) (.int 1) .non = true by show (decide (1 ≤ n) && true) = true; rw [decide_eq_true b] <;> rfl]
      refine iteF ?_
      refine ⟨_, rfl, _, k1, rfl, hk1, fun z' e' _ => ?_, fun g1 => absurd g (by rw [g1]; decide)⟩
      cases e'
      have ht := turn_in z
      refine ⟨_, rfl, _, rfl, _, rfl, _, _, rfl, rfl, .inr ⟨by omega, by omega⟩, sv, k, _, rfl, hk, ?_⟩
      rcases hh with h1 | ⟨h1, a, xs, f, es, hb, hl, hx, hf⟩
      · exact .inl ⟨h1, e⟩
      · exact .inr ⟨h1, a, xs, f, es, hb, hl, hx, fun c => absurd hf (by rw [c]; decide), fun _ => e⟩
    | made z n a ts ps ez g en b es hb hs hl hok e1 e2 q =>
      subst ez en es
      obtain ⟨k3, hk3, hseq⟩ := hb.kd Tx
      have hlt : ts.length ≤ 400 := by rw [hs.len]; exact hl
      have turn := turn_in z
      have nins : ∀ {H' : Hp} {b : Addr} {o : HO}, H' x = some (.ins (He.ga K "Skin") dx []) → H' b = some o → (∀ C d fs, o ≠ .ins C d fs) → b ≠ x := fun {H' b o} h1 h2 h3 e => by
        rw [e, h1] at h2
        exact h3 _ _ _ (Option.some.inj h2).symm
      rcases hb.box Tx with hbl | hbt
      · have sq : ∀ {H' : Hp}, Kp x H H' → SqL K H' a (ts.map V.ref) := fun {H'} k => hbl_kp hx hbl k
        refine ⟨_, (pss_cons (ps_expr (pe_call G_need_kind (hr.mono (by decide)) (by rfl) g_need_kind k_need_kind b_need_kind .nil (passE rfl rfl rfl rfl) (pa_cons (pv 1) pa_nil)))
        (pss_cons (ps_if (pt_not (pt_val (pe_call G_is_within (hr.mono (by decide)) (by rfl) g_is_within k_is_within b_is_within .nil pass0 (pa_cons (pv 2) (pa_cons pe_int (pa_cons pe_non pa_nil)))))) (pss_one (ps_raise rfl (takes_of rfl rfl rfl rfl) (pmk_oex Tx.er_BadSkin.oex Tx.er_BadSkin.ini Tx.er_BadSkin.fn G_BadSkin_init (hr.mono (by decide)) b_BadSkin_init .nil pass0 (by rfl) Tx.g_BadSkin (pa_cons pe_str pa_nil)))) pss_nil)
        (pss_cons (ps_set (i := 4) sc_Skin_init.nd rfl (Or.inl rfl) (pe_call G_sides_of (hr.mono (by decide)) (by rfl) g_sides_of k_sides_of b_sides_of .nil (passE rfl rfl rfl rfl) (pa_cons (pv 1) pa_nil)))
        (pss_cons (ps_expr (pe_call G_need_seams (hr.mono (by decide)) (by rfl) g_need_seams k_need_seams b_need_seams .nil (passE rfl rfl rfl rfl) (pa_cons (pv 3) (pa_cons (pe_op op_mul (pv 2) (pv 4)) pa_nil))))
        (pss_cons (ps_set (i := 5) sc_Skin_init.nd rfl (Or.inl rfl) (pe_call G_first_twice (hr.mono (by decide)) (by rfl) g_first_twice k_first_twice b_first_twice .nil pass0 (pa_cons (pe_call G_sides_in (hr.mono (by decide)) (by rfl) g_sides_in k_sides_in b_sides_in .nil pass0 (pa_cons (pv 3) pa_nil)) pa_nil)))
        (pss_cons (ps_if (pt_cmpR op_notN (pv 5) pe_non (nomark _)) (pss_one (ps_raise rfl (takes_of rfl rfl rfl rfl) (pmk_oex Tx.er_Twice.oex Tx.er_Twice.ini Tx.er_Twice.fn G_Twice_init (hr.mono (by decide)) b_Twice_init .nil pass0 (by rfl) Tx.g_Twice (pa_cons (pv 5) pa_nil)))) pss_nil)
        (pss_cons (ps_if (pt_cmpR op_gt (pv 2) (pe_glob (v := .int 24) (by rfl) (Tx.c_MOST_FACES).choose_spec ⟨_, rfl⟩) (nomark _)) (pss_one (ps_raise rfl (takes_of rfl rfl rfl rfl) (pmk_oex Tx.er_TooMany.oex Tx.er_TooMany.ini Tx.er_TooMany.fn G_TooMany_init (hr.mono (by decide)) b_TooMany_init .nil pass0 (by rfl) Tx.g_TooMany (pa_cons pe_str (pa_cons (pe_glob (v := .int 24) (by rfl) (Tx.c_MOST_FACES).choose_spec ⟨_, rfl⟩) pa_nil))))) pss_nil)
        (C8.pss_cut (ps_fld (pv 0) (pv 1) rfl)
        (C8.pss_cut (ps_fld (pv 0) (pv 2) rfl)
        (C8.pss_cut (ps_fld (pv 0) (pv 4) rfl)
        (C8.pss_cut (ps_fld (pv 0) (pe_call G_full_of (hr.mono (by decide)) (by rfl) g_full_of k_full_of b_full_of .nil (passE rfl rfl rfl rfl) (pa_cons (pv 1) pa_nil)) rfl)
        (C8.pss_cut (ps_fld (pv 0) (pe_op op_mul (pv 2) (pv 4)) rfl)
        (C8.pss_cut (ps_fld (pv 0) (pe_callTy call_tuple_of (by rfl) Tx.n_tuple (by decide +kernel) (pa_cons (pe_callB cr_sortedP (by rfl) Tx.n_sorted (by decide +kernel) (pa_cons (pe_lc (own := [("seam", 6)]) (g := gName 6) (tt := tYes) rfl sc_Skin_init.nd (pi_list (pv 3)) (blkOk_by (own := [("seam", 6)]) (N := ["self", "kind", "faces", "seams", "turn", "twice", "seam", "side"]) (sc := defScope s_Skin_init) (by decide +kernel)) (fun _ _ _ _ _ => (pg_name (i := 6) sc_Skin_init.nd rfl (Or.inl rfl))) (fun _ _ _ _ _ => pts_nil) (fun _ _ _ _ _ => (pe_tup (pa_cons (pe_callB (cr_minTK (K := K) rfl rfl hr.units) (by rfl) Tx.n_min (by decide +kernel) (pa_cons (pv 6) pa_nil)) (pa_cons (pe_callB (cr_maxTK (K := K) rfl rfl hr.units) (by rfl) Tx.n_max (by decide +kernel) (pa_cons (pv 6) pa_nil)) pa_nil))))) pa_nil)) pa_nil)) rfl)
        (C8.pss_cut (ps_fld (pv 0) (pe_call G_mates_of (hr.mono (by decide)) (by rfl) g_mates_of k_mates_of b_mates_of .nil pass0 (pa_cons (pv 3) (pa_cons (pe_fld (pv 0) rfl) pa_nil))) rfl)
        (C8.pss_cut (ps_fld (pv 0) (pe_call G_turned_sides (hr.mono (by decide)) (by rfl) g_turned_sides k_turned_sides b_turned_sides .nil pass0 (pa_cons (pe_fld (pv 0) rfl) (pa_cons (pv 4) (pa_cons pe_int pa_nil)))) rfl)
        (C8.pss_cut (ps_fld (pv 0) (pe_call G_turned_sides (hr.mono (by decide)) (by rfl) g_turned_sides k_turned_sides b_turned_sides .nil pass0 (pa_cons (pe_fld (pv 0) rfl) (pa_cons (pv 4) (pa_cons (pe_op op_sub (pv 4) pe_int) pa_nil)))) rfl)
        (pss_one (ps_fld (pv 0) (pe_callTy call_tuple_of (by rfl) Tx.n_tuple (by decide +kernel) (pa_cons (pe_lc (own := [("side", 7)]) (g := gName 7) rfl sc_Skin_init.nd (pi_range1 (by rfl) Tx.n_range (pa_cons (pe_fld (pv 0) rfl) pa_nil)) (blkOk_by (own := [("side", 7)]) (N := ["self", "kind", "faces", "seams", "turn", "twice", "seam", "side"]) (sc := defScope s_Skin_init) (by decide +kernel)) (fun _ _ _ _ _ => (pg_name (i := 7) sc_Skin_init.nd rfl (Or.inl rfl))) (fun _ _ _ _ _ => (pts_one (pt_cmpR op_isN (pe_ix (ix_tupK (K := K) rfl) (pe_fldK (K := K) rfl (pv 0) rfl) (pv 7) (fun _ _ => rfl)) pe_non (nomark _)))) (fun _ _ _ _ _ => (pv 7))) pa_nil)) rfl)))))))))))))))))), ?_⟩
        refine ⟨_, rfl, _, k1, rfl, hk1, fun _ => ?_, fun g1 => absurd g (by rw [g1]; decide)⟩
        refine ⟨_, rfl, _, .int 1, .non, k2, rfl, hk2, rfl, rfl, _, rfl, ?_⟩
        rw [show bnd (.int n) (.int 1) .non = true by show (decide (1 ≤ n) && true) = true; rw [decide_eq_true b] <;> rfl]
        refine iteF ?_
        refine ⟨_, rfl, _, k1, rfl, hk1, fun z' e' _ => ?_, fun g1 => absurd g (by rw [g1]; decide)⟩
        cases e'
        refine ⟨_, rfl, _, rfl, _, rfl, _, _, rfl, rfl, .inr ⟨by omega, by omega⟩, _, k3, _, rfl, hk3, .inr ⟨hseq, a, ts.map V.ref, fun _ => true, rfl, hb.box Tx, by rw [List.length_map]; omega, items_ok hs hok, fun _ H1 s1 => ?_, fun c => ?_⟩⟩
        · refine ⟨_, rfl, a, ts, ps, rfl, (hb.box Tx).same s1, hs.same s1, hl, fun H2 r s2 nr hr => ?_⟩
          refine ⟨r, flat2 ps, rfl, SqL.of hr, by rw [flat2_len]; omega, fun H3 s3 => ?_⟩
          have s03 := (s1.trans s2).trans s3
          refine ⟨_, rfl, rfl, _, rfl, ?_⟩
          cases ht : tw (flat2 ps) with
          | some t => exact ⟨_, rfl, mk1 Tx.er_Twice.oex (Tx.er_Twice.no "value" (by simp)) ((e1 t ht).same s03)⟩
          | none =>
            refine ⟨_, rfl, _, _, rfl, rfl, _, rfl, ite2 (fun h24 => ?_) (fun h24 => ?_)⟩
            · exact mk2 Tx.er_TooMany.oex (Tx.er_TooMany.no "what" (by simp)) (Tx.er_TooMany.no "most" (by simp)) ((e2 ht (of_decide_eq_true h24)).same s03)
            · have n24 : n ≤ 24 := Int.not_lt.mp fun c => h24 (decide_eq_true c)
              have hN0 : 0 ≤ n * turnOf z := by rcases turn with e | e <;> rw [e] <;> omega
              have hN1 : n * turnOf z ≤ 96 := by rcases turn with e | e <;> rw [e] <;> omega
              let σ0 : L2.St := [some (.ref x), some (.str z), some (.int n), some (.ref a), some (.int (turnOf z)), some .non, none, none]
              refine ⟨fun σ H' => σ = σ0 ∧ Stg K x dx H H' [("kind", .str z)], ?_, ?_⟩
              · refine ⟨_, rfl, _, rfl, x, _, dx, _, rfl, s03 _ _ hx, Tx.cl_Skin, Tx.no_Skin_kind, (show 0 < 1000 by decide), rfl, ?_⟩
                exact Stg.put (ns := []) ⟨s03 _ _ hx, Kp.same s03⟩ rfl (by simp)
              · rintro σ H4 ⟨rfl, t4⟩
                refine ⟨fun σ H' => σ = σ0 ∧ Stg K x dx H H' [("kind", .str z), ("faces", .int n)], ?_, ?_⟩
                · refine ⟨_, rfl, _, rfl, x, _, dx, _, rfl, t4.ins, Tx.cl_Skin, Tx.no_Skin_faces, (show 1 < 1000 by decide), rfl, ?_⟩
                  exact Stg.put (ns := ["kind"]) t4 rfl (by decide +kernel)
                · rintro σ H5 ⟨rfl, t5⟩
                  refine ⟨fun σ H' => σ = σ0 ∧ Stg K x dx H H' [("kind", .str z), ("faces", .int n), ("turn", .int (turnOf z))], ?_, ?_⟩
                  · refine ⟨_, rfl, _, rfl, x, _, dx, _, rfl, t5.ins, Tx.cl_Skin, Tx.no_Skin_turn, (show 2 < 1000 by decide), rfl, ?_⟩
                    exact Stg.put (ns := ["kind", "faces"]) t5 rfl (by decide +kernel)
                  · rintro σ H6 ⟨rfl, t6⟩
                    refine ⟨fun σ H' => σ = σ0 ∧ Stg K x dx H H' [("kind", .str z), ("faces", .int n), ("turn", .int (turnOf z)), ("full", .int (fullOf z))], ?_, ?_⟩
                    · refine ⟨_, rfl, _, .str, rfl, True.intro, fun z' e' _ => ?_, fun g1 => absurd g (by rw [g1]; decide)⟩
                      cases e'
                      refine ⟨_, rfl, x, _, dx, _, rfl, t6.ins, Tx.cl_Skin, Tx.no_Skin_full, (show 3 < 1000 by decide), rfl, ?_⟩
                      exact Stg.put (ns := ["kind", "faces", "turn"]) t6 rfl (by decide +kernel)
                    · rintro σ H7 ⟨rfl, t7⟩
                      refine ⟨fun σ H' => σ = σ0 ∧ Stg K x dx H H' [("kind", .str z), ("faces", .int n), ("turn", .int (turnOf z)), ("full", .int (fullOf z)), ("sides", .int (n * turnOf z))], ?_, ?_⟩
                      · refine ⟨_, rfl, _, rfl, _, _, rfl, rfl, .inr ⟨by omega, by omega⟩, _, rfl, x, _, dx, _, rfl, t7.ins, Tx.cl_Skin, Tx.no_Skin_sides, (show 4 < 1000 by decide), rfl, ?_⟩
                        exact Stg.put (ns := ["kind", "faces", "turn", "full"]) t7 rfl (by decide +kernel)
                      · rintro σ H8 ⟨rfl, t8⟩
                        have hs8 : Seams H8 ts ps := seams_kp hx hs t8.kp
                        refine ⟨fun σ H' => σ = σ0 ∧ ∃ (st : Addr) (us : List Addr) (qs : List (Int × Int)), Stg K x dx H H' [("kind", .str z), ("faces", .int n), ("turn", .int (turnOf z)), ("full", .int (fullOf z)), ("sides", .int (n * turnOf z)), ("seams", .ref st)] ∧ H' st = some (.tup (us.map V.ref)) ∧ Seams H' us qs ∧ qs.Perm (ps.map srt), ?_, ?_⟩
                        · refine ⟨_, rfl, a, rfl, ⟨_, sq t8.kp⟩, fun D nD => ?_⟩
                          refine lc_it (walk_list (K := K) (a := a) (xs := ts.map V.ref)) (fun i H' => ∃ us : List Addr, Same H8 H' ∧ H' D = some (.lst (us.map V.ref)) ∧ Seams H' us ((ps.take i).map srt)) ⟨[], same_new nD, upd_same, ⟨rfl, fun i t p h => by simp at h⟩⟩ (fun i H' _ p => by obtain ⟨_, s8, _⟩ := p; exact sq (t8.kp.trans (Kp.same s8))) (fun i v H' H'' hi p y => ?_) (fun H' p => ?_)
                          · obtain ⟨us, s8, hD, hus⟩ := p
                            obtain ⟨rfl, hv⟩ := y
                            obtain ⟨t, p, rfl, htt, hp, htup⟩ := hs8.get hv
                            refine ⟨rfl, ?_⟩
                            refine ⟨_, rfl, t, p.1, p.2, rfl, SqT.of (s8 _ _ htup), _, rfl, t, p.1, p.2, rfl, SqT.of (s8 _ _ htup), le_line (n := 2) (by decide), fun T nT => ?_⟩
                            have sT : Same H'' (upd H'' T (.tup [.int (srt p).1, .int (srt p).2])) := same_new nT
                            have D8 : H8 D = none := nD
                            refine ⟨_, sT _ _ hD, ?_, us ++ [T], Same.mut (s8.trans sT) D8, by rw [upd_same, List.map_append]; rfl, ?_⟩
                            · rw [List.length_map, hus.len, List.length_map, List.length_take]
                              exact small_line (by omega)
                            · have hTD : T ≠ D := (ne_of_none hD nT).symm
                              have ep : (ps.take (i + 1)).map srt = (ps.take i).map srt ++ [srt p] := by
                                rw [List.take_add_one, hp, Option.toList_some, List.map_append]
                                rfl
                              rw [ep]
                              exact hus.push (p := srt p) (ys := us.map V.ref ++ [V.ref T]) nT hD
                          · obtain ⟨us, s8, hD, hus⟩ := p
                            have el : (ps.take (ts.map V.ref).length).map srt = ps.map srt := by rw [List.length_map, hs.len, List.take_length]
                            rw [el] at hus
                            refine ⟨D, _, rfl, SqL.of hD, fun v hv => ?_, fun ys p hperm np => ?_⟩
                            · obtain ⟨i, hi, e⟩ := List.mem_iff_getElem.mp hv
                              obtain ⟨t, pr, rfl, _, _, htup⟩ := hus.get (by rw [List.getElem?_eq_getElem hi, e])
                              exact ⟨t, _, _, rfl, htup⟩
                            · obtain ⟨vs, qs, rfl, hvs, hq⟩ := perm_seams hus hperm
                              refine ⟨p, _, rfl, .inl ⟨SqL.of upd_same, fun st nst => ?_⟩⟩
                              have s9 : Same H8 _ := s8.trans ((same_new np).trans (same_new (o := .tup (vs.map V.ref)) nst))
                              have t9 : Stg K x dx H _ _ := ⟨s9 _ _ t8.ins, t8.kp.trans (Kp.same s9)⟩
                              refine ⟨_, rfl, x, _, dx, _, rfl, t9.ins, Tx.cl_Skin, Tx.no_Skin_seams, (show 5 < 1000 by decide), rfl, st, vs, qs, ?_, ?_, ?_, hq⟩
                              · exact Stg.put (ns := ["kind", "faces", "turn", "full", "sides"]) t9 rfl (by decide +kernel)
                              · rw [upd_ne (fun e => ?_), upd_same]
                                rw [e] at nst
                                have := ((s8.trans (same_new np)) _ _ t8.ins).symm.trans nst
                                cases this
                              · have h9 : Seams _ vs qs := (hvs.same (same_new np)).same (same_new (o := .tup (vs.map V.ref)) nst)
                                exact h9.upd t9.ins
                        · rintro σ H9 ⟨rfl, st, us, qs, t9, h9, hus, hq⟩
                          refine ⟨fun σ H' => σ = σ0 ∧ ∃ (mt : Addr), Stg K x dx H H' [("kind", .str z), ("faces", .int n), ("turn", .int (turnOf z)), ("full", .int (fullOf z)), ("sides", .int (n * turnOf z)), ("seams", .ref st), ("mates", .ref mt)] ∧ H' st = some (.tup (us.map V.ref)) ∧ Seams H' us qs ∧ H' mt = some (.tup (msL ps (n * turnOf z).toNat)), ?_, ?_⟩
                          · refine ⟨_, rfl, _, rfl, x, _, dx, _, _, rfl, t9.ins, Tx.cl_Skin, Tx.no_Skin_sides, rfl, a, ts, ps, _, rfl, box_kp hx (hb.box Tx) t9.kp, seams_kp hx hs t9.kp, hok, hN0, by omega, fun H10 mt s10 nmt hmt => ?_⟩
                            have t10 : Stg K x dx H H10 _ := ⟨s10 _ _ t9.ins, t9.kp.trans (Kp.same s10)⟩
                            refine ⟨_, rfl, x, _, dx, _, rfl, t10.ins, Tx.cl_Skin, Tx.no_Skin_mates, (show 6 < 1000 by decide), rfl, mt, ?_, ?_, ?_, ?_⟩
                            · exact Stg.put (ns := ["kind", "faces", "turn", "full", "sides", "seams"]) t10 rfl (by decide +kernel)
                            · exact tup_upd t10.ins (s10 _ _ h9)
                            · exact (hus.same s10).upd t10.ins
                            · exact tup_upd t10.ins hmt
                          · rintro σ H11 ⟨rfl, mt, t11, h11, hus11, hmt⟩
                            refine ⟨fun σ H' => σ = σ0 ∧ ∃ (nt : Addr), Stg K x dx H H' [("kind", .str z), ("faces", .int n), ("turn", .int (turnOf z)), ("full", .int (fullOf z)), ("sides", .int (n * turnOf z)), ("seams", .ref st), ("mates", .ref mt), ("nexts", .ref nt)] ∧ H' st = some (.tup (us.map V.ref)) ∧ Seams H' us qs ∧ H' mt = some (.tup (msL ps (n * turnOf z).toNat)) ∧ H' nt = some (.tup (tnL (n * turnOf z).toNat (turnOf z) 1)), ?_, ?_⟩
                            · refine ⟨_, rfl, x, _, dx, _, _, rfl, t11.ins, Tx.cl_Skin, Tx.no_Skin_sides, rfl, _, rfl, n * turnOf z, turnOf z, 1, rfl, hN0, by omega, by omega, by omega, fun H12 nt s12 nnt hnt => ?_⟩
                              have t12 : Stg K x dx H H12 _ := ⟨s12 _ _ t11.ins, t11.kp.trans (Kp.same s12)⟩
                              refine ⟨_, rfl, x, _, dx, _, rfl, t12.ins, Tx.cl_Skin, Tx.no_Skin_nexts, (show 7 < 1000 by decide), rfl, nt, ?_, ?_, ?_, ?_, ?_⟩
                              · exact Stg.put (ns := ["kind", "faces", "turn", "full", "sides", "seams", "mates"]) t12 rfl (by decide +kernel)
                              · exact tup_upd t12.ins (s12 _ _ h11)
                              · exact (hus11.same s12).upd t12.ins
                              · exact tup_upd t12.ins (s12 _ _ hmt)
                              · exact tup_upd t12.ins hnt
                            rintro σ H11 ⟨rfl, nt, t11, h11, hus11, hmt, hnt⟩
                            refine ⟨fun σ H' => σ = σ0 ∧ ∃ (bt : Addr), Stg K x dx H H' [("kind", .str z), ("faces", .int n), ("turn", .int (turnOf z)), ("full", .int (fullOf z)), ("sides", .int (n * turnOf z)), ("seams", .ref st), ("mates", .ref mt), ("nexts", .ref nt), ("backs", .ref bt)] ∧ H' st = some (.tup (us.map V.ref)) ∧ Seams H' us qs ∧ H' mt = some (.tup (msL ps (n * turnOf z).toNat)) ∧ H' nt = some (.tup (tnL (n * turnOf z).toNat (turnOf z) 1)) ∧ H' bt = some (.tup (tnL (n * turnOf z).toNat (turnOf z) (turnOf z - 1))), ?_, ?_⟩
                            · refine ⟨_, rfl, x, _, dx, _, _, rfl, t11.ins, Tx.cl_Skin, Tx.no_Skin_sides, rfl, _, rfl, _, rfl, _, _, rfl, rfl, n * turnOf z, turnOf z, turnOf z - 1, rfl, hN0, by omega, by omega, by omega, fun H12 bt s12 nbt hbk => ?_⟩
                              have t12 : Stg K x dx H H12 _ := ⟨s12 _ _ t11.ins, t11.kp.trans (Kp.same s12)⟩
                              refine ⟨_, rfl, x, _, dx, _, rfl, t12.ins, Tx.cl_Skin, Tx.no_Skin_backs, (show 8 < 1000 by decide), rfl, bt, ?_, ?_, ?_, ?_, ?_, ?_⟩
                              · exact Stg.put (ns := ["kind", "faces", "turn", "full", "sides", "seams", "mates", "nexts"]) t12 rfl (by decide +kernel)
                              · exact tup_upd t12.ins (s12 _ _ h11)
                              · exact (hus11.same s12).upd t12.ins
                              · exact tup_upd t12.ins (s12 _ _ hmt)
                              · exact tup_upd t12.ins (s12 _ _ hnt)
                              · exact tup_upd t12.ins hbk
                            · rintro σ H11 ⟨rfl, bt, t11, h11, hus11, hmt, hnt, hbk⟩
                              obtain ⟨N, hN⟩ := Int.eq_ofNat_of_zero_le hN0
                              rw [hN] at hmt t11 hnt hbk
                              have hmt' : H11 mt = some (.tup (msL ps N)) := hmt
                              refine ⟨_, rfl, x, _, dx, _, _, rfl, t11.ins, Tx.cl_Skin, Tx.no_Skin_sides, rfl, _, rfl, by omega, by omega, fun D nD => ?_⟩
                              refine lc_pure ((walk_range (lo := 0) (n := (N : Int).toNat)).mono (Y' := fun i H x H' => H' = H ∧ (rgL N)[i]? = some x) (fun _ h => h) (fun i H x H' hi _ y => ⟨y.1, by rw [y.2]; exact rgL_at hi⟩)) (rgL N) (by rw [rgL_len]; rfl) (by rw [rgL_len]; omega) (fun i H x H' y => ⟨same_of_eq y.1, y.2⟩) (fun x => x) (keepF (msL ps N)) nD (fun _ _ => True.intro) (fun i v H2 Q1 Q0 hi s2 q1 q0 => ?_) (fun H2 s2 hD => ?_)
                              · refine ⟨rfl, ?_⟩
                                obtain ⟨iN, rfl⟩ := rgL_get hi
                                have hlt : i < (msL ps N).length := by rw [msL_len]; exact iN
                                refine ⟨_, rfl, x, _, dx, _, _, rfl, s2 _ _ t11.ins, Tx.cl_Skin, Tx.no_Skin_mates, rfl, _, rfl, mt, _, _, (msL ps N)[i], rfl, rfl, SqT.of (s2 _ _ hmt'), atI_nat (List.getElem?_eq_getElem hlt), rfl, _, rfl, ?_⟩
                                have ek := keepF_at (List.getElem?_eq_getElem hlt)
                                refine ite2 (fun e => ?_) (fun e => ?_)
                                · exact ⟨_, rfl, q1 (ek.trans e) _ (Same.refl _)⟩
                                · exact q0 (ek.trans (Bool.eq_false_iff.mpr e)) _ (Same.refl _)
                              · rw [List.map_id', rgL_keep] at hD
                                refine ⟨D, _, rfl, .inl ⟨SqL.of hD, fun ft nft => ?_⟩⟩
                                have s12 : Same H11 _ := s2.trans (same_new (o := .tup ((frL ps N).map V.int)) nft)
                                have t12 : Stg K x dx H _ _ := ⟨s12 _ _ t11.ins, t11.kp.trans (Kp.same s12)⟩
                                refine ⟨_, rfl, x, _, dx, _, rfl, t12.ins, Tx.cl_Skin, Tx.no_Skin_free, (show 9 < 1000 by decide), ?_⟩
                                have t13 := Stg.put (f := "free") (v := .ref ft) (ns := ["kind", "faces", "turn", "full", "sides", "seams", "mates", "nexts", "backs"]) t12 rfl (by decide +kernel)
                                refine q ht n24 _ t13.kp ⟨dx, st, mt, ft, us, qs, ⟨(nt, bt), ?_, ?_, ?_⟩, ?_, ?_, hq, ?_, ?_⟩
                                · rw [t13.ins, ← hN]
                                  rfl
                                · rw [hN]
                                  exact tup_upd t12.ins (s12 _ _ hnt)
                                · rw [hN]
                                  exact tup_upd t12.ins (s12 _ _ hbk)
                                · exact tup_upd t12.ins (s12 _ _ h11)
                                · exact (hus11.same s12).upd t12.ins
                                · rw [hN]
                                  exact tup_upd t12.ins (s12 _ _ hmt')
                                · rw [hN]
                                  exact tup_upd t12.ins upd_same
        · cases c.symm.trans (show ((ts.map V.ref).all fun _ => true) = true from List.all_eq_true.mpr fun _ _ => rfl)
      · have sq : ∀ {H' : Hp}, Kp x H H' → SqT K H' a (ts.map V.ref) := fun {H'} k => hbt_kp hx hbt k
        refine ⟨_, (pss_cons (ps_expr (pe_call G_need_kind (hr.mono (by decide)) (by rfl) g_need_kind k_need_kind b_need_kind .nil (passE rfl rfl rfl rfl) (pa_cons (pv 1) pa_nil)))
        (pss_cons (ps_if (pt_not (pt_val (pe_call G_is_within (hr.mono (by decide)) (by rfl) g_is_within k_is_within b_is_within .nil pass0 (pa_cons (pv 2) (pa_cons pe_int (pa_cons pe_non pa_nil)))))) (pss_one (ps_raise rfl (takes_of rfl rfl rfl rfl) (pmk_oex Tx.er_BadSkin.oex Tx.er_BadSkin.ini Tx.er_BadSkin.fn G_BadSkin_init (hr.mono (by decide)) b_BadSkin_init .nil pass0 (by rfl) Tx.g_BadSkin (pa_cons pe_str pa_nil)))) pss_nil)
        (pss_cons (ps_set (i := 4) sc_Skin_init.nd rfl (Or.inl rfl) (pe_call G_sides_of (hr.mono (by decide)) (by rfl) g_sides_of k_sides_of b_sides_of .nil (passE rfl rfl rfl rfl) (pa_cons (pv 1) pa_nil)))
        (pss_cons (ps_expr (pe_call G_need_seams (hr.mono (by decide)) (by rfl) g_need_seams k_need_seams b_need_seams .nil (passE rfl rfl rfl rfl) (pa_cons (pv 3) (pa_cons (pe_op op_mul (pv 2) (pv 4)) pa_nil))))
        (pss_cons (ps_set (i := 5) sc_Skin_init.nd rfl (Or.inl rfl) (pe_call G_first_twice (hr.mono (by decide)) (by rfl) g_first_twice k_first_twice b_first_twice .nil pass0 (pa_cons (pe_call G_sides_in (hr.mono (by decide)) (by rfl) g_sides_in k_sides_in b_sides_in .nil pass0 (pa_cons (pv 3) pa_nil)) pa_nil)))
        (pss_cons (ps_if (pt_cmpR op_notN (pv 5) pe_non (nomark _)) (pss_one (ps_raise rfl (takes_of rfl rfl rfl rfl) (pmk_oex Tx.er_Twice.oex Tx.er_Twice.ini Tx.er_Twice.fn G_Twice_init (hr.mono (by decide)) b_Twice_init .nil pass0 (by rfl) Tx.g_Twice (pa_cons (pv 5) pa_nil)))) pss_nil)
        (pss_cons (ps_if (pt_cmpR op_gt (pv 2) (pe_glob (v := .int 24) (by rfl) (Tx.c_MOST_FACES).choose_spec ⟨_, rfl⟩) (nomark _)) (pss_one (ps_raise rfl (takes_of rfl rfl rfl rfl) (pmk_oex Tx.er_TooMany.oex Tx.er_TooMany.ini Tx.er_TooMany.fn G_TooMany_init (hr.mono (by decide)) b_TooMany_init .nil pass0 (by rfl) Tx.g_TooMany (pa_cons pe_str (pa_cons (pe_glob (v := .int 24) (by rfl) (Tx.c_MOST_FACES).choose_spec ⟨_, rfl⟩) pa_nil))))) pss_nil)
        (C8.pss_cut (ps_fld (pv 0) (pv 1) rfl)
        (C8.pss_cut (ps_fld (pv 0) (pv 2) rfl)
        (C8.pss_cut (ps_fld (pv 0) (pv 4) rfl)
        (C8.pss_cut (ps_fld (pv 0) (pe_call G_full_of (hr.mono (by decide)) (by rfl) g_full_of k_full_of b_full_of .nil (passE rfl rfl rfl rfl) (pa_cons (pv 1) pa_nil)) rfl)
        (C8.pss_cut (ps_fld (pv 0) (pe_op op_mul (pv 2) (pv 4)) rfl)
        (C8.pss_cut (ps_fld (pv 0) (pe_callTy call_tuple_of (by rfl) Tx.n_tuple (by decide +kernel) (pa_cons (pe_callB cr_sortedP (by rfl) Tx.n_sorted (by decide +kernel) (pa_cons (pe_lc (own := [("seam", 6)]) (g := gName 6) (tt := tYes) rfl sc_Skin_init.nd (pi_tup (pv 3)) (blkOk_by (own := [("seam", 6)]) (N := ["self", "kind", "faces", "seams", "turn", "twice", "seam", "side"]) (sc := defScope s_Skin_init) (by decide +kernel)) (fun _ _ _ _ _ => (pg_name (i := 6) sc_Skin_init.nd rfl (Or.inl rfl))) (fun _ _ _ _ _ => pts_nil) (fun _ _ _ _ _ => (pe_tup (pa_cons (pe_callB (cr_minTK (K := K) rfl rfl hr.units) (by rfl) Tx.n_min (by decide +kernel) (pa_cons (pv 6) pa_nil)) (pa_cons (pe_callB (cr_maxTK (K := K) rfl rfl hr.units) (by rfl) Tx.n_max (by decide +kernel) (pa_cons (pv 6) pa_nil)) pa_nil))))) pa_nil)) pa_nil)) rfl)
        (C8.pss_cut (ps_fld (pv 0) (pe_call G_mates_of (hr.mono (by decide)) (by rfl) g_mates_of k_mates_of b_mates_of .nil pass0 (pa_cons (pv 3) (pa_cons (pe_fld (pv 0) rfl) pa_nil))) rfl)
        (C8.pss_cut (ps_fld (pv 0) (pe_call G_turned_sides (hr.mono (by decide)) (by rfl) g_turned_sides k_turned_sides b_turned_sides .nil pass0 (pa_cons (pe_fld (pv 0) rfl) (pa_cons (pv 4) (pa_cons pe_int pa_nil)))) rfl)
        (C8.pss_cut (ps_fld (pv 0) (pe_call G_turned_sides (hr.mono (by decide)) (by rfl) g_turned_sides k_turned_sides b_turned_sides .nil pass0 (pa_cons (pe_fld (pv 0) rfl) (pa_cons (pv 4) (pa_cons (pe_op op_sub (pv 4) pe_int) pa_nil)))) rfl)
        (pss_one (ps_fld (pv 0) (pe_callTy call_tuple_of (by rfl) Tx.n_tuple (by decide +kernel) (pa_cons (pe_lc (own := [("side", 7)]) (g := gName 7) rfl sc_Skin_init.nd (pi_range1 (by rfl) Tx.n_range (pa_cons (pe_fld (pv 0) rfl) pa_nil)) (blkOk_by (own := [("side", 7)]) (N := ["self", "kind", "faces", "seams", "turn", "twice", "seam", "side"]) (sc := defScope s_Skin_init) (by decide +kernel)) (fun _ _ _ _ _ => (pg_name (i := 7) sc_Skin_init.nd rfl (Or.inl rfl))) (fun _ _ _ _ _ => (pts_one (pt_cmpR op_isN (pe_ix (ix_tupK (K := K) rfl) (pe_fldK (K := K) rfl (pv 0) rfl) (pv 7) (fun _ _ => rfl)) pe_non (nomark _)))) (fun _ _ _ _ _ => (pv 7))) pa_nil)) rfl)))))))))))))))))), ?_⟩
        refine ⟨_, rfl, _, k1, rfl, hk1, fun _ => ?_, fun g1 => absurd g (by rw [g1]; decide)⟩
        refine ⟨_, rfl, _, .int 1, .non, k2, rfl, hk2, rfl, rfl, _, rfl, ?_⟩
        rw [show bnd (.int n) (.int 1) .non = true by show (decide (1 ≤ n) && true) = true; rw [decide_eq_true b] <;> rfl]
        refine iteF ?_
        refine ⟨_, rfl, _, k1, rfl, hk1, fun z' e' _ => ?_, fun g1 => absurd g (by rw [g1]; decide)⟩
        cases e'
        refine ⟨_, rfl, _, rfl, _, rfl, _, _, rfl, rfl, .inr ⟨by omega, by omega⟩, _, k3, _, rfl, hk3, .inr ⟨hseq, a, ts.map V.ref, fun _ => true, rfl, hb.box Tx, by rw [List.length_map]; omega, items_ok hs hok, fun _ H1 s1 => ?_, fun c => ?_⟩⟩
        · refine ⟨_, rfl, a, ts, ps, rfl, (hb.box Tx).same s1, hs.same s1, hl, fun H2 r s2 nr hr => ?_⟩
          refine ⟨r, flat2 ps, rfl, SqL.of hr, by rw [flat2_len]; omega, fun H3 s3 => ?_⟩
          have s03 := (s1.trans s2).trans s3
          refine ⟨_, rfl, rfl, _, rfl, ?_⟩
          cases ht : tw (flat2 ps) with
          | some t => exact ⟨_, rfl, mk1 Tx.er_Twice.oex (Tx.er_Twice.no "value" (by simp)) ((e1 t ht).same s03)⟩
          | none =>
            refine ⟨_, rfl, _, _, rfl, rfl, _, rfl, ite2 (fun h24 => ?_) (fun h24 => ?_)⟩
            · exact mk2 Tx.er_TooMany.oex (Tx.er_TooMany.no "what" (by simp)) (Tx.er_TooMany.no "most" (by simp)) ((e2 ht (of_decide_eq_true h24)).same s03)
            · have n24 : n ≤ 24 := Int.not_lt.mp fun c => h24 (decide_eq_true c)
              have hN0 : 0 ≤ n * turnOf z := by rcases turn with e | e <;> rw [e] <;> omega
              have hN1 : n * turnOf z ≤ 96 := by rcases turn with e | e <;> rw [e] <;> omega
              let σ0 : L2.St := [some (.ref x), some (.str z), some (.int n), some (.ref a), some (.int (turnOf z)), some .non, none, none]
              refine ⟨fun σ H' => σ = σ0 ∧ Stg K x dx H H' [("kind", .str z)], ?_, ?_⟩
              · refine ⟨_, rfl, _, rfl, x, _, dx, _, rfl, s03 _ _ hx, Tx.cl_Skin, Tx.no_Skin_kind, (show 0 < 1000 by decide), rfl, ?_⟩
                exact Stg.put (ns := []) ⟨s03 _ _ hx, Kp.same s03⟩ rfl (by simp)
              · rintro σ H4 ⟨rfl, t4⟩
                refine ⟨fun σ H' => σ = σ0 ∧ Stg K x dx H H' [("kind", .str z), ("faces", .int n)], ?_, ?_⟩
                · refine ⟨_, rfl, _, rfl, x, _, dx, _, rfl, t4.ins, Tx.cl_Skin, Tx.no_Skin_faces, (show 1 < 1000 by decide), rfl, ?_⟩
                  exact Stg.put (ns := ["kind"]) t4 rfl (by decide +kernel)
                · rintro σ H5 ⟨rfl, t5⟩
                  refine ⟨fun σ H' => σ = σ0 ∧ Stg K x dx H H' [("kind", .str z), ("faces", .int n), ("turn", .int (turnOf z))], ?_, ?_⟩
                  · refine ⟨_, rfl, _, rfl, x, _, dx, _, rfl, t5.ins, Tx.cl_Skin, Tx.no_Skin_turn, (show 2 < 1000 by decide), rfl, ?_⟩
                    exact Stg.put (ns := ["kind", "faces"]) t5 rfl (by decide +kernel)
                  · rintro σ H6 ⟨rfl, t6⟩
                    refine ⟨fun σ H' => σ = σ0 ∧ Stg K x dx H H' [("kind", .str z), ("faces", .int n), ("turn", .int (turnOf z)), ("full", .int (fullOf z))], ?_, ?_⟩
                    · refine ⟨_, rfl, _, .str, rfl, True.intro, fun z' e' _ => ?_, fun g1 => absurd g (by rw [g1]; decide)⟩
                      cases e'
                      refine ⟨_, rfl, x, _, dx, _, rfl, t6.ins, Tx.cl_Skin, Tx.no_Skin_full, (show 3 < 1000 by decide), rfl, ?_⟩
                      exact Stg.put (ns := ["kind", "faces", "turn"]) t6 rfl (by decide +kernel)
                    · rintro σ H7 ⟨rfl, t7⟩
                      refine ⟨fun σ H' => σ = σ0 ∧ Stg K x dx H H' [("kind", .str z), ("faces", .int n), ("turn", .int (turnOf z)), ("full", .int (fullOf z)), ("sides", .int (n * turnOf z))], ?_, ?_⟩
                      · refine ⟨_, rfl, _, rfl, _, _, rfl, rfl, .inr ⟨by omega, by omega⟩, _, rfl, x, _, dx, _, rfl, t7.ins, Tx.cl_Skin, Tx.no_Skin_sides, (show 4 < 1000 by decide), rfl, ?_⟩
                        exact Stg.put (ns := ["kind", "faces", "turn", "full"]) t7 rfl (by decide +kernel)
                      · rintro σ H8 ⟨rfl, t8⟩
                        have hs8 : Seams H8 ts ps := seams_kp hx hs t8.kp
                        refine ⟨fun σ H' => σ = σ0 ∧ ∃ (st : Addr) (us : List Addr) (qs : List (Int × Int)), Stg K x dx H H' [("kind", .str z), ("faces", .int n), ("turn", .int (turnOf z)), ("full", .int (fullOf z)), ("sides", .int (n * turnOf z)), ("seams", .ref st)] ∧ H' st = some (.tup (us.map V.ref)) ∧ Seams H' us qs ∧ qs.Perm (ps.map srt), ?_, ?_⟩
                        · refine ⟨_, rfl, a, rfl, ⟨_, sq t8.kp⟩, fun D nD => ?_⟩
                          refine lc_it (walk_tup (K := K) (a := a) (xs := ts.map V.ref)) (fun i H' => ∃ us : List Addr, Same H8 H' ∧ H' D = some (.lst (us.map V.ref)) ∧ Seams H' us ((ps.take i).map srt)) ⟨[], same_new nD, upd_same, ⟨rfl, fun i t p h => by simp at h⟩⟩ (fun i H' _ p => by obtain ⟨_, s8, _⟩ := p; exact sq (t8.kp.trans (Kp.same s8))) (fun i v H' H'' hi p y => ?_) (fun H' p => ?_)
                          · obtain ⟨us, s8, hD, hus⟩ := p
                            obtain ⟨rfl, hv⟩ := y
                            obtain ⟨t, p, rfl, htt, hp, htup⟩ := hs8.get hv
                            refine ⟨rfl, ?_⟩
                            refine ⟨_, rfl, t, p.1, p.2, rfl, SqT.of (s8 _ _ htup), _, rfl, t, p.1, p.2, rfl, SqT.of (s8 _ _ htup), le_line (n := 2) (by decide), fun T nT => ?_⟩
                            have sT : Same H'' (upd H'' T (.tup [.int (srt p).1, .int (srt p).2])) := same_new nT
                            have D8 : H8 D = none := nD
                            refine ⟨_, sT _ _ hD, ?_, us ++ [T], Same.mut (s8.trans sT) D8, by rw [upd_same, List.map_append]; rfl, ?_⟩
                            · rw [List.length_map, hus.len, List.length_map, List.length_take]
                              exact small_line (by omega)
                            · have hTD : T ≠ D := (ne_of_none hD nT).symm
                              have ep : (ps.take (i + 1)).map srt = (ps.take i).map srt ++ [srt p] := by
                                rw [List.take_add_one, hp, Option.toList_some, List.map_append]
                                rfl
                              rw [ep]
                              exact hus.push (p := srt p) (ys := us.map V.ref ++ [V.ref T]) nT hD
                          · obtain ⟨us, s8, hD, hus⟩ := p
                            have el : (ps.take (ts.map V.ref).length).map srt = ps.map srt := by rw [List.length_map, hs.len, List.take_length]
                            rw [el] at hus
                            refine ⟨D, _, rfl, SqL.of hD, fun v hv => ?_, fun ys p hperm np => ?_⟩
                            · obtain ⟨i, hi, e⟩ := List.mem_iff_getElem.mp hv
                              obtain ⟨t, pr, rfl, _, _, htup⟩ := hus.get (by rw [List.getElem?_eq_getElem hi, e])
                              exact ⟨t, _, _, rfl, htup⟩
                            · obtain ⟨vs, qs, rfl, hvs, hq⟩ := perm_seams hus hperm
                              refine ⟨p, _, rfl, .inl ⟨SqL.of upd_same, fun st nst => ?_⟩⟩
                              have s9 : Same H8 _ := s8.trans ((same_new np).trans (same_new (o := .tup (vs.map V.ref)) nst))
                              have t9 : Stg K x dx H _ _ := ⟨s9 _ _ t8.ins, t8.kp.trans (Kp.same s9)⟩
                              refine ⟨_, rfl, x, _, dx, _, rfl, t9.ins, Tx.cl_Skin, Tx.no_Skin_seams, (show 5 < 1000 by decide), rfl, st, vs, qs, ?_, ?_, ?_, hq⟩
                              · exact Stg.put (ns := ["kind", "faces", "turn", "full", "sides"]) t9 rfl (by decide +kernel)
                              · rw [upd_ne (fun e => ?_), upd_same]
                                rw [e] at nst
                                have := ((s8.trans (same_new np)) _ _ t8.ins).symm.trans nst
                                cases this
                              · have h9 : Seams _ vs qs := (hvs.same (same_new np)).same (same_new (o := .tup (vs.map V.ref)) nst)
                                exact h9.upd t9.ins
                        · rintro σ H9 ⟨rfl, st, us, qs, t9, h9, hus, hq⟩
                          refine ⟨fun σ H' => σ = σ0 ∧ ∃ (mt : Addr), Stg K x dx H H' [("kind", .str z), ("faces", .int n), ("turn", .int (turnOf z)), ("full", .int (fullOf z)), ("sides", .int (n * turnOf z)), ("seams", .ref st), ("mates", .ref mt)] ∧ H' st = some (.tup (us.map V.ref)) ∧ Seams H' us qs ∧ H' mt = some (.tup (msL ps (n * turnOf z).toNat)), ?_, ?_⟩
                          · refine ⟨_, rfl, _, rfl, x, _, dx, _, _, rfl, t9.ins, Tx.cl_Skin, Tx.no_Skin_sides, rfl, a, ts, ps, _, rfl, box_kp hx (hb.box Tx) t9.kp, seams_kp hx hs t9.kp, hok, hN0, by omega, fun H10 mt s10 nmt hmt => ?_⟩
                            have t10 : Stg K x dx H H10 _ := ⟨s10 _ _ t9.ins, t9.kp.trans (Kp.same s10)⟩
                            refine ⟨_, rfl, x, _, dx, _, rfl, t10.ins, Tx.cl_Skin, Tx.no_Skin_mates, (show 6 < 1000 by decide), rfl, mt, ?_, ?_, ?_, ?_⟩
                            · exact Stg.put (ns := ["kind", "faces", "turn", "full", "sides", "seams"]) t10 rfl (by decide +kernel)
                            · exact tup_upd t10.ins (s10 _ _ h9)
                            · exact (hus.same s10).upd t10.ins
                            · exact tup_upd t10.ins hmt
                          · rintro σ H11 ⟨rfl, mt, t11, h11, hus11, hmt⟩
                            refine ⟨fun σ H' => σ = σ0 ∧ ∃ (nt : Addr), Stg K x dx H H' [("kind", .str z), ("faces", .int n), ("turn", .int (turnOf z)), ("full", .int (fullOf z)), ("sides", .int (n * turnOf z)), ("seams", .ref st), ("mates", .ref mt), ("nexts", .ref nt)] ∧ H' st = some (.tup (us.map V.ref)) ∧ Seams H' us qs ∧ H' mt = some (.tup (msL ps (n * turnOf z).toNat)) ∧ H' nt = some (.tup (tnL (n * turnOf z).toNat (turnOf z) 1)), ?_, ?_⟩
                            · refine ⟨_, rfl, x, _, dx, _, _, rfl, t11.ins, Tx.cl_Skin, Tx.no_Skin_sides, rfl, _, rfl, n * turnOf z, turnOf z, 1, rfl, hN0, by omega, by omega, by omega, fun H12 nt s12 nnt hnt => ?_⟩
                              have t12 : Stg K x dx H H12 _ := ⟨s12 _ _ t11.ins, t11.kp.trans (Kp.same s12)⟩
                              refine ⟨_, rfl, x, _, dx, _, rfl, t12.ins, Tx.cl_Skin, Tx.no_Skin_nexts, (show 7 < 1000 by decide), rfl, nt, ?_, ?_, ?_, ?_, ?_⟩
                              · exact Stg.put (ns := ["kind", "faces", "turn", "full", "sides", "seams", "mates"]) t12 rfl (by decide +kernel)
                              · exact tup_upd t12.ins (s12 _ _ h11)
                              · exact (hus11.same s12).upd t12.ins
                              · exact tup_upd t12.ins (s12 _ _ hmt)
                              · exact tup_upd t12.ins hnt
                            rintro σ H11 ⟨rfl, nt, t11, h11, hus11, hmt, hnt⟩
                            refine ⟨fun σ H' => σ = σ0 ∧ ∃ (bt : Addr), Stg K x dx H H' [("kind", .str z), ("faces", .int n), ("turn", .int (turnOf z)), ("full", .int (fullOf z)), ("sides", .int (n * turnOf z)), ("seams", .ref st), ("mates", .ref mt), ("nexts", .ref nt), ("backs", .ref bt)] ∧ H' st = some (.tup (us.map V.ref)) ∧ Seams H' us qs ∧ H' mt = some (.tup (msL ps (n * turnOf z).toNat)) ∧ H' nt = some (.tup (tnL (n * turnOf z).toNat (turnOf z) 1)) ∧ H' bt = some (.tup (tnL (n * turnOf z).toNat (turnOf z) (turnOf z - 1))), ?_, ?_⟩
                            · refine ⟨_, rfl, x, _, dx, _, _, rfl, t11.ins, Tx.cl_Skin, Tx.no_Skin_sides, rfl, _, rfl, _, rfl, _, _, rfl, rfl, n * turnOf z, turnOf z, turnOf z - 1, rfl, hN0, by omega, by omega, by omega, fun H12 bt s12 nbt hbk => ?_⟩
                              have t12 : Stg K x dx H H12 _ := ⟨s12 _ _ t11.ins, t11.kp.trans (Kp.same s12)⟩
                              refine ⟨_, rfl, x, _, dx, _, rfl, t12.ins, Tx.cl_Skin, Tx.no_Skin_backs, (show 8 < 1000 by decide), rfl, bt, ?_, ?_, ?_, ?_, ?_, ?_⟩
                              · exact Stg.put (ns := ["kind", "faces", "turn", "full", "sides", "seams", "mates", "nexts"]) t12 rfl (by decide +kernel)
                              · exact tup_upd t12.ins (s12 _ _ h11)
                              · exact (hus11.same s12).upd t12.ins
                              · exact tup_upd t12.ins (s12 _ _ hmt)
                              · exact tup_upd t12.ins (s12 _ _ hnt)
                              · exact tup_upd t12.ins hbk
                            · rintro σ H11 ⟨rfl, bt, t11, h11, hus11, hmt, hnt, hbk⟩
                              obtain ⟨N, hN⟩ := Int.eq_ofNat_of_zero_le hN0
                              rw [hN] at hmt t11 hnt hbk
                              have hmt' : H11 mt = some (.tup (msL ps N)) := hmt
                              refine ⟨_, rfl, x, _, dx, _, _, rfl, t11.ins, Tx.cl_Skin, Tx.no_Skin_sides, rfl, _, rfl, by omega, by omega, fun D nD => ?_⟩
                              refine lc_pure ((walk_range (lo := 0) (n := (N : Int).toNat)).mono (Y' := fun i H x H' => H' = H ∧ (rgL N)[i]? = some x) (fun _ h => h) (fun i H x H' hi _ y => ⟨y.1, by rw [y.2]; exact rgL_at hi⟩)) (rgL N) (by rw [rgL_len]; rfl) (by rw [rgL_len]; omega) (fun i H x H' y => ⟨same_of_eq y.1, y.2⟩) (fun x => x) (keepF (msL ps N)) nD (fun _ _ => True.intro) (fun i v H2 Q1 Q0 hi s2 q1 q0 => ?_) (fun H2 s2 hD => ?_)
                              · refine ⟨rfl, ?_⟩
                                obtain ⟨iN, rfl⟩ := rgL_get hi
                                have hlt : i < (msL ps N).length := by rw [msL_len]; exact iN
                                refine ⟨_, rfl, x, _, dx, _, _, rfl, s2 _ _ t11.ins, Tx.cl_Skin, Tx.no_Skin_mates, rfl, _, rfl, mt, _, _, (msL ps N)[i], rfl, rfl, SqT.of (s2 _ _ hmt'), atI_nat (List.getElem?_eq_getElem hlt), rfl, _, rfl, ?_⟩
                                have ek := keepF_at (List.getElem?_eq_getElem hlt)
                                refine ite2 (fun e => ?_) (fun e => ?_)
                                · exact ⟨_, rfl, q1 (ek.trans e) _ (Same.refl _)⟩
                                · exact q0 (ek.trans (Bool.eq_false_iff.mpr e)) _ (Same.refl _)
                              · rw [List.map_id', rgL_keep] at hD
                                refine ⟨D, _, rfl, .inl ⟨SqL.of hD, fun ft nft => ?_⟩⟩
                                have s12 : Same H11 _ := s2.trans (same_new (o := .tup ((frL ps N).map V.int)) nft)
                                have t12 : Stg K x dx H _ _ := ⟨s12 _ _ t11.ins, t11.kp.trans (Kp.same s12)⟩
                                refine ⟨_, rfl, x, _, dx, _, rfl, t12.ins, Tx.cl_Skin, Tx.no_Skin_free, (show 9 < 1000 by decide), ?_⟩
                                have t13 := Stg.put (f := "free") (v := .ref ft) (ns := ["kind", "faces", "turn", "full", "sides", "seams", "mates", "nexts", "backs"]) t12 rfl (by decide +kernel)
                                refine q ht n24 _ t13.kp ⟨dx, st, mt, ft, us, qs, ⟨(nt, bt), ?_, ?_, ?_⟩, ?_, ?_, hq, ?_, ?_⟩
                                · rw [t13.ins, ← hN]
                                  rfl
                                · rw [hN]
                                  exact tup_upd t12.ins (s12 _ _ hnt)
                                · rw [hN]
                                  exact tup_upd t12.ins (s12 _ _ hbk)
                                · exact tup_upd t12.ins (s12 _ _ h11)
                                · exact (hus11.same s12).upd t12.ins
                                · rw [hN]
                                  exact tup_upd t12.ins (s12 _ _ hmt')
                                · rw [hN]
                                  exact tup_upd t12.ins upd_same
        · cases c.symm.trans (show ((ts.map V.ref).all fun _ => true) = true from List.all_eq_true.mpr fun _ _ => rfl)
theorem has_Skin_init (Tx : Txt K mg) (c : He.SaysX fa fn [] tf ex w hh K) (X : K.In hh) (GG : hh.Ns mainGlobals mg) (h_need_kind : HasX P w K mg base "need_kind" 3 ["kind"] (sp_need_kind K)) (h_is_within : Has P w K mg base "is_within" 2 ["value", "least", "most"] (sp_is_within K)) (h_BadSkin_init : HasE P w K mg base "BadSkin" 1 ["self", "part"] (sp_BadSkin_init K)) (h_sides_of : HasX P w K mg base "sides_of" 4 ["kind"] (sp_sides_of K)) (h_need_seams : HasX P w K mg base "need_seams" 4 ["seams", "sides"] (sp_need_seams K)) (h_first_twice : Has P w K mg base "first_twice" 1 ["values"] (sp_first_twice K)) (h_sides_in : Has P w K mg base "sides_in" 1 ["seams"] (sp_sides_in K)) (h_Twice_init : HasE P w K mg base "Twice" 1 ["self", "value"] (sp_Twice_init K)) (h_TooMany_init : HasE P w K mg base "TooMany" 1 ["self", "what", "most"] (sp_TooMany_init K)) (h_full_of : HasX P w K mg base "full_of" 4 ["kind"] (sp_full_of K)) (h_mates_of : Has P w K mg base "mates_of" 1 ["seams", "sides"] (sp_mates_of K)) (h_turned_sides : Has P w K mg base "turned_sides" 1 ["sides", "turn", "by"] (sp_turned_sides K))  : HasI P w K mg base 5 (sp_Skin_init K) := by
  obtain ⟨fd, F⟩ := c.t.d.def_ 41 (d := d_Skin_init) rfl
  exact ⟨fd, ok_Skin_init F Tx h_need_kind h_is_within h_BadSkin_init h_sides_of h_need_seams h_first_twice h_sides_in h_Twice_init h_TooMany_init h_full_of h_mates_of h_turned_sides, bindsI F⟩

end
end K00

namespace K00
open PySem PySem.Spec PyProof.Rows L2 Vf LamX
section
variable {hh : Heap} {P : Program} {w : World} {K : PySem.W.Frag} {mg : Str → Option Value} {base : Heap}
abbrev sp_law_draw : Sp := spDraw
theorem cpow18 : CPow 10 18 := ⟨by decide, by decide, by decide⟩
theorem mix_small {n x : Int} (h0 : 0 ≤ n) (h1 : n ≤ 1000000) (x0 : 0 ≤ x) (x1 : x < 2147483647) : 0 ≤ x * (2 * n + 1511) + 40487 * n * n + 51341 ∧ x * (2 * n + 1511) + 40487 * n * n + 51341 ≤ 100000000000000000 := by
  have a1 : 0 ≤ x * (2 * n + 1511) := Int.mul_nonneg x0 (by omega)
  have a2 : x * (2 * n + 1511) ≤ 2147483647 * 2001511 := Int.mul_le_mul (by omega) (by omega) (by omega) (by decide)
  have a3 : 0 ≤ 40487 * n * n := Int.mul_nonneg (by omega) h0
  have a4 : 40487 * n * n ≤ 40487000000 * 1000000 := Int.mul_le_mul (by omega) h1 h0 (by decide)
  omega
theorem cdiv64 {i : Int} : CDiv i 64 := ⟨by decide, by decide⟩
theorem sc_law_draw : FnScope ["_law_pen_here", "_law_many", "_law_digit", "_law_at", "_law_cell", "_law_great", "_law_mixed"] ["_law_pen_here", "_law_many"] (defScope s_law_draw) := ⟨rfl, rfl, rfl, by decide +kernel, rfl, by decide +kernel, by decide +kernel⟩
theorem ok_law_draw {f : Addr} {fd : FuncData} (F : FunD K "_law_draw" "_law_draw" (defArgs s_law_draw) (defBody s_law_draw) (defScope s_law_draw) [] [] f fd) (Tx : Txt K mg)   : FnOk P w K mg base CX0 1 f fd ["_law_pen_here", "_law_many"] sp_law_draw := by
  refine FunD.ok F sc_law_draw (fun vs H Q E h => ?_) (fun cdv A outer s H vs Q E hr h => ?_)
  · obtain ⟨p, c, many, b, rfl, _⟩ := h
    rfl
  · obtain ⟨p, c, m, b, rfl, ⟨ns, n, g, hp, hc, n0, nb⟩, m0, m2, k⟩ := h
    have cp : c ≠ p := fun e => by
      rw [e, hp] at hc
      injection hc with z
      injection z with z
      exact ref_ints z
    refine ⟨_, PSs.nox (pss_cons (ps_if (pt_cmpR op_gt (pe_ix ix_list (pv 0) pe_int (fun _ _ => rfl)) pe_int (nomark _)) (pss_cons (ps_set (i := 2) sc_law_draw.nd rfl (Or.inl rfl) (pe_op op_mod (pe_callTy call_int1 (by rfl) Tx.n_int (by decide +kernel) (pa_cons (pe_ix ix_list (pv 0) pe_int (fun _ _ => rfl)) pa_nil)) (pv 1)))
        (pss_cons (ps_asg (pe_op op_fdivW (pe_callTy call_int1 (by rfl) Tx.n_int (by decide +kernel) (pa_cons (pe_ix ix_list (pv 0) pe_int (fun _ _ => rfl)) pa_nil)) (pv 1)) (pg_sub (pv 0) pe_int set_list))
        (pss_one (ps_ret (pv 2))))) pss_nil)
        (pss_cons (ps_set (i := 3) sc_law_draw.nd rfl (Or.inl rfl) (pe_ix ix_list (pv 0) pe_int (fun _ _ => rfl)))
        (pss_cons (ps_asg (pe_op op_add (pv 3) pe_int) (pg_sub (pv 0) pe_int set_list))
        (pss_cons (ps_set (i := 4) sc_law_draw.nd rfl (Or.inl rfl) (pe_op op_add (pe_op op_mul pe_int (pv 3)) pe_int))
        (C8.pss_cut (ps_if (pt_cmpR (op_neD hr.units) (pe_ix ix_list (pv 0) pe_int (fun _ _ => rfl)) (pe_lst pa_nil) (nomark _)) (pss_one (ps_set (i := 4) sc_law_draw.nd rfl (Or.inl rfl) (pe_ix ix_list (pe_ix ix_list (pv 0) pe_int (fun _ _ => rfl)) (pe_op op_mod (pe_callTy call_int1 (by rfl) Tx.n_int (by decide +kernel) (pa_cons (pv 3) pa_nil)) (pe_callB call_len_seq (by rfl) Tx.n_len (by decide +kernel) (pa_cons (pe_ix ix_list (pv 0) pe_int (fun _ _ => rfl)) pa_nil))) (fun _ _ => rfl)))) pss_nil)
        (C8.pss_cut (ps_if (PW.pt (pw_and (pt_cmpR op_lt (pv 3) (pe_callB call_len_seq (by rfl) Tx.n_len (by decide +kernel) (pa_cons (pe_ix ix_list (pv 0) pe_int (fun _ _ => rfl)) pa_nil)) (nomark _)) (pw_and1 (pt_cmpR op_ge (pe_callB call_abs (by rfl) Tx.n_abs (by decide +kernel) (pa_cons (pv 4) pa_nil)) (pe_op op_pow pe_int pe_int) (nomark _))))) (pss_cons (ps_set (i := 5) sc_law_draw.nd rfl (Or.inl rfl) (pe_op op_add (pe_op op_mul pe_int (pe_op op_sub (pe_callB call_abs (by rfl) Tx.n_abs (by decide +kernel) (pa_cons (pv 4) pa_nil)) (pe_op op_pow pe_int pe_int))) (pe_callTy call_int1 (by rfl) Tx.n_int (by decide +kernel) (pa_cons (pe_cmpR op_lt (pv 4) pe_int (nomark _)) pa_nil))))
        (pss_cons (ps_asg (pe_op op_fdivW (pe_callTy call_int1 (by rfl) Tx.n_int (by decide +kernel) (pa_cons (pv 5) pa_nil)) (pv 1)) (pg_sub (pv 0) pe_int set_list))
        (pss_one (ps_ret (pe_op op_mod (pe_callTy call_int1 (by rfl) Tx.n_int (by decide +kernel) (pa_cons (pv 5) pa_nil)) (pv 1)))))) pss_nil)
        (C8.pss_cut (ps_set (i := 6) sc_law_draw.nd rfl (Or.inl rfl) (pe_op op_mod (pe_callTy call_int1 (by rfl) Tx.n_int (by decide +kernel) (pa_cons (pe_op op_pow (pe_op op_add (pe_op op_add (pe_op op_mod (pe_callTy call_int1 (by rfl) Tx.n_int (by decide +kernel) (pa_cons (pv 4) pa_nil)) pe_int) (pe_op op_mul pe_int (pv 3))) pe_int) pe_int) pa_nil)) pe_int))
        (pss_cons (ps_set (i := 6) sc_law_draw.nd rfl (Or.inl rfl) (pe_op op_mod (pe_callTy call_int1 (by rfl) Tx.n_int (by decide +kernel) (pa_cons (pe_op op_pow (pe_op op_add (pe_op op_add (pe_op op_mul (pv 6) (pe_op op_add (pe_op op_mul pe_int (pv 3)) pe_int)) (pe_op op_mul (pe_op op_mul pe_int (pv 3)) (pv 3))) pe_int) pe_int) pa_nil)) pe_int))
        (pss_one (ps_ret (pe_op op_mod (pe_callTy call_int1 (by rfl) Tx.n_int (by decide +kernel) (pa_cons (pe_op op_fdiv (pv 6) pe_int) pa_nil)) (pv 1)))))))))))), ?_⟩
    -- if pen[2] > 0
    refine ⟨_, rfl, p, _, 2, .int g, rfl, rfl, SqL.of hp, rfl, _, _, rfl, rfl, _, rfl, ite2 (fun hg => ?_) (fun hg => ?_)⟩
    · refine ⟨_, rfl, p, _, 2, .int g, rfl, rfl, SqL.of hp, rfl, .inl ⟨_, rfl, ?_⟩⟩
      refine ⟨_, rfl, _, _, rfl, rfl, m0, ?_⟩
      refine ⟨_, rfl, p, _, 2, .int g, rfl, rfl, SqL.of hp, rfl, .inl ⟨_, rfl, ?_⟩⟩
      refine ⟨_, rfl, _, _, rfl, rfl, many_div m0 m2, ?_⟩
      refine ⟨_, rfl, p, _, 2, 2, rfl, rfl, hp, rfl, ?_⟩
      refine ⟨_, rfl, ?_⟩
      refine k _ _ ⟨ns, n, g / m, upd_same, by rw [upd_ne cp]; exact hc, n0, by omega⟩ (Kp.refl _ _).set (Int.emod_nonneg _ (by omega)) (Int.emod_lt_of_pos _ m0)
    · -- at = pen[1]; pen[1] = at + 1
      refine ⟨_, rfl, p, _, 1, .int n, rfl, rfl, SqL.of hp, rfl, ?_⟩
      refine ⟨_, rfl, _, _, rfl, rfl, _, rfl, p, _, 1, 1, rfl, rfl, hp, rfl, ?_⟩
      have hp1 : upd H p (.lst ([V.ref c, V.int n, V.int g].set 1 (.int (n + 1)))) p = some (.lst [V.ref c, V.int (n + 1), V.int g]) := upd_same
      have hc1 : upd H p (.lst ([V.ref c, V.int n, V.int g].set 1 (.int (n + 1)))) c = some (.lst (ns.map V.int)) := by rw [upd_ne cp]; exact hc
      have k1 : Kp p H (upd H p (.lst ([V.ref c, V.int n, V.int g].set 1 (.int (n + 1))))) := (Kp.refl _ _).set
      revert hp1 hc1 k1
      generalize upd H p (.lst ([V.ref c, V.int n, V.int g].set 1 (.int (n + 1)))) = H1
      intro hp1 hc1 k1
      -- cell = 40487 * at + 919
      refine ⟨_, rfl, _, _, rfl, rfl, .inl ⟨by decide, by decide⟩, _, _, rfl, rfl, ?_⟩
      -- if pen[0] != []: cell = pen[0][..]
      refine ⟨fun σ H2 => ∃ z : Int, σ = [some (.ref p), some (.int m), none, some (.int n), some (.int z), none, none] ∧ Same H1 H2, ?_, ?_⟩
      · refine ⟨_, rfl, p, _, 0, .ref c, rfl, rfl, SqL.of hp1, rfl, Nat.zero_le _, fun q nq => ?_⟩
        have s2 : Same H1 (upd H1 q (.lst [])) := same_new nq
        refine ⟨_, _, .lst (SqL.of (s2 _ _ hc1)) (dpAll_flat (flat_ints ns)), .lst (SqL.of upd_same) .nil, shaped_list (flat_ints ns), rfl, _, rfl, ite2 (fun e => ?_) (fun e => ?_)⟩
        · rw [eqv_nil] at e
          have ne : ns.map V.int ≠ [] := fun z => by
            rw [z] at e
            cases e
          obtain ⟨x, hx, hat⟩ := at_mod (n := n) ne
          obtain ⟨z, _, rfl⟩ := List.mem_map.mp hx
          refine ⟨_, rfl, p, _, 0, .ref c, rfl, rfl, SqL.of (s2 _ _ hp1), rfl, _, rfl, .inl ⟨_, rfl, _, rfl, p, _, 0, .ref c, rfl, rfl, SqL.of (s2 _ _ hp1), rfl, c, _, rfl, .inl (SqL.of (s2 _ _ hc1)), _, _, rfl, rfl, ?_, c, _, _, .int z, rfl, rfl, SqL.of (s2 _ _ hc1), hat, z, rfl, s2⟩⟩
          have := List.length_pos_iff.mpr ne
          omega
        · exact ⟨_, rfl, s2⟩
      · rintro σ H2 ⟨z, rfl, s2⟩
        have hc2 := s2 _ _ hc1
        have hp2 := s2 _ _ hp1
        have k2 : Kp p H H2 := k1.trans (Kp.same s2)
        -- if at < len(pen[0]) and abs(cell) >= 10 ** 18
        refine ⟨fun σ H3 => σ = [some (.ref p), some (.int m), none, some (.int n), some (.int z), none, none] ∧ H3 = H2, ?_, ?_⟩
        · refine ⟨_, rfl, _, rfl, p, _, 0, .ref c, rfl, rfl, SqL.of hp2, rfl, c, _, rfl, .inl (SqL.of hc2), _, _, rfl, rfl, _, rfl, ite2 (fun _ => ?_) (fun _ => iteF ⟨rfl, rfl⟩)⟩
          refine ⟨_, rfl, z, rfl, _, _, rfl, rfl, cpow18, _, _, rfl, rfl, _, rfl, ite2 (fun _ => ?_) (fun _ => ⟨rfl, rfl⟩)⟩
          refine ⟨_, rfl, z, rfl, _, _, rfl, rfl, cpow18, _, _, rfl, rfl, _, _, rfl, rfl, .inl ⟨by decide, by decide⟩, _, rfl, _, _, rfl, rfl, .inr ⟨_, rfl, _, _, rfl, rfl, ?_⟩⟩
          refine ⟨_, rfl, .inl ⟨_, rfl, _, rfl, _, _, rfl, rfl, many_div m0 m2, _, rfl, p, _, 2, 2, rfl, rfl, hp2, rfl, ?_⟩⟩
          refine ⟨_, rfl, .inl ⟨_, rfl, _, rfl, _, _, rfl, rfl, m0, ?_⟩⟩
          refine k _ _ ⟨ns, n + 1, _, upd_same, by rw [upd_ne cp]; exact hc2, by omega, by omega⟩ k2.set (Int.emod_nonneg _ (by omega)) (Int.emod_lt_of_pos _ m0)
        · rintro σ H3 ⟨rfl, rfl⟩
          have z0 := Int.emod_nonneg z (b := 2147483563) (by decide)
          have z1 := Int.emod_lt_of_pos z (b := 2147483563) (by decide)
          refine ⟨fun σ H4 => ∃ x : Int, 0 ≤ x ∧ x < 2147483647 ∧ σ = [some (.ref p), some (.int m), none, some (.int n), some (.int z), none, some (.int x)] ∧ H4 = H3, ?_, ?_⟩
          · refine ⟨_, rfl, .inl ⟨_, rfl, _, _, rfl, rfl, (show (0 : Int) < 2147483563 by decide), _, rfl, _, _, rfl, rfl, .inl ⟨by decide, by decide⟩, _, _, rfl, rfl, _, _, rfl, rfl, _, _, rfl, rfl, ⟨by decide, by decide, by omega⟩, .inl ⟨_, rfl, _, _, rfl, rfl, (show (0 : Int) < 2147483647 by decide), ?_⟩⟩⟩
            exact ⟨_, Int.emod_nonneg _ (by decide), Int.emod_lt_of_pos _ (by decide), rfl, rfl⟩
          · rintro σ H4 ⟨x, x0, x1, rfl, rfl⟩
            obtain ⟨y0, y1⟩ := mix_small n0 (show n ≤ 1000000 by omega) x0 x1
            refine ⟨_, rfl, _, rfl, _, _, rfl, rfl, .inl ⟨by decide, by decide⟩, _, _, rfl, rfl, _, _, rfl, rfl, .inl ⟨by omega, by omega⟩, _, rfl, _, _, rfl, rfl, .inl ⟨by decide, by decide⟩, _, rfl, _, _, rfl, rfl, .inr ⟨by omega, by omega⟩, _, _, rfl, rfl, _, _, rfl, rfl, _, _, rfl, rfl, ⟨by decide, by decide, by omega⟩, .inl ⟨_, rfl, _, _, rfl, rfl, (show (0 : Int) < 2147483497 by decide), ?_⟩⟩
            refine ⟨_, rfl, _, _, rfl, rfl, cdiv64, .inl ⟨_, rfl, _, rfl, _, _, rfl, rfl, m0, ?_⟩⟩
            exact k _ _ ⟨ns, n + 1, g, hp2, hc2, by omega, by omega⟩ k2 (Int.emod_nonneg _ (by omega)) (Int.emod_lt_of_pos _ m0)
theorem has_law_draw (Tx : Txt K mg) (c : He.SaysX fa fn [] tf ex w hh K) (X : K.In hh) (GG : hh.Ns mainGlobals mg)   : Has P w K mg base "_law_draw" 1 ["_law_pen_here", "_law_many"] sp_law_draw := by
  obtain ⟨fd, F⟩ := c.t.d.def_ 94 (d := d_law_draw) rfl
  exact ⟨_, fd, ok_law_draw F Tx , He.glo_ok X GG (c.t.d.fact 75 (f := .glo "_law_draw") rfl), F.kp, F.bindsN fun _ _ _ _ _ _ us hl => match us, hl with | [_, _], _ => rfl⟩
/-! ### the law's draws -/
theorem cut_ints (ns : List Int) (lo hi : Option Int) : ∃ ms : List Int, cutV (ns.map V.int) lo hi = ms.map V.int ∧ ms.length ≤ ns.length := by
  unfold cutV
  rw [← List.map_drop, ← List.map_take]
  refine ⟨_, rfl, ?_⟩
  rw [List.length_take, List.length_drop]
  omega
def sp_law_pen (K : PySem.W.Frag) : Sp := fun vs H Q _ => ∃ (a : Addr) (ns : List Int), vs = [.ref a] ∧ SqL K H a (ns.map V.int) ∧ ns.length ≤ 63 ∧ ∀ H' p c, Same H H' → H p = none → H c = none → PenAt H' p c 900000 → Q (.ref p) H'
theorem sc_law_pen : FnScope ["_law_script", "_law_cell"] ["_law_script"] (defScope s_law_pen) := ⟨rfl, rfl, rfl, by decide +kernel, rfl, by decide +kernel, by decide +kernel⟩
theorem ok_law_pen {f : Addr} {fd : FuncData} (F : FunD K "_law_pen" "_law_pen" (defArgs s_law_pen) (defBody s_law_pen) (defScope s_law_pen) [] [] f fd) (Tx : Txt K mg)   : FnOk P w K mg base CX0 1 f fd ["_law_script"] (sp_law_pen K) := by
  refine FunD.ok F sc_law_pen (fun vs H Q E h => ?_) (fun cdv A outer s H vs Q E hr h => ?_)
  · obtain ⟨a, ns, rfl, _⟩ := h
    rfl
  · obtain ⟨a, ns, rfl, ha, hl, q⟩ := h
    refine ⟨_, PSs.nox (pss_one (ps_ret (pe_lst (pa_cons (pe_lc (own := [("_law_cell", 1)]) (g := gName 1) (tt := tYes) rfl sc_law_pen.nd (pi_list (pe_slice sl_list (pv 0) po_none (po_some pe_int))) (blkOk_by (own := [("_law_cell", 1)]) (N := ["_law_script", "_law_cell"]) (sc := defScope s_law_pen) (by decide +kernel)) (fun _ _ _ _ _ => (pg_name (i := 1) sc_law_pen.nd rfl (Or.inl rfl))) (fun _ _ _ _ _ => pts_nil) (fun _ _ _ _ _ => (pe_callTy call_int1 (by rfl) Tx.n_int (by decide +kernel) (pa_cons (pv 1) pa_nil)))) (pa_cons pe_int (pa_cons pe_int pa_nil)))))), ?_⟩
    refine ⟨_, rfl, _, rfl, a, _, rfl, ha, fun c nc => ?_⟩
    obtain ⟨ms, em, lm⟩ := cut_ints ns none (some 60)
    have s1 : Same H (upd H c (.lst (cutV (ns.map V.int) none (some 60)))) := same_new nc
    refine ⟨c, rfl, ⟨_, SqL.of upd_same⟩, fun D nD => ?_⟩
    refine lc_pure (walk_list (K := K) (a := c) (xs := ms.map V.int)) (ms.map V.int) rfl (by rw [List.length_map]; omega) (fun i H x H' y => ⟨same_of_eq y.1, y.2⟩) (fun x => x) (fun _ => true) nD (fun H2 s => SqL.of (s _ _ (by rw [upd_same, em]))) (fun i x H2 Q1 Q0 hi s2 q1 q0 => ?_) (fun H2 s2 hD => ?_)
    · refine ⟨rfl, ?_⟩
      obtain ⟨z, _, rfl⟩ := List.mem_map.mp (List.mem_of_getElem? hi)
      exact ⟨_, rfl, .inl ⟨_, rfl, q1 rfl _ (Same.refl _)⟩⟩
    · rw [List.filter_eq_self.mpr fun _ _ => rfl, List.map_id'] at hD
      refine ⟨le_line (n := 3) (by decide), fun p np => ?_⟩
      have hp : H p = none := s1.free (s2.free np)
      have ne : D ≠ p := ne_of_none hD np
      refine q _ p D ((s1.trans s2).trans (same_new np)) hp (s1.free nD) ⟨ms, 0, 0, upd_same, ?_, by decide, by decide⟩
      rw [upd_ne ne]
      exact hD
theorem has_law_pen (Tx : Txt K mg) (c : He.SaysX fa fn [] tf ex w hh K) (X : K.In hh) (GG : hh.Ns mainGlobals mg)   : Has P w K mg base "_law_pen" 1 ["_law_script"] (sp_law_pen K) := by
  obtain ⟨fd, F⟩ := c.t.d.def_ 93 (d := d_law_pen) rfl
  exact ⟨_, fd, ok_law_pen F Tx , He.glo_ok X GG (c.t.d.fact 74 (f := .glo "_law_pen") rfl), F.kp, F.bindsN fun _ _ _ _ _ _ us hl => match us, hl with | [_], _ => rfl⟩
/-! ### which class an error is of -/
theorem cls_facts (Tx : Txt K mg) {x : Str} (hx : x ∈ clsL) : ExcC K (He.ga K x) ∧ PySem.W.kitOne K (.ref (He.ga K x)) (.type "ValueError") = some true ∧ PySem.W.kitOne K (.ref (He.ga K x)) (.type "KeyError") = some false ∧
    PySem.W.kitOne K (.ref (He.ga K x)) (.type "IndexError") = some false ∧ PySem.W.kitOne K (.ref (He.ga K x)) (.type "TypeError") = some false ∧ ∀ y ∈ ("SewError" : Str) :: clsL, PySem.W.kitOne K (.ref (He.ga K x)) (.ref (He.ga K y)) = some (subB x y) := by
  have h := List.all_eq_true.mp (show (clsL.all fun x => _) = true from Tx.kits) x hx
  obtain ⟨h1, h⟩ := He.ba h
  obtain ⟨h2, h⟩ := He.ba h
  obtain ⟨h3, h⟩ := He.ba h
  obtain ⟨h4, h⟩ := He.ba h
  obtain ⟨h5, h6⟩ := He.ba h
  exact ⟨excC_of h1, of_decide_eq_true h2, of_decide_eq_true h3, of_decide_eq_true h4, of_decide_eq_true h5, fun y hy => of_decide_eq_true (List.all_eq_true.mp h6 y hy)⟩
/-- an error of the class with this name -/
def ErrAt (K : PySem.W.Frag) (H : Hp) (a : Addr) (x : Str) : Prop := x ∈ clsL ∧ ∃ fs, ExcAt H a (He.ga K x) fs
theorem ErrAt.same {H H' : Hp} {a : Addr} {x : Str} (h : ErrAt K H a x) (s : Same H H') : ErrAt K H' a x := ⟨h.1, let ⟨fs, e⟩ := h.2; ⟨fs, e.same s⟩⟩
theorem ErrAt.is (Tx : Txt K mg) {H : Hp} {a : Addr} {x y : Str} {Q : VK} (h : ErrAt K H a x) (hy : y ∈ ("SewError" : Str) :: clsL) (q : Q (.bl (subB x y)) H) : rIsV K [.ref a, .ref (He.ga K y)] H Q := by
  obtain ⟨hx, fs, e⟩ := h
  obtain ⟨h1, _, _, _, _, h6⟩ := cls_facts Tx hx
  exact ⟨a, _, fs, _, _, _, rfl, e, h1, .own _, h6 y hy, q⟩
theorem inc {y : Str} (h : (("SewError" : Str) :: clsL).contains y = true) : y ∈ ("SewError" : Str) :: clsL := by simpa using h
def tellL (x : Str) (ys : List Str) : List V := ys.map fun y => .bl (subB x y)
def badL : List Str := ["BadKind", "BadSkin", "BadSheet", "BadCells", "BadRim", "BadNesting", "BadSaying", "BadBook", "BadBody", "BadCut", "BadNumber", "BadPaper", "BadDesk", "Misfit"]
def missL : List Str := ["NoSide", "NoFace", "NoEdge", "NoCorner", "NoPlace", "NoFact", "NoName"]
def otherL : List Str := ["Twice", "Crossing", "TooMuch", "Impossible", "TooMany", "Nothing", "BadText", "BadLine"]
theorem ExcAt.mutL {H : Hp} {a C t : Addr} {fs : Option (List (Str × V))} {xs : List V} {o : HO} (h : ExcAt H a C fs) (ht : H t = some (.lst xs)) : ExcAt (upd H t o) a C fs := by
  have ne : ∀ {b : Addr} {u : HO}, H b = some u → (∀ ys, u ≠ .lst ys) → b ≠ t := fun {b u} e n z => n xs (by rw [z, ht] at e; exact (Option.some.inj e).symm)
  cases h with
  | made d g e f => exact .made d g (by rw [upd_ne (ne e fun _ z => nomatch z)]; exact e) (by rw [upd_ne (ne f fun _ z => nomatch z)]; exact f)
  | caught d g e f => exact .caught d g (by rw [upd_ne (ne e fun _ z => nomatch z)]; exact e) (by rw [upd_ne (ne f fun _ z => nomatch z)]; exact f)
  | bare e => exact .bare (by rw [upd_ne (ne e fun _ z => nomatch z)]; exact e)
def sp_law_missing (K : PySem.W.Frag) : Sp := fun vs H Q _ => ∃ (a : Addr) (x : Str), vs = [.ref a] ∧ ErrAt K H a x ∧ ∀ H' r, Same H H' → H' r = some (.lst (tellL x missL)) → Q (.ref r) H'
theorem sc_law_missing : FnScope ["_law_error", "_law_told"] ["_law_error"] (defScope s_law_missing) := ⟨rfl, rfl, rfl, by decide +kernel, rfl, by decide +kernel, by decide +kernel⟩
theorem ok_law_missing {f : Addr} {fd : FuncData} (F : FunD K "_law_missing" "_law_missing" (defArgs s_law_missing) (defBody s_law_missing) (defScope s_law_missing) [] [] f fd) (Tx : Txt K mg)   : FnOk P w K mg base CX0 1 f fd ["_law_error"] (sp_law_missing K) := by
  refine FunD.ok F sc_law_missing (fun vs H Q E h => ?_) (fun cdv A outer s H vs Q E hr h => ?_)
  · obtain ⟨a, x, rfl, _⟩ := h
    rfl
  · obtain ⟨a, x, rfl, ⟨hm, fs, he⟩, q⟩ := h
    obtain ⟨c1, _, _, _, _, c6⟩ := cls_facts Tx hm
    refine ⟨_, PSs.nox (pss_cons (ps_set (i := 1) sc_law_missing.nd rfl (Or.inl rfl) (pe_lst (pa_cons (pe_callB call_isV (by rfl) Tx.n_isinstance (by decide +kernel) (pa_cons (pv 0) (pa_cons (pe_glob (v := .ref (He.ga K "NoSide")) (by rfl) Tx.g_NoSide rfl) pa_nil))) (pa_cons (pe_callB call_isV (by rfl) Tx.n_isinstance (by decide +kernel) (pa_cons (pv 0) (pa_cons (pe_glob (v := .ref (He.ga K "NoFace")) (by rfl) Tx.g_NoFace rfl) pa_nil))) (pa_cons (pe_callB call_isV (by rfl) Tx.n_isinstance (by decide +kernel) (pa_cons (pv 0) (pa_cons (pe_glob (v := .ref (He.ga K "NoEdge")) (by rfl) Tx.g_NoEdge rfl) pa_nil))) (pa_cons (pe_callB call_isV (by rfl) Tx.n_isinstance (by decide +kernel) (pa_cons (pv 0) (pa_cons (pe_glob (v := .ref (He.ga K "NoCorner")) (by rfl) Tx.g_NoCorner rfl) pa_nil))) pa_nil))))))
        (pss_one (ps_ret (pe_op op_cat (pv 1) (pe_lst (pa_cons (pe_callB call_isV (by rfl) Tx.n_isinstance (by decide +kernel) (pa_cons (pv 0) (pa_cons (pe_glob (v := .ref (He.ga K "NoPlace")) (by rfl) Tx.g_NoPlace rfl) pa_nil))) (pa_cons (pe_callB call_isV (by rfl) Tx.n_isinstance (by decide +kernel) (pa_cons (pv 0) (pa_cons (pe_glob (v := .ref (He.ga K "NoFact")) (by rfl) Tx.g_NoFact rfl) pa_nil))) (pa_cons (pe_callB call_isV (by rfl) Tx.n_isinstance (by decide +kernel) (pa_cons (pv 0) (pa_cons (pe_glob (v := .ref (He.ga K "NoName")) (by rfl) Tx.g_NoName rfl) pa_nil))) pa_nil)))))))), ?_⟩
    refine ⟨_, rfl, a, _, fs, _, _, _, rfl, he, c1, .own _, c6 "NoSide" (inc (by decide +kernel)), _, rfl, a, _, fs, _, _, _, rfl, he, c1, .own _, c6 "NoFace" (inc (by decide +kernel)), _, rfl, a, _, fs, _, _, _, rfl, he, c1, .own _, c6 "NoEdge" (inc (by decide +kernel)), _, rfl, a, _, fs, _, _, _, rfl, he, c1, .own _, c6 "NoCorner" (inc (by decide +kernel)), le_line (n := 4) (by decide), fun t nt => ?_⟩
    have sA : Same H (upd H t (.lst [.bl (subB x "NoSide"), .bl (subB x "NoFace"), .bl (subB x "NoEdge"), .bl (subB x "NoCorner")])) := same_new nt
    have ht : upd H t (.lst [.bl (subB x "NoSide"), .bl (subB x "NoFace"), .bl (subB x "NoEdge"), .bl (subB x "NoCorner")]) t = some (.lst [.bl (subB x "NoSide"), .bl (subB x "NoFace"), .bl (subB x "NoEdge"), .bl (subB x "NoCorner")]) := upd_same
    have nt0 : H t = none := nt
    replace he := he.same sA
    revert sA ht he
    generalize upd H t (.lst [.bl (subB x "NoSide"), .bl (subB x "NoFace"), .bl (subB x "NoEdge"), .bl (subB x "NoCorner")]) = G0
    intro sA ht he
    refine ⟨_, rfl, _, rfl, a, _, fs, _, _, _, rfl, he, c1, .own _, c6 "NoPlace" (inc (by decide +kernel)), _, rfl, a, _, fs, _, _, _, rfl, he, c1, .own _, c6 "NoFact" (inc (by decide +kernel)), _, rfl, a, _, fs, _, _, _, rfl, he, c1, .own _, c6 "NoName" (inc (by decide +kernel)), le_line (n := 3) (by decide), fun u nu => ?_⟩
    refine ⟨t, u, _, _, rfl, rfl, same_new nu _ _ ht, upd_same, le_line (n := 7) (by decide), fun r nr => ?_⟩
    exact q _ r ((sA.trans (same_new nu)).trans (same_new nr)) upd_same
theorem has_law_missing (Tx : Txt K mg) (c : He.SaysX fa fn [] tf ex w hh K) (X : K.In hh) (GG : hh.Ns mainGlobals mg)   : Has P w K mg base "_law_missing" 1 ["_law_error"] (sp_law_missing K) := by
  obtain ⟨fd, F⟩ := c.t.d.def_ 97 (d := d_law_missing) rfl
  exact ⟨_, fd, ok_law_missing F Tx , He.glo_ok X GG (c.t.d.fact 78 (f := .glo "_law_missing") rfl), F.kp, F.bindsN fun _ _ _ _ _ _ us hl => match us, hl with | [_], _ => rfl⟩
def sp_law_bad (K : PySem.W.Frag) : Sp := fun vs H Q _ => ∃ (a : Addr) (x : Str), vs = [.ref a] ∧ ErrAt K H a x ∧ ∀ H' r, Same H H' → H' r = some (.lst (tellL x badL)) → Q (.ref r) H'
theorem sc_law_bad : FnScope ["_law_error", "_law_told"] ["_law_error"] (defScope s_law_bad) := ⟨rfl, rfl, rfl, by decide +kernel, rfl, by decide +kernel, by decide +kernel⟩
theorem ok_law_bad {f : Addr} {fd : FuncData} (F : FunD K "_law_bad" "_law_bad" (defArgs s_law_bad) (defBody s_law_bad) (defScope s_law_bad) [] [] f fd) (Tx : Txt K mg)   : FnOk P w K mg base CX0 1 f fd ["_law_error"] (sp_law_bad K) := by
  refine FunD.ok F sc_law_bad (fun vs H Q E h => ?_) (fun cdv A outer s H vs Q E hr h => ?_)
  · obtain ⟨a, x, rfl, _⟩ := h
    rfl
  · obtain ⟨a, x, rfl, ⟨hm, fs, he⟩, q⟩ := h
    obtain ⟨c1, _, _, _, _, c6⟩ := cls_facts Tx hm
    refine ⟨_, PSs.nox (pss_cons (ps_set (i := 1) sc_law_bad.nd rfl (Or.inl rfl) (pe_lst (pa_cons (pe_callB call_isV (by rfl) Tx.n_isinstance (by decide +kernel) (pa_cons (pv 0) (pa_cons (pe_glob (v := .ref (He.ga K "BadKind")) (by rfl) Tx.g_BadKind rfl) pa_nil))) (pa_cons (pe_callB call_isV (by rfl) Tx.n_isinstance (by decide +kernel) (pa_cons (pv 0) (pa_cons (pe_glob (v := .ref (He.ga K "BadSkin")) (by rfl) Tx.g_BadSkin rfl) pa_nil))) (pa_cons (pe_callB call_isV (by rfl) Tx.n_isinstance (by decide +kernel) (pa_cons (pv 0) (pa_cons (pe_glob (v := .ref (He.ga K "BadSheet")) (by rfl) Tx.g_BadSheet rfl) pa_nil))) (pa_cons (pe_callB call_isV (by rfl) Tx.n_isinstance (by decide +kernel) (pa_cons (pv 0) (pa_cons (pe_glob (v := .ref (He.ga K "BadCells")) (by rfl) Tx.g_BadCells rfl) pa_nil))) pa_nil))))))
        (pss_cons (ps_expr (pe_bm PySem.F.plainAttrs_list PySem.F.slot_list_extend PySem.F.type_list_extend mt_extend (pv 1) (pa_cons (pe_lst (pa_cons (pe_callB call_isV (by rfl) Tx.n_isinstance (by decide +kernel) (pa_cons (pv 0) (pa_cons (pe_glob (v := .ref (He.ga K "BadRim")) (by rfl) Tx.g_BadRim rfl) pa_nil))) (pa_cons (pe_callB call_isV (by rfl) Tx.n_isinstance (by decide +kernel) (pa_cons (pv 0) (pa_cons (pe_glob (v := .ref (He.ga K "BadNesting")) (by rfl) Tx.g_BadNesting rfl) pa_nil))) (pa_cons (pe_callB call_isV (by rfl) Tx.n_isinstance (by decide +kernel) (pa_cons (pv 0) (pa_cons (pe_glob (v := .ref (He.ga K "BadSaying")) (by rfl) Tx.g_BadSaying rfl) pa_nil))) pa_nil)))) pa_nil)))
        (pss_cons (ps_expr (pe_bm PySem.F.plainAttrs_list PySem.F.slot_list_extend PySem.F.type_list_extend mt_extend (pv 1) (pa_cons (pe_lst (pa_cons (pe_callB call_isV (by rfl) Tx.n_isinstance (by decide +kernel) (pa_cons (pv 0) (pa_cons (pe_glob (v := .ref (He.ga K "BadBook")) (by rfl) Tx.g_BadBook rfl) pa_nil))) (pa_cons (pe_callB call_isV (by rfl) Tx.n_isinstance (by decide +kernel) (pa_cons (pv 0) (pa_cons (pe_glob (v := .ref (He.ga K "BadBody")) (by rfl) Tx.g_BadBody rfl) pa_nil))) (pa_cons (pe_callB call_isV (by rfl) Tx.n_isinstance (by decide +kernel) (pa_cons (pv 0) (pa_cons (pe_glob (v := .ref (He.ga K "BadCut")) (by rfl) Tx.g_BadCut rfl) pa_nil))) (pa_cons (pe_callB call_isV (by rfl) Tx.n_isinstance (by decide +kernel) (pa_cons (pv 0) (pa_cons (pe_glob (v := .ref (He.ga K "BadNumber")) (by rfl) Tx.g_BadNumber rfl) pa_nil))) pa_nil))))) pa_nil)))
        (pss_one (ps_ret (pe_op op_cat (pv 1) (pe_lst (pa_cons (pe_callB call_isV (by rfl) Tx.n_isinstance (by decide +kernel) (pa_cons (pv 0) (pa_cons (pe_glob (v := .ref (He.ga K "BadPaper")) (by rfl) Tx.g_BadPaper rfl) pa_nil))) (pa_cons (pe_callB call_isV (by rfl) Tx.n_isinstance (by decide +kernel) (pa_cons (pv 0) (pa_cons (pe_glob (v := .ref (He.ga K "BadDesk")) (by rfl) Tx.g_BadDesk rfl) pa_nil))) (pa_cons (pe_callB call_isV (by rfl) Tx.n_isinstance (by decide +kernel) (pa_cons (pv 0) (pa_cons (pe_glob (v := .ref (He.ga K "Misfit")) (by rfl) Tx.g_Misfit rfl) pa_nil))) pa_nil)))))))))), ?_⟩
    refine ⟨_, rfl, a, _, fs, _, _, _, rfl, he, c1, .own _, c6 "BadKind" (inc (by decide +kernel)), _, rfl, a, _, fs, _, _, _, rfl, he, c1, .own _, c6 "BadSkin" (inc (by decide +kernel)), _, rfl, a, _, fs, _, _, _, rfl, he, c1, .own _, c6 "BadSheet" (inc (by decide +kernel)), _, rfl, a, _, fs, _, _, _, rfl, he, c1, .own _, c6 "BadCells" (inc (by decide +kernel)), le_line (n := 4) (by decide), fun t nt => ?_⟩
    have sA : Same H (upd H t (.lst [.bl (subB x "BadKind"), .bl (subB x "BadSkin"), .bl (subB x "BadSheet"), .bl (subB x "BadCells")])) := same_new nt
    have ht : upd H t (.lst [.bl (subB x "BadKind"), .bl (subB x "BadSkin"), .bl (subB x "BadSheet"), .bl (subB x "BadCells")]) t = some (.lst [.bl (subB x "BadKind"), .bl (subB x "BadSkin"), .bl (subB x "BadSheet"), .bl (subB x "BadCells")]) := upd_same
    have nt0 : H t = none := nt
    replace he := he.same sA
    revert sA ht he
    generalize upd H t (.lst [.bl (subB x "BadKind"), .bl (subB x "BadSkin"), .bl (subB x "BadSheet"), .bl (subB x "BadCells")]) = G0
    intro sA ht he
    refine ⟨_, rfl, .inl ⟨rfl, _, SqL.of ht⟩, _, rfl, a, _, fs, _, _, _, rfl, he, c1, .own _, c6 "BadRim" (inc (by decide +kernel)), _, rfl, a, _, fs, _, _, _, rfl, he, c1, .own _, c6 "BadNesting" (inc (by decide +kernel)), _, rfl, a, _, fs, _, _, _, rfl, he, c1, .own _, c6 "BadSaying" (inc (by decide +kernel)), le_line (n := 3) (by decide), fun u nu => ?_⟩
    have sB : Same G0 (upd G0 u (.lst [.bl (subB x "BadRim"), .bl (subB x "BadNesting"), .bl (subB x "BadSaying")])) := same_new nu
    refine ⟨t, u, _, _, rfl, rfl, sB _ _ ht, upd_same, le_line (n := 7) (by decide), ?_⟩
    have sC : Same H (upd (upd G0 u (.lst [.bl (subB x "BadRim"), .bl (subB x "BadNesting"), .bl (subB x "BadSaying")])) t (.lst ([.bl (subB x "BadKind"), .bl (subB x "BadSkin"), .bl (subB x "BadSheet"), .bl (subB x "BadCells")] ++ [.bl (subB x "BadRim"), .bl (subB x "BadNesting"), .bl (subB x "BadSaying")]))) := Same.mut (sA.trans sB) nt0
    replace he := ExcAt.mutL (he.same sB) (sB _ _ ht) (o := .lst ([.bl (subB x "BadKind"), .bl (subB x "BadSkin"), .bl (subB x "BadSheet"), .bl (subB x "BadCells")] ++ [.bl (subB x "BadRim"), .bl (subB x "BadNesting"), .bl (subB x "BadSaying")]))
    replace ht : upd (upd G0 u (.lst [.bl (subB x "BadRim"), .bl (subB x "BadNesting"), .bl (subB x "BadSaying")])) t (.lst ([.bl (subB x "BadKind"), .bl (subB x "BadSkin"), .bl (subB x "BadSheet"), .bl (subB x "BadCells")] ++ [.bl (subB x "BadRim"), .bl (subB x "BadNesting"), .bl (subB x "BadSaying")])) t = some (.lst [.bl (subB x "BadKind"), .bl (subB x "BadSkin"), .bl (subB x "BadSheet"), .bl (subB x "BadCells"), .bl (subB x "BadRim"), .bl (subB x "BadNesting"), .bl (subB x "BadSaying")]) := upd_same
    clear sA sB nu
    revert sC he ht
    generalize upd (upd G0 u (.lst [.bl (subB x "BadRim"), .bl (subB x "BadNesting"), .bl (subB x "BadSaying")])) t (.lst ([.bl (subB x "BadKind"), .bl (subB x "BadSkin"), .bl (subB x "BadSheet"), .bl (subB x "BadCells")] ++ [.bl (subB x "BadRim"), .bl (subB x "BadNesting"), .bl (subB x "BadSaying")])) = G1
    intro sA he ht
    refine ⟨_, rfl, .inl ⟨rfl, _, SqL.of ht⟩, _, rfl, a, _, fs, _, _, _, rfl, he, c1, .own _, c6 "BadBook" (inc (by decide +kernel)), _, rfl, a, _, fs, _, _, _, rfl, he, c1, .own _, c6 "BadBody" (inc (by decide +kernel)), _, rfl, a, _, fs, _, _, _, rfl, he, c1, .own _, c6 "BadCut" (inc (by decide +kernel)), _, rfl, a, _, fs, _, _, _, rfl, he, c1, .own _, c6 "BadNumber" (inc (by decide +kernel)), le_line (n := 4) (by decide), fun u nu => ?_⟩
    have sB : Same G1 (upd G1 u (.lst [.bl (subB x "BadBook"), .bl (subB x "BadBody"), .bl (subB x "BadCut"), .bl (subB x "BadNumber")])) := same_new nu
    refine ⟨t, u, _, _, rfl, rfl, sB _ _ ht, upd_same, le_line (n := 11) (by decide), ?_⟩
    have sC : Same H (upd (upd G1 u (.lst [.bl (subB x "BadBook"), .bl (subB x "BadBody"), .bl (subB x "BadCut"), .bl (subB x "BadNumber")])) t (.lst ([.bl (subB x "BadKind"), .bl (subB x "BadSkin"), .bl (subB x "BadSheet"), .bl (subB x "BadCells"), .bl (subB x "BadRim"), .bl (subB x "BadNesting"), .bl (subB x "BadSaying")] ++ [.bl (subB x "BadBook"), .bl (subB x "BadBody"), .bl (subB x "BadCut"), .bl (subB x "BadNumber")]))) := Same.mut (sA.trans sB) nt0
    replace he := ExcAt.mutL (he.same sB) (sB _ _ ht) (o := .lst ([.bl (subB x "BadKind"), .bl (subB x "BadSkin"), .bl (subB x "BadSheet"), .bl (subB x "BadCells"), .bl (subB x "BadRim"), .bl (subB x "BadNesting"), .bl (subB x "BadSaying")] ++ [.bl (subB x "BadBook"), .bl (subB x "BadBody"), .bl (subB x "BadCut"), .bl (subB x "BadNumber")]))
    replace ht : upd (upd G1 u (.lst [.bl (subB x "BadBook"), .bl (subB x "BadBody"), .bl (subB x "BadCut"), .bl (subB x "BadNumber")])) t (.lst ([.bl (subB x "BadKind"), .bl (subB x "BadSkin"), .bl (subB x "BadSheet"), .bl (subB x "BadCells"), .bl (subB x "BadRim"), .bl (subB x "BadNesting"), .bl (subB x "BadSaying")] ++ [.bl (subB x "BadBook"), .bl (subB x "BadBody"), .bl (subB x "BadCut"), .bl (subB x "BadNumber")])) t = some (.lst [.bl (subB x "BadKind"), .bl (subB x "BadSkin"), .bl (subB x "BadSheet"), .bl (subB x "BadCells"), .bl (subB x "BadRim"), .bl (subB x "BadNesting"), .bl (subB x "BadSaying"), .bl (subB x "BadBook"), .bl (subB x "BadBody"), .bl (subB x "BadCut"), .bl (subB x "BadNumber")]) := upd_same
    clear sA sB nu
    revert sC he ht
    generalize upd (upd G1 u (.lst [.bl (subB x "BadBook"), .bl (subB x "BadBody"), .bl (subB x "BadCut"), .bl (subB x "BadNumber")])) t (.lst ([.bl (subB x "BadKind"), .bl (subB x "BadSkin"), .bl (subB x "BadSheet"), .bl (subB x "BadCells"), .bl (subB x "BadRim"), .bl (subB x "BadNesting"), .bl (subB x "BadSaying")] ++ [.bl (subB x "BadBook"), .bl (subB x "BadBody"), .bl (subB x "BadCut"), .bl (subB x "BadNumber")])) = G2
    intro sA he ht
    refine ⟨_, rfl, _, rfl, a, _, fs, _, _, _, rfl, he, c1, .own _, c6 "BadPaper" (inc (by decide +kernel)), _, rfl, a, _, fs, _, _, _, rfl, he, c1, .own _, c6 "BadDesk" (inc (by decide +kernel)), _, rfl, a, _, fs, _, _, _, rfl, he, c1, .own _, c6 "Misfit" (inc (by decide +kernel)), le_line (n := 3) (by decide), fun u nu => ?_⟩
    refine ⟨t, u, _, _, rfl, rfl, same_new nu _ _ ht, upd_same, le_line (n := 14) (by decide), fun r nr => ?_⟩
    exact q _ r ((sA.trans (same_new nu)).trans (same_new nr)) upd_same
theorem has_law_bad (Tx : Txt K mg) (c : He.SaysX fa fn [] tf ex w hh K) (X : K.In hh) (GG : hh.Ns mainGlobals mg)   : Has P w K mg base "_law_bad" 1 ["_law_error"] (sp_law_bad K) := by
  obtain ⟨fd, F⟩ := c.t.d.def_ 96 (d := d_law_bad) rfl
  exact ⟨_, fd, ok_law_bad F Tx , He.glo_ok X GG (c.t.d.fact 77 (f := .glo "_law_bad") rfl), F.kp, F.bindsN fun _ _ _ _ _ _ us hl => match us, hl with | [_], _ => rfl⟩
def sp_law_other (K : PySem.W.Frag) : Sp := fun vs H Q _ => ∃ (a : Addr) (x : Str), vs = [.ref a] ∧ ErrAt K H a x ∧ ∀ H' r, Same H H' → H' r = some (.lst (tellL x otherL)) → Q (.ref r) H'
theorem sc_law_other : FnScope ["_law_error", "_law_told"] ["_law_error"] (defScope s_law_other) := ⟨rfl, rfl, rfl, by decide +kernel, rfl, by decide +kernel, by decide +kernel⟩
theorem ok_law_other {f : Addr} {fd : FuncData} (F : FunD K "_law_other" "_law_other" (defArgs s_law_other) (defBody s_law_other) (defScope s_law_other) [] [] f fd) (Tx : Txt K mg)   : FnOk P w K mg base CX0 1 f fd ["_law_error"] (sp_law_other K) := by
  refine FunD.ok F sc_law_other (fun vs H Q E h => ?_) (fun cdv A outer s H vs Q E hr h => ?_)
  · obtain ⟨a, x, rfl, _⟩ := h
    rfl
  · obtain ⟨a, x, rfl, ⟨hm, fs, he⟩, q⟩ := h
    obtain ⟨c1, _, _, _, _, c6⟩ := cls_facts Tx hm
    refine ⟨_, PSs.nox (pss_cons (ps_set (i := 1) sc_law_other.nd rfl (Or.inl rfl) (pe_lst (pa_cons (pe_callB call_isV (by rfl) Tx.n_isinstance (by decide +kernel) (pa_cons (pv 0) (pa_cons (pe_glob (v := .ref (He.ga K "Twice")) (by rfl) Tx.g_Twice rfl) pa_nil))) (pa_cons (pe_callB call_isV (by rfl) Tx.n_isinstance (by decide +kernel) (pa_cons (pv 0) (pa_cons (pe_glob (v := .ref (He.ga K "Crossing")) (by rfl) Tx.g_Crossing rfl) pa_nil))) (pa_cons (pe_callB call_isV (by rfl) Tx.n_isinstance (by decide +kernel) (pa_cons (pv 0) (pa_cons (pe_glob (v := .ref (He.ga K "TooMuch")) (by rfl) Tx.g_TooMuch rfl) pa_nil))) (pa_cons (pe_callB call_isV (by rfl) Tx.n_isinstance (by decide +kernel) (pa_cons (pv 0) (pa_cons (pe_glob (v := .ref (He.ga K "Impossible")) (by rfl) Tx.g_Impossible rfl) pa_nil))) pa_nil))))))
        (pss_cons (ps_expr (pe_bm PySem.F.plainAttrs_list PySem.F.slot_list_extend PySem.F.type_list_extend mt_extend (pv 1) (pa_cons (pe_lst (pa_cons (pe_callB call_isV (by rfl) Tx.n_isinstance (by decide +kernel) (pa_cons (pv 0) (pa_cons (pe_glob (v := .ref (He.ga K "TooMany")) (by rfl) Tx.g_TooMany rfl) pa_nil))) (pa_cons (pe_callB call_isV (by rfl) Tx.n_isinstance (by decide +kernel) (pa_cons (pv 0) (pa_cons (pe_glob (v := .ref (He.ga K "Nothing")) (by rfl) Tx.g_Nothing rfl) pa_nil))) (pa_cons (pe_callB call_isV (by rfl) Tx.n_isinstance (by decide +kernel) (pa_cons (pv 0) (pa_cons (pe_glob (v := .ref (He.ga K "BadText")) (by rfl) Tx.g_BadText rfl) pa_nil))) pa_nil)))) pa_nil)))
        (pss_one (ps_ret (pe_op op_cat (pv 1) (pe_lst (pa_cons (pe_callB call_isV (by rfl) Tx.n_isinstance (by decide +kernel) (pa_cons (pv 0) (pa_cons (pe_glob (v := .ref (He.ga K "BadLine")) (by rfl) Tx.g_BadLine rfl) pa_nil))) pa_nil))))))), ?_⟩
    refine ⟨_, rfl, a, _, fs, _, _, _, rfl, he, c1, .own _, c6 "Twice" (inc (by decide +kernel)), _, rfl, a, _, fs, _, _, _, rfl, he, c1, .own _, c6 "Crossing" (inc (by decide +kernel)), _, rfl, a, _, fs, _, _, _, rfl, he, c1, .own _, c6 "TooMuch" (inc (by decide +kernel)), _, rfl, a, _, fs, _, _, _, rfl, he, c1, .own _, c6 "Impossible" (inc (by decide +kernel)), le_line (n := 4) (by decide), fun t nt => ?_⟩
    have sA : Same H (upd H t (.lst [.bl (subB x "Twice"), .bl (subB x "Crossing"), .bl (subB x "TooMuch"), .bl (subB x "Impossible")])) := same_new nt
    have ht : upd H t (.lst [.bl (subB x "Twice"), .bl (subB x "Crossing"), .bl (subB x "TooMuch"), .bl (subB x "Impossible")]) t = some (.lst [.bl (subB x "Twice"), .bl (subB x "Crossing"), .bl (subB x "TooMuch"), .bl (subB x "Impossible")]) := upd_same
    have nt0 : H t = none := nt
    replace he := he.same sA
    revert sA ht he
    generalize upd H t (.lst [.bl (subB x "Twice"), .bl (subB x "Crossing"), .bl (subB x "TooMuch"), .bl (subB x "Impossible")]) = G0
    intro sA ht he
    refine ⟨_, rfl, .inl ⟨rfl, _, SqL.of ht⟩, _, rfl, a, _, fs, _, _, _, rfl, he, c1, .own _, c6 "TooMany" (inc (by decide +kernel)), _, rfl, a, _, fs, _, _, _, rfl, he, c1, .own _, c6 "Nothing" (inc (by decide +kernel)), _, rfl, a, _, fs, _, _, _, rfl, he, c1, .own _, c6 "BadText" (inc (by decide +kernel)), le_line (n := 3) (by decide), fun u nu => ?_⟩
    have sB : Same G0 (upd G0 u (.lst [.bl (subB x "TooMany"), .bl (subB x "Nothing"), .bl (subB x "BadText")])) := same_new nu
    refine ⟨t, u, _, _, rfl, rfl, sB _ _ ht, upd_same, le_line (n := 7) (by decide), ?_⟩
    have sC : Same H (upd (upd G0 u (.lst [.bl (subB x "TooMany"), .bl (subB x "Nothing"), .bl (subB x "BadText")])) t (.lst ([.bl (subB x "Twice"), .bl (subB x "Crossing"), .bl (subB x "TooMuch"), .bl (subB x "Impossible")] ++ [.bl (subB x "TooMany"), .bl (subB x "Nothing"), .bl (subB x "BadText")]))) := Same.mut (sA.trans sB) nt0
    replace he := ExcAt.mutL (he.same sB) (sB _ _ ht) (o := .lst ([.bl (subB x "Twice"), .bl (subB x "Crossing"), .bl (subB x "TooMuch"), .bl (subB x "Impossible")] ++ [.bl (subB x "TooMany"), .bl (subB x "Nothing"), .bl (subB x "BadText")]))
    replace ht : upd (upd G0 u (.lst [.bl (subB x "TooMany"), .bl (subB x "Nothing"), .bl (subB x "BadText")])) t (.lst ([.bl (subB x "Twice"), .bl (subB x "Crossing"), .bl (subB x "TooMuch"), .bl (subB x "Impossible")] ++ [.bl (subB x "TooMany"), .bl (subB x "Nothing"), .bl (subB x "BadText")])) t = some (.lst [.bl (subB x "Twice"), .bl (subB x "Crossing"), .bl (subB x "TooMuch"), .bl (subB x "Impossible"), .bl (subB x "TooMany"), .bl (subB x "Nothing"), .bl (subB x "BadText")]) := upd_same
    clear sA sB nu
    revert sC he ht
    generalize upd (upd G0 u (.lst [.bl (subB x "TooMany"), .bl (subB x "Nothing"), .bl (subB x "BadText")])) t (.lst ([.bl (subB x "Twice"), .bl (subB x "Crossing"), .bl (subB x "TooMuch"), .bl (subB x "Impossible")] ++ [.bl (subB x "TooMany"), .bl (subB x "Nothing"), .bl (subB x "BadText")])) = G1
    intro sA he ht
    refine ⟨_, rfl, _, rfl, a, _, fs, _, _, _, rfl, he, c1, .own _, c6 "BadLine" (inc (by decide +kernel)), le_line (n := 1) (by decide), fun u nu => ?_⟩
    refine ⟨t, u, _, _, rfl, rfl, same_new nu _ _ ht, upd_same, le_line (n := 8) (by decide), fun r nr => ?_⟩
    exact q _ r ((sA.trans (same_new nu)).trans (same_new nr)) upd_same
theorem has_law_other (Tx : Txt K mg) (c : He.SaysX fa fn [] tf ex w hh K) (X : K.In hh) (GG : hh.Ns mainGlobals mg)   : Has P w K mg base "_law_other" 1 ["_law_error"] (sp_law_other K) := by
  obtain ⟨fd, F⟩ := c.t.d.def_ 98 (d := d_law_other) rfl
  exact ⟨_, fd, ok_law_other F Tx , He.glo_ok X GG (c.t.d.fact 79 (f := .glo "_law_other") rfl), F.kp, F.bindsN fun _ _ _ _ _ _ us hl => match us, hl with | [_], _ => rfl⟩

end
end K00

namespace K00
open PySem PySem.Spec PyProof.Rows L2 Vf LamX
section
variable {hh : Heap} {P : Program} {w : World} {K : PySem.W.Frag} {mg : Str → Option Value} {base : Heap}
/-! ### an error of one class alone -/
theorem sub_sew (x : Str) : subB x "SewError" = true := by
  unfold subB
  simp
def spotL (j : Int) (lo n : Nat) : List V := (List.range n).map fun i => .bl (decide (V.int ((lo : Int) + (i : Nat)) = V.int j))
def rgK (lo : Int) (n : Nat) : List V := (List.range n).map fun i => .int (lo + (i : Nat))
def isAt (j : Nat) (v : V) : V := .bl (decide (v = .int (j : Nat)))
theorem rgK_at {lo : Int} {n i : Nat} (h : i < n) : (rgK lo n)[i]? = some (.int (lo + (i : Nat))) := by
  unfold rgK
  rw [List.getElem?_map, List.getElem?_range h]
  rfl
theorem rgK_spot {lo n j : Nat} : ((rgK (lo : Nat) n).filter fun _ => true).map (isAt j) = spotL (j : Nat) lo n := by
  rw [List.filter_eq_self.mpr fun _ _ => rfl]
  unfold rgK spotL isAt
  rw [List.map_map]
  rfl
theorem tells_ok : ∀ j < 30, ∀ x, clsL[j]? = some x → (tellL x badL ++ tellL x missL) ++ tellL x otherL = spotL (j : Nat) 0 21 ++ spotL (j : Nat) 22 8 ∧ subB x "Missing" = (decide ((14 : Int) ≤ (j : Nat)) && decide (((j : Nat) : Int) ≤ 21)) := by
  decide +kernel
def sp_law_is_only (K : PySem.W.Frag) : Sp := fun vs H Q _ => ∃ (a : Addr) (j : Nat) (x : Str), vs = [.ref a, .int (j : Nat)] ∧ j < 30 ∧ clsL[j]? = some x ∧ ErrAt K H a x ∧ ∀ H', Same H H' → Q (.bl true) H'
theorem sc_law_is_only : FnScope ["_law_error", "_law_at", "_law_told", "_law_spot"] ["_law_error", "_law_at"] (defScope s_law_is_only) := ⟨rfl, rfl, rfl, by decide +kernel, rfl, by decide +kernel, by decide +kernel⟩
theorem ok_law_is_only {f : Addr} {fd : FuncData} (F : FunD K "_law_is_only" "_law_is_only" (defArgs s_law_is_only) (defBody s_law_is_only) (defScope s_law_is_only) [] [] f fd) (Tx : Txt K mg) (h_law_bad : Has P w K mg base "_law_bad" 1 ["_law_error"] (sp_law_bad K)) (h_law_missing : Has P w K mg base "_law_missing" 1 ["_law_error"] (sp_law_missing K)) (h_law_other : Has P w K mg base "_law_other" 1 ["_law_error"] (sp_law_other K))  : FnOk P w K mg base CX0 2 f fd ["_law_error", "_law_at"] (sp_law_is_only K) := by
  obtain ⟨f_law_bad, fd_law_bad, G_law_bad, g_law_bad, k_law_bad, b_law_bad⟩ := h_law_bad
  obtain ⟨f_law_missing, fd_law_missing, G_law_missing, g_law_missing, k_law_missing, b_law_missing⟩ := h_law_missing
  obtain ⟨f_law_other, fd_law_other, G_law_other, g_law_other, k_law_other, b_law_other⟩ := h_law_other
  refine FunD.ok F sc_law_is_only (fun vs H Q E h => ?_) (fun cdv A outer s H vs Q E hr h => ?_)
  · obtain ⟨a, j, x, rfl, _⟩ := h
    rfl
  · obtain ⟨a, j, x, rfl, hj, hjx, hx, q⟩ := h
    obtain ⟨hm, fs, he⟩ := id hx
    obtain ⟨c1, c2, c3, c4, c5, c6⟩ := cls_facts Tx hm
    obtain ⟨tl, tm⟩ := tells_ok j hj x hjx
    have e1 := sub_sew x
    refine ⟨_, PSs.nox (pss_cons (ps_if (PW.pt (pw_or (pt_not (pt_val (pe_callB call_isV (by rfl) Tx.n_isinstance (by decide +kernel) (pa_cons (pv 0) (pa_cons (pe_glob (v := .ref (He.ga K "SewError")) (by rfl) Tx.g_SewError rfl) pa_nil))))) (pw_or1 (pt_not (pt_val (pe_callB call_isV (by rfl) Tx.n_isinstance (by decide +kernel) (pa_cons (pv 0) (pa_cons (pe_bltn (v := .ty "ValueError") (by rfl) Tx.n_ValueError (by decide +kernel) rfl) pa_nil)))))))) (pss_one (ps_ret pe_bl)) pss_nil)
        (pss_cons (ps_if (PW.pt (pw_or (pt_val (pe_callB call_isV (by rfl) Tx.n_isinstance (by decide +kernel) (pa_cons (pv 0) (pa_cons (pe_bltn (v := .ty "KeyError") (by rfl) Tx.n_KeyError (by decide +kernel) rfl) pa_nil)))) (pw_or (pt_val (pe_callB call_isV (by rfl) Tx.n_isinstance (by decide +kernel) (pa_cons (pv 0) (pa_cons (pe_bltn (v := .ty "IndexError") (by rfl) Tx.n_IndexError (by decide +kernel) rfl) pa_nil)))) (pw_or1 (pt_val (pe_callB call_isV (by rfl) Tx.n_isinstance (by decide +kernel) (pa_cons (pv 0) (pa_cons (pe_bltn (v := .ty "TypeError") (by rfl) Tx.n_TypeError (by decide +kernel) rfl) pa_nil)))))))) (pss_one (ps_ret pe_bl)) pss_nil)
        (pss_cons (ps_set (i := 2) sc_law_is_only.nd rfl (Or.inl rfl) (pe_op op_cat (pe_op op_cat (pe_call G_law_bad (hr.mono (by decide)) (by rfl) g_law_bad k_law_bad b_law_bad .nil pass0 (pa_cons (pv 0) pa_nil)) (pe_call G_law_missing (hr.mono (by decide)) (by rfl) g_law_missing k_law_missing b_law_missing .nil pass0 (pa_cons (pv 0) pa_nil))) (pe_call G_law_other (hr.mono (by decide)) (by rfl) g_law_other k_law_other b_law_other .nil pass0 (pa_cons (pv 0) pa_nil))))
        (C8.pss_cut (ps_if (pt_cmpR op_ne (pe_callB call_isV (by rfl) Tx.n_isinstance (by decide +kernel) (pa_cons (pv 0) (pa_cons (pe_glob (v := .ref (He.ga K "Missing")) (by rfl) Tx.g_Missing rfl) pa_nil))) (pe_chain op_le op_le pe_int (pv 1) pe_int) (nomark _)) (pss_one (ps_ret pe_bl)) pss_nil)
        (pss_one (ps_ret (pe_cmpR (op_eqD hr.units) (pv 2) (pe_op op_cat (pe_lc (own := [("_law_spot", 3)]) (g := gName 3) (tt := tYes) rfl sc_law_is_only.nd (pi_range1 (by rfl) Tx.n_range (pa_cons pe_int pa_nil)) (blkOk_by (own := [("_law_spot", 3)]) (N := ["_law_error", "_law_at", "_law_told", "_law_spot"]) (sc := defScope s_law_is_only) (by decide +kernel)) (fun _ _ _ _ _ => (pg_name (i := 3) sc_law_is_only.nd rfl (Or.inl rfl))) (fun _ _ _ _ _ => pts_nil) (fun _ _ _ _ _ => (pe_cmpR op_eq (pv 3) (pv 1) (nomark _)))) (pe_lc (own := [("_law_spot", 3)]) (g := gName 3) (tt := tYes) rfl sc_law_is_only.nd (pi_range2 (by rfl) Tx.n_range (pa_cons pe_int (pa_cons pe_int pa_nil))) (blkOk_by (own := [("_law_spot", 3)]) (N := ["_law_error", "_law_at", "_law_told", "_law_spot"]) (sc := defScope s_law_is_only) (by decide +kernel)) (fun _ _ _ _ _ => (pg_name (i := 3) sc_law_is_only.nd rfl (Or.inl rfl))) (fun _ _ _ _ _ => pts_nil) (fun _ _ _ _ _ => (pe_cmpR op_eq (pv 3) (pv 1) (nomark _))))) (nomark _)))))))), ?_⟩
    refine ⟨_, rfl, a, _, fs, _, _, _, rfl, he, c1, .own _, c6 "SewError" (inc (by decide +kernel)), _, rfl, ?_⟩
    rw [e1]
    refine ite2 (fun e => absurd e (by decide)) (fun _ => ?_)
    refine ⟨_, rfl, a, _, fs, _, _, _, rfl, he, c1, .ty "ValueError", c2, _, rfl, ?_⟩
    refine ite2 (fun e => absurd e (by decide)) (fun _ => ?_)
    refine ⟨_, rfl, a, _, fs, _, _, _, rfl, he, c1, .ty "KeyError", c3, _, rfl, ?_⟩
    refine ite2 (fun e => absurd e (by decide)) (fun _ => ?_)
    refine ⟨_, rfl, a, _, fs, _, _, _, rfl, he, c1, .ty "IndexError", c4, _, rfl, ?_⟩
    refine ite2 (fun e => absurd e (by decide)) (fun _ => ?_)
    refine ⟨_, rfl, a, _, fs, _, _, _, rfl, he, c1, .ty "TypeError", c5, _, rfl, ?_⟩
    refine ite2 (fun e => absurd e (by decide)) (fun _ => ?_)
    -- told
    refine ⟨_, rfl, a, x, rfl, hx, fun H1 r1 s1 h1 => ?_⟩
    refine ⟨_, rfl, a, x, rfl, hx.same s1, fun H2 r2 s2 h2 => ?_⟩
    refine ⟨r1, r2, _, _, rfl, rfl, s2 _ _ h1, h2, le_line (n := 21) (by decide), fun r3 n3 => ?_⟩
    have s3 := (s1.trans s2).trans (same_new (o := .lst (tellL x badL ++ tellL x missL)) n3)
    refine ⟨_, rfl, a, x, rfl, hx.same s3, fun H4 r4 s4 h4 => ?_⟩
    refine ⟨r3, r4, _, _, rfl, rfl, s4 _ _ upd_same, h4, le_line (n := 29) (by decide), fun t nt => ?_⟩
    have s5 := (s3.trans s4).trans (same_new (o := .lst ((tellL x badL ++ tellL x missL) ++ tellL x otherL)) nt)
    have ht : upd H4 t (.lst ((tellL x badL ++ tellL x missL) ++ tellL x otherL)) t = some (.lst ((tellL x badL ++ tellL x missL) ++ tellL x otherL)) := upd_same
    replace he := he.same s5
    revert s5 ht he
    generalize upd H4 t (.lst ((tellL x badL ++ tellL x missL) ++ tellL x otherL)) = G1
    intro s5 ht he
    refine ⟨fun σ H' => σ = [some (.ref a), some (.int (j : Nat)), some (.ref t), none] ∧ H' = G1, ?_, ?_⟩
    · refine ⟨_, rfl, a, _, fs, _, _, _, rfl, he, c1, .own _, c6 "Missing" (inc (by decide +kernel)), ?_⟩
      rw [tm]
      refine ⟨_, rfl, _, _, rfl, rfl, _, rfl, ite2 (fun h1 => ?_) (fun h1 => ?_)⟩
      · rw [h1, Bool.true_and]
        exact ⟨_, _, rfl, rfl, rfl, _, rfl, ite2 (fun e => absurd e (by simp)) (fun _ => ⟨rfl, rfl⟩)⟩
      · rw [Bool.eq_false_iff.mpr h1, Bool.false_and]
        exact ⟨rfl, _, rfl, ite2 (fun e => absurd e (by simp)) (fun _ => ⟨rfl, rfl⟩)⟩
    rintro σ H' ⟨rfl, rfl⟩
    refine ⟨_, rfl, _, rfl, by decide, by decide, fun D nD => ?_⟩
    refine lc_pure ((walk_range (lo := 0) (n := Int.toNat 21)).mono (Y' := fun i H x H' => H' = H ∧ (rgK 0 21)[i]? = some x) (fun _ h => h) (fun i H x H' hi _ y => ⟨y.1, by rw [y.2]; exact rgK_at hi⟩)) (rgK 0 21) rfl (by decide) (fun i H x H' y => ⟨same_of_eq y.1, y.2⟩) (isAt j) (fun _ => true) nD (fun _ _ => True.intro) (fun i v H2 Q1 Q0 hi s2 q1 q0 => ⟨rfl, ?_⟩) (fun H2 s2 hD => ?_)
    · obtain ⟨i0, _, rfl⟩ := List.mem_map.mp (List.mem_of_getElem? hi)
      exact ⟨_, rfl, _, rfl, rfl, q1 rfl _ (Same.refl _)⟩
    replace hD : H2 D = some (.lst (spotL (j : Nat) 0 21)) := hD.trans (congrArg (fun z => some (HO.lst z)) (rgK_spot (lo := 0)))
    refine ⟨_, _, rfl, ⟨by decide, by decide, by decide, by decide⟩, fun D2 nD2 => ?_⟩
    refine lc_pure ((walk_range (lo := 22) (n := Int.toNat (30 - 22))).mono (Y' := fun i H x H' => H' = H ∧ (rgK 22 8)[i]? = some x) (fun _ h => h) (fun i H x H' hi _ y => ⟨y.1, by rw [y.2]; exact rgK_at hi⟩)) (rgK 22 8) rfl (by decide) (fun i H x H' y => ⟨same_of_eq y.1, y.2⟩) (isAt j) (fun _ => true) nD2 (fun _ _ => True.intro) (fun i v H2 Q1 Q0 hi s2 q1 q0 => ⟨rfl, ?_⟩) (fun H3 s3 hD2 => ?_)
    · obtain ⟨i0, _, rfl⟩ := List.mem_map.mp (List.mem_of_getElem? hi)
      exact ⟨_, rfl, _, rfl, rfl, q1 rfl _ (Same.refl _)⟩
    replace hD2 : H3 D2 = some (.lst (spotL (j : Nat) 22 8)) := hD2.trans (congrArg (fun z => some (HO.lst z)) (rgK_spot (lo := 22)))
    refine ⟨D, D2, _, _, rfl, rfl, s3 _ _ hD, hD2, le_line (n := 29) (by decide), fun R nR => ?_⟩
    have sR : Same H3 (upd H3 R (.lst (spotL (j : Nat) 0 21 ++ spotL (j : Nat) 22 8))) := same_new nR
    have ht2 := sR _ _ (s3 _ _ (s2 _ _ ht))
    rw [tl] at ht2
    have fl : ∀ v ∈ spotL (j : Nat) 0 21 ++ spotL (j : Nat) 22 8, flatS v = true := fun v hv => by
      rcases List.mem_append.mp hv with h | h <;> (obtain ⟨i, _, rfl⟩ := List.mem_map.mp h; rfl)
    refine ⟨_, _, .lst (SqL.of ht2) (dpAll_flat fl), .lst (SqL.of upd_same) (dpAll_flat fl), shaped_list fl, shaped_list fl, ?_⟩
    rw [SeqAt.eqv_refl _ (SeqAt.canLay_of_shaped (shaped_list fl))]
    exact q _ (((s5.trans s2).trans s3).trans sR)
theorem has_law_is_only (Tx : Txt K mg) (c : He.SaysX fa fn [] tf ex w hh K) (X : K.In hh) (GG : hh.Ns mainGlobals mg) (h_law_bad : Has P w K mg base "_law_bad" 1 ["_law_error"] (sp_law_bad K)) (h_law_missing : Has P w K mg base "_law_missing" 1 ["_law_error"] (sp_law_missing K)) (h_law_other : Has P w K mg base "_law_other" 1 ["_law_error"] (sp_law_other K))  : Has P w K mg base "_law_is_only" 2 ["_law_error", "_law_at"] (sp_law_is_only K) := by
  obtain ⟨fd, F⟩ := c.t.d.def_ 99 (d := d_law_is_only) rfl
  exact ⟨_, fd, ok_law_is_only F Tx h_law_bad h_law_missing h_law_other, He.glo_ok X GG (c.t.d.fact 80 (f := .glo "_law_is_only") rfl), F.kp, F.bindsN fun _ _ _ _ _ _ us hl => match us, hl with | [_, _], _ => rfl⟩

end
end K00

namespace K00
open PySem PySem.Spec PyProof.Rows L2 Vf LamX
section
variable {hh : Heap} {P : Program} {w : World} {K : PySem.W.Frag} {mg : Str → Option Value} {base : Heap}
/-! ### drawn values -/
theorem strOk_of (s : String) : PyData.strOk (Str.ofString s) = true := by
  rw [strOk_iff, Str.ofString_eq_toList]
  intro c hc
  obtain ⟨x, _, rfl⟩ := List.mem_map.mp (show c ∈ s.toList.map Char.toNat by simpa using hc)
  have := x.valid
  unfold UInt32.isValidChar Nat.isValidChar at this
  show x.val.toNat < 0x110000
  omega
inductive VD (p : Addr) (H : Hp) : V → Prop where
  | flat (v : V) (h : flatS v = true) : VD p H v
  | l3 (a b : Addr) (x y : V) (ha : H a = some (.lst [x, .ref b, .non])) (hb : H b = some (.lst [y])) (fx : flatS x = true) (fy : flatS y = true) (na : a ≠ p) (nb : b ≠ p) : VD p H (.ref a)
  | t2 (a b : Addr) (x y : V) (ha : H a = some (.tup [x, .ref b])) (hb : H b = some (.tup [y])) (fx : flatS x = true) (fy : flatS y = true) (na : a ≠ p) (nb : b ≠ p) : VD p H (.ref a)
  | l2 (a : Addr) (x y : V) (ha : H a = some (.lst [x, y])) (fx : flatS x = true) (fy : flatS y = true) (na : a ≠ p) : VD p H (.ref a)
theorem VD.kp {p : Addr} {H H' : Hp} {v : V} (h : VD p H v) (k : Kp p H H') : VD p H' v := by
  cases h with
  | flat _ h => exact .flat _ h
  | l3 a b x y ha hb fx fy na nb => exact .l3 a b x y (k _ _ na ha) (k _ _ nb hb) fx fy na nb
  | t2 a b x y ha hb fx fy na nb => exact .t2 a b x y (k _ _ na ha) (k _ _ nb hb) fx fy na nb
  | l2 a x y ha fx fy na => exact .l2 a x y (k _ _ na ha) fx fy na
theorem VD.same {p : Addr} {H H' : Hp} {v : V} (h : VD p H v) (s : Same H H') : VD p H' v := h.kp (Kp.same s)
/-- data that can be compared -/
def Dat (K : PySem.W.Frag) (H : Hp) (v : V) : Prop := ∃ d, Dp K H v d ∧ SeqAt.shaped d = true ∧ d.depth ≤ 10
theorem lay1 {a b : PyData} (h1 : a.canLay0 = true) (h2 : b.canLay0 = true) : PyData.canLayAll0 [a, b] = true := by
  simp only [PyData.canLayAll0, h1, h2, Bool.and_self]
theorem VD.dat {p : Addr} {H : Hp} {v : V} (h : VD p H v) : Dat K H v := by
  have dep := depth_flat
  cases h with
  | flat _ h =>
    refine ⟨_, dp_flat h, shaped_flat h, ?_⟩
    have := dep v
    omega
  | l3 a b x y ha hb fx fy na nb =>
    have d1 := dep x
    have d2 := dep y
    refine ⟨.list [fdat x, .list [fdat y], .none], .lst (SqL.of ha) (.cons (dp_flat fx) (.cons (.lst (SqL.of hb) (.cons (dp_flat fy) .nil)) (.cons .non .nil))), ?_, ?_⟩
    · unfold SeqAt.shaped
      simp only [PyData.canLay0, PyData.canLayAll0, canLay_flat fx, canLay_flat fy, Bool.and_self, Bool.true_and, PyData.depth, PyData.depthAll]
      exact decide_eq_true (by omega)
    · simp only [PyData.depth, PyData.depthAll]
      omega
  | t2 a b x y ha hb fx fy na nb =>
    have d1 := dep x
    have d2 := dep y
    refine ⟨.tuple [fdat x, .tuple [fdat y]], .tup (SqT.of ha) (.cons (dp_flat fx) (.cons (.tup (SqT.of hb) (.cons (dp_flat fy) .nil)) .nil)), ?_, ?_⟩
    · unfold SeqAt.shaped
      simp only [PyData.canLay0, PyData.canLayAll0, canLay_flat fx, canLay_flat fy, Bool.and_self, Bool.true_and, PyData.depth, PyData.depthAll]
      exact decide_eq_true (by omega)
    · simp only [PyData.depth, PyData.depthAll]
      omega
  | l2 a x y ha fx fy na =>
    have d1 := dep x
    have d2 := dep y
    refine ⟨.list [fdat x, fdat y], .lst (SqL.of ha) (.cons (dp_flat fx) (.cons (dp_flat fy) .nil)), ?_, ?_⟩
    · unfold SeqAt.shaped
      simp only [PyData.canLay0, PyData.canLayAll0, canLay_flat fx, canLay_flat fy, Bool.and_self, Bool.true_and, PyData.depth, PyData.depthAll]
      exact decide_eq_true (by omega)
    · simp only [PyData.depth, PyData.depthAll]
      omega
theorem small_log2 {i : Int} (h0 : 0 ≤ i) (h1 : i < 100) : i.natAbs.log2 < 1920 := by
  have h2 := Nat.log2_le_self i.natAbs
  omega
def sp_law_value (K : PySem.W.Frag) : Sp := fun vs H Q _ => ∃ (p c : Addr) (b : Nat), vs = [.ref p] ∧ PenAt H p c (b + 3) ∧ ∀ H' v, PenAt H' p c b → Kp p H H' → VD p H' v → Q v H'
theorem at6 {xs : List V} (n : xs.length = 6) (i : Int) : ∃ x, x ∈ xs ∧ atI xs (i % 6) = some x := by
  have h := at_mod (n := i) (xs := xs) (fun e => by rw [e] at n; cases n)
  rw [n] at h
  exact h
theorem sc_law_value : FnScope ["_law_pen_here", "_law_kind", "_law_number", "_law_small", "_law_texts"] ["_law_pen_here"] (defScope s_law_value) := ⟨rfl, rfl, rfl, by decide +kernel, rfl, by decide +kernel, by decide +kernel⟩
theorem ok_law_value {f : Addr} {fd : FuncData} (F : FunD K "_law_value" "_law_value" (defArgs s_law_value) (defBody s_law_value) (defScope s_law_value) [] [] f fd) (Tx : Txt K mg) (h_law_draw : Has P w K mg base "_law_draw" 1 ["_law_pen_here", "_law_many"] sp_law_draw)  : FnOk P w K mg base CX0 2 f fd ["_law_pen_here"] (sp_law_value K) := by
  obtain ⟨f_law_draw, fd_law_draw, G_law_draw, g_law_draw, k_law_draw, b_law_draw⟩ := h_law_draw
  refine FunD.ok F sc_law_value (fun vs H Q E h => ?_) (fun cdv A outer s H vs Q E hr h => ?_)
  · obtain ⟨p, c, b, rfl, _⟩ := h
    rfl
  · obtain ⟨p, c, b, rfl, hp, q⟩ := h
    refine ⟨_, PSs.nox (pss_cons (ps_par (i := 1) (j := 2) (by rfl) sc_law_value.nd rfl rfl (by decide) rfl rfl (pa_cons (pe_call G_law_draw (hr.mono (by decide)) (by rfl) g_law_draw k_law_draw b_law_draw .nil pass0 (pa_cons (pv 0) (pa_cons pe_int pa_nil))) (pa_cons (pe_op op_sub (pe_call G_law_draw (hr.mono (by decide)) (by rfl) g_law_draw k_law_draw b_law_draw .nil pass0 (pa_cons (pv 0) (pa_cons (pe_op op_pow pe_int pe_int) pa_nil))) (pe_op op_pow pe_int pe_int)) pa_nil)) (by rfl))
        (pss_cons (ps_set (i := 3) sc_law_value.nd rfl (Or.inl rfl) (pe_call G_law_draw (hr.mono (by decide)) (by rfl) g_law_draw k_law_draw b_law_draw .nil pass0 (pa_cons (pv 0) (pa_cons pe_int pa_nil))))
        (pss_cons (ps_set (i := 4) sc_law_value.nd rfl (Or.inl rfl) (pe_lst (pa_cons pe_str (pa_cons pe_str (pa_cons pe_str (pa_cons pe_str (pa_cons pe_str (pa_cons (pe_callTy call_str_int (by rfl) Tx.n_str (by decide +kernel) (pa_cons (pv 3) pa_nil)) pa_nil))))))))
        (pss_cons (ps_if (pt_cmpR op_eq (pv 1) pe_int (nomark _)) (pss_one (ps_ret (pv 2))) pss_nil)
        (pss_cons (ps_if (pt_cmpR op_eq (pv 1) pe_int (nomark _)) (pss_one (ps_ret (pe_ix ix_list (pv 4) (pe_op op_mod (pe_callTy call_int1 (by rfl) Tx.n_int (by decide +kernel) (pa_cons (pv 3) pa_nil)) pe_int) (fun _ _ => rfl)))) pss_nil)
        (pss_cons (ps_if (pt_cmpR op_eq (pv 1) pe_int (nomark _)) (pss_one (ps_ret pe_non)) pss_nil)
        (pss_cons (ps_if (pt_cmpR op_eq (pv 1) pe_int (nomark _)) (pss_one (ps_ret (pe_cmpR op_eq (pe_op op_mod (pe_callTy call_int1 (by rfl) Tx.n_int (by decide +kernel) (pa_cons (pv 3) pa_nil)) pe_int) pe_int (nomark _)))) pss_nil)
        (pss_cons (ps_if (pt_cmpR op_eq (pv 1) pe_int (nomark _)) (pss_one (ps_ret (pe_lst (pa_cons (pv 3) (pa_cons (pe_lst (pa_cons (pe_ix ix_list (pv 4) (pe_op op_mod (pe_callTy call_int1 (by rfl) Tx.n_int (by decide +kernel) (pa_cons (pv 3) pa_nil)) pe_int) (fun _ _ => rfl)) pa_nil)) (pa_cons pe_non pa_nil)))))) pss_nil)
        (pss_cons (ps_if (pt_cmpR op_eq (pv 1) pe_int (nomark _)) (pss_one (ps_ret (pe_tup (pa_cons (pv 2) (pa_cons (pe_tup (pa_cons (pv 3) pa_nil)) pa_nil))))) pss_nil)
        (pss_one (ps_ret (pe_ifExp (pt_cmpR op_eq (pv 1) pe_int (nomark _)) (pv 3) (pe_lst (pa_cons (pv 2) (pa_cons pe_str pa_nil))))))))))))))), ?_⟩
    refine ⟨_, rfl, p, c, 8, b + 2, rfl, hp, by decide, by decide, fun H1 d1 hp1 k1 d10 d11 => ?_⟩
    refine ⟨_, rfl, _, _, rfl, rfl, ⟨by decide, by decide, by decide⟩, p, c, _, b + 1, rfl, hp1, by decide, by decide, fun H2 d2 hp2 k2 _ _ => ?_⟩
    refine ⟨_, _, rfl, rfl, ⟨by decide, by decide, by decide⟩, _, _, rfl, rfl, _, _, rfl, ?_⟩
    refine ⟨_, rfl, p, c, 100, b, rfl, hp2, by decide, by decide, fun H3 d3 hp3 k3 d30 d31 => ?_⟩
    have k03 : Kp p H H3 := (k1.trans k2).trans k3
    refine ⟨_, rfl, d3, rfl, small_log2 d30 d31, le_line (n := 6) (by decide), fun l nl => ?_⟩
    have sl : Same H3 (upd H3 l (.lst [.str "kind", .str "faces", .str "", .str "a b", .str "square", .str (Str.ofString (toString d3))])) := same_new nl
    have fl : upd H3 l (.lst [.str "kind", .str "faces", .str "", .str "a b", .str "square", .str (Str.ofString (toString d3))]) l = some (.lst [.str "kind", .str "faces", .str "", .str "a b", .str "square", .str (Str.ofString (toString d3))]) := upd_same
    have hp4 := hp3.same sl
    have k04 : Kp p H _ := k03.trans (Kp.same sl)
    revert fl hp4 k04
    generalize upd H3 l (.lst [.str "kind", .str "faces", .str "", .str "a b", .str "square", .str (Str.ofString (toString d3))]) = H4
    intro fl hp4 k04
    have txs : ∀ v ∈ [V.str "kind", .str "faces", .str "", .str "a b", .str "square", .str (Str.ofString (toString d3))], flatS v = true := fun v hv => by
      simp only [List.mem_cons, List.not_mem_nil, or_false] at hv
      rcases hv with rfl | rfl | rfl | rfl | rfl | rfl <;> first | exact strOk_of _ | decide +kernel
    obtain ⟨tx, htx, hat⟩ := at6 (xs := [V.str "kind", .str "faces", .str "", .str "a b", .str "square", .str (Str.ofString (toString d3))]) rfl d3
    have ftx := txs tx htx
    refine ⟨_, rfl, rfl, _, rfl, ite2 (fun _ => ⟨_, rfl, q _ _ hp4 k04 (.flat _ rfl)⟩) (fun _ => ?_)⟩
    refine ⟨_, rfl, rfl, _, rfl, ite2 (fun _ => ?_) (fun _ => ?_)⟩
    · exact ⟨_, rfl, _, rfl, .inl ⟨_, rfl, _, _, rfl, rfl, (show (0 : Int) < 6 by decide), l, _, _, tx, rfl, rfl, SqL.of fl, hat, q _ _ hp4 k04 (.flat _ ftx)⟩⟩
    refine ⟨_, rfl, rfl, _, rfl, ite2 (fun _ => q _ _ hp4 k04 (.flat _ rfl)) (fun _ => ?_)⟩
    refine ⟨_, rfl, rfl, _, rfl, ite2 (fun _ => ?_) (fun _ => ?_)⟩
    · exact ⟨_, rfl, .inl ⟨_, rfl, _, _, rfl, rfl, (show (0 : Int) < 2 by decide), rfl, q _ _ hp4 k04 (.flat _ rfl)⟩⟩
    refine ⟨_, rfl, rfl, _, rfl, ite2 (fun _ => ?_) (fun _ => ?_)⟩
    · refine ⟨_, rfl, _, rfl, _, rfl, .inl ⟨_, rfl, _, _, rfl, rfl, (show (0 : Int) < 6 by decide), l, _, _, tx, rfl, rfl, SqL.of fl, hat, le_line (n := 1) (by decide), fun i2 n2 => ⟨le_line (n := 3) (by decide), fun i3 n3 => ?_⟩⟩⟩
      have s2 : Same H4 (upd H4 i2 (.lst [tx])) := same_new n2
      have s3 : Same (upd H4 i2 (.lst [tx])) (upd (upd H4 i2 (.lst [tx])) i3 (.lst [.int d3, .ref i2, .non])) := same_new n3
      exact q _ _ (hp4.same (s2.trans s3)) (k04.trans (Kp.same (s2.trans s3))) (.l3 i3 i2 _ _ upd_same (s3 _ _ upd_same) rfl ftx ((hp4.same s2).new n3).1 (hp4.new n2).1)
    refine ⟨_, rfl, rfl, _, rfl, ite2 (fun _ => ?_) (fun _ => ?_)⟩
    · refine ⟨_, rfl, _, rfl, le_line (n := 1) (by decide), fun i2 n2 => ⟨le_line (n := 2) (by decide), fun i3 n3 => ?_⟩⟩
      have s2 : Same H4 (upd H4 i2 (.tup [.int d3])) := same_new n2
      have s3 : Same (upd H4 i2 (.tup [.int d3])) (upd (upd H4 i2 (.tup [.int d3])) i3 (.tup [.int (d2 - 10 ^ Int.toNat 29), .ref i2])) := same_new n3
      exact q _ _ (hp4.same (s2.trans s3)) (k04.trans (Kp.same (s2.trans s3))) (.t2 i3 i2 _ _ upd_same (s3 _ _ upd_same) rfl rfl ((hp4.same s2).new n3).1 (hp4.new n2).1)
    refine ⟨_, rfl, rfl, _, rfl, ite2 (fun _ => ⟨_, rfl, q _ _ hp4 k04 (.flat _ rfl)⟩) (fun _ => ?_)⟩
    refine ⟨_, rfl, le_line (n := 2) (by decide), fun i2 n2 => ?_⟩
    have s2 : Same H4 (upd H4 i2 (.lst [.int (d2 - 10 ^ Int.toNat 29), .str "x"])) := same_new n2
    exact q _ _ (hp4.same s2) (k04.trans (Kp.same s2)) (.l2 i2 _ _ upd_same rfl (by decide +kernel) (hp4.new n2).1)
theorem has_law_value (Tx : Txt K mg) (c : He.SaysX fa fn [] tf ex w hh K) (X : K.In hh) (GG : hh.Ns mainGlobals mg) (h_law_draw : Has P w K mg base "_law_draw" 1 ["_law_pen_here", "_law_many"] sp_law_draw)  : Has P w K mg base "_law_value" 2 ["_law_pen_here"] (sp_law_value K) := by
  obtain ⟨fd, F⟩ := c.t.d.def_ 95 (d := d_law_value) rfl
  exact ⟨_, fd, ok_law_value F Tx h_law_draw, He.glo_ok X GG (c.t.d.fact 76 (f := .glo "_law_value") rfl), F.kp, F.bindsN fun _ _ _ _ _ _ us hl => match us, hl with | [_], _ => rfl⟩

end
end K00

namespace K00
open PySem PySem.Spec PyProof.Rows L2 Vf LamX
section
variable {hh : Heap} {P : Program} {w : World} {K : PySem.W.Frag} {mg : Str → Option Value} {base : Heap}
theorem ini_NoSide (Tx : Txt K mg) : PySem.W.findIn K (.ref (He.ga K "NoSide")) "__init__" = some (some (.ref (He.ma K (He.ga K "Missing") "__init__"))) := Tx.er_NoSide.ini.trans (by rw [Tx.ih_NoSide])
theorem ini_NoFace (Tx : Txt K mg) : PySem.W.findIn K (.ref (He.ga K "NoFace")) "__init__" = some (some (.ref (He.ma K (He.ga K "Missing") "__init__"))) := Tx.er_NoFace.ini.trans (by rw [Tx.ih_NoFace])
theorem ini_NoEdge (Tx : Txt K mg) : PySem.W.findIn K (.ref (He.ga K "NoEdge")) "__init__" = some (some (.ref (He.ma K (He.ga K "Missing") "__init__"))) := Tx.er_NoEdge.ini.trans (by rw [Tx.ih_NoEdge])
theorem ini_NoCorner (Tx : Txt K mg) : PySem.W.findIn K (.ref (He.ga K "NoCorner")) "__init__" = some (some (.ref (He.ma K (He.ga K "Missing") "__init__"))) := Tx.er_NoCorner.ini.trans (by rw [Tx.ih_NoCorner])
theorem ini_NoPlace (Tx : Txt K mg) : PySem.W.findIn K (.ref (He.ga K "NoPlace")) "__init__" = some (some (.ref (He.ma K (He.ga K "Missing") "__init__"))) := Tx.er_NoPlace.ini.trans (by rw [Tx.ih_NoPlace])
theorem ini_NoFact (Tx : Txt K mg) : PySem.W.findIn K (.ref (He.ga K "NoFact")) "__init__" = some (some (.ref (He.ma K (He.ga K "Missing") "__init__"))) := Tx.er_NoFact.ini.trans (by rw [Tx.ih_NoFact])
theorem ini_NoName (Tx : Txt K mg) : PySem.W.findIn K (.ref (He.ga K "NoName")) "__init__" = some (some (.ref (He.ma K (He.ga K "Missing") "__init__"))) := Tx.er_NoName.ini.trans (by rw [Tx.ih_NoName])
/-! ### errors made -/
/-- errors of these classes, each with the one field f = v -/
structure ErrsAt (K : PySem.W.Frag) (H : Hp) (es : List Addr) (cs : List Str) (f : Str) (v : V) : Prop where
  len : es.length = cs.length
  at_ : ∀ (i : Nat) e c, es[i]? = some e → cs[i]? = some c → ExcAt H e (He.ga K c) (some [(f, v)])
theorem ErrsAt.nil {H : Hp} {f : Str} {v : V} : ErrsAt K H [] [] f v := ⟨rfl, fun i e c h => by simp at h⟩
theorem ErrsAt.same {H H' : Hp} {es : List Addr} {cs : List Str} {f : Str} {v : V} (h : ErrsAt K H es cs f v) (s : Same H H') : ErrsAt K H' es cs f v := ⟨h.len, fun i e c h1 h2 => (h.at_ i e c h1 h2).same s⟩
theorem ErrsAt.mutL {H : Hp} {t : Addr} {xs : List V} {o : HO} {es : List Addr} {cs : List Str} {f : Str} {v : V} (h : ErrsAt K H es cs f v) (ht : H t = some (.lst xs)) : ErrsAt K (upd H t o) es cs f v := ⟨h.len, fun i e c h1 h2 => ExcAt.mutL (h.at_ i e c h1 h2) ht⟩
theorem ErrsAt.snoc {H H' : Hp} {es : List Addr} {cs : List Str} {f c : Str} {v : V} {e : Addr} (h : ErrsAt K H es cs f v) (s : Same H H') (x : ExcAt H' e (He.ga K c) (some [(f, v)])) : ErrsAt K H' (es ++ [e]) (cs ++ [c]) f v := by
  refine ⟨by rw [List.length_append, List.length_append, h.len] <;> rfl, fun i e' c' h1 h2 => ?_⟩
  by_cases hi : i < es.length
  · rw [List.getElem?_append_left hi] at h1
    rw [List.getElem?_append_left (by rw [← h.len]; exact hi)] at h2
    exact (h.at_ i e' c' h1 h2).same s
  · rw [List.getElem?_append_right (by omega)] at h1
    rw [List.getElem?_append_right (by rw [← h.len]; omega), ← h.len] at h2
    obtain ⟨k, hk⟩ : ∃ k, i - es.length = k := ⟨_, rfl⟩
    rw [hk] at h1 h2
    cases k with
    | zero =>
      cases h1
      cases h2
      exact x
    | succ k => simp at h1
theorem fresh1 {H : Hp} {a C dx : Addr} {f : Str} {v : V} (na : H a = none) (nd : upd H a (exo a C none) dx = none) (ne : dx ≠ a) :
    Same H (upd (upd (upd H a (exo a C none)) dx (exd dx [(f, v)])) a (exo a C (some dx))) ∧ ExcAt (upd (upd (upd H a (exo a C none)) dx (exd dx [(f, v)])) a (exo a C (some dx))) a C (some [(f, v)]) := by
  have nd' : H dx = none := by
    rw [upd_ne ne] at nd
    exact nd
  refine ⟨fun b o h => ?_, .made dx _ upd_same (by rw [upd_ne ne, upd_same])⟩
  have b1 := ne_of_none h na
  rw [upd_ne b1, upd_ne (ne_of_none h nd'), upd_ne b1]
  exact h
def partC : List Str := ["BadKind", "BadSkin", "BadSheet", "BadCells", "BadRim", "BadNesting", "BadSaying", "BadBook", "BadBody", "BadCut", "BadNumber", "BadPaper", "BadDesk", "Misfit"]
def valC : List Str := ["NoSide", "NoFace", "NoEdge", "NoCorner", "NoPlace", "NoFact", "NoName", "Missing", "Twice"]
def sp_law_parts (K : PySem.W.Frag) : Sp := fun vs H Q _ => ∃ (v : V), vs = [v] ∧ ∀ H' r es, Same H H' → H' r = some (.lst (es.map V.ref)) → ErrsAt K H' es partC "part" v → Q (.ref r) H'
theorem sc_law_parts : FnScope ["_law_one", "_law_made"] ["_law_one"] (defScope s_law_parts) := ⟨rfl, rfl, rfl, by decide +kernel, rfl, by decide +kernel, by decide +kernel⟩
theorem ok_law_parts {f : Addr} {fd : FuncData} (F : FunD K "_law_parts" "_law_parts" (defArgs s_law_parts) (defBody s_law_parts) (defScope s_law_parts) [] [] f fd) (Tx : Txt K mg) (h_BadKind_init : HasE P w K mg base "BadKind" 1 ["self", "part"] (sp_BadKind_init K)) (h_BadSkin_init : HasE P w K mg base "BadSkin" 1 ["self", "part"] (sp_BadSkin_init K)) (h_BadSheet_init : HasE P w K mg base "BadSheet" 1 ["self", "part"] (sp_BadSheet_init K)) (h_BadCells_init : HasE P w K mg base "BadCells" 1 ["self", "part"] (sp_BadCells_init K)) (h_BadRim_init : HasE P w K mg base "BadRim" 1 ["self", "part"] (sp_BadRim_init K)) (h_BadNesting_init : HasE P w K mg base "BadNesting" 1 ["self", "part"] (sp_BadNesting_init K)) (h_BadSaying_init : HasE P w K mg base "BadSaying" 1 ["self", "part"] (sp_BadSaying_init K)) (h_BadBook_init : HasE P w K mg base "BadBook" 1 ["self", "part"] (sp_BadBook_init K)) (h_BadBody_init : HasE P w K mg base "BadBody" 1 ["self", "part"] (sp_BadBody_init K)) (h_BadCut_init : HasE P w K mg base "BadCut" 1 ["self", "part"] (sp_BadCut_init K)) (h_BadNumber_init : HasE P w K mg base "BadNumber" 1 ["self", "part"] (sp_BadNumber_init K)) (h_BadPaper_init : HasE P w K mg base "BadPaper" 1 ["self", "part"] (sp_BadPaper_init K)) (h_BadDesk_init : HasE P w K mg base "BadDesk" 1 ["self", "part"] (sp_BadDesk_init K)) (h_Misfit_init : HasE P w K mg base "Misfit" 1 ["self", "part"] (sp_Misfit_init K))  : FnOk P w K mg base CX0 3 f fd ["_law_one"] (sp_law_parts K) := by
  obtain ⟨fd_BadKind_init, G_BadKind_init, b_BadKind_init, kb_BadKind_init, ks_BadKind_init⟩ := h_BadKind_init
  obtain ⟨fd_BadSkin_init, G_BadSkin_init, b_BadSkin_init, kb_BadSkin_init, ks_BadSkin_init⟩ := h_BadSkin_init
  obtain ⟨fd_BadSheet_init, G_BadSheet_init, b_BadSheet_init, kb_BadSheet_init, ks_BadSheet_init⟩ := h_BadSheet_init
  obtain ⟨fd_BadCells_init, G_BadCells_init, b_BadCells_init, kb_BadCells_init, ks_BadCells_init⟩ := h_BadCells_init
  obtain ⟨fd_BadRim_init, G_BadRim_init, b_BadRim_init, kb_BadRim_init, ks_BadRim_init⟩ := h_BadRim_init
  obtain ⟨fd_BadNesting_init, G_BadNesting_init, b_BadNesting_init, kb_BadNesting_init, ks_BadNesting_init⟩ := h_BadNesting_init
  obtain ⟨fd_BadSaying_init, G_BadSaying_init, b_BadSaying_init, kb_BadSaying_init, ks_BadSaying_init⟩ := h_BadSaying_init
  obtain ⟨fd_BadBook_init, G_BadBook_init, b_BadBook_init, kb_BadBook_init, ks_BadBook_init⟩ := h_BadBook_init
  obtain ⟨fd_BadBody_init, G_BadBody_init, b_BadBody_init, kb_BadBody_init, ks_BadBody_init⟩ := h_BadBody_init
  obtain ⟨fd_BadCut_init, G_BadCut_init, b_BadCut_init, kb_BadCut_init, ks_BadCut_init⟩ := h_BadCut_init
  obtain ⟨fd_BadNumber_init, G_BadNumber_init, b_BadNumber_init, kb_BadNumber_init, ks_BadNumber_init⟩ := h_BadNumber_init
  obtain ⟨fd_BadPaper_init, G_BadPaper_init, b_BadPaper_init, kb_BadPaper_init, ks_BadPaper_init⟩ := h_BadPaper_init
  obtain ⟨fd_BadDesk_init, G_BadDesk_init, b_BadDesk_init, kb_BadDesk_init, ks_BadDesk_init⟩ := h_BadDesk_init
  obtain ⟨fd_Misfit_init, G_Misfit_init, b_Misfit_init, kb_Misfit_init, ks_Misfit_init⟩ := h_Misfit_init
  refine FunD.ok F sc_law_parts (fun vs H Q E h => ?_) (fun cdv A outer s H vs Q E hr h => ?_)
  · obtain ⟨v, rfl, _⟩ := h
    rfl
  · obtain ⟨v, rfl, q⟩ := h
    refine ⟨_, PSs.nox (pss_cons (ps_set (i := 1) sc_law_parts.nd rfl (Or.inl rfl) (pe_lst (pa_cons (pe_exV Tx.er_BadKind.oex Tx.er_BadKind.ini Tx.er_BadKind.fn G_BadKind_init (hr.mono (by decide)) b_BadKind_init pass0 (by rfl) Tx.g_BadKind (pa_cons (pv 0) pa_nil)) (pa_cons (pe_exV Tx.er_BadSkin.oex Tx.er_BadSkin.ini Tx.er_BadSkin.fn G_BadSkin_init (hr.mono (by decide)) b_BadSkin_init pass0 (by rfl) Tx.g_BadSkin (pa_cons (pv 0) pa_nil)) (pa_cons (pe_exV Tx.er_BadSheet.oex Tx.er_BadSheet.ini Tx.er_BadSheet.fn G_BadSheet_init (hr.mono (by decide)) b_BadSheet_init pass0 (by rfl) Tx.g_BadSheet (pa_cons (pv 0) pa_nil)) (pa_cons (pe_exV Tx.er_BadCells.oex Tx.er_BadCells.ini Tx.er_BadCells.fn G_BadCells_init (hr.mono (by decide)) b_BadCells_init pass0 (by rfl) Tx.g_BadCells (pa_cons (pv 0) pa_nil)) (pa_cons (pe_exV Tx.er_BadRim.oex Tx.er_BadRim.ini Tx.er_BadRim.fn G_BadRim_init (hr.mono (by decide)) b_BadRim_init pass0 (by rfl) Tx.g_BadRim (pa_cons (pv 0) pa_nil)) (pa_cons (pe_exV Tx.er_BadNesting.oex Tx.er_BadNesting.ini Tx.er_BadNesting.fn G_BadNesting_init (hr.mono (by decide)) b_BadNesting_init pass0 (by rfl) Tx.g_BadNesting (pa_cons (pv 0) pa_nil)) (pa_cons (pe_exV Tx.er_BadSaying.oex Tx.er_BadSaying.ini Tx.er_BadSaying.fn G_BadSaying_init (hr.mono (by decide)) b_BadSaying_init pass0 (by rfl) Tx.g_BadSaying (pa_cons (pv 0) pa_nil)) pa_nil)))))))))
        (pss_one (ps_ret (pe_op op_cat (pv 1) (pe_lst (pa_cons (pe_exV Tx.er_BadBook.oex Tx.er_BadBook.ini Tx.er_BadBook.fn G_BadBook_init (hr.mono (by decide)) b_BadBook_init pass0 (by rfl) Tx.g_BadBook (pa_cons (pv 0) pa_nil)) (pa_cons (pe_exV Tx.er_BadBody.oex Tx.er_BadBody.ini Tx.er_BadBody.fn G_BadBody_init (hr.mono (by decide)) b_BadBody_init pass0 (by rfl) Tx.g_BadBody (pa_cons (pv 0) pa_nil)) (pa_cons (pe_exV Tx.er_BadCut.oex Tx.er_BadCut.ini Tx.er_BadCut.fn G_BadCut_init (hr.mono (by decide)) b_BadCut_init pass0 (by rfl) Tx.g_BadCut (pa_cons (pv 0) pa_nil)) (pa_cons (pe_exV Tx.er_BadNumber.oex Tx.er_BadNumber.ini Tx.er_BadNumber.fn G_BadNumber_init (hr.mono (by decide)) b_BadNumber_init pass0 (by rfl) Tx.g_BadNumber (pa_cons (pv 0) pa_nil)) (pa_cons (pe_exV Tx.er_BadPaper.oex Tx.er_BadPaper.ini Tx.er_BadPaper.fn G_BadPaper_init (hr.mono (by decide)) b_BadPaper_init pass0 (by rfl) Tx.g_BadPaper (pa_cons (pv 0) pa_nil)) (pa_cons (pe_exV Tx.er_BadDesk.oex Tx.er_BadDesk.ini Tx.er_BadDesk.fn G_BadDesk_init (hr.mono (by decide)) b_BadDesk_init pass0 (by rfl) Tx.g_BadDesk (pa_cons (pv 0) pa_nil)) (pa_cons (pe_exV Tx.er_Misfit.oex Tx.er_Misfit.ini Tx.er_Misfit.fn G_Misfit_init (hr.mono (by decide)) b_Misfit_init pass0 (by rfl) Tx.g_Misfit (pa_cons (pv 0) pa_nil)) pa_nil)))))))))))), ?_⟩
    have sA : Same H H := Same.refl H
    have eA : ErrsAt K H [] [] "part" v := ErrsAt.nil
    refine ⟨_, rfl, (show 1 ≤ 1000 by decide), fun a1 na1 => ⟨a1, _, _, rfl, Tx.er_BadKind.oex, Tx.er_BadKind.no "part" (by simp), upd_same, fun dx1 nd1 ne1 => ⟨rfl, ?_⟩⟩⟩
    obtain ⟨sx, hx⟩ := fresh1 (C := He.ga K "BadKind") (f := "part") (v := v) na1 nd1 ne1
    replace sA := sA.trans sx
    replace eA := eA.snoc sx (c := "BadKind") hx
    clear sx hx na1 nd1 ne1
    revert sA eA
    generalize upd (upd (upd H a1 (exo a1 (He.ga K "BadKind") none)) dx1 (exd dx1 [("part", v)])) a1 (exo a1 (He.ga K "BadKind") (some dx1)) = G1
    intro sA eA
    refine ⟨_, rfl, (show 1 ≤ 1000 by decide), fun a2 na2 => ⟨a2, _, _, rfl, Tx.er_BadSkin.oex, Tx.er_BadSkin.no "part" (by simp), upd_same, fun dx2 nd2 ne2 => ⟨rfl, ?_⟩⟩⟩
    obtain ⟨sx, hx⟩ := fresh1 (C := He.ga K "BadSkin") (f := "part") (v := v) na2 nd2 ne2
    replace sA := sA.trans sx
    replace eA := eA.snoc sx (c := "BadSkin") hx
    clear sx hx na2 nd2 ne2
    revert sA eA
    generalize upd (upd (upd G1 a2 (exo a2 (He.ga K "BadSkin") none)) dx2 (exd dx2 [("part", v)])) a2 (exo a2 (He.ga K "BadSkin") (some dx2)) = G2
    intro sA eA
    refine ⟨_, rfl, (show 1 ≤ 1000 by decide), fun a3 na3 => ⟨a3, _, _, rfl, Tx.er_BadSheet.oex, Tx.er_BadSheet.no "part" (by simp), upd_same, fun dx3 nd3 ne3 => ⟨rfl, ?_⟩⟩⟩
    obtain ⟨sx, hx⟩ := fresh1 (C := He.ga K "BadSheet") (f := "part") (v := v) na3 nd3 ne3
    replace sA := sA.trans sx
    replace eA := eA.snoc sx (c := "BadSheet") hx
    clear sx hx na3 nd3 ne3
    revert sA eA
    generalize upd (upd (upd G2 a3 (exo a3 (He.ga K "BadSheet") none)) dx3 (exd dx3 [("part", v)])) a3 (exo a3 (He.ga K "BadSheet") (some dx3)) = G3
    intro sA eA
    refine ⟨_, rfl, (show 1 ≤ 1000 by decide), fun a4 na4 => ⟨a4, _, _, rfl, Tx.er_BadCells.oex, Tx.er_BadCells.no "part" (by simp), upd_same, fun dx4 nd4 ne4 => ⟨rfl, ?_⟩⟩⟩
    obtain ⟨sx, hx⟩ := fresh1 (C := He.ga K "BadCells") (f := "part") (v := v) na4 nd4 ne4
    replace sA := sA.trans sx
    replace eA := eA.snoc sx (c := "BadCells") hx
    clear sx hx na4 nd4 ne4
    revert sA eA
    generalize upd (upd (upd G3 a4 (exo a4 (He.ga K "BadCells") none)) dx4 (exd dx4 [("part", v)])) a4 (exo a4 (He.ga K "BadCells") (some dx4)) = G4
    intro sA eA
    refine ⟨_, rfl, (show 1 ≤ 1000 by decide), fun a5 na5 => ⟨a5, _, _, rfl, Tx.er_BadRim.oex, Tx.er_BadRim.no "part" (by simp), upd_same, fun dx5 nd5 ne5 => ⟨rfl, ?_⟩⟩⟩
    obtain ⟨sx, hx⟩ := fresh1 (C := He.ga K "BadRim") (f := "part") (v := v) na5 nd5 ne5
    replace sA := sA.trans sx
    replace eA := eA.snoc sx (c := "BadRim") hx
    clear sx hx na5 nd5 ne5
    revert sA eA
    generalize upd (upd (upd G4 a5 (exo a5 (He.ga K "BadRim") none)) dx5 (exd dx5 [("part", v)])) a5 (exo a5 (He.ga K "BadRim") (some dx5)) = G5
    intro sA eA
    refine ⟨_, rfl, (show 1 ≤ 1000 by decide), fun a6 na6 => ⟨a6, _, _, rfl, Tx.er_BadNesting.oex, Tx.er_BadNesting.no "part" (by simp), upd_same, fun dx6 nd6 ne6 => ⟨rfl, ?_⟩⟩⟩
    obtain ⟨sx, hx⟩ := fresh1 (C := He.ga K "BadNesting") (f := "part") (v := v) na6 nd6 ne6
    replace sA := sA.trans sx
    replace eA := eA.snoc sx (c := "BadNesting") hx
    clear sx hx na6 nd6 ne6
    revert sA eA
    generalize upd (upd (upd G5 a6 (exo a6 (He.ga K "BadNesting") none)) dx6 (exd dx6 [("part", v)])) a6 (exo a6 (He.ga K "BadNesting") (some dx6)) = G6
    intro sA eA
    refine ⟨_, rfl, (show 1 ≤ 1000 by decide), fun a7 na7 => ⟨a7, _, _, rfl, Tx.er_BadSaying.oex, Tx.er_BadSaying.no "part" (by simp), upd_same, fun dx7 nd7 ne7 => ⟨rfl, ?_⟩⟩⟩
    obtain ⟨sx, hx⟩ := fresh1 (C := He.ga K "BadSaying") (f := "part") (v := v) na7 nd7 ne7
    replace sA := sA.trans sx
    replace eA := eA.snoc sx (c := "BadSaying") hx
    clear sx hx na7 nd7 ne7
    revert sA eA
    generalize upd (upd (upd G6 a7 (exo a7 (He.ga K "BadSaying") none)) dx7 (exd dx7 [("part", v)])) a7 (exo a7 (He.ga K "BadSaying") (some dx7)) = G7
    intro sA eA
    refine ⟨le_line (n := 7) (by decide), fun t nt => ?_⟩
    have sx : Same G7 (upd G7 t (.lst [.ref a1, .ref a2, .ref a3, .ref a4, .ref a5, .ref a6, .ref a7])) := same_new nt
    have nt0 : H t = none := sA.free nt
    replace sA := sA.trans sx
    replace eA := eA.same sx
    have ft : upd G7 t (.lst [.ref a1, .ref a2, .ref a3, .ref a4, .ref a5, .ref a6, .ref a7]) t = some (.lst [.ref a1, .ref a2, .ref a3, .ref a4, .ref a5, .ref a6, .ref a7]) := upd_same
    clear sx
    revert sA eA ft
    generalize upd G7 t (.lst [.ref a1, .ref a2, .ref a3, .ref a4, .ref a5, .ref a6, .ref a7]) = G8
    intro sA eA ft
    refine ⟨_, rfl, ?_⟩
    refine ⟨_, rfl, (show 1 ≤ 1000 by decide), fun a9 na9 => ⟨a9, _, _, rfl, Tx.er_BadBook.oex, Tx.er_BadBook.no "part" (by simp), upd_same, fun dx9 nd9 ne9 => ⟨rfl, ?_⟩⟩⟩
    obtain ⟨sx, hx⟩ := fresh1 (C := He.ga K "BadBook") (f := "part") (v := v) na9 nd9 ne9
    replace sA := sA.trans sx
    replace eA := eA.snoc sx (c := "BadBook") hx
    replace ft := sx _ _ ft
    clear sx hx na9 nd9 ne9
    revert sA eA ft
    generalize upd (upd (upd G8 a9 (exo a9 (He.ga K "BadBook") none)) dx9 (exd dx9 [("part", v)])) a9 (exo a9 (He.ga K "BadBook") (some dx9)) = G9
    intro sA eA ft
    refine ⟨_, rfl, (show 1 ≤ 1000 by decide), fun a10 na10 => ⟨a10, _, _, rfl, Tx.er_BadBody.oex, Tx.er_BadBody.no "part" (by simp), upd_same, fun dx10 nd10 ne10 => ⟨rfl, ?_⟩⟩⟩
    obtain ⟨sx, hx⟩ := fresh1 (C := He.ga K "BadBody") (f := "part") (v := v) na10 nd10 ne10
    replace sA := sA.trans sx
    replace eA := eA.snoc sx (c := "BadBody") hx
    replace ft := sx _ _ ft
    clear sx hx na10 nd10 ne10
    revert sA eA ft
    generalize upd (upd (upd G9 a10 (exo a10 (He.ga K "BadBody") none)) dx10 (exd dx10 [("part", v)])) a10 (exo a10 (He.ga K "BadBody") (some dx10)) = G10
    intro sA eA ft
    refine ⟨_, rfl, (show 1 ≤ 1000 by decide), fun a11 na11 => ⟨a11, _, _, rfl, Tx.er_BadCut.oex, Tx.er_BadCut.no "part" (by simp), upd_same, fun dx11 nd11 ne11 => ⟨rfl, ?_⟩⟩⟩
    obtain ⟨sx, hx⟩ := fresh1 (C := He.ga K "BadCut") (f := "part") (v := v) na11 nd11 ne11
    replace sA := sA.trans sx
    replace eA := eA.snoc sx (c := "BadCut") hx
    replace ft := sx _ _ ft
    clear sx hx na11 nd11 ne11
    revert sA eA ft
    generalize upd (upd (upd G10 a11 (exo a11 (He.ga K "BadCut") none)) dx11 (exd dx11 [("part", v)])) a11 (exo a11 (He.ga K "BadCut") (some dx11)) = G11
    intro sA eA ft
    refine ⟨_, rfl, (show 1 ≤ 1000 by decide), fun a12 na12 => ⟨a12, _, _, rfl, Tx.er_BadNumber.oex, Tx.er_BadNumber.no "part" (by simp), upd_same, fun dx12 nd12 ne12 => ⟨rfl, ?_⟩⟩⟩
    obtain ⟨sx, hx⟩ := fresh1 (C := He.ga K "BadNumber") (f := "part") (v := v) na12 nd12 ne12
    replace sA := sA.trans sx
    replace eA := eA.snoc sx (c := "BadNumber") hx
    replace ft := sx _ _ ft
    clear sx hx na12 nd12 ne12
    revert sA eA ft
    generalize upd (upd (upd G11 a12 (exo a12 (He.ga K "BadNumber") none)) dx12 (exd dx12 [("part", v)])) a12 (exo a12 (He.ga K "BadNumber") (some dx12)) = G12
    intro sA eA ft
    refine ⟨_, rfl, (show 1 ≤ 1000 by decide), fun a13 na13 => ⟨a13, _, _, rfl, Tx.er_BadPaper.oex, Tx.er_BadPaper.no "part" (by simp), upd_same, fun dx13 nd13 ne13 => ⟨rfl, ?_⟩⟩⟩
    obtain ⟨sx, hx⟩ := fresh1 (C := He.ga K "BadPaper") (f := "part") (v := v) na13 nd13 ne13
    replace sA := sA.trans sx
    replace eA := eA.snoc sx (c := "BadPaper") hx
    replace ft := sx _ _ ft
    clear sx hx na13 nd13 ne13
    revert sA eA ft
    generalize upd (upd (upd G12 a13 (exo a13 (He.ga K "BadPaper") none)) dx13 (exd dx13 [("part", v)])) a13 (exo a13 (He.ga K "BadPaper") (some dx13)) = G13
    intro sA eA ft
    refine ⟨_, rfl, (show 1 ≤ 1000 by decide), fun a14 na14 => ⟨a14, _, _, rfl, Tx.er_BadDesk.oex, Tx.er_BadDesk.no "part" (by simp), upd_same, fun dx14 nd14 ne14 => ⟨rfl, ?_⟩⟩⟩
    obtain ⟨sx, hx⟩ := fresh1 (C := He.ga K "BadDesk") (f := "part") (v := v) na14 nd14 ne14
    replace sA := sA.trans sx
    replace eA := eA.snoc sx (c := "BadDesk") hx
    replace ft := sx _ _ ft
    clear sx hx na14 nd14 ne14
    revert sA eA ft
    generalize upd (upd (upd G13 a14 (exo a14 (He.ga K "BadDesk") none)) dx14 (exd dx14 [("part", v)])) a14 (exo a14 (He.ga K "BadDesk") (some dx14)) = G14
    intro sA eA ft
    refine ⟨_, rfl, (show 1 ≤ 1000 by decide), fun a15 na15 => ⟨a15, _, _, rfl, Tx.er_Misfit.oex, Tx.er_Misfit.no "part" (by simp), upd_same, fun dx15 nd15 ne15 => ⟨rfl, ?_⟩⟩⟩
    obtain ⟨sx, hx⟩ := fresh1 (C := He.ga K "Misfit") (f := "part") (v := v) na15 nd15 ne15
    replace sA := sA.trans sx
    replace eA := eA.snoc sx (c := "Misfit") hx
    replace ft := sx _ _ ft
    clear sx hx na15 nd15 ne15
    revert sA eA ft
    generalize upd (upd (upd G14 a15 (exo a15 (He.ga K "Misfit") none)) dx15 (exd dx15 [("part", v)])) a15 (exo a15 (He.ga K "Misfit") (some dx15)) = G15
    intro sA eA ft
    refine ⟨le_line (n := 7) (by decide), fun u nu => ?_⟩
    have sx : Same G15 (upd G15 u (.lst [.ref a9, .ref a10, .ref a11, .ref a12, .ref a13, .ref a14, .ref a15])) := same_new nu
    have nu0 : H u = none := sA.free nu
    replace sA := sA.trans sx
    replace eA := eA.same sx
    replace ft := sx _ _ ft
    have fu : upd G15 u (.lst [.ref a9, .ref a10, .ref a11, .ref a12, .ref a13, .ref a14, .ref a15]) u = some (.lst [.ref a9, .ref a10, .ref a11, .ref a12, .ref a13, .ref a14, .ref a15]) := upd_same
    clear sx
    revert sA eA ft fu
    generalize upd G15 u (.lst [.ref a9, .ref a10, .ref a11, .ref a12, .ref a13, .ref a14, .ref a15]) = G16
    intro sA eA ft fu
    refine ⟨t, u, [.ref a1, .ref a2, .ref a3, .ref a4, .ref a5, .ref a6, .ref a7], [.ref a9, .ref a10, .ref a11, .ref a12, .ref a13, .ref a14, .ref a15], rfl, rfl, ft, fu, le_line (n := 14) (by decide), fun r nr => ?_⟩
    exact q _ r [a1, a2, a3, a4, a5, a6, a7, a9, a10, a11, a12, a13, a14, a15] (sA.trans (same_new nr)) upd_same (eA.same (same_new nr))
theorem has_law_parts (Tx : Txt K mg) (c : He.SaysX fa fn [] tf ex w hh K) (X : K.In hh) (GG : hh.Ns mainGlobals mg) (h_BadKind_init : HasE P w K mg base "BadKind" 1 ["self", "part"] (sp_BadKind_init K)) (h_BadSkin_init : HasE P w K mg base "BadSkin" 1 ["self", "part"] (sp_BadSkin_init K)) (h_BadSheet_init : HasE P w K mg base "BadSheet" 1 ["self", "part"] (sp_BadSheet_init K)) (h_BadCells_init : HasE P w K mg base "BadCells" 1 ["self", "part"] (sp_BadCells_init K)) (h_BadRim_init : HasE P w K mg base "BadRim" 1 ["self", "part"] (sp_BadRim_init K)) (h_BadNesting_init : HasE P w K mg base "BadNesting" 1 ["self", "part"] (sp_BadNesting_init K)) (h_BadSaying_init : HasE P w K mg base "BadSaying" 1 ["self", "part"] (sp_BadSaying_init K)) (h_BadBook_init : HasE P w K mg base "BadBook" 1 ["self", "part"] (sp_BadBook_init K)) (h_BadBody_init : HasE P w K mg base "BadBody" 1 ["self", "part"] (sp_BadBody_init K)) (h_BadCut_init : HasE P w K mg base "BadCut" 1 ["self", "part"] (sp_BadCut_init K)) (h_BadNumber_init : HasE P w K mg base "BadNumber" 1 ["self", "part"] (sp_BadNumber_init K)) (h_BadPaper_init : HasE P w K mg base "BadPaper" 1 ["self", "part"] (sp_BadPaper_init K)) (h_BadDesk_init : HasE P w K mg base "BadDesk" 1 ["self", "part"] (sp_BadDesk_init K)) (h_Misfit_init : HasE P w K mg base "Misfit" 1 ["self", "part"] (sp_Misfit_init K))  : Has P w K mg base "_law_parts" 3 ["_law_one"] (sp_law_parts K) := by
  obtain ⟨fd, F⟩ := c.t.d.def_ 100 (d := d_law_parts) rfl
  exact ⟨_, fd, ok_law_parts F Tx h_BadKind_init h_BadSkin_init h_BadSheet_init h_BadCells_init h_BadRim_init h_BadNesting_init h_BadSaying_init h_BadBook_init h_BadBody_init h_BadCut_init h_BadNumber_init h_BadPaper_init h_BadDesk_init h_Misfit_init, He.glo_ok X GG (c.t.d.fact 81 (f := .glo "_law_parts") rfl), F.kp, F.bindsN fun _ _ _ _ _ _ us hl => match us, hl with | [_], _ => rfl⟩
def sp_law_parts_named (K : PySem.W.Frag) : Sp := fun vs H Q _ => ∃ (v : V), vs = [v] ∧ ∀ H' r es, Same H H' → H' r = some (.lst (es.map V.ref)) → ErrsAt K H' es partC "part" v → Q (.ref r) H'
theorem sc_law_parts_named : FnScope ["_law_one", "_law_made"] ["_law_one"] (defScope s_law_parts_named) := ⟨rfl, rfl, rfl, by decide +kernel, rfl, by decide +kernel, by decide +kernel⟩
theorem ok_law_parts_named {f : Addr} {fd : FuncData} (F : FunD K "_law_parts_named" "_law_parts_named" (defArgs s_law_parts_named) (defBody s_law_parts_named) (defScope s_law_parts_named) [] [] f fd) (Tx : Txt K mg) (h_BadKind_init : HasE P w K mg base "BadKind" 1 ["self", "part"] (sp_BadKind_init K)) (h_BadSkin_init : HasE P w K mg base "BadSkin" 1 ["self", "part"] (sp_BadSkin_init K)) (h_BadSheet_init : HasE P w K mg base "BadSheet" 1 ["self", "part"] (sp_BadSheet_init K)) (h_BadCells_init : HasE P w K mg base "BadCells" 1 ["self", "part"] (sp_BadCells_init K)) (h_BadRim_init : HasE P w K mg base "BadRim" 1 ["self", "part"] (sp_BadRim_init K)) (h_BadNesting_init : HasE P w K mg base "BadNesting" 1 ["self", "part"] (sp_BadNesting_init K)) (h_BadSaying_init : HasE P w K mg base "BadSaying" 1 ["self", "part"] (sp_BadSaying_init K)) (h_BadBook_init : HasE P w K mg base "BadBook" 1 ["self", "part"] (sp_BadBook_init K)) (h_BadBody_init : HasE P w K mg base "BadBody" 1 ["self", "part"] (sp_BadBody_init K)) (h_BadCut_init : HasE P w K mg base "BadCut" 1 ["self", "part"] (sp_BadCut_init K)) (h_BadNumber_init : HasE P w K mg base "BadNumber" 1 ["self", "part"] (sp_BadNumber_init K)) (h_BadPaper_init : HasE P w K mg base "BadPaper" 1 ["self", "part"] (sp_BadPaper_init K)) (h_BadDesk_init : HasE P w K mg base "BadDesk" 1 ["self", "part"] (sp_BadDesk_init K)) (h_Misfit_init : HasE P w K mg base "Misfit" 1 ["self", "part"] (sp_Misfit_init K))  : FnOk P w K mg base CX0 3 f fd ["_law_one"] (sp_law_parts_named K) := by
  obtain ⟨fd_BadKind_init, G_BadKind_init, b_BadKind_init, kb_BadKind_init, ks_BadKind_init⟩ := h_BadKind_init
  obtain ⟨fd_BadSkin_init, G_BadSkin_init, b_BadSkin_init, kb_BadSkin_init, ks_BadSkin_init⟩ := h_BadSkin_init
  obtain ⟨fd_BadSheet_init, G_BadSheet_init, b_BadSheet_init, kb_BadSheet_init, ks_BadSheet_init⟩ := h_BadSheet_init
  obtain ⟨fd_BadCells_init, G_BadCells_init, b_BadCells_init, kb_BadCells_init, ks_BadCells_init⟩ := h_BadCells_init
  obtain ⟨fd_BadRim_init, G_BadRim_init, b_BadRim_init, kb_BadRim_init, ks_BadRim_init⟩ := h_BadRim_init
  obtain ⟨fd_BadNesting_init, G_BadNesting_init, b_BadNesting_init, kb_BadNesting_init, ks_BadNesting_init⟩ := h_BadNesting_init
  obtain ⟨fd_BadSaying_init, G_BadSaying_init, b_BadSaying_init, kb_BadSaying_init, ks_BadSaying_init⟩ := h_BadSaying_init
  obtain ⟨fd_BadBook_init, G_BadBook_init, b_BadBook_init, kb_BadBook_init, ks_BadBook_init⟩ := h_BadBook_init
  obtain ⟨fd_BadBody_init, G_BadBody_init, b_BadBody_init, kb_BadBody_init, ks_BadBody_init⟩ := h_BadBody_init
  obtain ⟨fd_BadCut_init, G_BadCut_init, b_BadCut_init, kb_BadCut_init, ks_BadCut_init⟩ := h_BadCut_init
  obtain ⟨fd_BadNumber_init, G_BadNumber_init, b_BadNumber_init, kb_BadNumber_init, ks_BadNumber_init⟩ := h_BadNumber_init
  obtain ⟨fd_BadPaper_init, G_BadPaper_init, b_BadPaper_init, kb_BadPaper_init, ks_BadPaper_init⟩ := h_BadPaper_init
  obtain ⟨fd_BadDesk_init, G_BadDesk_init, b_BadDesk_init, kb_BadDesk_init, ks_BadDesk_init⟩ := h_BadDesk_init
  obtain ⟨fd_Misfit_init, G_Misfit_init, b_Misfit_init, kb_Misfit_init, ks_Misfit_init⟩ := h_Misfit_init
  refine FunD.ok F sc_law_parts_named (fun vs H Q E h => ?_) (fun cdv A outer s H vs Q E hr h => ?_)
  · obtain ⟨v, rfl, _⟩ := h
    rfl
  · obtain ⟨v, rfl, q⟩ := h
    refine ⟨_, PSs.nox (pss_cons (ps_set (i := 1) sc_law_parts_named.nd rfl (Or.inl rfl) (pe_lst (pa_cons (pe_exK Tx.er_BadKind.oex Tx.er_BadKind.ini Tx.er_BadKind.fn G_BadKind_init (hr.mono (by decide)) kb_BadKind_init pass0 (by rfl) Tx.g_BadKind (pk_cons (pv 0) pk_nil) (fun _ _ => ⟨_, fun _ => rfl⟩)) (pa_cons (pe_exK Tx.er_BadSkin.oex Tx.er_BadSkin.ini Tx.er_BadSkin.fn G_BadSkin_init (hr.mono (by decide)) kb_BadSkin_init pass0 (by rfl) Tx.g_BadSkin (pk_cons (pv 0) pk_nil) (fun _ _ => ⟨_, fun _ => rfl⟩)) (pa_cons (pe_exK Tx.er_BadSheet.oex Tx.er_BadSheet.ini Tx.er_BadSheet.fn G_BadSheet_init (hr.mono (by decide)) kb_BadSheet_init pass0 (by rfl) Tx.g_BadSheet (pk_cons (pv 0) pk_nil) (fun _ _ => ⟨_, fun _ => rfl⟩)) (pa_cons (pe_exK Tx.er_BadCells.oex Tx.er_BadCells.ini Tx.er_BadCells.fn G_BadCells_init (hr.mono (by decide)) kb_BadCells_init pass0 (by rfl) Tx.g_BadCells (pk_cons (pv 0) pk_nil) (fun _ _ => ⟨_, fun _ => rfl⟩)) (pa_cons (pe_exK Tx.er_BadRim.oex Tx.er_BadRim.ini Tx.er_BadRim.fn G_BadRim_init (hr.mono (by decide)) kb_BadRim_init pass0 (by rfl) Tx.g_BadRim (pk_cons (pv 0) pk_nil) (fun _ _ => ⟨_, fun _ => rfl⟩)) pa_nil)))))))
        (pss_cons (ps_expr (pe_bm PySem.F.plainAttrs_list PySem.F.slot_list_extend PySem.F.type_list_extend mt_extend (pv 1) (pa_cons (pe_lst (pa_cons (pe_exK Tx.er_BadNesting.oex Tx.er_BadNesting.ini Tx.er_BadNesting.fn G_BadNesting_init (hr.mono (by decide)) kb_BadNesting_init pass0 (by rfl) Tx.g_BadNesting (pk_cons (pv 0) pk_nil) (fun _ _ => ⟨_, fun _ => rfl⟩)) (pa_cons (pe_exK Tx.er_BadSaying.oex Tx.er_BadSaying.ini Tx.er_BadSaying.fn G_BadSaying_init (hr.mono (by decide)) kb_BadSaying_init pass0 (by rfl) Tx.g_BadSaying (pk_cons (pv 0) pk_nil) (fun _ _ => ⟨_, fun _ => rfl⟩)) (pa_cons (pe_exK Tx.er_BadBook.oex Tx.er_BadBook.ini Tx.er_BadBook.fn G_BadBook_init (hr.mono (by decide)) kb_BadBook_init pass0 (by rfl) Tx.g_BadBook (pk_cons (pv 0) pk_nil) (fun _ _ => ⟨_, fun _ => rfl⟩)) (pa_cons (pe_exK Tx.er_BadBody.oex Tx.er_BadBody.ini Tx.er_BadBody.fn G_BadBody_init (hr.mono (by decide)) kb_BadBody_init pass0 (by rfl) Tx.g_BadBody (pk_cons (pv 0) pk_nil) (fun _ _ => ⟨_, fun _ => rfl⟩)) (pa_cons (pe_exK Tx.er_BadCut.oex Tx.er_BadCut.ini Tx.er_BadCut.fn G_BadCut_init (hr.mono (by decide)) kb_BadCut_init pass0 (by rfl) Tx.g_BadCut (pk_cons (pv 0) pk_nil) (fun _ _ => ⟨_, fun _ => rfl⟩)) pa_nil)))))) pa_nil)))
        (pss_one (ps_ret (pe_op op_cat (pv 1) (pe_lst (pa_cons (pe_exK Tx.er_BadNumber.oex Tx.er_BadNumber.ini Tx.er_BadNumber.fn G_BadNumber_init (hr.mono (by decide)) kb_BadNumber_init pass0 (by rfl) Tx.g_BadNumber (pk_cons (pv 0) pk_nil) (fun _ _ => ⟨_, fun _ => rfl⟩)) (pa_cons (pe_exK Tx.er_BadPaper.oex Tx.er_BadPaper.ini Tx.er_BadPaper.fn G_BadPaper_init (hr.mono (by decide)) kb_BadPaper_init pass0 (by rfl) Tx.g_BadPaper (pk_cons (pv 0) pk_nil) (fun _ _ => ⟨_, fun _ => rfl⟩)) (pa_cons (pe_exK Tx.er_BadDesk.oex Tx.er_BadDesk.ini Tx.er_BadDesk.fn G_BadDesk_init (hr.mono (by decide)) kb_BadDesk_init pass0 (by rfl) Tx.g_BadDesk (pk_cons (pv 0) pk_nil) (fun _ _ => ⟨_, fun _ => rfl⟩)) (pa_cons (pe_exK Tx.er_Misfit.oex Tx.er_Misfit.ini Tx.er_Misfit.fn G_Misfit_init (hr.mono (by decide)) kb_Misfit_init pass0 (by rfl) Tx.g_Misfit (pk_cons (pv 0) pk_nil) (fun _ _ => ⟨_, fun _ => rfl⟩)) pa_nil)))))))))), ?_⟩
    have sA : Same H H := Same.refl H
    have eA : ErrsAt K H [] [] "part" v := ErrsAt.nil
    refine ⟨_, rfl, rfl, fun a1 na1 => ⟨a1, _, _, rfl, Tx.er_BadKind.oex, Tx.er_BadKind.no "part" (by simp), upd_same, fun dx1 nd1 ne1 => ⟨rfl, ?_⟩⟩⟩
    obtain ⟨sx, hx⟩ := fresh1 (C := He.ga K "BadKind") (f := "part") (v := v) na1 nd1 ne1
    replace sA := sA.trans sx
    replace eA := eA.snoc sx (c := "BadKind") hx
    clear sx hx na1 nd1 ne1
    revert sA eA
    generalize upd (upd (upd H a1 (exo a1 (He.ga K "BadKind") none)) dx1 (exd dx1 [("part", v)])) a1 (exo a1 (He.ga K "BadKind") (some dx1)) = G1
    intro sA eA
    refine ⟨_, rfl, rfl, fun a2 na2 => ⟨a2, _, _, rfl, Tx.er_BadSkin.oex, Tx.er_BadSkin.no "part" (by simp), upd_same, fun dx2 nd2 ne2 => ⟨rfl, ?_⟩⟩⟩
    obtain ⟨sx, hx⟩ := fresh1 (C := He.ga K "BadSkin") (f := "part") (v := v) na2 nd2 ne2
    replace sA := sA.trans sx
    replace eA := eA.snoc sx (c := "BadSkin") hx
    clear sx hx na2 nd2 ne2
    revert sA eA
    generalize upd (upd (upd G1 a2 (exo a2 (He.ga K "BadSkin") none)) dx2 (exd dx2 [("part", v)])) a2 (exo a2 (He.ga K "BadSkin") (some dx2)) = G2
    intro sA eA
    refine ⟨_, rfl, rfl, fun a3 na3 => ⟨a3, _, _, rfl, Tx.er_BadSheet.oex, Tx.er_BadSheet.no "part" (by simp), upd_same, fun dx3 nd3 ne3 => ⟨rfl, ?_⟩⟩⟩
    obtain ⟨sx, hx⟩ := fresh1 (C := He.ga K "BadSheet") (f := "part") (v := v) na3 nd3 ne3
    replace sA := sA.trans sx
    replace eA := eA.snoc sx (c := "BadSheet") hx
    clear sx hx na3 nd3 ne3
    revert sA eA
    generalize upd (upd (upd G2 a3 (exo a3 (He.ga K "BadSheet") none)) dx3 (exd dx3 [("part", v)])) a3 (exo a3 (He.ga K "BadSheet") (some dx3)) = G3
    intro sA eA
    refine ⟨_, rfl, rfl, fun a4 na4 => ⟨a4, _, _, rfl, Tx.er_BadCells.oex, Tx.er_BadCells.no "part" (by simp), upd_same, fun dx4 nd4 ne4 => ⟨rfl, ?_⟩⟩⟩
    obtain ⟨sx, hx⟩ := fresh1 (C := He.ga K "BadCells") (f := "part") (v := v) na4 nd4 ne4
    replace sA := sA.trans sx
    replace eA := eA.snoc sx (c := "BadCells") hx
    clear sx hx na4 nd4 ne4
    revert sA eA
    generalize upd (upd (upd G3 a4 (exo a4 (He.ga K "BadCells") none)) dx4 (exd dx4 [("part", v)])) a4 (exo a4 (He.ga K "BadCells") (some dx4)) = G4
    intro sA eA
    refine ⟨_, rfl, rfl, fun a5 na5 => ⟨a5, _, _, rfl, Tx.er_BadRim.oex, Tx.er_BadRim.no "part" (by simp), upd_same, fun dx5 nd5 ne5 => ⟨rfl, ?_⟩⟩⟩
    obtain ⟨sx, hx⟩ := fresh1 (C := He.ga K "BadRim") (f := "part") (v := v) na5 nd5 ne5
    replace sA := sA.trans sx
    replace eA := eA.snoc sx (c := "BadRim") hx
    clear sx hx na5 nd5 ne5
    revert sA eA
    generalize upd (upd (upd G4 a5 (exo a5 (He.ga K "BadRim") none)) dx5 (exd dx5 [("part", v)])) a5 (exo a5 (He.ga K "BadRim") (some dx5)) = G5
    intro sA eA
    refine ⟨le_line (n := 5) (by decide), fun t nt => ?_⟩
    have sx : Same G5 (upd G5 t (.lst [.ref a1, .ref a2, .ref a3, .ref a4, .ref a5])) := same_new nt
    have nt0 : H t = none := sA.free nt
    replace sA := sA.trans sx
    replace eA := eA.same sx
    have ft : upd G5 t (.lst [.ref a1, .ref a2, .ref a3, .ref a4, .ref a5]) t = some (.lst [.ref a1, .ref a2, .ref a3, .ref a4, .ref a5]) := upd_same
    clear sx
    revert sA eA ft
    generalize upd G5 t (.lst [.ref a1, .ref a2, .ref a3, .ref a4, .ref a5]) = G6
    intro sA eA ft
    refine ⟨_, rfl, .inl ⟨rfl, _, SqL.of ft⟩, ?_⟩
    refine ⟨_, rfl, rfl, fun a7 na7 => ⟨a7, _, _, rfl, Tx.er_BadNesting.oex, Tx.er_BadNesting.no "part" (by simp), upd_same, fun dx7 nd7 ne7 => ⟨rfl, ?_⟩⟩⟩
    obtain ⟨sx, hx⟩ := fresh1 (C := He.ga K "BadNesting") (f := "part") (v := v) na7 nd7 ne7
    replace sA := sA.trans sx
    replace eA := eA.snoc sx (c := "BadNesting") hx
    replace ft := sx _ _ ft
    clear sx hx na7 nd7 ne7
    revert sA eA ft
    generalize upd (upd (upd G6 a7 (exo a7 (He.ga K "BadNesting") none)) dx7 (exd dx7 [("part", v)])) a7 (exo a7 (He.ga K "BadNesting") (some dx7)) = G7
    intro sA eA ft
    refine ⟨_, rfl, rfl, fun a8 na8 => ⟨a8, _, _, rfl, Tx.er_BadSaying.oex, Tx.er_BadSaying.no "part" (by simp), upd_same, fun dx8 nd8 ne8 => ⟨rfl, ?_⟩⟩⟩
    obtain ⟨sx, hx⟩ := fresh1 (C := He.ga K "BadSaying") (f := "part") (v := v) na8 nd8 ne8
    replace sA := sA.trans sx
    replace eA := eA.snoc sx (c := "BadSaying") hx
    replace ft := sx _ _ ft
    clear sx hx na8 nd8 ne8
    revert sA eA ft
    generalize upd (upd (upd G7 a8 (exo a8 (He.ga K "BadSaying") none)) dx8 (exd dx8 [("part", v)])) a8 (exo a8 (He.ga K "BadSaying") (some dx8)) = G8
    intro sA eA ft
    refine ⟨_, rfl, rfl, fun a9 na9 => ⟨a9, _, _, rfl, Tx.er_BadBook.oex, Tx.er_BadBook.no "part" (by simp), upd_same, fun dx9 nd9 ne9 => ⟨rfl, ?_⟩⟩⟩
    obtain ⟨sx, hx⟩ := fresh1 (C := He.ga K "BadBook") (f := "part") (v := v) na9 nd9 ne9
    replace sA := sA.trans sx
    replace eA := eA.snoc sx (c := "BadBook") hx
    replace ft := sx _ _ ft
    clear sx hx na9 nd9 ne9
    revert sA eA ft
    generalize upd (upd (upd G8 a9 (exo a9 (He.ga K "BadBook") none)) dx9 (exd dx9 [("part", v)])) a9 (exo a9 (He.ga K "BadBook") (some dx9)) = G9
    intro sA eA ft
    refine ⟨_, rfl, rfl, fun a10 na10 => ⟨a10, _, _, rfl, Tx.er_BadBody.oex, Tx.er_BadBody.no "part" (by simp), upd_same, fun dx10 nd10 ne10 => ⟨rfl, ?_⟩⟩⟩
    obtain ⟨sx, hx⟩ := fresh1 (C := He.ga K "BadBody") (f := "part") (v := v) na10 nd10 ne10
    replace sA := sA.trans sx
    replace eA := eA.snoc sx (c := "BadBody") hx
    replace ft := sx _ _ ft
    clear sx hx na10 nd10 ne10
    revert sA eA ft
    generalize upd (upd (upd G9 a10 (exo a10 (He.ga K "BadBody") none)) dx10 (exd dx10 [("part", v)])) a10 (exo a10 (He.ga K "BadBody") (some dx10)) = G10
    intro sA eA ft
    refine ⟨_, rfl, rfl, fun a11 na11 => ⟨a11, _, _, rfl, Tx.er_BadCut.oex, Tx.er_BadCut.no "part" (by simp), upd_same, fun dx11 nd11 ne11 => ⟨rfl, ?_⟩⟩⟩
    obtain ⟨sx, hx⟩ := fresh1 (C := He.ga K "BadCut") (f := "part") (v := v) na11 nd11 ne11
    replace sA := sA.trans sx
    replace eA := eA.snoc sx (c := "BadCut") hx
    replace ft := sx _ _ ft
    clear sx hx na11 nd11 ne11
    revert sA eA ft
    generalize upd (upd (upd G10 a11 (exo a11 (He.ga K "BadCut") none)) dx11 (exd dx11 [("part", v)])) a11 (exo a11 (He.ga K "BadCut") (some dx11)) = G11
    intro sA eA ft
    refine ⟨le_line (n := 5) (by decide), fun u5 nu5 => ?_⟩
    have sx : Same G11 (upd G11 u5 (.lst [.ref a7, .ref a8, .ref a9, .ref a10, .ref a11])) := same_new nu5
    have nu50 : H u5 = none := sA.free nu5
    replace sA := sA.trans sx
    replace eA := eA.same sx
    replace ft := sx _ _ ft
    have fu5 : upd G11 u5 (.lst [.ref a7, .ref a8, .ref a9, .ref a10, .ref a11]) u5 = some (.lst [.ref a7, .ref a8, .ref a9, .ref a10, .ref a11]) := upd_same
    clear sx
    revert sA eA ft fu5
    generalize upd G11 u5 (.lst [.ref a7, .ref a8, .ref a9, .ref a10, .ref a11]) = G12
    intro sA eA ft fu5
    refine ⟨t, u5, [.ref a1, .ref a2, .ref a3, .ref a4, .ref a5], [.ref a7, .ref a8, .ref a9, .ref a10, .ref a11], rfl, rfl, ft, fu5, le_line (n := 10) (by decide), ?_⟩
    replace sA : Same H (upd G12 t (.lst ([.ref a1, .ref a2, .ref a3, .ref a4, .ref a5] ++ [.ref a7, .ref a8, .ref a9, .ref a10, .ref a11]))) := Same.mut sA nt0
    replace eA := eA.mutL ft (o := .lst ([.ref a1, .ref a2, .ref a3, .ref a4, .ref a5] ++ [.ref a7, .ref a8, .ref a9, .ref a10, .ref a11]))
    replace ft : (upd G12 t (.lst ([.ref a1, .ref a2, .ref a3, .ref a4, .ref a5] ++ [.ref a7, .ref a8, .ref a9, .ref a10, .ref a11]))) t = some (.lst [.ref a1, .ref a2, .ref a3, .ref a4, .ref a5, .ref a7, .ref a8, .ref a9, .ref a10, .ref a11]) := upd_same
    clear fu5
    revert sA eA ft
    generalize upd G12 t (.lst ([.ref a1, .ref a2, .ref a3, .ref a4, .ref a5] ++ [.ref a7, .ref a8, .ref a9, .ref a10, .ref a11])) = G13
    intro sA eA ft
    refine ⟨_, rfl, ?_⟩
    refine ⟨_, rfl, rfl, fun a14 na14 => ⟨a14, _, _, rfl, Tx.er_BadNumber.oex, Tx.er_BadNumber.no "part" (by simp), upd_same, fun dx14 nd14 ne14 => ⟨rfl, ?_⟩⟩⟩
    obtain ⟨sx, hx⟩ := fresh1 (C := He.ga K "BadNumber") (f := "part") (v := v) na14 nd14 ne14
    replace sA := sA.trans sx
    replace eA := eA.snoc sx (c := "BadNumber") hx
    replace ft := sx _ _ ft
    clear sx hx na14 nd14 ne14
    revert sA eA ft
    generalize upd (upd (upd G13 a14 (exo a14 (He.ga K "BadNumber") none)) dx14 (exd dx14 [("part", v)])) a14 (exo a14 (He.ga K "BadNumber") (some dx14)) = G14
    intro sA eA ft
    refine ⟨_, rfl, rfl, fun a15 na15 => ⟨a15, _, _, rfl, Tx.er_BadPaper.oex, Tx.er_BadPaper.no "part" (by simp), upd_same, fun dx15 nd15 ne15 => ⟨rfl, ?_⟩⟩⟩
    obtain ⟨sx, hx⟩ := fresh1 (C := He.ga K "BadPaper") (f := "part") (v := v) na15 nd15 ne15
    replace sA := sA.trans sx
    replace eA := eA.snoc sx (c := "BadPaper") hx
    replace ft := sx _ _ ft
    clear sx hx na15 nd15 ne15
    revert sA eA ft
    generalize upd (upd (upd G14 a15 (exo a15 (He.ga K "BadPaper") none)) dx15 (exd dx15 [("part", v)])) a15 (exo a15 (He.ga K "BadPaper") (some dx15)) = G15
    intro sA eA ft
    refine ⟨_, rfl, rfl, fun a16 na16 => ⟨a16, _, _, rfl, Tx.er_BadDesk.oex, Tx.er_BadDesk.no "part" (by simp), upd_same, fun dx16 nd16 ne16 => ⟨rfl, ?_⟩⟩⟩
    obtain ⟨sx, hx⟩ := fresh1 (C := He.ga K "BadDesk") (f := "part") (v := v) na16 nd16 ne16
    replace sA := sA.trans sx
    replace eA := eA.snoc sx (c := "BadDesk") hx
    replace ft := sx _ _ ft
    clear sx hx na16 nd16 ne16
    revert sA eA ft
    generalize upd (upd (upd G15 a16 (exo a16 (He.ga K "BadDesk") none)) dx16 (exd dx16 [("part", v)])) a16 (exo a16 (He.ga K "BadDesk") (some dx16)) = G16
    intro sA eA ft
    refine ⟨_, rfl, rfl, fun a17 na17 => ⟨a17, _, _, rfl, Tx.er_Misfit.oex, Tx.er_Misfit.no "part" (by simp), upd_same, fun dx17 nd17 ne17 => ⟨rfl, ?_⟩⟩⟩
    obtain ⟨sx, hx⟩ := fresh1 (C := He.ga K "Misfit") (f := "part") (v := v) na17 nd17 ne17
    replace sA := sA.trans sx
    replace eA := eA.snoc sx (c := "Misfit") hx
    replace ft := sx _ _ ft
    clear sx hx na17 nd17 ne17
    revert sA eA ft
    generalize upd (upd (upd G16 a17 (exo a17 (He.ga K "Misfit") none)) dx17 (exd dx17 [("part", v)])) a17 (exo a17 (He.ga K "Misfit") (some dx17)) = G17
    intro sA eA ft
    refine ⟨le_line (n := 4) (by decide), fun u nu => ?_⟩
    have sx : Same G17 (upd G17 u (.lst [.ref a14, .ref a15, .ref a16, .ref a17])) := same_new nu
    have nu0 : H u = none := sA.free nu
    replace sA := sA.trans sx
    replace eA := eA.same sx
    replace ft := sx _ _ ft
    have fu : upd G17 u (.lst [.ref a14, .ref a15, .ref a16, .ref a17]) u = some (.lst [.ref a14, .ref a15, .ref a16, .ref a17]) := upd_same
    clear sx
    revert sA eA ft fu
    generalize upd G17 u (.lst [.ref a14, .ref a15, .ref a16, .ref a17]) = G18
    intro sA eA ft fu
    refine ⟨t, u, [.ref a1, .ref a2, .ref a3, .ref a4, .ref a5, .ref a7, .ref a8, .ref a9, .ref a10, .ref a11], [.ref a14, .ref a15, .ref a16, .ref a17], rfl, rfl, ft, fu, le_line (n := 14) (by decide), fun r nr => ?_⟩
    exact q _ r [a1, a2, a3, a4, a5, a7, a8, a9, a10, a11, a14, a15, a16, a17] (sA.trans (same_new nr)) upd_same (eA.same (same_new nr))
theorem has_law_parts_named (Tx : Txt K mg) (c : He.SaysX fa fn [] tf ex w hh K) (X : K.In hh) (GG : hh.Ns mainGlobals mg) (h_BadKind_init : HasE P w K mg base "BadKind" 1 ["self", "part"] (sp_BadKind_init K)) (h_BadSkin_init : HasE P w K mg base "BadSkin" 1 ["self", "part"] (sp_BadSkin_init K)) (h_BadSheet_init : HasE P w K mg base "BadSheet" 1 ["self", "part"] (sp_BadSheet_init K)) (h_BadCells_init : HasE P w K mg base "BadCells" 1 ["self", "part"] (sp_BadCells_init K)) (h_BadRim_init : HasE P w K mg base "BadRim" 1 ["self", "part"] (sp_BadRim_init K)) (h_BadNesting_init : HasE P w K mg base "BadNesting" 1 ["self", "part"] (sp_BadNesting_init K)) (h_BadSaying_init : HasE P w K mg base "BadSaying" 1 ["self", "part"] (sp_BadSaying_init K)) (h_BadBook_init : HasE P w K mg base "BadBook" 1 ["self", "part"] (sp_BadBook_init K)) (h_BadBody_init : HasE P w K mg base "BadBody" 1 ["self", "part"] (sp_BadBody_init K)) (h_BadCut_init : HasE P w K mg base "BadCut" 1 ["self", "part"] (sp_BadCut_init K)) (h_BadNumber_init : HasE P w K mg base "BadNumber" 1 ["self", "part"] (sp_BadNumber_init K)) (h_BadPaper_init : HasE P w K mg base "BadPaper" 1 ["self", "part"] (sp_BadPaper_init K)) (h_BadDesk_init : HasE P w K mg base "BadDesk" 1 ["self", "part"] (sp_BadDesk_init K)) (h_Misfit_init : HasE P w K mg base "Misfit" 1 ["self", "part"] (sp_Misfit_init K))  : Has P w K mg base "_law_parts_named" 3 ["_law_one"] (sp_law_parts_named K) := by
  obtain ⟨fd, F⟩ := c.t.d.def_ 101 (d := d_law_parts_named) rfl
  exact ⟨_, fd, ok_law_parts_named F Tx h_BadKind_init h_BadSkin_init h_BadSheet_init h_BadCells_init h_BadRim_init h_BadNesting_init h_BadSaying_init h_BadBook_init h_BadBody_init h_BadCut_init h_BadNumber_init h_BadPaper_init h_BadDesk_init h_Misfit_init, He.glo_ok X GG (c.t.d.fact 82 (f := .glo "_law_parts_named") rfl), F.kp, F.bindsN fun _ _ _ _ _ _ us hl => match us, hl with | [_], _ => rfl⟩
def sp_law_values (K : PySem.W.Frag) : Sp := fun vs H Q _ => ∃ (v : V), vs = [v] ∧ ∀ H' r es, Same H H' → H' r = some (.lst (es.map V.ref)) → ErrsAt K H' es valC "value" v → Q (.ref r) H'
theorem sc_law_values : FnScope ["_law_one", "_law_made"] ["_law_one"] (defScope s_law_values) := ⟨rfl, rfl, rfl, by decide +kernel, rfl, by decide +kernel, by decide +kernel⟩
theorem ok_law_values {f : Addr} {fd : FuncData} (F : FunD K "_law_values" "_law_values" (defArgs s_law_values) (defBody s_law_values) (defScope s_law_values) [] [] f fd) (Tx : Txt K mg) (h_Missing_init : HasE P w K mg base "Missing" 1 ["self", "value"] (sp_Missing_init K)) (h_Twice_init : HasE P w K mg base "Twice" 1 ["self", "value"] (sp_Twice_init K))  : FnOk P w K mg base CX0 3 f fd ["_law_one"] (sp_law_values K) := by
  obtain ⟨fd_Missing_init, G_Missing_init, b_Missing_init, kb_Missing_init, ks_Missing_init⟩ := h_Missing_init
  obtain ⟨fd_Twice_init, G_Twice_init, b_Twice_init, kb_Twice_init, ks_Twice_init⟩ := h_Twice_init
  refine FunD.ok F sc_law_values (fun vs H Q E h => ?_) (fun cdv A outer s H vs Q E hr h => ?_)
  · obtain ⟨v, rfl, _⟩ := h
    rfl
  · obtain ⟨v, rfl, q⟩ := h
    refine ⟨_, PSs.nox (pss_cons (ps_set (i := 1) sc_law_values.nd rfl (Or.inl rfl) (pe_lst (pa_cons (pe_exV Tx.er_NoSide.oex (ini_NoSide Tx) Tx.er_Missing.fn G_Missing_init (hr.mono (by decide)) b_Missing_init pass0 (by rfl) Tx.g_NoSide (pa_cons (pv 0) pa_nil)) (pa_cons (pe_exV Tx.er_NoFace.oex (ini_NoFace Tx) Tx.er_Missing.fn G_Missing_init (hr.mono (by decide)) b_Missing_init pass0 (by rfl) Tx.g_NoFace (pa_cons (pv 0) pa_nil)) (pa_cons (pe_exV Tx.er_NoEdge.oex (ini_NoEdge Tx) Tx.er_Missing.fn G_Missing_init (hr.mono (by decide)) b_Missing_init pass0 (by rfl) Tx.g_NoEdge (pa_cons (pv 0) pa_nil)) (pa_cons (pe_exV Tx.er_NoCorner.oex (ini_NoCorner Tx) Tx.er_Missing.fn G_Missing_init (hr.mono (by decide)) b_Missing_init pass0 (by rfl) Tx.g_NoCorner (pa_cons (pv 0) pa_nil)) (pa_cons (pe_exV Tx.er_NoPlace.oex (ini_NoPlace Tx) Tx.er_Missing.fn G_Missing_init (hr.mono (by decide)) b_Missing_init pass0 (by rfl) Tx.g_NoPlace (pa_cons (pv 0) pa_nil)) (pa_cons (pe_exV Tx.er_NoFact.oex (ini_NoFact Tx) Tx.er_Missing.fn G_Missing_init (hr.mono (by decide)) b_Missing_init pass0 (by rfl) Tx.g_NoFact (pa_cons (pv 0) pa_nil)) (pa_cons (pe_exV Tx.er_NoName.oex (ini_NoName Tx) Tx.er_Missing.fn G_Missing_init (hr.mono (by decide)) b_Missing_init pass0 (by rfl) Tx.g_NoName (pa_cons (pv 0) pa_nil)) (pa_cons (pe_exV Tx.er_Missing.oex Tx.er_Missing.ini Tx.er_Missing.fn G_Missing_init (hr.mono (by decide)) b_Missing_init pass0 (by rfl) Tx.g_Missing (pa_cons (pv 0) pa_nil)) pa_nil))))))))))
        (pss_one (ps_ret (pe_op op_cat (pv 1) (pe_lst (pa_cons (pe_exV Tx.er_Twice.oex Tx.er_Twice.ini Tx.er_Twice.fn G_Twice_init (hr.mono (by decide)) b_Twice_init pass0 (by rfl) Tx.g_Twice (pa_cons (pv 0) pa_nil)) pa_nil)))))), ?_⟩
    have sA : Same H H := Same.refl H
    have eA : ErrsAt K H [] [] "value" v := ErrsAt.nil
    refine ⟨_, rfl, (show 1 ≤ 1000 by decide), fun a1 na1 => ⟨a1, _, _, rfl, Tx.er_NoSide.oex, Tx.er_NoSide.no "value" (by simp), upd_same, fun dx1 nd1 ne1 => ⟨rfl, ?_⟩⟩⟩
    obtain ⟨sx, hx⟩ := fresh1 (C := He.ga K "NoSide") (f := "value") (v := v) na1 nd1 ne1
    replace sA := sA.trans sx
    replace eA := eA.snoc sx (c := "NoSide") hx
    clear sx hx na1 nd1 ne1
    revert sA eA
    generalize upd (upd (upd H a1 (exo a1 (He.ga K "NoSide") none)) dx1 (exd dx1 [("value", v)])) a1 (exo a1 (He.ga K "NoSide") (some dx1)) = G1
    intro sA eA
    refine ⟨_, rfl, (show 1 ≤ 1000 by decide), fun a2 na2 => ⟨a2, _, _, rfl, Tx.er_NoFace.oex, Tx.er_NoFace.no "value" (by simp), upd_same, fun dx2 nd2 ne2 => ⟨rfl, ?_⟩⟩⟩
    obtain ⟨sx, hx⟩ := fresh1 (C := He.ga K "NoFace") (f := "value") (v := v) na2 nd2 ne2
    replace sA := sA.trans sx
    replace eA := eA.snoc sx (c := "NoFace") hx
    clear sx hx na2 nd2 ne2
    revert sA eA
    generalize upd (upd (upd G1 a2 (exo a2 (He.ga K "NoFace") none)) dx2 (exd dx2 [("value", v)])) a2 (exo a2 (He.ga K "NoFace") (some dx2)) = G2
    intro sA eA
    refine ⟨_, rfl, (show 1 ≤ 1000 by decide), fun a3 na3 => ⟨a3, _, _, rfl, Tx.er_NoEdge.oex, Tx.er_NoEdge.no "value" (by simp), upd_same, fun dx3 nd3 ne3 => ⟨rfl, ?_⟩⟩⟩
    obtain ⟨sx, hx⟩ := fresh1 (C := He.ga K "NoEdge") (f := "value") (v := v) na3 nd3 ne3
    replace sA := sA.trans sx
    replace eA := eA.snoc sx (c := "NoEdge") hx
    clear sx hx na3 nd3 ne3
    revert sA eA
    generalize upd (upd (upd G2 a3 (exo a3 (He.ga K "NoEdge") none)) dx3 (exd dx3 [("value", v)])) a3 (exo a3 (He.ga K "NoEdge") (some dx3)) = G3
    intro sA eA
    refine ⟨_, rfl, (show 1 ≤ 1000 by decide), fun a4 na4 => ⟨a4, _, _, rfl, Tx.er_NoCorner.oex, Tx.er_NoCorner.no "value" (by simp), upd_same, fun dx4 nd4 ne4 => ⟨rfl, ?_⟩⟩⟩
    obtain ⟨sx, hx⟩ := fresh1 (C := He.ga K "NoCorner") (f := "value") (v := v) na4 nd4 ne4
    replace sA := sA.trans sx
    replace eA := eA.snoc sx (c := "NoCorner") hx
    clear sx hx na4 nd4 ne4
    revert sA eA
    generalize upd (upd (upd G3 a4 (exo a4 (He.ga K "NoCorner") none)) dx4 (exd dx4 [("value", v)])) a4 (exo a4 (He.ga K "NoCorner") (some dx4)) = G4
    intro sA eA
    refine ⟨_, rfl, (show 1 ≤ 1000 by decide), fun a5 na5 => ⟨a5, _, _, rfl, Tx.er_NoPlace.oex, Tx.er_NoPlace.no "value" (by simp), upd_same, fun dx5 nd5 ne5 => ⟨rfl, ?_⟩⟩⟩
    obtain ⟨sx, hx⟩ := fresh1 (C := He.ga K "NoPlace") (f := "value") (v := v) na5 nd5 ne5
    replace sA := sA.trans sx
    replace eA := eA.snoc sx (c := "NoPlace") hx
    clear sx hx na5 nd5 ne5
    revert sA eA
    generalize upd (upd (upd G4 a5 (exo a5 (He.ga K "NoPlace") none)) dx5 (exd dx5 [("value", v)])) a5 (exo a5 (He.ga K "NoPlace") (some dx5)) = G5
    intro sA eA
    refine ⟨_, rfl, (show 1 ≤ 1000 by decide), fun a6 na6 => ⟨a6, _, _, rfl, Tx.er_NoFact.oex, Tx.er_NoFact.no "value" (by simp), upd_same, fun dx6 nd6 ne6 => ⟨rfl, ?_⟩⟩⟩
    obtain ⟨sx, hx⟩ := fresh1 (C := He.ga K "NoFact") (f := "value") (v := v) na6 nd6 ne6
    replace sA := sA.trans sx
    replace eA := eA.snoc sx (c := "NoFact") hx
    clear sx hx na6 nd6 ne6
    revert sA eA
    generalize upd (upd (upd G5 a6 (exo a6 (He.ga K "NoFact") none)) dx6 (exd dx6 [("value", v)])) a6 (exo a6 (He.ga K "NoFact") (some dx6)) = G6
    intro sA eA
    refine ⟨_, rfl, (show 1 ≤ 1000 by decide), fun a7 na7 => ⟨a7, _, _, rfl, Tx.er_NoName.oex, Tx.er_NoName.no "value" (by simp), upd_same, fun dx7 nd7 ne7 => ⟨rfl, ?_⟩⟩⟩
    obtain ⟨sx, hx⟩ := fresh1 (C := He.ga K "NoName") (f := "value") (v := v) na7 nd7 ne7
    replace sA := sA.trans sx
    replace eA := eA.snoc sx (c := "NoName") hx
    clear sx hx na7 nd7 ne7
    revert sA eA
    generalize upd (upd (upd G6 a7 (exo a7 (He.ga K "NoName") none)) dx7 (exd dx7 [("value", v)])) a7 (exo a7 (He.ga K "NoName") (some dx7)) = G7
    intro sA eA
    refine ⟨_, rfl, (show 1 ≤ 1000 by decide), fun a8 na8 => ⟨a8, _, _, rfl, Tx.er_Missing.oex, Tx.er_Missing.no "value" (by simp), upd_same, fun dx8 nd8 ne8 => ⟨rfl, ?_⟩⟩⟩
    obtain ⟨sx, hx⟩ := fresh1 (C := He.ga K "Missing") (f := "value") (v := v) na8 nd8 ne8
    replace sA := sA.trans sx
    replace eA := eA.snoc sx (c := "Missing") hx
    clear sx hx na8 nd8 ne8
    revert sA eA
    generalize upd (upd (upd G7 a8 (exo a8 (He.ga K "Missing") none)) dx8 (exd dx8 [("value", v)])) a8 (exo a8 (He.ga K "Missing") (some dx8)) = G8
    intro sA eA
    refine ⟨le_line (n := 8) (by decide), fun t nt => ?_⟩
    have sx : Same G8 (upd G8 t (.lst [.ref a1, .ref a2, .ref a3, .ref a4, .ref a5, .ref a6, .ref a7, .ref a8])) := same_new nt
    have nt0 : H t = none := sA.free nt
    replace sA := sA.trans sx
    replace eA := eA.same sx
    have ft : upd G8 t (.lst [.ref a1, .ref a2, .ref a3, .ref a4, .ref a5, .ref a6, .ref a7, .ref a8]) t = some (.lst [.ref a1, .ref a2, .ref a3, .ref a4, .ref a5, .ref a6, .ref a7, .ref a8]) := upd_same
    clear sx
    revert sA eA ft
    generalize upd G8 t (.lst [.ref a1, .ref a2, .ref a3, .ref a4, .ref a5, .ref a6, .ref a7, .ref a8]) = G9
    intro sA eA ft
    refine ⟨_, rfl, ?_⟩
    refine ⟨_, rfl, (show 1 ≤ 1000 by decide), fun a10 na10 => ⟨a10, _, _, rfl, Tx.er_Twice.oex, Tx.er_Twice.no "value" (by simp), upd_same, fun dx10 nd10 ne10 => ⟨rfl, ?_⟩⟩⟩
    obtain ⟨sx, hx⟩ := fresh1 (C := He.ga K "Twice") (f := "value") (v := v) na10 nd10 ne10
    replace sA := sA.trans sx
    replace eA := eA.snoc sx (c := "Twice") hx
    replace ft := sx _ _ ft
    clear sx hx na10 nd10 ne10
    revert sA eA ft
    generalize upd (upd (upd G9 a10 (exo a10 (He.ga K "Twice") none)) dx10 (exd dx10 [("value", v)])) a10 (exo a10 (He.ga K "Twice") (some dx10)) = G10
    intro sA eA ft
    refine ⟨le_line (n := 1) (by decide), fun u nu => ?_⟩
    have sx : Same G10 (upd G10 u (.lst [.ref a10])) := same_new nu
    have nu0 : H u = none := sA.free nu
    replace sA := sA.trans sx
    replace eA := eA.same sx
    replace ft := sx _ _ ft
    have fu : upd G10 u (.lst [.ref a10]) u = some (.lst [.ref a10]) := upd_same
    clear sx
    revert sA eA ft fu
    generalize upd G10 u (.lst [.ref a10]) = G11
    intro sA eA ft fu
    refine ⟨t, u, [.ref a1, .ref a2, .ref a3, .ref a4, .ref a5, .ref a6, .ref a7, .ref a8], [.ref a10], rfl, rfl, ft, fu, le_line (n := 9) (by decide), fun r nr => ?_⟩
    exact q _ r [a1, a2, a3, a4, a5, a6, a7, a8, a10] (sA.trans (same_new nr)) upd_same (eA.same (same_new nr))
theorem has_law_values (Tx : Txt K mg) (c : He.SaysX fa fn [] tf ex w hh K) (X : K.In hh) (GG : hh.Ns mainGlobals mg) (h_Missing_init : HasE P w K mg base "Missing" 1 ["self", "value"] (sp_Missing_init K)) (h_Twice_init : HasE P w K mg base "Twice" 1 ["self", "value"] (sp_Twice_init K))  : Has P w K mg base "_law_values" 3 ["_law_one"] (sp_law_values K) := by
  obtain ⟨fd, F⟩ := c.t.d.def_ 102 (d := d_law_values) rfl
  exact ⟨_, fd, ok_law_values F Tx h_Missing_init h_Twice_init, He.glo_ok X GG (c.t.d.fact 83 (f := .glo "_law_values") rfl), F.kp, F.bindsN fun _ _ _ _ _ _ us hl => match us, hl with | [_], _ => rfl⟩
def sp_law_values_named (K : PySem.W.Frag) : Sp := fun vs H Q _ => ∃ (v : V), vs = [v] ∧ ∀ H' r es, Same H H' → H' r = some (.lst (es.map V.ref)) → ErrsAt K H' es valC "value" v → Q (.ref r) H'
theorem sc_law_values_named : FnScope ["_law_one", "_law_made"] ["_law_one"] (defScope s_law_values_named) := ⟨rfl, rfl, rfl, by decide +kernel, rfl, by decide +kernel, by decide +kernel⟩
theorem ok_law_values_named {f : Addr} {fd : FuncData} (F : FunD K "_law_values_named" "_law_values_named" (defArgs s_law_values_named) (defBody s_law_values_named) (defScope s_law_values_named) [] [] f fd) (Tx : Txt K mg) (h_Missing_init : HasE P w K mg base "Missing" 1 ["self", "value"] (sp_Missing_init K)) (h_Twice_init : HasE P w K mg base "Twice" 1 ["self", "value"] (sp_Twice_init K))  : FnOk P w K mg base CX0 3 f fd ["_law_one"] (sp_law_values_named K) := by
  obtain ⟨fd_Missing_init, G_Missing_init, b_Missing_init, kb_Missing_init, ks_Missing_init⟩ := h_Missing_init
  obtain ⟨fd_Twice_init, G_Twice_init, b_Twice_init, kb_Twice_init, ks_Twice_init⟩ := h_Twice_init
  refine FunD.ok F sc_law_values_named (fun vs H Q E h => ?_) (fun cdv A outer s H vs Q E hr h => ?_)
  · obtain ⟨v, rfl, _⟩ := h
    rfl
  · obtain ⟨v, rfl, q⟩ := h
    refine ⟨_, PSs.nox (pss_cons (ps_set (i := 1) sc_law_values_named.nd rfl (Or.inl rfl) (pe_lst (pa_cons (pe_exK Tx.er_NoSide.oex (ini_NoSide Tx) Tx.er_Missing.fn G_Missing_init (hr.mono (by decide)) kb_Missing_init pass0 (by rfl) Tx.g_NoSide (pk_cons (pv 0) pk_nil) (fun _ _ => ⟨_, fun _ => rfl⟩)) (pa_cons (pe_exK Tx.er_NoFace.oex (ini_NoFace Tx) Tx.er_Missing.fn G_Missing_init (hr.mono (by decide)) kb_Missing_init pass0 (by rfl) Tx.g_NoFace (pk_cons (pv 0) pk_nil) (fun _ _ => ⟨_, fun _ => rfl⟩)) (pa_cons (pe_exK Tx.er_NoEdge.oex (ini_NoEdge Tx) Tx.er_Missing.fn G_Missing_init (hr.mono (by decide)) kb_Missing_init pass0 (by rfl) Tx.g_NoEdge (pk_cons (pv 0) pk_nil) (fun _ _ => ⟨_, fun _ => rfl⟩)) (pa_cons (pe_exK Tx.er_NoCorner.oex (ini_NoCorner Tx) Tx.er_Missing.fn G_Missing_init (hr.mono (by decide)) kb_Missing_init pass0 (by rfl) Tx.g_NoCorner (pk_cons (pv 0) pk_nil) (fun _ _ => ⟨_, fun _ => rfl⟩)) (pa_cons (pe_exK Tx.er_NoPlace.oex (ini_NoPlace Tx) Tx.er_Missing.fn G_Missing_init (hr.mono (by decide)) kb_Missing_init pass0 (by rfl) Tx.g_NoPlace (pk_cons (pv 0) pk_nil) (fun _ _ => ⟨_, fun _ => rfl⟩)) pa_nil)))))))
        (pss_one (ps_ret (pe_op op_cat (pv 1) (pe_lst (pa_cons (pe_exK Tx.er_NoFact.oex (ini_NoFact Tx) Tx.er_Missing.fn G_Missing_init (hr.mono (by decide)) kb_Missing_init pass0 (by rfl) Tx.g_NoFact (pk_cons (pv 0) pk_nil) (fun _ _ => ⟨_, fun _ => rfl⟩)) (pa_cons (pe_exK Tx.er_NoName.oex (ini_NoName Tx) Tx.er_Missing.fn G_Missing_init (hr.mono (by decide)) kb_Missing_init pass0 (by rfl) Tx.g_NoName (pk_cons (pv 0) pk_nil) (fun _ _ => ⟨_, fun _ => rfl⟩)) (pa_cons (pe_exK Tx.er_Missing.oex Tx.er_Missing.ini Tx.er_Missing.fn G_Missing_init (hr.mono (by decide)) kb_Missing_init pass0 (by rfl) Tx.g_Missing (pk_cons (pv 0) pk_nil) (fun _ _ => ⟨_, fun _ => rfl⟩)) (pa_cons (pe_exK Tx.er_Twice.oex Tx.er_Twice.ini Tx.er_Twice.fn G_Twice_init (hr.mono (by decide)) kb_Twice_init pass0 (by rfl) Tx.g_Twice (pk_cons (pv 0) pk_nil) (fun _ _ => ⟨_, fun _ => rfl⟩)) pa_nil))))))))), ?_⟩
    have sA : Same H H := Same.refl H
    have eA : ErrsAt K H [] [] "value" v := ErrsAt.nil
    refine ⟨_, rfl, rfl, fun a1 na1 => ⟨a1, _, _, rfl, Tx.er_NoSide.oex, Tx.er_NoSide.no "value" (by simp), upd_same, fun dx1 nd1 ne1 => ⟨rfl, ?_⟩⟩⟩
    obtain ⟨sx, hx⟩ := fresh1 (C := He.ga K "NoSide") (f := "value") (v := v) na1 nd1 ne1
    replace sA := sA.trans sx
    replace eA := eA.snoc sx (c := "NoSide") hx
    clear sx hx na1 nd1 ne1
    revert sA eA
    generalize upd (upd (upd H a1 (exo a1 (He.ga K "NoSide") none)) dx1 (exd dx1 [("value", v)])) a1 (exo a1 (He.ga K "NoSide") (some dx1)) = G1
    intro sA eA
    refine ⟨_, rfl, rfl, fun a2 na2 => ⟨a2, _, _, rfl, Tx.er_NoFace.oex, Tx.er_NoFace.no "value" (by simp), upd_same, fun dx2 nd2 ne2 => ⟨rfl, ?_⟩⟩⟩
    obtain ⟨sx, hx⟩ := fresh1 (C := He.ga K "NoFace") (f := "value") (v := v) na2 nd2 ne2
    replace sA := sA.trans sx
    replace eA := eA.snoc sx (c := "NoFace") hx
    clear sx hx na2 nd2 ne2
    revert sA eA
    generalize upd (upd (upd G1 a2 (exo a2 (He.ga K "NoFace") none)) dx2 (exd dx2 [("value", v)])) a2 (exo a2 (He.ga K "NoFace") (some dx2)) = G2
    intro sA eA
    refine ⟨_, rfl, rfl, fun a3 na3 => ⟨a3, _, _, rfl, Tx.er_NoEdge.oex, Tx.er_NoEdge.no "value" (by simp), upd_same, fun dx3 nd3 ne3 => ⟨rfl, ?_⟩⟩⟩
    obtain ⟨sx, hx⟩ := fresh1 (C := He.ga K "NoEdge") (f := "value") (v := v) na3 nd3 ne3
    replace sA := sA.trans sx
    replace eA := eA.snoc sx (c := "NoEdge") hx
    clear sx hx na3 nd3 ne3
    revert sA eA
    generalize upd (upd (upd G2 a3 (exo a3 (He.ga K "NoEdge") none)) dx3 (exd dx3 [("value", v)])) a3 (exo a3 (He.ga K "NoEdge") (some dx3)) = G3
    intro sA eA
    refine ⟨_, rfl, rfl, fun a4 na4 => ⟨a4, _, _, rfl, Tx.er_NoCorner.oex, Tx.er_NoCorner.no "value" (by simp), upd_same, fun dx4 nd4 ne4 => ⟨rfl, ?_⟩⟩⟩
    obtain ⟨sx, hx⟩ := fresh1 (C := He.ga K "NoCorner") (f := "value") (v := v) na4 nd4 ne4
    replace sA := sA.trans sx
    replace eA := eA.snoc sx (c := "NoCorner") hx
    clear sx hx na4 nd4 ne4
    revert sA eA
    generalize upd (upd (upd G3 a4 (exo a4 (He.ga K "NoCorner") none)) dx4 (exd dx4 [("value", v)])) a4 (exo a4 (He.ga K "NoCorner") (some dx4)) = G4
    intro sA eA
    refine ⟨_, rfl, rfl, fun a5 na5 => ⟨a5, _, _, rfl, Tx.er_NoPlace.oex, Tx.er_NoPlace.no "value" (by simp), upd_same, fun dx5 nd5 ne5 => ⟨rfl, ?_⟩⟩⟩
    obtain ⟨sx, hx⟩ := fresh1 (C := He.ga K "NoPlace") (f := "value") (v := v) na5 nd5 ne5
    replace sA := sA.trans sx
    replace eA := eA.snoc sx (c := "NoPlace") hx
    clear sx hx na5 nd5 ne5
    revert sA eA
    generalize upd (upd (upd G4 a5 (exo a5 (He.ga K "NoPlace") none)) dx5 (exd dx5 [("value", v)])) a5 (exo a5 (He.ga K "NoPlace") (some dx5)) = G5
    intro sA eA
    refine ⟨le_line (n := 5) (by decide), fun t nt => ?_⟩
    have sx : Same G5 (upd G5 t (.lst [.ref a1, .ref a2, .ref a3, .ref a4, .ref a5])) := same_new nt
    have nt0 : H t = none := sA.free nt
    replace sA := sA.trans sx
    replace eA := eA.same sx
    have ft : upd G5 t (.lst [.ref a1, .ref a2, .ref a3, .ref a4, .ref a5]) t = some (.lst [.ref a1, .ref a2, .ref a3, .ref a4, .ref a5]) := upd_same
    clear sx
    revert sA eA ft
    generalize upd G5 t (.lst [.ref a1, .ref a2, .ref a3, .ref a4, .ref a5]) = G6
    intro sA eA ft
    refine ⟨_, rfl, ?_⟩
    refine ⟨_, rfl, rfl, fun a7 na7 => ⟨a7, _, _, rfl, Tx.er_NoFact.oex, Tx.er_NoFact.no "value" (by simp), upd_same, fun dx7 nd7 ne7 => ⟨rfl, ?_⟩⟩⟩
    obtain ⟨sx, hx⟩ := fresh1 (C := He.ga K "NoFact") (f := "value") (v := v) na7 nd7 ne7
    replace sA := sA.trans sx
    replace eA := eA.snoc sx (c := "NoFact") hx
    replace ft := sx _ _ ft
    clear sx hx na7 nd7 ne7
    revert sA eA ft
    generalize upd (upd (upd G6 a7 (exo a7 (He.ga K "NoFact") none)) dx7 (exd dx7 [("value", v)])) a7 (exo a7 (He.ga K "NoFact") (some dx7)) = G7
    intro sA eA ft
    refine ⟨_, rfl, rfl, fun a8 na8 => ⟨a8, _, _, rfl, Tx.er_NoName.oex, Tx.er_NoName.no "value" (by simp), upd_same, fun dx8 nd8 ne8 => ⟨rfl, ?_⟩⟩⟩
    obtain ⟨sx, hx⟩ := fresh1 (C := He.ga K "NoName") (f := "value") (v := v) na8 nd8 ne8
    replace sA := sA.trans sx
    replace eA := eA.snoc sx (c := "NoName") hx
    replace ft := sx _ _ ft
    clear sx hx na8 nd8 ne8
    revert sA eA ft
    generalize upd (upd (upd G7 a8 (exo a8 (He.ga K "NoName") none)) dx8 (exd dx8 [("value", v)])) a8 (exo a8 (He.ga K "NoName") (some dx8)) = G8
    intro sA eA ft
    refine ⟨_, rfl, rfl, fun a9 na9 => ⟨a9, _, _, rfl, Tx.er_Missing.oex, Tx.er_Missing.no "value" (by simp), upd_same, fun dx9 nd9 ne9 => ⟨rfl, ?_⟩⟩⟩
    obtain ⟨sx, hx⟩ := fresh1 (C := He.ga K "Missing") (f := "value") (v := v) na9 nd9 ne9
    replace sA := sA.trans sx
    replace eA := eA.snoc sx (c := "Missing") hx
    replace ft := sx _ _ ft
    clear sx hx na9 nd9 ne9
    revert sA eA ft
    generalize upd (upd (upd G8 a9 (exo a9 (He.ga K "Missing") none)) dx9 (exd dx9 [("value", v)])) a9 (exo a9 (He.ga K "Missing") (some dx9)) = G9
    intro sA eA ft
    refine ⟨_, rfl, rfl, fun a10 na10 => ⟨a10, _, _, rfl, Tx.er_Twice.oex, Tx.er_Twice.no "value" (by simp), upd_same, fun dx10 nd10 ne10 => ⟨rfl, ?_⟩⟩⟩
    obtain ⟨sx, hx⟩ := fresh1 (C := He.ga K "Twice") (f := "value") (v := v) na10 nd10 ne10
    replace sA := sA.trans sx
    replace eA := eA.snoc sx (c := "Twice") hx
    replace ft := sx _ _ ft
    clear sx hx na10 nd10 ne10
    revert sA eA ft
    generalize upd (upd (upd G9 a10 (exo a10 (He.ga K "Twice") none)) dx10 (exd dx10 [("value", v)])) a10 (exo a10 (He.ga K "Twice") (some dx10)) = G10
    intro sA eA ft
    refine ⟨le_line (n := 4) (by decide), fun u nu => ?_⟩
    have sx : Same G10 (upd G10 u (.lst [.ref a7, .ref a8, .ref a9, .ref a10])) := same_new nu
    have nu0 : H u = none := sA.free nu
    replace sA := sA.trans sx
    replace eA := eA.same sx
    replace ft := sx _ _ ft
    have fu : upd G10 u (.lst [.ref a7, .ref a8, .ref a9, .ref a10]) u = some (.lst [.ref a7, .ref a8, .ref a9, .ref a10]) := upd_same
    clear sx
    revert sA eA ft fu
    generalize upd G10 u (.lst [.ref a7, .ref a8, .ref a9, .ref a10]) = G11
    intro sA eA ft fu
    refine ⟨t, u, [.ref a1, .ref a2, .ref a3, .ref a4, .ref a5], [.ref a7, .ref a8, .ref a9, .ref a10], rfl, rfl, ft, fu, le_line (n := 9) (by decide), fun r nr => ?_⟩
    exact q _ r [a1, a2, a3, a4, a5, a7, a8, a9, a10] (sA.trans (same_new nr)) upd_same (eA.same (same_new nr))
theorem has_law_values_named (Tx : Txt K mg) (c : He.SaysX fa fn [] tf ex w hh K) (X : K.In hh) (GG : hh.Ns mainGlobals mg) (h_Missing_init : HasE P w K mg base "Missing" 1 ["self", "value"] (sp_Missing_init K)) (h_Twice_init : HasE P w K mg base "Twice" 1 ["self", "value"] (sp_Twice_init K))  : Has P w K mg base "_law_values_named" 3 ["_law_one"] (sp_law_values_named K) := by
  obtain ⟨fd, F⟩ := c.t.d.def_ 103 (d := d_law_values_named) rfl
  exact ⟨_, fd, ok_law_values_named F Tx h_Missing_init h_Twice_init, He.glo_ok X GG (c.t.d.fact 84 (f := .glo "_law_values_named") rfl), F.kp, F.bindsN fun _ _ _ _ _ _ us hl => match us, hl with | [_], _ => rfl⟩

end
end K00

namespace K00
open PySem PySem.Spec PyProof.Rows L2 Vf LamX
section
variable {hh : Heap} {P : Program} {w : World} {K : PySem.W.Frag} {mg : Str → Option Value} {base : Heap}
/-! ### one field -/
mutual
theorem dp_same {H H' : Hp} (s : Same H H') : ∀ (d : PyData) (v : V), Dp K H v d → Dp K H' v d
  | .none, _, h => by cases h; exact .non
  | .bool b, _, h => by cases h; exact .bl b
  | .int b, _, h => by cases h; exact .int b
  | .str b, _, h => by cases h; exact .str b
  | .list ds, _, h => by
    cases h with
    | lst q a => exact .lst (sqL_same q s) (dpAll_same s _ _ a)
  | .tuple ds, _, h => by
    cases h with
    | tup q a => exact .tup (sqT_same q s) (dpAll_same s _ _ a)
  | .dict _, _, h => by cases h
theorem dpAll_same {H H' : Hp} (s : Same H H') : ∀ (ds : List PyData) (vs : List V), DpAll K H vs ds → DpAll K H' vs ds
  | [], _, h => by cases h; exact .nil
  | d :: ds, _, h => by
    cases h with
    | cons h1 h2 => exact .cons (dp_same s _ _ h1) (dpAll_same s _ _ h2)
end
theorem Dat.same {H H' : Hp} {v : V} (h : Dat K H v) (s : Same H H') : Dat K H' v := by
  obtain ⟨d, h1, h2, h3⟩ := h
  exact ⟨d, dp_same s _ _ h1, h2, h3⟩
theorem Dat.eq {H : Hp} {v : V} (h : Dat K H v) : ∃ d, Dp K H v d ∧ SeqAt.shaped d = true ∧ PyData.eqv d d = true := by
  obtain ⟨d, h1, h2, h3⟩ := h
  exact ⟨d, h1, h2, SeqAt.eqv_refl _ (SeqAt.canLay_of_shaped h2)⟩
theorem Dat.two {H : Hp} {v u : V} {a b : Addr} (h : Dat K H v) (g : Dat K H u) (ha : H a = some (.lst [v, u])) (hb : H b = some (.lst [v, u])) : ∃ d, Dp K H (.ref a) d ∧ Dp K H (.ref b) d ∧ SeqAt.shaped d = true ∧ PyData.eqv d d = true := by
  obtain ⟨d, h1, h2, h3⟩ := h
  obtain ⟨e, g1, g2, g3⟩ := g
  have c1 : d.canLay0 = true := SeqAt.canLay_of_shaped h2
  have c2 : e.canLay0 = true := SeqAt.canLay_of_shaped g2
  have sh : SeqAt.shaped (.list [d, e]) = true := by
    unfold SeqAt.shaped
    simp only [PyData.canLay0, PyData.canLayAll0, c1, c2, Bool.and_self, Bool.true_and, PyData.depth, PyData.depthAll]
    exact decide_eq_true (by omega)
  exact ⟨.list [d, e], .lst (SqL.of ha) (.cons h1 (.cons g1 .nil)), .lst (SqL.of hb) (.cons h1 (.cons g1 .nil)), sh, SeqAt.eqv_refl _ (SeqAt.canLay_of_shaped sh)⟩
theorem xs_part (Tx : Txt K mg) {c : Str} (h : c ∈ partC) : XfC K (He.ga K c) ∧ PySem.W.findIn K (.ref (He.ga K c)) "part" = some none := by
  have h2 : c = "BadKind" ∨ c = "BadSkin" ∨ c = "BadSheet" ∨ c = "BadCells" ∨ c = "BadRim" ∨ c = "BadNesting" ∨ c = "BadSaying" ∨ c = "BadBook" ∨ c = "BadBody" ∨ c = "BadCut" ∨ c = "BadNumber" ∨ c = "BadPaper" ∨ c = "BadDesk" ∨ c = "Misfit" := by
    simpa [partC] using h
  rcases h2 with rfl | rfl | rfl | rfl | rfl | rfl | rfl | rfl | rfl | rfl | rfl | rfl | rfl | rfl
  · exact ⟨Tx.er_BadKind.xf, Tx.er_BadKind.no "part" (by simp)⟩
  · exact ⟨Tx.er_BadSkin.xf, Tx.er_BadSkin.no "part" (by simp)⟩
  · exact ⟨Tx.er_BadSheet.xf, Tx.er_BadSheet.no "part" (by simp)⟩
  · exact ⟨Tx.er_BadCells.xf, Tx.er_BadCells.no "part" (by simp)⟩
  · exact ⟨Tx.er_BadRim.xf, Tx.er_BadRim.no "part" (by simp)⟩
  · exact ⟨Tx.er_BadNesting.xf, Tx.er_BadNesting.no "part" (by simp)⟩
  · exact ⟨Tx.er_BadSaying.xf, Tx.er_BadSaying.no "part" (by simp)⟩
  · exact ⟨Tx.er_BadBook.xf, Tx.er_BadBook.no "part" (by simp)⟩
  · exact ⟨Tx.er_BadBody.xf, Tx.er_BadBody.no "part" (by simp)⟩
  · exact ⟨Tx.er_BadCut.xf, Tx.er_BadCut.no "part" (by simp)⟩
  · exact ⟨Tx.er_BadNumber.xf, Tx.er_BadNumber.no "part" (by simp)⟩
  · exact ⟨Tx.er_BadPaper.xf, Tx.er_BadPaper.no "part" (by simp)⟩
  · exact ⟨Tx.er_BadDesk.xf, Tx.er_BadDesk.no "part" (by simp)⟩
  · exact ⟨Tx.er_Misfit.xf, Tx.er_Misfit.no "part" (by simp)⟩
theorem xs_value (Tx : Txt K mg) {c : Str} (h : c ∈ valC) : XfC K (He.ga K c) ∧ PySem.W.findIn K (.ref (He.ga K c)) "value" = some none := by
  have h2 : c = "NoSide" ∨ c = "NoFace" ∨ c = "NoEdge" ∨ c = "NoCorner" ∨ c = "NoPlace" ∨ c = "NoFact" ∨ c = "NoName" ∨ c = "Missing" ∨ c = "Twice" := by
    simpa [valC] using h
  rcases h2 with rfl | rfl | rfl | rfl | rfl | rfl | rfl | rfl | rfl
  · exact ⟨Tx.er_NoSide.xf, Tx.er_NoSide.no "value" (by simp)⟩
  · exact ⟨Tx.er_NoFace.xf, Tx.er_NoFace.no "value" (by simp)⟩
  · exact ⟨Tx.er_NoEdge.xf, Tx.er_NoEdge.no "value" (by simp)⟩
  · exact ⟨Tx.er_NoCorner.xf, Tx.er_NoCorner.no "value" (by simp)⟩
  · exact ⟨Tx.er_NoPlace.xf, Tx.er_NoPlace.no "value" (by simp)⟩
  · exact ⟨Tx.er_NoFact.xf, Tx.er_NoFact.no "value" (by simp)⟩
  · exact ⟨Tx.er_NoName.xf, Tx.er_NoName.no "value" (by simp)⟩
  · exact ⟨Tx.er_Missing.xf, Tx.er_Missing.no "value" (by simp)⟩
  · exact ⟨Tx.er_Twice.xf, Tx.er_Twice.no "value" (by simp)⟩

theorem cl_part : ∀ i < 14, ∀ c, partC[i]? = some c → clsL[i]? = some c := by decide +kernel
theorem cl_val : ∀ i < 9, ∀ c, valC[i]? = some c → clsL[14 + i]? = some c := by decide +kernel
/-- errors made in two ways, with v and with u -/
def Lap (K : PySem.W.Frag) (H : Hp) (t : Addr) (cs : List Str) (f : Str) (v u : V) : Prop := ∃ (r1 r2 : Addr) (es1 es2 : List Addr), H t = some (.tup [.ref r1, .ref r2]) ∧ H r1 = some (.lst (es1.map V.ref)) ∧ H r2 = some (.lst (es2.map V.ref)) ∧ ErrsAt K H es1 cs f v ∧ ErrsAt K H es2 cs f u
theorem Lap.same {H H' : Hp} {t : Addr} {cs : List Str} {f : Str} {v u : V} (h : Lap K H t cs f v u) (s : Same H H') : Lap K H' t cs f v u := by
  obtain ⟨r1, r2, es1, es2, h1, h2, h3, h4, h5⟩ := h
  exact ⟨r1, r2, es1, es2, s _ _ h1, s _ _ h2, s _ _ h3, h4.same s, h5.same s⟩
theorem ErrsAt.get {H : Hp} {es : List Addr} {cs : List Str} {f : Str} {v : V} (h : ErrsAt K H es cs f v) {i : Nat} (hi : i < es.length) : ∃ e c, es[i]? = some e ∧ cs[i]? = some c ∧ ExcAt H e (He.ga K c) (some [(f, v)]) := by
  have h2 : i < cs.length := by rw [← h.len]; exact hi
  exact ⟨es[i], cs[i], by simp [hi], by simp [h2], h.at_ i _ _ (by simp [hi]) (by simp [h2])⟩
def sp_law_one_right (K : PySem.W.Frag) : Sp := fun vs H Q _ => ∃ (v u : V), vs = [v, u] ∧ Dat K H v ∧ Dat K H u ∧ ∀ H', Same H H' → Q (.bl true) H'
theorem sc_law_one_right : FnScope ["_law_one", "_law_other_here", "_law_made", "_law_again", "_law_at", "_law_error"] ["_law_one", "_law_other_here"] (defScope s_law_one_right) := ⟨rfl, rfl, rfl, by decide +kernel, rfl, by decide +kernel, by decide +kernel⟩
theorem ok_law_one_right {f : Addr} {fd : FuncData} (F : FunD K "_law_one_right" "_law_one_right" (defArgs s_law_one_right) (defBody s_law_one_right) (defScope s_law_one_right) [] [] f fd) (Tx : Txt K mg) (h_law_parts : Has P w K mg base "_law_parts" 3 ["_law_one"] (sp_law_parts K)) (h_law_parts_named : Has P w K mg base "_law_parts_named" 3 ["_law_one"] (sp_law_parts_named K)) (h_law_is_only : Has P w K mg base "_law_is_only" 2 ["_law_error", "_law_at"] (sp_law_is_only K)) (h_law_values : Has P w K mg base "_law_values" 3 ["_law_one"] (sp_law_values K)) (h_law_values_named : Has P w K mg base "_law_values_named" 3 ["_law_one"] (sp_law_values_named K))  : FnOk P w K mg base CX0 4 f fd ["_law_one", "_law_other_here"] (sp_law_one_right K) := by
  obtain ⟨f_law_parts, fd_law_parts, G_law_parts, g_law_parts, k_law_parts, b_law_parts⟩ := h_law_parts
  obtain ⟨f_law_parts_named, fd_law_parts_named, G_law_parts_named, g_law_parts_named, k_law_parts_named, b_law_parts_named⟩ := h_law_parts_named
  obtain ⟨f_law_is_only, fd_law_is_only, G_law_is_only, g_law_is_only, k_law_is_only, b_law_is_only⟩ := h_law_is_only
  obtain ⟨f_law_values, fd_law_values, G_law_values, g_law_values, k_law_values, b_law_values⟩ := h_law_values
  obtain ⟨f_law_values_named, fd_law_values_named, G_law_values_named, g_law_values_named, k_law_values_named, b_law_values_named⟩ := h_law_values_named
  refine FunD.ok F sc_law_one_right (fun vs H Q E h => ?_) (fun cdv A outer s H vs Q E hr h => ?_)
  · obtain ⟨v, u, rfl, _⟩ := h
    rfl
  · obtain ⟨v, u, rfl, dv, du, q⟩ := h
    refine ⟨_, PSs.nox (pss_cons (ps_for PassesOwn.never rfl (pi_tup (pe_tup (pa_cons (pe_tup (pa_cons (pe_call G_law_parts (hr.mono (by decide)) (by rfl) g_law_parts k_law_parts b_law_parts .nil pass0 (pa_cons (pv 0) pa_nil)) (pa_cons (pe_call G_law_parts_named (hr.mono (by decide)) (by rfl) g_law_parts_named k_law_parts_named b_law_parts_named .nil pass0 (pa_cons (pv 1) pa_nil)) pa_nil))) (pa_cons (pe_tup (pa_cons (pe_call G_law_parts_named (hr.mono (by decide)) (by rfl) g_law_parts_named k_law_parts_named b_law_parts_named .nil pass0 (pa_cons (pv 0) pa_nil)) (pa_cons (pe_call G_law_parts (hr.mono (by decide)) (by rfl) g_law_parts k_law_parts b_law_parts .nil pass0 (pa_cons (pv 1) pa_nil)) pa_nil))) pa_nil)))) (pg_tup (by rfl) (pgs_cons (pg_name (i := 2) sc_law_one_right.nd rfl (Or.inl rfl)) (pgs_cons (pg_name (i := 3) sc_law_one_right.nd rfl (Or.inl rfl)) pgs_nil))) (pss_one (ps_for PassesOwn.never rfl (pi_enum (by rfl) Tx.n_enumerate (pa_cons (pv 2) pa_nil)) (pg_tup (by rfl) (pgs_cons (pg_name (i := 4) sc_law_one_right.nd rfl (Or.inl rfl)) (pgs_cons (pg_name (i := 5) sc_law_one_right.nd rfl (Or.inl rfl)) pgs_nil))) (pss_one (ps_if (PW.pt (pw_or (pt_cmpR (op_neD hr.units) (pe_ef (pv 5) rfl) (pv 0) (nomark _)) (pw_or (pt_cmpR (op_neD hr.units) (pe_ef (pe_ix ix_list (pv 3) (pv 4) (fun _ _ => rfl)) rfl) (pv 1) (nomark _)) (pw_or (pt_not (pt_val (pe_call G_law_is_only (hr.mono (by decide)) (by rfl) g_law_is_only k_law_is_only b_law_is_only .nil pass0 (pa_cons (pv 5) (pa_cons (pv 4) pa_nil))))) (pw_or1 (pt_not (pt_val (pe_call G_law_is_only (hr.mono (by decide)) (by rfl) g_law_is_only k_law_is_only b_law_is_only .nil pass0 (pa_cons (pe_ix ix_list (pv 3) (pv 4) (fun _ _ => rfl)) (pa_cons (pv 4) pa_nil)))))))))) (pss_one (ps_ret pe_bl)) pss_nil)))))
        (pss_cons (ps_for PassesOwn.never rfl (pi_tup (pe_tup (pa_cons (pe_tup (pa_cons (pe_call G_law_values (hr.mono (by decide)) (by rfl) g_law_values k_law_values b_law_values .nil pass0 (pa_cons (pv 0) pa_nil)) (pa_cons (pe_call G_law_values_named (hr.mono (by decide)) (by rfl) g_law_values_named k_law_values_named b_law_values_named .nil pass0 (pa_cons (pv 1) pa_nil)) pa_nil))) (pa_cons (pe_tup (pa_cons (pe_call G_law_values_named (hr.mono (by decide)) (by rfl) g_law_values_named k_law_values_named b_law_values_named .nil pass0 (pa_cons (pv 0) pa_nil)) (pa_cons (pe_call G_law_values (hr.mono (by decide)) (by rfl) g_law_values k_law_values b_law_values .nil pass0 (pa_cons (pv 1) pa_nil)) pa_nil))) pa_nil)))) (pg_tup (by rfl) (pgs_cons (pg_name (i := 2) sc_law_one_right.nd rfl (Or.inl rfl)) (pgs_cons (pg_name (i := 3) sc_law_one_right.nd rfl (Or.inl rfl)) pgs_nil))) (pss_one (ps_for PassesOwn.never rfl (pi_enum (by rfl) Tx.n_enumerate (pa_cons (pv 2) pa_nil)) (pg_tup (by rfl) (pgs_cons (pg_name (i := 4) sc_law_one_right.nd rfl (Or.inl rfl)) (pgs_cons (pg_name (i := 5) sc_law_one_right.nd rfl (Or.inl rfl)) pgs_nil))) (pss_cons (ps_if (PW.pt (pw_or (pt_cmpR (op_neD hr.units) (pe_ef (pv 5) rfl) (pv 0) (nomark _)) (pw_or1 (pt_cmpR (op_neD hr.units) (pe_ef (pe_ix ix_list (pv 3) (pv 4) (fun _ _ => rfl)) rfl) (pv 1) (nomark _))))) (pss_one (ps_ret pe_bl)) pss_nil)
        (pss_one (ps_if (PW.pt (pw_or (pt_not (pt_val (pe_call G_law_is_only (hr.mono (by decide)) (by rfl) g_law_is_only k_law_is_only b_law_is_only .nil pass0 (pa_cons (pv 5) (pa_cons (pe_op op_add pe_int (pv 4)) pa_nil))))) (pw_or1 (pt_not (pt_val (pe_call G_law_is_only (hr.mono (by decide)) (by rfl) g_law_is_only k_law_is_only b_law_is_only .nil pass0 (pa_cons (pe_ix ix_list (pv 3) (pv 4) (fun _ _ => rfl)) (pa_cons (pe_op op_add pe_int (pv 4)) pa_nil)))))))) (pss_one (ps_ret pe_bl)) pss_nil))))))
        (pss_one (ps_ret pe_bl)))), ?_⟩
    refine ⟨_, rfl, v, rfl, fun H11 r11 es11 s11 h11 x11 => ?_⟩
    refine ⟨_, rfl, u, rfl, fun H12 r12 es12 s12 h12 x12 => ?_⟩
    refine ⟨le_line (n := 2) (by decide), fun T11 nT11 => ?_⟩
    refine ⟨_, rfl, v, rfl, fun H13 r13 es13 s13 h13 x13 => ?_⟩
    refine ⟨_, rfl, u, rfl, fun H14 r14 es14 s14 h14 x14 => ?_⟩
    refine ⟨le_line (n := 2) (by decide), fun T12 nT12 => ?_⟩
    refine ⟨le_line (n := 2) (by decide), fun T10 nT10 => ?_⟩
    have a1 := same_new (o := HO.tup [V.ref r11, .ref r12]) nT11
    have a2 := same_new (o := HO.tup [V.ref r13, .ref r14]) nT12
    have a3 := same_new (o := HO.tup [V.ref T11, .ref T12]) nT10
    have l1 : Lap K _ T11 partC "part" v u := Lap.same ⟨r11, r12, es11, es12, upd_same, a1 _ _ (s12 _ _ h11), a1 _ _ h12, (x11.same s12).same a1, x12.same a1⟩ (((s13.trans s14).trans a2).trans a3)
    have l2 : Lap K _ T12 partC "part" v u := Lap.same ⟨r13, r14, es13, es14, upd_same, a2 _ _ (s14 _ _ h13), a2 _ _ h14, (x13.same s14).same a2, x14.same a2⟩ a3
    have sG := ((((((s11.trans s12).trans a1).trans s13).trans s14).trans a2).trans a3)
    have hT : upd (upd H14 T12 (.tup [.ref r13, .ref r14])) T10 (.tup [.ref T11, .ref T12]) T10 = some (.tup [.ref T11, .ref T12]) := upd_same
    have dv1 := dv.same sG
    have du1 := du.same sG
    refine ⟨T10, rfl, ⟨_, SqT.of hT⟩, ?_⟩
    revert l1 l2 sG hT dv1 du1
    generalize upd (upd H14 T12 (.tup [.ref r13, .ref r14])) T10 (.tup [.ref T11, .ref T12]) = G1
    intro l1 l2 sG hT dv1 du1
    have all : ∀ x ∈ [V.ref T11, V.ref T12], ∃ t, x = .ref t ∧ Lap K G1 t partC "part" v u := fun x hx => by
      simp only [List.mem_cons, List.not_mem_nil, or_false] at hx
      rcases hx with rfl | rfl
      · exact ⟨_, rfl, l1⟩
      · exact ⟨_, rfl, l2⟩
    refine for_it (walk_tup (K := K) (a := T10) (xs := [V.ref T11, V.ref T12])) (fun i σ H2 => ∃ b2 b3 b4 b5 : Option V, σ = [some v, some u, b2, b3, b4, b5] ∧ Same G1 H2)
      ⟨_, _, _, _, rfl, Same.refl _⟩ (fun i σ H2 _ pv => ?_) (fun i x σ H2 H3 hi pv y => ?_) (fun σ H2 pv => ?_)
    · obtain ⟨_, _, _, _, _, z⟩ := pv
      exact SqT.of (z _ _ hT)
    · obtain ⟨b2, b3, b4, b5, rfl, z⟩ := pv
      obtain ⟨rfl, hx⟩ := y
      obtain ⟨t, rfl, lt0⟩ := all x (List.mem_of_getElem? hx)
      obtain ⟨r1, r2, es1, es2, ht, hr1, hr2, e1, e2⟩ := lt0.same z
      have dv3 := dv1.same z
      have du3 := du1.same z
      refine ⟨t, [.ref r1, .ref r2], rfl, SqT.of ht, rfl, .ref r1, [.ref r2], rfl, .ref r2, [], rfl, rfl, ?_⟩
      refine ⟨_, rfl, r1, _, rfl, SqL.of hr1, ?_⟩
      refine for_it (walk_enum (K := K) (a := r1) (xs := es1.map V.ref)) (fun j σ H4 => ∃ c4 c5 : Option V, σ = [some v, some u, some (.ref r1), some (.ref r2), c4, c5] ∧ Same H3 H4)
        ⟨_, _, rfl, Same.refl _⟩ (fun j σ H4 _ pv => ?_) (fun j x σ H4 H5 hj pv y => ?_) (fun σ H4 pv => ?_)
      · obtain ⟨_, _, _, z4⟩ := pv
        exact SqL.of (z4 _ _ hr1)
      · obtain ⟨c4, c5, rfl, z4⟩ := pv
        obtain ⟨U, w1, w2, rfl, nU, rfl, f1, f2⟩ := y
        have ew : V.int (j : Nat) = w1 := Option.some.inj f1
        subst ew
        replace f2 : (es1.map V.ref)[j]? = some w2 := f2
        rw [List.length_map] at hj
        obtain ⟨e, c, g1, g2, g3⟩ := e1.get hj
        obtain ⟨e', c', k1, k2, k3⟩ := e2.get (i := j) (by rw [e2.len, ← e1.len]; exact hj)
        rw [g2] at k2
        cases k2
        rw [List.getElem?_map, g1] at f2
        cases f2
        have mc : c ∈ partC := List.mem_of_getElem? g2
        obtain ⟨xf, no⟩ := xs_part Tx mc
        have jl : j < 14 := by
          have := e1.len
          rw [show partC.length = 14 from rfl] at this
          omega
        have cl := cl_part j jl c g2
        have z5 := z4.trans (same_new (o := HO.tup [V.int (j : Nat), V.ref e]) nU)
        have hU : upd H4 U (.tup [V.int (j : Nat), V.ref e]) U = some (.tup [V.int (j : Nat), V.ref e]) := upd_same
        revert z5 hU
        generalize upd H4 U (.tup [V.int (j : Nat), V.ref e]) = H6
        intro z5 hU
        have x1 := g3.same z5
        have x2 := k3.same z5
        have hat : atI (es2.map V.ref) (j : Nat) = some (V.ref e') := atI_nat (by rw [List.getElem?_map, k1] <;> rfl)
        have hr26 := z5 _ _ hr2
        obtain ⟨d1, D1, S1, E1⟩ := (dv3.same z5).eq
        obtain ⟨d2, D2, S2, E2⟩ := (du3.same z5).eq
        refine ⟨U, [.int (j : Nat), .ref e], rfl, SqT.of hU, rfl, .int (j : Nat), [.ref e], rfl, .ref e, [], rfl, rfl, ?_⟩
        refine ⟨_, rfl, e, _, _, v, rfl, x1, xf, no, rfl, _, rfl, d1, d1, D1, D1, S1, S1, ?_⟩
        rw [E1]
        refine ⟨_, rfl, ite2 (fun z => absurd z (by decide)) (fun _ => ?_)⟩
        refine ⟨_, rfl, _, rfl, r2, _, _, _, rfl, rfl, SqL.of hr26, hat, e', _, _, u, rfl, x2, xf, no, rfl, _, rfl, d2, d2, D2, D2, S2, S2, ?_⟩
        rw [E2]
        refine ⟨_, rfl, ite2 (fun z => absurd z (by decide)) (fun _ => ?_)⟩
        have mc0 : c ∈ clsL := List.mem_of_getElem? cl
        refine ⟨_, rfl, _, rfl, e, j, c, rfl, (by omega), cl, ⟨mc0, _, x1⟩, fun H7 s7 => ?_⟩
        refine ⟨_, rfl, ite2 (fun z => absurd z (by decide)) (fun _ => ?_)⟩
        refine ⟨_, rfl, _, rfl, r2, _, _, _, rfl, rfl, SqL.of (s7 _ _ hr26), hat, _, rfl, e', j, c, rfl, (by omega), cl, ⟨mc0, _, x2.same s7⟩, fun H8 s8 => ?_⟩
        refine ⟨_, rfl, ite2 (fun z => absurd z (by decide)) (fun _ => ?_)⟩
        exact ⟨_, _, rfl, (z5.trans s7).trans s8⟩
      · obtain ⟨c4, c5, rfl, z4⟩ := pv
        exact ⟨_, _, _, _, rfl, z.trans z4⟩
    · obtain ⟨b2, b3, b4, b5, rfl, z⟩ := pv
      replace sG := sG.trans z
      refine ⟨_, rfl, v, rfl, fun H21 r21 es21 s21 h21 x21 => ?_⟩
      refine ⟨_, rfl, u, rfl, fun H22 r22 es22 s22 h22 x22 => ?_⟩
      refine ⟨le_line (n := 2) (by decide), fun T21 nT21 => ?_⟩
      refine ⟨_, rfl, v, rfl, fun H23 r23 es23 s23 h23 x23 => ?_⟩
      refine ⟨_, rfl, u, rfl, fun H24 r24 es24 s24 h24 x24 => ?_⟩
      refine ⟨le_line (n := 2) (by decide), fun T22 nT22 => ?_⟩
      refine ⟨le_line (n := 2) (by decide), fun T20 nT20 => ?_⟩
      have a1 := same_new (o := HO.tup [V.ref r21, .ref r22]) nT21
      have a2 := same_new (o := HO.tup [V.ref r23, .ref r24]) nT22
      have a3 := same_new (o := HO.tup [V.ref T21, .ref T22]) nT20
      have l1 : Lap K _ T21 valC "value" v u := Lap.same ⟨r21, r22, es21, es22, upd_same, a1 _ _ (s22 _ _ h21), a1 _ _ h22, (x21.same s22).same a1, x22.same a1⟩ (((s23.trans s24).trans a2).trans a3)
      have l2 : Lap K _ T22 valC "value" v u := Lap.same ⟨r23, r24, es23, es24, upd_same, a2 _ _ (s24 _ _ h23), a2 _ _ h24, (x23.same s24).same a2, x24.same a2⟩ a3
      replace sG := sG.trans ((((((s21.trans s22).trans a1).trans s23).trans s24).trans a2).trans a3)
      have hT : upd (upd H24 T22 (.tup [.ref r23, .ref r24])) T20 (.tup [.ref T21, .ref T22]) T20 = some (.tup [.ref T21, .ref T22]) := upd_same
      have dv2 := dv.same sG
      have du2 := du.same sG
      refine ⟨T20, rfl, ⟨_, SqT.of hT⟩, ?_⟩
      revert l1 l2 sG hT dv2 du2
      generalize upd (upd H24 T22 (.tup [.ref r23, .ref r24])) T20 (.tup [.ref T21, .ref T22]) = G2
      intro l1 l2 sG hT dv2 du2
      have all : ∀ x ∈ [V.ref T21, V.ref T22], ∃ t, x = .ref t ∧ Lap K G2 t valC "value" v u := fun x hx => by
        simp only [List.mem_cons, List.not_mem_nil, or_false] at hx
        rcases hx with rfl | rfl
        · exact ⟨_, rfl, l1⟩
        · exact ⟨_, rfl, l2⟩
      refine for_it (walk_tup (K := K) (a := T20) (xs := [V.ref T21, V.ref T22])) (fun i σ H2 => ∃ b2 b3 b4 b5 : Option V, σ = [some v, some u, b2, b3, b4, b5] ∧ Same G2 H2)
        ⟨_, _, _, _, rfl, Same.refl _⟩ (fun i σ H2 _ pv => ?_) (fun i x σ H2 H3 hi pv y => ?_) (fun σ H2 pv => ?_)
      · obtain ⟨_, _, _, _, _, z⟩ := pv
        exact SqT.of (z _ _ hT)
      · obtain ⟨b2, b3, b4, b5, rfl, z⟩ := pv
        obtain ⟨rfl, hx⟩ := y
        obtain ⟨t, rfl, lt0⟩ := all x (List.mem_of_getElem? hx)
        obtain ⟨r1, r2, es1, es2, ht, hr1, hr2, e1, e2⟩ := lt0.same z
        have dv3 := dv2.same z
        have du3 := du2.same z
        refine ⟨t, [.ref r1, .ref r2], rfl, SqT.of ht, rfl, .ref r1, [.ref r2], rfl, .ref r2, [], rfl, rfl, ?_⟩
        refine ⟨_, rfl, r1, _, rfl, SqL.of hr1, ?_⟩
        refine for_it (walk_enum (K := K) (a := r1) (xs := es1.map V.ref)) (fun j σ H4 => ∃ c4 c5 : Option V, σ = [some v, some u, some (.ref r1), some (.ref r2), c4, c5] ∧ Same H3 H4)
          ⟨_, _, rfl, Same.refl _⟩ (fun j σ H4 _ pv => ?_) (fun j x σ H4 H5 hj pv y => ?_) (fun σ H4 pv => ?_)
        · obtain ⟨_, _, _, z4⟩ := pv
          exact SqL.of (z4 _ _ hr1)
        · obtain ⟨c4, c5, rfl, z4⟩ := pv
          obtain ⟨U, w1, w2, rfl, nU, rfl, f1, f2⟩ := y
          have ew : V.int (j : Nat) = w1 := Option.some.inj f1
          subst ew
          replace f2 : (es1.map V.ref)[j]? = some w2 := f2
          rw [List.length_map] at hj
          obtain ⟨e, c, g1, g2, g3⟩ := e1.get hj
          obtain ⟨e', c', k1, k2, k3⟩ := e2.get (i := j) (by rw [e2.len, ← e1.len]; exact hj)
          rw [g2] at k2
          cases k2
          rw [List.getElem?_map, g1] at f2
          cases f2
          have mc : c ∈ valC := List.mem_of_getElem? g2
          obtain ⟨xf, no⟩ := xs_value Tx mc
          have jl : j < 9 := by
            have := e1.len
            rw [show valC.length = 9 from rfl] at this
            omega
          have cl := cl_val j jl c g2
          have z5 := z4.trans (same_new (o := HO.tup [V.int (j : Nat), V.ref e]) nU)
          have hU : upd H4 U (.tup [V.int (j : Nat), V.ref e]) U = some (.tup [V.int (j : Nat), V.ref e]) := upd_same
          revert z5 hU
          generalize upd H4 U (.tup [V.int (j : Nat), V.ref e]) = H6
          intro z5 hU
          have x1 := g3.same z5
          have x2 := k3.same z5
          have hat : atI (es2.map V.ref) (j : Nat) = some (V.ref e') := atI_nat (by rw [List.getElem?_map, k1] <;> rfl)
          have hr26 := z5 _ _ hr2
          obtain ⟨d1, D1, S1, E1⟩ := (dv3.same z5).eq
          obtain ⟨d2, D2, S2, E2⟩ := (du3.same z5).eq
          refine ⟨U, [.int (j : Nat), .ref e], rfl, SqT.of hU, rfl, .int (j : Nat), [.ref e], rfl, .ref e, [], rfl, rfl, ?_⟩
          refine ⟨_, rfl, e, _, _, v, rfl, x1, xf, no, rfl, _, rfl, d1, d1, D1, D1, S1, S1, ?_⟩
          rw [E1]
          refine ⟨_, rfl, ite2 (fun z => absurd z (by decide)) (fun _ => ?_)⟩
          refine ⟨_, rfl, _, rfl, r2, _, _, _, rfl, rfl, SqL.of hr26, hat, e', _, _, u, rfl, x2, xf, no, rfl, _, rfl, d2, d2, D2, D2, S2, S2, ?_⟩
          rw [E2]
          refine ⟨_, rfl, ite2 (fun z => absurd z (by decide)) (fun _ => ?_)⟩
          have mc0 : c ∈ clsL := List.mem_of_getElem? cl
          refine ⟨_, rfl, _, rfl, _, _, rfl, rfl, e, 14 + j, c, rfl, (by omega), cl, ⟨mc0, _, x1⟩, fun H7 s7 => ?_⟩
          refine ⟨_, rfl, ite2 (fun z => absurd z (by decide)) (fun _ => ?_)⟩
          refine ⟨_, rfl, _, rfl, r2, _, _, _, rfl, rfl, SqL.of (s7 _ _ hr26), hat, _, rfl, _, _, rfl, rfl, e', 14 + j, c, rfl, (by omega), cl, ⟨mc0, _, x2.same s7⟩, fun H8 s8 => ?_⟩
          refine ⟨_, rfl, ite2 (fun z => absurd z (by decide)) (fun _ => ?_)⟩
          exact ⟨_, _, rfl, (z5.trans s7).trans s8⟩
        · obtain ⟨c4, c5, rfl, z4⟩ := pv
          exact ⟨_, _, _, _, rfl, z.trans z4⟩
      · obtain ⟨b2, b3, b4, b5, rfl, z⟩ := pv
        exact q _ (sG.trans z)
theorem has_law_one_right (Tx : Txt K mg) (c : He.SaysX fa fn [] tf ex w hh K) (X : K.In hh) (GG : hh.Ns mainGlobals mg) (h_law_parts : Has P w K mg base "_law_parts" 3 ["_law_one"] (sp_law_parts K)) (h_law_parts_named : Has P w K mg base "_law_parts_named" 3 ["_law_one"] (sp_law_parts_named K)) (h_law_is_only : Has P w K mg base "_law_is_only" 2 ["_law_error", "_law_at"] (sp_law_is_only K)) (h_law_values : Has P w K mg base "_law_values" 3 ["_law_one"] (sp_law_values K)) (h_law_values_named : Has P w K mg base "_law_values_named" 3 ["_law_one"] (sp_law_values_named K))  : Has P w K mg base "_law_one_right" 4 ["_law_one", "_law_other_here"] (sp_law_one_right K) := by
  obtain ⟨fd, F⟩ := c.t.d.def_ 104 (d := d_law_one_right) rfl
  exact ⟨_, fd, ok_law_one_right F Tx h_law_parts h_law_parts_named h_law_is_only h_law_values h_law_values_named, He.glo_ok X GG (c.t.d.fact 85 (f := .glo "_law_one_right") rfl), F.kp, F.bindsN fun _ _ _ _ _ _ us hl => match us, hl with | [_, _], _ => rfl⟩

end
end K00

namespace K00
open PySem PySem.Spec PyProof.Rows L2 Vf LamX
section
variable {hh : Heap} {P : Program} {w : World} {K : PySem.W.Frag} {mg : Str → Option Value} {base : Heap}
/-! ### two fields -/
theorem fresh2 {H : Hp} {a C dx : Addr} {f g : Str} {v u : V} (na : H a = none) (nd : upd H a (exo a C none) dx = none) (ne : dx ≠ a) :
    Same H (upd (upd (upd (upd H a (exo a C none)) dx (exd dx [(f, v)])) a (exo a C (some dx))) dx (exd dx [(g, u), (f, v)])) ∧ ExcAt (upd (upd (upd (upd H a (exo a C none)) dx (exd dx [(f, v)])) a (exo a C (some dx))) dx (exd dx [(g, u), (f, v)])) a C (some [(g, u), (f, v)]) := by
  have nd' : H dx = none := by
    rw [upd_ne ne] at nd
    exact nd
  refine ⟨fun b o h => ?_, .made dx _ (by rw [upd_ne ne.symm, upd_same]) upd_same⟩
  have b1 := ne_of_none h na
  have b2 := ne_of_none h nd'
  rw [upd_ne b2, upd_ne b1, upd_ne b2, upd_ne b1]
  exact h
/-- two errors, the fields told the other way round -/
def Pr2 (K : PySem.W.Frag) (H : Hp) (t : Addr) (c f g : Str) (v u : V) : Prop := ∃ e1 e2, H t = some (.tup [.ref e1, .ref e2]) ∧ ExcAt H e1 (He.ga K c) (some [(g, u), (f, v)]) ∧ ExcAt H e2 (He.ga K c) (some [(g, v), (f, u)])
theorem Pr2.same {H H' : Hp} {t : Addr} {c f g : Str} {v u : V} (h : Pr2 K H t c f g v u) (s : Same H H') : Pr2 K H' t c f g v u := by
  obtain ⟨e1, e2, h1, h2, h3⟩ := h
  exact ⟨e1, e2, s _ _ h1, h2.same s, h3.same s⟩
def Pr1 (K : PySem.W.Frag) (H : Hp) (t : Addr) (c f : Str) (v u : V) : Prop := ∃ e1 e2, H t = some (.tup [.ref e1, .ref e2]) ∧ ExcAt H e1 (He.ga K c) (some [(f, v)]) ∧ ExcAt H e2 (He.ga K c) (some [(f, u)])
theorem Pr1.same {H H' : Hp} {t : Addr} {c f : Str} {v u : V} (h : Pr1 K H t c f v u) (s : Same H H') : Pr1 K H' t c f v u := by
  obtain ⟨e1, e2, h1, h2, h3⟩ := h
  exact ⟨e1, e2, s _ _ h1, h2.same s, h3.same s⟩
def sp_law_two_right (K : PySem.W.Frag) : Sp := fun vs H Q _ => ∃ (v u : V), vs = [v, u] ∧ Dat K H v ∧ Dat K H u ∧ ∀ H', Same H H' → Q (.bl true) H'
theorem sc_law_two_right : FnScope ["_law_one", "_law_other_here", "_law_error", "_law_twin"] ["_law_one", "_law_other_here"] (defScope s_law_two_right) := ⟨rfl, rfl, rfl, by decide +kernel, rfl, by decide +kernel, by decide +kernel⟩
theorem ok_law_two_right {f : Addr} {fd : FuncData} (F : FunD K "_law_two_right" "_law_two_right" (defArgs s_law_two_right) (defBody s_law_two_right) (defScope s_law_two_right) [] [] f fd) (Tx : Txt K mg) (h_Crossing_init : HasE P w K mg base "Crossing" 1 ["self", "one", "other"] (sp_Crossing_init K)) (h_law_is_only : Has P w K mg base "_law_is_only" 2 ["_law_error", "_law_at"] (sp_law_is_only K)) (h_TooMany_init : HasE P w K mg base "TooMany" 1 ["self", "what", "most"] (sp_TooMany_init K)) (h_BadText_init : HasE P w K mg base "BadText" 1 ["self", "line", "word"] (sp_BadText_init K)) (h_BadLine_init : HasE P w K mg base "BadLine" 1 ["self", "line", "error"] (sp_BadLine_init K)) (h_TooMuch_init : HasE P w K mg base "TooMuch" 1 ["self", "corner"] (sp_TooMuch_init K)) (h_Impossible_init : HasE P w K mg base "Impossible" 1 ["self", "paper"] (sp_Impossible_init K))  : FnOk P w K mg base CX0 3 f fd ["_law_one", "_law_other_here"] (sp_law_two_right K) := by
  obtain ⟨fd_Crossing_init, G_Crossing_init, b_Crossing_init, kb_Crossing_init, ks_Crossing_init⟩ := h_Crossing_init
  obtain ⟨f_law_is_only, fd_law_is_only, G_law_is_only, g_law_is_only, k_law_is_only, b_law_is_only⟩ := h_law_is_only
  obtain ⟨fd_TooMany_init, G_TooMany_init, b_TooMany_init, kb_TooMany_init, ks_TooMany_init⟩ := h_TooMany_init
  obtain ⟨fd_BadText_init, G_BadText_init, b_BadText_init, kb_BadText_init, ks_BadText_init⟩ := h_BadText_init
  obtain ⟨fd_BadLine_init, G_BadLine_init, b_BadLine_init, kb_BadLine_init, ks_BadLine_init⟩ := h_BadLine_init
  obtain ⟨fd_TooMuch_init, G_TooMuch_init, b_TooMuch_init, kb_TooMuch_init, ks_TooMuch_init⟩ := h_TooMuch_init
  obtain ⟨fd_Impossible_init, G_Impossible_init, b_Impossible_init, kb_Impossible_init, ks_Impossible_init⟩ := h_Impossible_init
  refine FunD.ok F sc_law_two_right (fun vs H Q E h => ?_) (fun cdv A outer s H vs Q E hr h => ?_)
  · obtain ⟨v, u, rfl, _⟩ := h
    rfl
  · obtain ⟨v, u, rfl, dv, du, q⟩ := h
    refine ⟨_, PSs.nox (pss_cons (ps_for PassesOwn.never rfl (pi_tup (pe_tup (pa_cons (pe_tup (pa_cons (pe_exV Tx.er_Crossing.oex Tx.er_Crossing.ini Tx.er_Crossing.fn G_Crossing_init (hr.mono (by decide)) b_Crossing_init pass0 (by rfl) Tx.g_Crossing (pa_cons (pv 0) (pa_cons (pv 1) pa_nil))) (pa_cons (pe_exK Tx.er_Crossing.oex Tx.er_Crossing.ini Tx.er_Crossing.fn G_Crossing_init (hr.mono (by decide)) ks_Crossing_init pass0 (by rfl) Tx.g_Crossing (pk_cons (pv 0) (pk_cons (pv 1) pk_nil)) (fun _ _ => ⟨_, fun _ => rfl⟩)) pa_nil))) (pa_cons (pe_tup (pa_cons (pe_exK Tx.er_Crossing.oex Tx.er_Crossing.ini Tx.er_Crossing.fn G_Crossing_init (hr.mono (by decide)) kb_Crossing_init pass0 (by rfl) Tx.g_Crossing (pk_cons (pv 0) (pk_cons (pv 1) pk_nil)) (fun _ _ => ⟨_, fun _ => rfl⟩)) (pa_cons (pe_exV Tx.er_Crossing.oex Tx.er_Crossing.ini Tx.er_Crossing.fn G_Crossing_init (hr.mono (by decide)) b_Crossing_init pass0 (by rfl) Tx.g_Crossing (pa_cons (pv 1) (pa_cons (pv 0) pa_nil))) pa_nil))) pa_nil)))) (pg_tup (by rfl) (pgs_cons (pg_name (i := 2) sc_law_two_right.nd rfl (Or.inl rfl)) (pgs_cons (pg_name (i := 3) sc_law_two_right.nd rfl (Or.inl rfl)) pgs_nil))) (pss_one (ps_if (PW.pt (pw_or (pt_cmpR (op_neD hr.units) (pe_lst (pa_cons (pe_ef (pv 2) rfl) (pa_cons (pe_ef (pv 2) rfl) pa_nil))) (pe_lst (pa_cons (pv 0) (pa_cons (pv 1) pa_nil))) (nomark _)) (pw_or (pt_cmpR (op_neD hr.units) (pe_lst (pa_cons (pe_ef (pv 3) rfl) (pa_cons (pe_ef (pv 3) rfl) pa_nil))) (pe_lst (pa_cons (pv 1) (pa_cons (pv 0) pa_nil))) (nomark _)) (pw_or1 (pt_not (pt_val (pe_call G_law_is_only (hr.mono (by decide)) (by rfl) g_law_is_only k_law_is_only b_law_is_only .nil pass0 (pa_cons (pv 2) (pa_cons pe_int pa_nil))))))))) (pss_one (ps_ret pe_bl)) pss_nil)))
        (pss_cons (ps_for PassesOwn.never rfl (pi_tup (pe_tup (pa_cons (pe_exV Tx.er_TooMany.oex Tx.er_TooMany.ini Tx.er_TooMany.fn G_TooMany_init (hr.mono (by decide)) b_TooMany_init pass0 (by rfl) Tx.g_TooMany (pa_cons (pv 0) (pa_cons (pv 1) pa_nil))) (pa_cons (pe_exK Tx.er_TooMany.oex Tx.er_TooMany.ini Tx.er_TooMany.fn G_TooMany_init (hr.mono (by decide)) ks_TooMany_init pass0 (by rfl) Tx.g_TooMany (pk_cons (pv 1) (pk_cons (pv 0) pk_nil)) (fun _ _ => ⟨_, fun _ => rfl⟩)) pa_nil)))) (pg_name (i := 2) sc_law_two_right.nd rfl (Or.inl rfl)) (pss_one (ps_if (PW.pt (pw_or (pt_cmpR (op_neD hr.units) (pe_lst (pa_cons (pe_ef (pv 2) rfl) (pa_cons (pe_ef (pv 2) rfl) pa_nil))) (pe_lst (pa_cons (pv 0) (pa_cons (pv 1) pa_nil))) (nomark _)) (pw_or1 (pt_not (pt_val (pe_call G_law_is_only (hr.mono (by decide)) (by rfl) g_law_is_only k_law_is_only b_law_is_only .nil pass0 (pa_cons (pv 2) (pa_cons pe_int pa_nil)))))))) (pss_one (ps_ret pe_bl)) pss_nil)))
        (pss_cons (ps_for PassesOwn.never rfl (pi_tup (pe_tup (pa_cons (pe_exV Tx.er_BadText.oex Tx.er_BadText.ini Tx.er_BadText.fn G_BadText_init (hr.mono (by decide)) b_BadText_init pass0 (by rfl) Tx.g_BadText (pa_cons (pv 0) (pa_cons (pv 1) pa_nil))) (pa_cons (pe_exK Tx.er_BadText.oex Tx.er_BadText.ini Tx.er_BadText.fn G_BadText_init (hr.mono (by decide)) ks_BadText_init pass0 (by rfl) Tx.g_BadText (pk_cons (pv 1) (pk_cons (pv 0) pk_nil)) (fun _ _ => ⟨_, fun _ => rfl⟩)) pa_nil)))) (pg_name (i := 2) sc_law_two_right.nd rfl (Or.inl rfl)) (pss_one (ps_if (PW.pt (pw_or (pt_cmpR (op_neD hr.units) (pe_lst (pa_cons (pe_ef (pv 2) rfl) (pa_cons (pe_ef (pv 2) rfl) pa_nil))) (pe_lst (pa_cons (pv 0) (pa_cons (pv 1) pa_nil))) (nomark _)) (pw_or1 (pt_not (pt_val (pe_call G_law_is_only (hr.mono (by decide)) (by rfl) g_law_is_only k_law_is_only b_law_is_only .nil pass0 (pa_cons (pv 2) (pa_cons pe_int pa_nil)))))))) (pss_one (ps_ret pe_bl)) pss_nil)))
        (pss_cons (ps_for PassesOwn.never rfl (pi_tup (pe_tup (pa_cons (pe_exV Tx.er_BadLine.oex Tx.er_BadLine.ini Tx.er_BadLine.fn G_BadLine_init (hr.mono (by decide)) b_BadLine_init pass0 (by rfl) Tx.g_BadLine (pa_cons (pv 0) (pa_cons (pv 1) pa_nil))) (pa_cons (pe_exK Tx.er_BadLine.oex Tx.er_BadLine.ini Tx.er_BadLine.fn G_BadLine_init (hr.mono (by decide)) ks_BadLine_init pass0 (by rfl) Tx.g_BadLine (pk_cons (pv 1) (pk_cons (pv 0) pk_nil)) (fun _ _ => ⟨_, fun _ => rfl⟩)) pa_nil)))) (pg_name (i := 2) sc_law_two_right.nd rfl (Or.inl rfl)) (pss_one (ps_if (PW.pt (pw_or (pt_cmpR (op_neD hr.units) (pe_lst (pa_cons (pe_ef (pv 2) rfl) (pa_cons (pe_ef (pv 2) rfl) pa_nil))) (pe_lst (pa_cons (pv 0) (pa_cons (pv 1) pa_nil))) (nomark _)) (pw_or1 (pt_not (pt_val (pe_call G_law_is_only (hr.mono (by decide)) (by rfl) g_law_is_only k_law_is_only b_law_is_only .nil pass0 (pa_cons (pv 2) (pa_cons pe_int pa_nil)))))))) (pss_one (ps_ret pe_bl)) pss_nil)))
        (pss_cons (ps_for PassesOwn.never rfl (pi_tup (pe_tup (pa_cons (pe_tup (pa_cons (pe_exV Tx.er_TooMuch.oex Tx.er_TooMuch.ini Tx.er_TooMuch.fn G_TooMuch_init (hr.mono (by decide)) b_TooMuch_init pass0 (by rfl) Tx.g_TooMuch (pa_cons (pv 0) pa_nil)) (pa_cons (pe_exK Tx.er_TooMuch.oex Tx.er_TooMuch.ini Tx.er_TooMuch.fn G_TooMuch_init (hr.mono (by decide)) kb_TooMuch_init pass0 (by rfl) Tx.g_TooMuch (pk_cons (pv 1) pk_nil) (fun _ _ => ⟨_, fun _ => rfl⟩)) pa_nil))) (pa_cons (pe_tup (pa_cons (pe_exK Tx.er_TooMuch.oex Tx.er_TooMuch.ini Tx.er_TooMuch.fn G_TooMuch_init (hr.mono (by decide)) kb_TooMuch_init pass0 (by rfl) Tx.g_TooMuch (pk_cons (pv 0) pk_nil) (fun _ _ => ⟨_, fun _ => rfl⟩)) (pa_cons (pe_exV Tx.er_TooMuch.oex Tx.er_TooMuch.ini Tx.er_TooMuch.fn G_TooMuch_init (hr.mono (by decide)) b_TooMuch_init pass0 (by rfl) Tx.g_TooMuch (pa_cons (pv 1) pa_nil)) pa_nil))) pa_nil)))) (pg_tup (by rfl) (pgs_cons (pg_name (i := 2) sc_law_two_right.nd rfl (Or.inl rfl)) (pgs_cons (pg_name (i := 3) sc_law_two_right.nd rfl (Or.inl rfl)) pgs_nil))) (pss_one (ps_if (PW.pt (pw_or (pt_cmpR (op_neD hr.units) (pe_lst (pa_cons (pe_ef (pv 2) rfl) (pa_cons (pe_ef (pv 3) rfl) pa_nil))) (pe_lst (pa_cons (pv 0) (pa_cons (pv 1) pa_nil))) (nomark _)) (pw_or (pt_not (pt_val (pe_call G_law_is_only (hr.mono (by decide)) (by rfl) g_law_is_only k_law_is_only b_law_is_only .nil pass0 (pa_cons (pv 2) (pa_cons pe_int pa_nil))))) (pw_or1 (pt_not (pt_val (pe_call G_law_is_only (hr.mono (by decide)) (by rfl) g_law_is_only k_law_is_only b_law_is_only .nil pass0 (pa_cons (pv 3) (pa_cons pe_int pa_nil))))))))) (pss_one (ps_ret pe_bl)) pss_nil)))
        (pss_cons (ps_for PassesOwn.never rfl (pi_tup (pe_tup (pa_cons (pe_tup (pa_cons (pe_exV Tx.er_Impossible.oex Tx.er_Impossible.ini Tx.er_Impossible.fn G_Impossible_init (hr.mono (by decide)) b_Impossible_init pass0 (by rfl) Tx.g_Impossible (pa_cons (pv 0) pa_nil)) (pa_cons (pe_exK Tx.er_Impossible.oex Tx.er_Impossible.ini Tx.er_Impossible.fn G_Impossible_init (hr.mono (by decide)) kb_Impossible_init pass0 (by rfl) Tx.g_Impossible (pk_cons (pv 1) pk_nil) (fun _ _ => ⟨_, fun _ => rfl⟩)) pa_nil))) (pa_cons (pe_tup (pa_cons (pe_exK Tx.er_Impossible.oex Tx.er_Impossible.ini Tx.er_Impossible.fn G_Impossible_init (hr.mono (by decide)) kb_Impossible_init pass0 (by rfl) Tx.g_Impossible (pk_cons (pv 0) pk_nil) (fun _ _ => ⟨_, fun _ => rfl⟩)) (pa_cons (pe_exV Tx.er_Impossible.oex Tx.er_Impossible.ini Tx.er_Impossible.fn G_Impossible_init (hr.mono (by decide)) b_Impossible_init pass0 (by rfl) Tx.g_Impossible (pa_cons (pv 1) pa_nil)) pa_nil))) pa_nil)))) (pg_tup (by rfl) (pgs_cons (pg_name (i := 2) sc_law_two_right.nd rfl (Or.inl rfl)) (pgs_cons (pg_name (i := 3) sc_law_two_right.nd rfl (Or.inl rfl)) pgs_nil))) (pss_one (ps_if (PW.pt (pw_or (pt_cmpR (op_neD hr.units) (pe_lst (pa_cons (pe_ef (pv 2) rfl) (pa_cons (pe_ef (pv 3) rfl) pa_nil))) (pe_lst (pa_cons (pv 0) (pa_cons (pv 1) pa_nil))) (nomark _)) (pw_or (pt_not (pt_val (pe_call G_law_is_only (hr.mono (by decide)) (by rfl) g_law_is_only k_law_is_only b_law_is_only .nil pass0 (pa_cons (pv 2) (pa_cons pe_int pa_nil))))) (pw_or1 (pt_not (pt_val (pe_call G_law_is_only (hr.mono (by decide)) (by rfl) g_law_is_only k_law_is_only b_law_is_only .nil pass0 (pa_cons (pv 3) (pa_cons pe_int pa_nil))))))))) (pss_one (ps_ret pe_bl)) pss_nil)))
        (pss_one (ps_ret (pe_call G_law_is_only (hr.mono (by decide)) (by rfl) g_law_is_only k_law_is_only b_law_is_only .nil pass0 (pa_cons (pe_exc0 PySem.F.excBase_ValueError (He.ba Tx.exn).1 Tx.g_Nothing (He.ba Tx.exn).2 (by rfl)) (pa_cons pe_int pa_nil))))))))))), ?_⟩
    have sG : Same H H := Same.refl H
    refine ⟨_, rfl, _, rfl, (show 2 ≤ 1000 by decide), fun a101 na => ⟨a101, _, _, _, rfl, Tx.er_Crossing.oex, Tx.er_Crossing.no "one" (by simp), Tx.er_Crossing.no "other" (by simp), upd_same, fun dx101 nd ne => ⟨rfl, ?_⟩⟩⟩
    obtain ⟨sx, x101⟩ := fresh2 (C := (He.ga K "Crossing")) (f := "one") (g := "other") (v := v) (u := u) na nd ne
    replace sG := sG.trans sx
    clear na nd ne
    clear sx
    revert x101 sG
    generalize upd (upd (upd (upd H a101 (exo a101 (He.ga K "Crossing") none)) dx101 (exd dx101 [("one", v)])) a101 (exo a101 (He.ga K "Crossing") (some dx101))) dx101 (exd dx101 [("other", u), ("one", v)]) = G102
    intro x101 sG
    refine ⟨_, rfl, _, rfl, rfl, fun a103 na => ⟨a103, _, _, _, rfl, Tx.er_Crossing.oex, Tx.er_Crossing.no "one" (by simp), Tx.er_Crossing.no "other" (by simp), upd_same, fun dx103 nd ne => ⟨rfl, ?_⟩⟩⟩
    obtain ⟨sx, x103⟩ := fresh2 (C := (He.ga K "Crossing")) (f := "one") (g := "other") (v := u) (u := v) na nd ne
    replace sG := sG.trans sx
    replace x101 := x101.same sx
    clear na nd ne
    clear sx
    revert x103 sG x101
    generalize upd (upd (upd (upd G102 a103 (exo a103 (He.ga K "Crossing") none)) dx103 (exd dx103 [("one", u)])) a103 (exo a103 (He.ga K "Crossing") (some dx103))) dx103 (exd dx103 [("other", v), ("one", u)]) = G104
    intro x103 sG x101
    refine ⟨le_line (n := 2) (by decide), fun t105 nt => ?_⟩
    have sx : Same G104 (upd G104 t105 (.tup [.ref a101, .ref a103])) := same_new nt
    have ft105 : upd G104 t105 (.tup [.ref a101, .ref a103]) t105 = some (.tup [.ref a101, .ref a103]) := upd_same
    replace sG := sG.trans sx
    replace x103 := x103.same sx
    replace x101 := x101.same sx
    clear nt sx
    revert ft105 sG x103 x101
    generalize upd G104 t105 (.tup [.ref a101, .ref a103]) = G106
    intro ft105 sG x103 x101
    refine ⟨_, rfl, _, rfl, rfl, fun a107 na => ⟨a107, _, _, _, rfl, Tx.er_Crossing.oex, Tx.er_Crossing.no "one" (by simp), Tx.er_Crossing.no "other" (by simp), upd_same, fun dx107 nd ne => ⟨rfl, ?_⟩⟩⟩
    obtain ⟨sx, x107⟩ := fresh2 (C := (He.ga K "Crossing")) (f := "one") (g := "other") (v := v) (u := u) na nd ne
    replace sG := sG.trans sx
    replace ft105 := sx _ _ ft105
    replace x103 := x103.same sx
    replace x101 := x101.same sx
    clear na nd ne
    clear sx
    revert x107 sG ft105 x103 x101
    generalize upd (upd (upd (upd G106 a107 (exo a107 (He.ga K "Crossing") none)) dx107 (exd dx107 [("one", v)])) a107 (exo a107 (He.ga K "Crossing") (some dx107))) dx107 (exd dx107 [("other", u), ("one", v)]) = G108
    intro x107 sG ft105 x103 x101
    refine ⟨_, rfl, _, rfl, (show 2 ≤ 1000 by decide), fun a109 na => ⟨a109, _, _, _, rfl, Tx.er_Crossing.oex, Tx.er_Crossing.no "one" (by simp), Tx.er_Crossing.no "other" (by simp), upd_same, fun dx109 nd ne => ⟨rfl, ?_⟩⟩⟩
    obtain ⟨sx, x109⟩ := fresh2 (C := (He.ga K "Crossing")) (f := "one") (g := "other") (v := u) (u := v) na nd ne
    replace sG := sG.trans sx
    replace x107 := x107.same sx
    replace ft105 := sx _ _ ft105
    replace x103 := x103.same sx
    replace x101 := x101.same sx
    clear na nd ne
    clear sx
    revert x109 sG x107 ft105 x103 x101
    generalize upd (upd (upd (upd G108 a109 (exo a109 (He.ga K "Crossing") none)) dx109 (exd dx109 [("one", u)])) a109 (exo a109 (He.ga K "Crossing") (some dx109))) dx109 (exd dx109 [("other", v), ("one", u)]) = G110
    intro x109 sG x107 ft105 x103 x101
    refine ⟨le_line (n := 2) (by decide), fun t111 nt => ?_⟩
    have sx : Same G110 (upd G110 t111 (.tup [.ref a107, .ref a109])) := same_new nt
    have ft111 : upd G110 t111 (.tup [.ref a107, .ref a109]) t111 = some (.tup [.ref a107, .ref a109]) := upd_same
    replace sG := sG.trans sx
    replace x109 := x109.same sx
    replace x107 := x107.same sx
    replace ft105 := sx _ _ ft105
    replace x103 := x103.same sx
    replace x101 := x101.same sx
    clear nt sx
    revert ft111 sG x109 x107 ft105 x103 x101
    generalize upd G110 t111 (.tup [.ref a107, .ref a109]) = G112
    intro ft111 sG x109 x107 ft105 x103 x101
    refine ⟨le_line (n := 2) (by decide), fun t113 nt => ?_⟩
    have sx : Same G112 (upd G112 t113 (.tup [V.ref t105, V.ref t111])) := same_new nt
    have ft113 : upd G112 t113 (.tup [V.ref t105, V.ref t111]) t113 = some (.tup [V.ref t105, V.ref t111]) := upd_same
    replace sG := sG.trans sx
    replace ft111 := sx _ _ ft111
    replace x109 := x109.same sx
    replace x107 := x107.same sx
    replace ft105 := sx _ _ ft105
    replace x103 := x103.same sx
    replace x101 := x101.same sx
    clear nt sx
    revert ft113 sG ft111 x109 x107 ft105 x103 x101
    generalize upd G112 t113 (.tup [V.ref t105, V.ref t111]) = G114
    intro ft113 sG ft111 x109 x107 ft105 x103 x101
    have all : ∀ x ∈ [V.ref t105, V.ref t111], ∃ t, x = .ref t ∧ Pr2 K G114 t "Crossing" "one" "other" v u := fun x hx => by
      simp only [List.mem_cons, List.not_mem_nil, or_false] at hx
      rcases hx with rfl | rfl
      · exact ⟨_, rfl, a101, a103, ft105, x101, x103⟩
      · exact ⟨_, rfl, a107, a109, ft111, x107, x109⟩
    have dvG := dv.same sG
    have duG := du.same sG
    refine ⟨t113, rfl, ⟨_, SqT.of ft113⟩, ?_⟩
    refine for_it (walk_tup (K := K) (a := t113) (xs := [V.ref t105, V.ref t111])) (fun i σ H2 => ∃ b2 b3 : Option V, σ = [some v, some u, b2, b3] ∧ Same G114 H2)
      ⟨_, _, rfl, Same.refl _⟩ (fun i σ H2 _ pv => ?_) (fun i x σ H2 H3 hi pv y => ?_) (fun σ S2 pv => ?_)
    · obtain ⟨_, _, _, z⟩ := pv
      exact SqT.of (z _ _ ft113)
    · obtain ⟨b2, b3, rfl, z⟩ := pv
      obtain ⟨rfl, hx⟩ := y
      obtain ⟨t, rfl, pt0⟩ := all x (List.mem_of_getElem? hx)
      have dv3 := dvG.same z
      have du3 := duG.same z
      obtain ⟨e1, e2, ht, x1, x2⟩ := pt0.same z
      refine ⟨t, [.ref e1, .ref e2], rfl, SqT.of ht, rfl, .ref e1, [.ref e2], rfl, .ref e2, [], rfl, rfl, ?_⟩
      refine ⟨_, rfl, e1, _, _, _, rfl, x1, Tx.er_Crossing.xf, Tx.er_Crossing.no "one" (by simp), rfl, _, rfl, e1, _, _, _, rfl, x1, Tx.er_Crossing.xf, Tx.er_Crossing.no "other" (by simp), rfl, le_line (n := 2) (by decide), fun l nl => ?_⟩
      refine ⟨_, rfl, _, rfl, le_line (n := 2) (by decide), fun m nm => ?_⟩
      have s11 := same_new (o := HO.lst [(v : V), (u : V)]) nl
      have s12 := same_new (o := HO.lst [(v : V), (u : V)]) nm
      have hl : _ = some (HO.lst [v, u]) := s12 _ _ (upd_same (H := H3) (a := l) (o := HO.lst [v, u]))
      have hm : _ = some (HO.lst [v, u]) := upd_same (H := upd H3 l (HO.lst [v, u])) (a := m) (o := HO.lst [v, u])
      obtain ⟨d, D1, D2, S, E⟩ := Dat.two ((dv3.same s11).same s12) ((du3.same s11).same s12) hl hm
      refine ⟨d, d, D1, D2, S, S, ?_⟩
      rw [E]
      refine ⟨_, rfl, ite2 (fun z => absurd z (by decide)) (fun _ => ?_)⟩
      have z1 := s11.trans s12
      replace x1 := x1.same z1
      replace x2 := x2.same z1
      replace dv3 := dv3.same z1
      replace du3 := du3.same z1
      clear D1 D2 hl hm s11 s12 nl nm
      revert z1 x1 x2 dv3 du3
      generalize upd (upd H3 l (HO.lst [v, u])) m (HO.lst [v, u]) = R1
      intro z1 x1 x2 dv3 du3
      refine ⟨_, rfl, e2, _, _, _, rfl, x2, Tx.er_Crossing.xf, Tx.er_Crossing.no "one" (by simp), rfl, _, rfl, e2, _, _, _, rfl, x2, Tx.er_Crossing.xf, Tx.er_Crossing.no "other" (by simp), rfl, le_line (n := 2) (by decide), fun l nl => ?_⟩
      refine ⟨_, rfl, _, rfl, le_line (n := 2) (by decide), fun m nm => ?_⟩
      have s21 := same_new (o := HO.lst [(u : V), (v : V)]) nl
      have s22 := same_new (o := HO.lst [(u : V), (v : V)]) nm
      have hl : _ = some (HO.lst [u, v]) := s22 _ _ (upd_same (H := R1) (a := l) (o := HO.lst [u, v]))
      have hm : _ = some (HO.lst [u, v]) := upd_same (H := upd R1 l (HO.lst [u, v])) (a := m) (o := HO.lst [u, v])
      obtain ⟨d, D1, D2, S, E⟩ := Dat.two ((du3.same s21).same s22) ((dv3.same s21).same s22) hl hm
      refine ⟨d, d, D1, D2, S, S, ?_⟩
      rw [E]
      refine ⟨_, rfl, ite2 (fun z => absurd z (by decide)) (fun _ => ?_)⟩
      have z2 := s21.trans s22
      replace x1 := x1.same z2
      replace x2 := x2.same z2
      replace dv3 := dv3.same z2
      replace du3 := du3.same z2
      clear D1 D2 hl hm s21 s22 nl nm
      revert z2 x1 x2 dv3 du3
      generalize upd (upd R1 l (HO.lst [u, v])) m (HO.lst [u, v]) = R2
      intro z2 x1 x2 dv3 du3
      refine ⟨_, rfl, e1, 23, "Crossing", rfl, (by decide), (by decide +kernel), ⟨(by decide +kernel), _, x1⟩, fun H7 s7 => ?_⟩
      refine ⟨_, rfl, ite2 (fun z => absurd z (by decide)) (fun _ => ?_)⟩
      exact ⟨_, _, rfl, ((z.trans z1).trans z2).trans s7⟩
    · obtain ⟨b2, b3, rfl, z⟩ := pv
      replace sG := sG.trans z
      clear dvG duG all z ft113 ft111 x109 x107 ft105 x103 x101
      refine ⟨_, rfl, _, rfl, (show 2 ≤ 1000 by decide), fun a201 na => ⟨a201, _, _, _, rfl, Tx.er_TooMany.oex, Tx.er_TooMany.no "what" (by simp), Tx.er_TooMany.no "most" (by simp), upd_same, fun dx201 nd ne => ⟨rfl, ?_⟩⟩⟩
      obtain ⟨sx, x201⟩ := fresh2 (C := (He.ga K "TooMany")) (f := "what") (g := "most") (v := v) (u := u) na nd ne
      replace sG := sG.trans sx
      clear na nd ne
      clear sx
      revert x201 sG
      generalize upd (upd (upd (upd S2 a201 (exo a201 (He.ga K "TooMany") none)) dx201 (exd dx201 [("what", v)])) a201 (exo a201 (He.ga K "TooMany") (some dx201))) dx201 (exd dx201 [("most", u), ("what", v)]) = G202
      intro x201 sG
      refine ⟨_, rfl, _, rfl, rfl, fun a203 na => ⟨a203, _, _, _, rfl, Tx.er_TooMany.oex, Tx.er_TooMany.no "what" (by simp), Tx.er_TooMany.no "most" (by simp), upd_same, fun dx203 nd ne => ⟨rfl, ?_⟩⟩⟩
      obtain ⟨sx, x203⟩ := fresh2 (C := (He.ga K "TooMany")) (f := "what") (g := "most") (v := v) (u := u) na nd ne
      replace sG := sG.trans sx
      replace x201 := x201.same sx
      clear na nd ne
      clear sx
      revert x203 sG x201
      generalize upd (upd (upd (upd G202 a203 (exo a203 (He.ga K "TooMany") none)) dx203 (exd dx203 [("what", v)])) a203 (exo a203 (He.ga K "TooMany") (some dx203))) dx203 (exd dx203 [("most", u), ("what", v)]) = G204
      intro x203 sG x201
      refine ⟨le_line (n := 2) (by decide), fun t205 nt => ?_⟩
      have sx : Same G204 (upd G204 t205 (.tup [V.ref a201, V.ref a203])) := same_new nt
      have ft205 : upd G204 t205 (.tup [V.ref a201, V.ref a203]) t205 = some (.tup [V.ref a201, V.ref a203]) := upd_same
      replace sG := sG.trans sx
      replace x203 := x203.same sx
      replace x201 := x201.same sx
      clear nt sx
      revert ft205 sG x203 x201
      generalize upd G204 t205 (.tup [V.ref a201, V.ref a203]) = G206
      intro ft205 sG x203 x201
      have all : ∀ x ∈ [V.ref a201, V.ref a203], ∃ t, x = .ref t ∧ ExcAt G206 t (He.ga K "TooMany") (some [("most", u), ("what", v)]) := fun x hx => by
        simp only [List.mem_cons, List.not_mem_nil, or_false] at hx
        rcases hx with rfl | rfl
        · exact ⟨_, rfl, x201⟩
        · exact ⟨_, rfl, x203⟩
      have dvG := dv.same sG
      have duG := du.same sG
      refine ⟨t205, rfl, ⟨_, SqT.of ft205⟩, ?_⟩
      refine for_it (walk_tup (K := K) (a := t205) (xs := [V.ref a201, V.ref a203])) (fun i σ H2 => ∃ b2 b3 : Option V, σ = [some v, some u, b2, b3] ∧ Same G206 H2)
        ⟨_, _, rfl, Same.refl _⟩ (fun i σ H2 _ pv => ?_) (fun i x σ H2 H3 hi pv y => ?_) (fun σ S3 pv => ?_)
      · obtain ⟨_, _, _, z⟩ := pv
        exact SqT.of (z _ _ ft205)
      · obtain ⟨b2, b3, rfl, z⟩ := pv
        obtain ⟨rfl, hx⟩ := y
        obtain ⟨t, rfl, pt0⟩ := all x (List.mem_of_getElem? hx)
        have dv3 := dvG.same z
        have du3 := duG.same z
        have x1 := pt0.same z
        have e1 := t
        clear e1
        refine ⟨_, rfl, t, _, _, _, rfl, x1, Tx.er_TooMany.xf, Tx.er_TooMany.no "what" (by simp), rfl, _, rfl, t, _, _, _, rfl, x1, Tx.er_TooMany.xf, Tx.er_TooMany.no "most" (by simp), rfl, le_line (n := 2) (by decide), fun l nl => ?_⟩
        refine ⟨_, rfl, _, rfl, le_line (n := 2) (by decide), fun m nm => ?_⟩
        have s11 := same_new (o := HO.lst [(v : V), (u : V)]) nl
        have s12 := same_new (o := HO.lst [(v : V), (u : V)]) nm
        have hl : _ = some (HO.lst [v, u]) := s12 _ _ (upd_same (H := H3) (a := l) (o := HO.lst [v, u]))
        have hm : _ = some (HO.lst [v, u]) := upd_same (H := upd H3 l (HO.lst [v, u])) (a := m) (o := HO.lst [v, u])
        obtain ⟨d, D1, D2, S, E⟩ := Dat.two ((dv3.same s11).same s12) ((du3.same s11).same s12) hl hm
        refine ⟨d, d, D1, D2, S, S, ?_⟩
        rw [E]
        refine ⟨_, rfl, ite2 (fun z => absurd z (by decide)) (fun _ => ?_)⟩
        have z1 := s11.trans s12
        replace x1 := x1.same z1
        replace dv3 := dv3.same z1
        replace du3 := du3.same z1
        clear D1 D2 hl hm s11 s12 nl nm
        revert z1 x1 dv3 du3
        generalize upd (upd H3 l (HO.lst [v, u])) m (HO.lst [v, u]) = R1
        intro z1 x1 dv3 du3
        refine ⟨_, rfl, t, 26, "TooMany", rfl, (by decide), (by decide +kernel), ⟨(by decide +kernel), _, x1⟩, fun H7 s7 => ?_⟩
        refine ⟨_, rfl, ite2 (fun z => absurd z (by decide)) (fun _ => ?_)⟩
        exact ⟨_, _, rfl, (z.trans z1).trans s7⟩
      · obtain ⟨b2, b3, rfl, z⟩ := pv
        replace sG := sG.trans z
        clear dvG duG all z ft205 x203 x201
        refine ⟨_, rfl, _, rfl, (show 2 ≤ 1000 by decide), fun a301 na => ⟨a301, _, _, _, rfl, Tx.er_BadText.oex, Tx.er_BadText.no "line" (by simp), Tx.er_BadText.no "word" (by simp), upd_same, fun dx301 nd ne => ⟨rfl, ?_⟩⟩⟩
        obtain ⟨sx, x301⟩ := fresh2 (C := (He.ga K "BadText")) (f := "line") (g := "word") (v := v) (u := u) na nd ne
        replace sG := sG.trans sx
        clear na nd ne
        clear sx
        revert x301 sG
        generalize upd (upd (upd (upd S3 a301 (exo a301 (He.ga K "BadText") none)) dx301 (exd dx301 [("line", v)])) a301 (exo a301 (He.ga K "BadText") (some dx301))) dx301 (exd dx301 [("word", u), ("line", v)]) = G302
        intro x301 sG
        refine ⟨_, rfl, _, rfl, rfl, fun a303 na => ⟨a303, _, _, _, rfl, Tx.er_BadText.oex, Tx.er_BadText.no "line" (by simp), Tx.er_BadText.no "word" (by simp), upd_same, fun dx303 nd ne => ⟨rfl, ?_⟩⟩⟩
        obtain ⟨sx, x303⟩ := fresh2 (C := (He.ga K "BadText")) (f := "line") (g := "word") (v := v) (u := u) na nd ne
        replace sG := sG.trans sx
        replace x301 := x301.same sx
        clear na nd ne
        clear sx
        revert x303 sG x301
        generalize upd (upd (upd (upd G302 a303 (exo a303 (He.ga K "BadText") none)) dx303 (exd dx303 [("line", v)])) a303 (exo a303 (He.ga K "BadText") (some dx303))) dx303 (exd dx303 [("word", u), ("line", v)]) = G304
        intro x303 sG x301
        refine ⟨le_line (n := 2) (by decide), fun t305 nt => ?_⟩
        have sx : Same G304 (upd G304 t305 (.tup [V.ref a301, V.ref a303])) := same_new nt
        have ft305 : upd G304 t305 (.tup [V.ref a301, V.ref a303]) t305 = some (.tup [V.ref a301, V.ref a303]) := upd_same
        replace sG := sG.trans sx
        replace x303 := x303.same sx
        replace x301 := x301.same sx
        clear nt sx
        revert ft305 sG x303 x301
        generalize upd G304 t305 (.tup [V.ref a301, V.ref a303]) = G306
        intro ft305 sG x303 x301
        have all : ∀ x ∈ [V.ref a301, V.ref a303], ∃ t, x = .ref t ∧ ExcAt G306 t (He.ga K "BadText") (some [("word", u), ("line", v)]) := fun x hx => by
          simp only [List.mem_cons, List.not_mem_nil, or_false] at hx
          rcases hx with rfl | rfl
          · exact ⟨_, rfl, x301⟩
          · exact ⟨_, rfl, x303⟩
        have dvG := dv.same sG
        have duG := du.same sG
        refine ⟨t305, rfl, ⟨_, SqT.of ft305⟩, ?_⟩
        refine for_it (walk_tup (K := K) (a := t305) (xs := [V.ref a301, V.ref a303])) (fun i σ H2 => ∃ b2 b3 : Option V, σ = [some v, some u, b2, b3] ∧ Same G306 H2)
          ⟨_, _, rfl, Same.refl _⟩ (fun i σ H2 _ pv => ?_) (fun i x σ H2 H3 hi pv y => ?_) (fun σ S4 pv => ?_)
        · obtain ⟨_, _, _, z⟩ := pv
          exact SqT.of (z _ _ ft305)
        · obtain ⟨b2, b3, rfl, z⟩ := pv
          obtain ⟨rfl, hx⟩ := y
          obtain ⟨t, rfl, pt0⟩ := all x (List.mem_of_getElem? hx)
          have dv3 := dvG.same z
          have du3 := duG.same z
          have x1 := pt0.same z
          have e1 := t
          clear e1
          refine ⟨_, rfl, t, _, _, _, rfl, x1, Tx.er_BadText.xf, Tx.er_BadText.no "line" (by simp), rfl, _, rfl, t, _, _, _, rfl, x1, Tx.er_BadText.xf, Tx.er_BadText.no "word" (by simp), rfl, le_line (n := 2) (by decide), fun l nl => ?_⟩
          refine ⟨_, rfl, _, rfl, le_line (n := 2) (by decide), fun m nm => ?_⟩
          have s11 := same_new (o := HO.lst [(v : V), (u : V)]) nl
          have s12 := same_new (o := HO.lst [(v : V), (u : V)]) nm
          have hl : _ = some (HO.lst [v, u]) := s12 _ _ (upd_same (H := H3) (a := l) (o := HO.lst [v, u]))
          have hm : _ = some (HO.lst [v, u]) := upd_same (H := upd H3 l (HO.lst [v, u])) (a := m) (o := HO.lst [v, u])
          obtain ⟨d, D1, D2, S, E⟩ := Dat.two ((dv3.same s11).same s12) ((du3.same s11).same s12) hl hm
          refine ⟨d, d, D1, D2, S, S, ?_⟩
          rw [E]
          refine ⟨_, rfl, ite2 (fun z => absurd z (by decide)) (fun _ => ?_)⟩
          have z1 := s11.trans s12
          replace x1 := x1.same z1
          replace dv3 := dv3.same z1
          replace du3 := du3.same z1
          clear D1 D2 hl hm s11 s12 nl nm
          revert z1 x1 dv3 du3
          generalize upd (upd H3 l (HO.lst [v, u])) m (HO.lst [v, u]) = R1
          intro z1 x1 dv3 du3
          refine ⟨_, rfl, t, 28, "BadText", rfl, (by decide), (by decide +kernel), ⟨(by decide +kernel), _, x1⟩, fun H7 s7 => ?_⟩
          refine ⟨_, rfl, ite2 (fun z => absurd z (by decide)) (fun _ => ?_)⟩
          exact ⟨_, _, rfl, (z.trans z1).trans s7⟩
        · obtain ⟨b2, b3, rfl, z⟩ := pv
          replace sG := sG.trans z
          clear dvG duG all z ft305 x303 x301
          refine ⟨_, rfl, _, rfl, (show 2 ≤ 1000 by decide), fun a401 na => ⟨a401, _, _, _, rfl, Tx.er_BadLine.oex, Tx.er_BadLine.no "line" (by simp), Tx.er_BadLine.no "error" (by simp), upd_same, fun dx401 nd ne => ⟨rfl, ?_⟩⟩⟩
          obtain ⟨sx, x401⟩ := fresh2 (C := (He.ga K "BadLine")) (f := "line") (g := "error") (v := v) (u := u) na nd ne
          replace sG := sG.trans sx
          clear na nd ne
          clear sx
          revert x401 sG
          generalize upd (upd (upd (upd S4 a401 (exo a401 (He.ga K "BadLine") none)) dx401 (exd dx401 [("line", v)])) a401 (exo a401 (He.ga K "BadLine") (some dx401))) dx401 (exd dx401 [("error", u), ("line", v)]) = G402
          intro x401 sG
          refine ⟨_, rfl, _, rfl, rfl, fun a403 na => ⟨a403, _, _, _, rfl, Tx.er_BadLine.oex, Tx.er_BadLine.no "line" (by simp), Tx.er_BadLine.no "error" (by simp), upd_same, fun dx403 nd ne => ⟨rfl, ?_⟩⟩⟩
          obtain ⟨sx, x403⟩ := fresh2 (C := (He.ga K "BadLine")) (f := "line") (g := "error") (v := v) (u := u) na nd ne
          replace sG := sG.trans sx
          replace x401 := x401.same sx
          clear na nd ne
          clear sx
          revert x403 sG x401
          generalize upd (upd (upd (upd G402 a403 (exo a403 (He.ga K "BadLine") none)) dx403 (exd dx403 [("line", v)])) a403 (exo a403 (He.ga K "BadLine") (some dx403))) dx403 (exd dx403 [("error", u), ("line", v)]) = G404
          intro x403 sG x401
          refine ⟨le_line (n := 2) (by decide), fun t405 nt => ?_⟩
          have sx : Same G404 (upd G404 t405 (.tup [V.ref a401, V.ref a403])) := same_new nt
          have ft405 : upd G404 t405 (.tup [V.ref a401, V.ref a403]) t405 = some (.tup [V.ref a401, V.ref a403]) := upd_same
          replace sG := sG.trans sx
          replace x403 := x403.same sx
          replace x401 := x401.same sx
          clear nt sx
          revert ft405 sG x403 x401
          generalize upd G404 t405 (.tup [V.ref a401, V.ref a403]) = G406
          intro ft405 sG x403 x401
          have all : ∀ x ∈ [V.ref a401, V.ref a403], ∃ t, x = .ref t ∧ ExcAt G406 t (He.ga K "BadLine") (some [("error", u), ("line", v)]) := fun x hx => by
            simp only [List.mem_cons, List.not_mem_nil, or_false] at hx
            rcases hx with rfl | rfl
            · exact ⟨_, rfl, x401⟩
            · exact ⟨_, rfl, x403⟩
          have dvG := dv.same sG
          have duG := du.same sG
          refine ⟨t405, rfl, ⟨_, SqT.of ft405⟩, ?_⟩
          refine for_it (walk_tup (K := K) (a := t405) (xs := [V.ref a401, V.ref a403])) (fun i σ H2 => ∃ b2 b3 : Option V, σ = [some v, some u, b2, b3] ∧ Same G406 H2)
            ⟨_, _, rfl, Same.refl _⟩ (fun i σ H2 _ pv => ?_) (fun i x σ H2 H3 hi pv y => ?_) (fun σ S5 pv => ?_)
          · obtain ⟨_, _, _, z⟩ := pv
            exact SqT.of (z _ _ ft405)
          · obtain ⟨b2, b3, rfl, z⟩ := pv
            obtain ⟨rfl, hx⟩ := y
            obtain ⟨t, rfl, pt0⟩ := all x (List.mem_of_getElem? hx)
            have dv3 := dvG.same z
            have du3 := duG.same z
            have x1 := pt0.same z
            have e1 := t
            clear e1
            refine ⟨_, rfl, t, _, _, _, rfl, x1, Tx.er_BadLine.xf, Tx.er_BadLine.no "line" (by simp), rfl, _, rfl, t, _, _, _, rfl, x1, Tx.er_BadLine.xf, Tx.er_BadLine.no "error" (by simp), rfl, le_line (n := 2) (by decide), fun l nl => ?_⟩
            refine ⟨_, rfl, _, rfl, le_line (n := 2) (by decide), fun m nm => ?_⟩
            have s11 := same_new (o := HO.lst [(v : V), (u : V)]) nl
            have s12 := same_new (o := HO.lst [(v : V), (u : V)]) nm
            have hl : _ = some (HO.lst [v, u]) := s12 _ _ (upd_same (H := H3) (a := l) (o := HO.lst [v, u]))
            have hm : _ = some (HO.lst [v, u]) := upd_same (H := upd H3 l (HO.lst [v, u])) (a := m) (o := HO.lst [v, u])
            obtain ⟨d, D1, D2, S, E⟩ := Dat.two ((dv3.same s11).same s12) ((du3.same s11).same s12) hl hm
            refine ⟨d, d, D1, D2, S, S, ?_⟩
            rw [E]
            refine ⟨_, rfl, ite2 (fun z => absurd z (by decide)) (fun _ => ?_)⟩
            have z1 := s11.trans s12
            replace x1 := x1.same z1
            replace dv3 := dv3.same z1
            replace du3 := du3.same z1
            clear D1 D2 hl hm s11 s12 nl nm
            revert z1 x1 dv3 du3
            generalize upd (upd H3 l (HO.lst [v, u])) m (HO.lst [v, u]) = R1
            intro z1 x1 dv3 du3
            refine ⟨_, rfl, t, 29, "BadLine", rfl, (by decide), (by decide +kernel), ⟨(by decide +kernel), _, x1⟩, fun H7 s7 => ?_⟩
            refine ⟨_, rfl, ite2 (fun z => absurd z (by decide)) (fun _ => ?_)⟩
            exact ⟨_, _, rfl, (z.trans z1).trans s7⟩
          · obtain ⟨b2, b3, rfl, z⟩ := pv
            replace sG := sG.trans z
            clear dvG duG all z ft405 x403 x401
            refine ⟨_, rfl, (show 1 ≤ 1000 by decide), fun a501 na => ⟨a501, _, _, rfl, Tx.er_TooMuch.oex, Tx.er_TooMuch.no "corner" (by simp), upd_same, fun dx501 nd ne => ⟨rfl, ?_⟩⟩⟩
            obtain ⟨sx, x501⟩ := fresh1 (C := (He.ga K "TooMuch")) (f := "corner") (v := v) na nd ne
            replace sG := sG.trans sx
            clear na nd ne
            clear sx
            revert x501 sG
            generalize upd (upd (upd S5 a501 (exo a501 (He.ga K "TooMuch") none)) dx501 (exd dx501 [("corner", v)])) a501 (exo a501 (He.ga K "TooMuch") (some dx501)) = G502
            intro x501 sG
            refine ⟨_, rfl, rfl, fun a503 na => ⟨a503, _, _, rfl, Tx.er_TooMuch.oex, Tx.er_TooMuch.no "corner" (by simp), upd_same, fun dx503 nd ne => ⟨rfl, ?_⟩⟩⟩
            obtain ⟨sx, x503⟩ := fresh1 (C := (He.ga K "TooMuch")) (f := "corner") (v := u) na nd ne
            replace sG := sG.trans sx
            replace x501 := x501.same sx
            clear na nd ne
            clear sx
            revert x503 sG x501
            generalize upd (upd (upd G502 a503 (exo a503 (He.ga K "TooMuch") none)) dx503 (exd dx503 [("corner", u)])) a503 (exo a503 (He.ga K "TooMuch") (some dx503)) = G504
            intro x503 sG x501
            refine ⟨le_line (n := 2) (by decide), fun t505 nt => ?_⟩
            have sx : Same G504 (upd G504 t505 (.tup [.ref a501, .ref a503])) := same_new nt
            have ft505 : upd G504 t505 (.tup [.ref a501, .ref a503]) t505 = some (.tup [.ref a501, .ref a503]) := upd_same
            replace sG := sG.trans sx
            replace x503 := x503.same sx
            replace x501 := x501.same sx
            clear nt sx
            revert ft505 sG x503 x501
            generalize upd G504 t505 (.tup [.ref a501, .ref a503]) = G506
            intro ft505 sG x503 x501
            refine ⟨_, rfl, rfl, fun a507 na => ⟨a507, _, _, rfl, Tx.er_TooMuch.oex, Tx.er_TooMuch.no "corner" (by simp), upd_same, fun dx507 nd ne => ⟨rfl, ?_⟩⟩⟩
            obtain ⟨sx, x507⟩ := fresh1 (C := (He.ga K "TooMuch")) (f := "corner") (v := v) na nd ne
            replace sG := sG.trans sx
            replace ft505 := sx _ _ ft505
            replace x503 := x503.same sx
            replace x501 := x501.same sx
            clear na nd ne
            clear sx
            revert x507 sG ft505 x503 x501
            generalize upd (upd (upd G506 a507 (exo a507 (He.ga K "TooMuch") none)) dx507 (exd dx507 [("corner", v)])) a507 (exo a507 (He.ga K "TooMuch") (some dx507)) = G508
            intro x507 sG ft505 x503 x501
            refine ⟨_, rfl, (show 1 ≤ 1000 by decide), fun a509 na => ⟨a509, _, _, rfl, Tx.er_TooMuch.oex, Tx.er_TooMuch.no "corner" (by simp), upd_same, fun dx509 nd ne => ⟨rfl, ?_⟩⟩⟩
            obtain ⟨sx, x509⟩ := fresh1 (C := (He.ga K "TooMuch")) (f := "corner") (v := u) na nd ne
            replace sG := sG.trans sx
            replace x507 := x507.same sx
            replace ft505 := sx _ _ ft505
            replace x503 := x503.same sx
            replace x501 := x501.same sx
            clear na nd ne
            clear sx
            revert x509 sG x507 ft505 x503 x501
            generalize upd (upd (upd G508 a509 (exo a509 (He.ga K "TooMuch") none)) dx509 (exd dx509 [("corner", u)])) a509 (exo a509 (He.ga K "TooMuch") (some dx509)) = G510
            intro x509 sG x507 ft505 x503 x501
            refine ⟨le_line (n := 2) (by decide), fun t511 nt => ?_⟩
            have sx : Same G510 (upd G510 t511 (.tup [.ref a507, .ref a509])) := same_new nt
            have ft511 : upd G510 t511 (.tup [.ref a507, .ref a509]) t511 = some (.tup [.ref a507, .ref a509]) := upd_same
            replace sG := sG.trans sx
            replace x509 := x509.same sx
            replace x507 := x507.same sx
            replace ft505 := sx _ _ ft505
            replace x503 := x503.same sx
            replace x501 := x501.same sx
            clear nt sx
            revert ft511 sG x509 x507 ft505 x503 x501
            generalize upd G510 t511 (.tup [.ref a507, .ref a509]) = G512
            intro ft511 sG x509 x507 ft505 x503 x501
            refine ⟨le_line (n := 2) (by decide), fun t513 nt => ?_⟩
            have sx : Same G512 (upd G512 t513 (.tup [V.ref t505, V.ref t511])) := same_new nt
            have ft513 : upd G512 t513 (.tup [V.ref t505, V.ref t511]) t513 = some (.tup [V.ref t505, V.ref t511]) := upd_same
            replace sG := sG.trans sx
            replace ft511 := sx _ _ ft511
            replace x509 := x509.same sx
            replace x507 := x507.same sx
            replace ft505 := sx _ _ ft505
            replace x503 := x503.same sx
            replace x501 := x501.same sx
            clear nt sx
            revert ft513 sG ft511 x509 x507 ft505 x503 x501
            generalize upd G512 t513 (.tup [V.ref t505, V.ref t511]) = G514
            intro ft513 sG ft511 x509 x507 ft505 x503 x501
            have all : ∀ x ∈ [V.ref t505, V.ref t511], ∃ t, x = .ref t ∧ Pr1 K G514 t "TooMuch" "corner" v u := fun x hx => by
              simp only [List.mem_cons, List.not_mem_nil, or_false] at hx
              rcases hx with rfl | rfl
              · exact ⟨_, rfl, a501, a503, ft505, x501, x503⟩
              · exact ⟨_, rfl, a507, a509, ft511, x507, x509⟩
            have dvG := dv.same sG
            have duG := du.same sG
            refine ⟨t513, rfl, ⟨_, SqT.of ft513⟩, ?_⟩
            refine for_it (walk_tup (K := K) (a := t513) (xs := [V.ref t505, V.ref t511])) (fun i σ H2 => ∃ b2 b3 : Option V, σ = [some v, some u, b2, b3] ∧ Same G514 H2)
              ⟨_, _, rfl, Same.refl _⟩ (fun i σ H2 _ pv => ?_) (fun i x σ H2 H3 hi pv y => ?_) (fun σ S6 pv => ?_)
            · obtain ⟨_, _, _, z⟩ := pv
              exact SqT.of (z _ _ ft513)
            · obtain ⟨b2, b3, rfl, z⟩ := pv
              obtain ⟨rfl, hx⟩ := y
              obtain ⟨t, rfl, pt0⟩ := all x (List.mem_of_getElem? hx)
              have dv3 := dvG.same z
              have du3 := duG.same z
              obtain ⟨e1, e2, ht, x1, x2⟩ := pt0.same z
              refine ⟨t, [.ref e1, .ref e2], rfl, SqT.of ht, rfl, .ref e1, [.ref e2], rfl, .ref e2, [], rfl, rfl, ?_⟩
              refine ⟨_, rfl, e1, _, _, _, rfl, x1, Tx.er_TooMuch.xf, Tx.er_TooMuch.no "corner" (by simp), rfl, _, rfl, e2, _, _, _, rfl, x2, Tx.er_TooMuch.xf, Tx.er_TooMuch.no "corner" (by simp), rfl, le_line (n := 2) (by decide), fun l nl => ?_⟩
              refine ⟨_, rfl, _, rfl, le_line (n := 2) (by decide), fun m nm => ?_⟩
              have s11 := same_new (o := HO.lst [(v : V), (u : V)]) nl
              have s12 := same_new (o := HO.lst [(v : V), (u : V)]) nm
              have hl : _ = some (HO.lst [v, u]) := s12 _ _ (upd_same (H := H3) (a := l) (o := HO.lst [v, u]))
              have hm : _ = some (HO.lst [v, u]) := upd_same (H := upd H3 l (HO.lst [v, u])) (a := m) (o := HO.lst [v, u])
              obtain ⟨d, D1, D2, S, E⟩ := Dat.two ((dv3.same s11).same s12) ((du3.same s11).same s12) hl hm
              refine ⟨d, d, D1, D2, S, S, ?_⟩
              rw [E]
              refine ⟨_, rfl, ite2 (fun z => absurd z (by decide)) (fun _ => ?_)⟩
              have z1 := s11.trans s12
              replace x1 := x1.same z1
              replace x2 := x2.same z1
              replace dv3 := dv3.same z1
              replace du3 := du3.same z1
              clear D1 D2 hl hm s11 s12 nl nm
              revert z1 x1 x2 dv3 du3
              generalize upd (upd H3 l (HO.lst [v, u])) m (HO.lst [v, u]) = R1
              intro z1 x1 x2 dv3 du3
              refine ⟨_, rfl, e1, 24, "TooMuch", rfl, (by decide), (by decide +kernel), ⟨(by decide +kernel), _, x1⟩, fun H7 s7 => ?_⟩
              refine ⟨_, rfl, ite2 (fun z => absurd z (by decide)) (fun _ => ?_)⟩
              refine ⟨_, rfl, e2, 24, "TooMuch", rfl, (by decide), (by decide +kernel), ⟨(by decide +kernel), _, x2.same s7⟩, fun H8 s8 => ?_⟩
              refine ⟨_, rfl, ite2 (fun z => absurd z (by decide)) (fun _ => ?_)⟩
              exact ⟨_, _, rfl, ((z.trans z1).trans s7).trans s8⟩
            · obtain ⟨b2, b3, rfl, z⟩ := pv
              replace sG := sG.trans z
              clear dvG duG all z ft513 ft511 x509 x507 ft505 x503 x501
              refine ⟨_, rfl, (show 1 ≤ 1000 by decide), fun a601 na => ⟨a601, _, _, rfl, Tx.er_Impossible.oex, Tx.er_Impossible.no "paper" (by simp), upd_same, fun dx601 nd ne => ⟨rfl, ?_⟩⟩⟩
              obtain ⟨sx, x601⟩ := fresh1 (C := (He.ga K "Impossible")) (f := "paper") (v := v) na nd ne
              replace sG := sG.trans sx
              clear na nd ne
              clear sx
              revert x601 sG
              generalize upd (upd (upd S6 a601 (exo a601 (He.ga K "Impossible") none)) dx601 (exd dx601 [("paper", v)])) a601 (exo a601 (He.ga K "Impossible") (some dx601)) = G602
              intro x601 sG
              refine ⟨_, rfl, rfl, fun a603 na => ⟨a603, _, _, rfl, Tx.er_Impossible.oex, Tx.er_Impossible.no "paper" (by simp), upd_same, fun dx603 nd ne => ⟨rfl, ?_⟩⟩⟩
              obtain ⟨sx, x603⟩ := fresh1 (C := (He.ga K "Impossible")) (f := "paper") (v := u) na nd ne
              replace sG := sG.trans sx
              replace x601 := x601.same sx
              clear na nd ne
              clear sx
              revert x603 sG x601
              generalize upd (upd (upd G602 a603 (exo a603 (He.ga K "Impossible") none)) dx603 (exd dx603 [("paper", u)])) a603 (exo a603 (He.ga K "Impossible") (some dx603)) = G604
              intro x603 sG x601
              refine ⟨le_line (n := 2) (by decide), fun t605 nt => ?_⟩
              have sx : Same G604 (upd G604 t605 (.tup [.ref a601, .ref a603])) := same_new nt
              have ft605 : upd G604 t605 (.tup [.ref a601, .ref a603]) t605 = some (.tup [.ref a601, .ref a603]) := upd_same
              replace sG := sG.trans sx
              replace x603 := x603.same sx
              replace x601 := x601.same sx
              clear nt sx
              revert ft605 sG x603 x601
              generalize upd G604 t605 (.tup [.ref a601, .ref a603]) = G606
              intro ft605 sG x603 x601
              refine ⟨_, rfl, rfl, fun a607 na => ⟨a607, _, _, rfl, Tx.er_Impossible.oex, Tx.er_Impossible.no "paper" (by simp), upd_same, fun dx607 nd ne => ⟨rfl, ?_⟩⟩⟩
              obtain ⟨sx, x607⟩ := fresh1 (C := (He.ga K "Impossible")) (f := "paper") (v := v) na nd ne
              replace sG := sG.trans sx
              replace ft605 := sx _ _ ft605
              replace x603 := x603.same sx
              replace x601 := x601.same sx
              clear na nd ne
              clear sx
              revert x607 sG ft605 x603 x601
              generalize upd (upd (upd G606 a607 (exo a607 (He.ga K "Impossible") none)) dx607 (exd dx607 [("paper", v)])) a607 (exo a607 (He.ga K "Impossible") (some dx607)) = G608
              intro x607 sG ft605 x603 x601
              refine ⟨_, rfl, (show 1 ≤ 1000 by decide), fun a609 na => ⟨a609, _, _, rfl, Tx.er_Impossible.oex, Tx.er_Impossible.no "paper" (by simp), upd_same, fun dx609 nd ne => ⟨rfl, ?_⟩⟩⟩
              obtain ⟨sx, x609⟩ := fresh1 (C := (He.ga K "Impossible")) (f := "paper") (v := u) na nd ne
              replace sG := sG.trans sx
              replace x607 := x607.same sx
              replace ft605 := sx _ _ ft605
              replace x603 := x603.same sx
              replace x601 := x601.same sx
              clear na nd ne
              clear sx
              revert x609 sG x607 ft605 x603 x601
              generalize upd (upd (upd G608 a609 (exo a609 (He.ga K "Impossible") none)) dx609 (exd dx609 [("paper", u)])) a609 (exo a609 (He.ga K "Impossible") (some dx609)) = G610
              intro x609 sG x607 ft605 x603 x601
              refine ⟨le_line (n := 2) (by decide), fun t611 nt => ?_⟩
              have sx : Same G610 (upd G610 t611 (.tup [.ref a607, .ref a609])) := same_new nt
              have ft611 : upd G610 t611 (.tup [.ref a607, .ref a609]) t611 = some (.tup [.ref a607, .ref a609]) := upd_same
              replace sG := sG.trans sx
              replace x609 := x609.same sx
              replace x607 := x607.same sx
              replace ft605 := sx _ _ ft605
              replace x603 := x603.same sx
              replace x601 := x601.same sx
              clear nt sx
              revert ft611 sG x609 x607 ft605 x603 x601
              generalize upd G610 t611 (.tup [.ref a607, .ref a609]) = G612
              intro ft611 sG x609 x607 ft605 x603 x601
              refine ⟨le_line (n := 2) (by decide), fun t613 nt => ?_⟩
              have sx : Same G612 (upd G612 t613 (.tup [V.ref t605, V.ref t611])) := same_new nt
              have ft613 : upd G612 t613 (.tup [V.ref t605, V.ref t611]) t613 = some (.tup [V.ref t605, V.ref t611]) := upd_same
              replace sG := sG.trans sx
              replace ft611 := sx _ _ ft611
              replace x609 := x609.same sx
              replace x607 := x607.same sx
              replace ft605 := sx _ _ ft605
              replace x603 := x603.same sx
              replace x601 := x601.same sx
              clear nt sx
              revert ft613 sG ft611 x609 x607 ft605 x603 x601
              generalize upd G612 t613 (.tup [V.ref t605, V.ref t611]) = G614
              intro ft613 sG ft611 x609 x607 ft605 x603 x601
              have all : ∀ x ∈ [V.ref t605, V.ref t611], ∃ t, x = .ref t ∧ Pr1 K G614 t "Impossible" "paper" v u := fun x hx => by
                simp only [List.mem_cons, List.not_mem_nil, or_false] at hx
                rcases hx with rfl | rfl
                · exact ⟨_, rfl, a601, a603, ft605, x601, x603⟩
                · exact ⟨_, rfl, a607, a609, ft611, x607, x609⟩
              have dvG := dv.same sG
              have duG := du.same sG
              refine ⟨t613, rfl, ⟨_, SqT.of ft613⟩, ?_⟩
              refine for_it (walk_tup (K := K) (a := t613) (xs := [V.ref t605, V.ref t611])) (fun i σ H2 => ∃ b2 b3 : Option V, σ = [some v, some u, b2, b3] ∧ Same G614 H2)
                ⟨_, _, rfl, Same.refl _⟩ (fun i σ H2 _ pv => ?_) (fun i x σ H2 H3 hi pv y => ?_) (fun σ S7 pv => ?_)
              · obtain ⟨_, _, _, z⟩ := pv
                exact SqT.of (z _ _ ft613)
              · obtain ⟨b2, b3, rfl, z⟩ := pv
                obtain ⟨rfl, hx⟩ := y
                obtain ⟨t, rfl, pt0⟩ := all x (List.mem_of_getElem? hx)
                have dv3 := dvG.same z
                have du3 := duG.same z
                obtain ⟨e1, e2, ht, x1, x2⟩ := pt0.same z
                refine ⟨t, [.ref e1, .ref e2], rfl, SqT.of ht, rfl, .ref e1, [.ref e2], rfl, .ref e2, [], rfl, rfl, ?_⟩
                refine ⟨_, rfl, e1, _, _, _, rfl, x1, Tx.er_Impossible.xf, Tx.er_Impossible.no "paper" (by simp), rfl, _, rfl, e2, _, _, _, rfl, x2, Tx.er_Impossible.xf, Tx.er_Impossible.no "paper" (by simp), rfl, le_line (n := 2) (by decide), fun l nl => ?_⟩
                refine ⟨_, rfl, _, rfl, le_line (n := 2) (by decide), fun m nm => ?_⟩
                have s11 := same_new (o := HO.lst [(v : V), (u : V)]) nl
                have s12 := same_new (o := HO.lst [(v : V), (u : V)]) nm
                have hl : _ = some (HO.lst [v, u]) := s12 _ _ (upd_same (H := H3) (a := l) (o := HO.lst [v, u]))
                have hm : _ = some (HO.lst [v, u]) := upd_same (H := upd H3 l (HO.lst [v, u])) (a := m) (o := HO.lst [v, u])
                obtain ⟨d, D1, D2, S, E⟩ := Dat.two ((dv3.same s11).same s12) ((du3.same s11).same s12) hl hm
                refine ⟨d, d, D1, D2, S, S, ?_⟩
                rw [E]
                refine ⟨_, rfl, ite2 (fun z => absurd z (by decide)) (fun _ => ?_)⟩
                have z1 := s11.trans s12
                replace x1 := x1.same z1
                replace x2 := x2.same z1
                replace dv3 := dv3.same z1
                replace du3 := du3.same z1
                clear D1 D2 hl hm s11 s12 nl nm
                revert z1 x1 x2 dv3 du3
                generalize upd (upd H3 l (HO.lst [v, u])) m (HO.lst [v, u]) = R1
                intro z1 x1 x2 dv3 du3
                refine ⟨_, rfl, e1, 25, "Impossible", rfl, (by decide), (by decide +kernel), ⟨(by decide +kernel), _, x1⟩, fun H7 s7 => ?_⟩
                refine ⟨_, rfl, ite2 (fun z => absurd z (by decide)) (fun _ => ?_)⟩
                refine ⟨_, rfl, e2, 25, "Impossible", rfl, (by decide), (by decide +kernel), ⟨(by decide +kernel), _, x2.same s7⟩, fun H8 s8 => ?_⟩
                refine ⟨_, rfl, ite2 (fun z => absurd z (by decide)) (fun _ => ?_)⟩
                exact ⟨_, _, rfl, ((z.trans z1).trans s7).trans s8⟩
              · obtain ⟨b2, b3, rfl, z⟩ := pv
                replace sG := sG.trans z
                clear dvG duG all z ft613 ft611 x609 x607 ft605 x603 x601
                exact fun a na => ⟨a, 27, "Nothing", rfl, (by decide), (by decide +kernel), ⟨(by decide +kernel), none, .bare upd_same⟩, fun H9 s9 => q _ ((sG.trans (same_new na)).trans s9)⟩
theorem has_law_two_right (Tx : Txt K mg) (c : He.SaysX fa fn [] tf ex w hh K) (X : K.In hh) (GG : hh.Ns mainGlobals mg) (h_Crossing_init : HasE P w K mg base "Crossing" 1 ["self", "one", "other"] (sp_Crossing_init K)) (h_law_is_only : Has P w K mg base "_law_is_only" 2 ["_law_error", "_law_at"] (sp_law_is_only K)) (h_TooMany_init : HasE P w K mg base "TooMany" 1 ["self", "what", "most"] (sp_TooMany_init K)) (h_BadText_init : HasE P w K mg base "BadText" 1 ["self", "line", "word"] (sp_BadText_init K)) (h_BadLine_init : HasE P w K mg base "BadLine" 1 ["self", "line", "error"] (sp_BadLine_init K)) (h_TooMuch_init : HasE P w K mg base "TooMuch" 1 ["self", "corner"] (sp_TooMuch_init K)) (h_Impossible_init : HasE P w K mg base "Impossible" 1 ["self", "paper"] (sp_Impossible_init K))  : Has P w K mg base "_law_two_right" 3 ["_law_one", "_law_other_here"] (sp_law_two_right K) := by
  obtain ⟨fd, F⟩ := c.t.d.def_ 105 (d := d_law_two_right) rfl
  exact ⟨_, fd, ok_law_two_right F Tx h_Crossing_init h_law_is_only h_TooMany_init h_BadText_init h_BadLine_init h_TooMuch_init h_Impossible_init, He.glo_ok X GG (c.t.d.fact 86 (f := .glo "_law_two_right") rfl), F.kp, F.bindsN fun _ _ _ _ _ _ us hl => match us, hl with | [_, _], _ => rfl⟩

end
end K00

namespace K00
open PySem PySem.Spec PyProof.Rows L2 Vf LamX
section
variable {hh : Heap} {P : Program} {w : World} {K : PySem.W.Frag} {mg : Str → Option Value} {base : Heap}
/-! ### what is heard -/
/-- the answer told: an exception of the class at C with these fields -/
def ToldE (Q : VK) (H : Hp) (C : Addr) (fs : List (Str × V)) : Prop := ∀ H' a, Same H H' → ExcAt H' a C (some fs) → Q (.ref a) H'
theorem ToldE.same {Q : VK} {H H1 : Hp} {C : Addr} {fs : List (Str × V)} (h : ToldE Q H C fs) (s : Same H H1) : ToldE Q H1 C fs := fun H' a s2 e => h H' a (s.trans s2) e
/-- the wish of the def that hears -/
def EH (K : PySem.W.Frag) (Q : VK) : XK := fun cls d H => ∃ (C dd : Addr) (fs : List (Str × V)), cls = .ref C ∧ d = some dd ∧ PySem.W.exmOne K (.ref C) (.ref (He.ga K "SewError")) = some true ∧ H dd = some (.xd fs) ∧ ToldE Q H C fs
theorem eh_of {Q : VK} {H : Hp} {C : Addr} {fs : List (Str × V)} (hx : PySem.W.exmOne K (.ref C) (.ref (He.ga K "SewError")) = some true) (h : ToldE Q H C fs) : Rz (EH K Q) C fs H := fun H' d s _ e => ⟨C, d, fs, rfl, rfl, hx, e, h.same s⟩
/-- the def that hears: None where nothing is raised -/
def TTh (K : PySem.W.Frag) : (XK → Hp → VK → Prop) → Hp → VK → Prop := fun tl H Q => tl (EH K Q) H fun _ H' => Q .non H'
theorem takes_len {X : Cx} {W : WX} (tk : Takes X W) : Takes X (fun cls d σ H => σ.length = X.N.length → W cls d σ H) := fun u s' x => by
  obtain ⟨a, B, sI, pins, σ, H, cls, d, h1, I, h2, h3, h4, h5, h6, h7, h8⟩ := x
  exact tk u s' ⟨a, B, sI, pins, σ, H, cls, d, h1, I, h2, h3, h4, h5, h6, h7, h8 I.len⟩
theorem sc_law_heard : FnScope ["_law_ask", "_law_caught", "_law_error"] ["_law_ask"] (defScope s_law_heard) := ⟨rfl, rfl, rfl, by decide +kernel, rfl, by decide +kernel, by decide +kernel⟩
theorem heard_gives {X : Cx} {g : Addr} {cdg : Value} {qA : Str} (hK : K = X.K) (hmg : mg = X.mg) (Tx : Txt K mg) : GivesTo X ["_law_ask", "_law_caught", "_law_error"] "_law_heard" (defScope s_law_heard) g cdg (defBody s_law_heard) "_law_ask" qA (TTh K) := by
  obtain ⟨prog0, w0, K0, mg0, base0, A0, N0, s00, H00, env0, outer0, stack0, ex0, fn0, calm0, pn0, xe0⟩ := X
  have hK' : K = K0 := hK
  have hmg' : mg = mg0 := hmg
  subst hK' hmg'
  intro fA cA s H Q tl act hc h
  refine ⟨_, (pss_cons (ps_set (i := 1) sc_law_heard.nd rfl (Or.inl rfl) pe_non)
        (pss_cons (ps_try_hold (i := 2) (c := .ref (He.ga K "SewError")) (tb := fun W D σ H => ∃ Ech : XK, (∀ cls d σ' H', σ'.length = 3 → Ech cls d H' → W cls d σ' H') ∧ σ[0]? = some (some (.ref fA)) ∧ H cA = some (CodeO cA qA) ∧ tl Ech H fun _ H' => D.nx σ H') rfl rfl rfl sc_law_heard.nd rfl rfl ⟨rfl, by decide, .inl Tx.g_SewError⟩ takes_no (fun W pn xe tk _ => by
        refine pss_one ⟨fun pins s' σ H' D I h' => ?_⟩
        obtain ⟨Ech, hW, h1, h2, h3⟩ := h'
        exact (ps_expr (act _ pn xe Ech _ _ (takes_len tk) fun cls d σ' H' e hl => hW cls d σ' H' hl e)).run pins s' σ H' D I ⟨h1, h2, h3⟩) (fun a oe cls d pn hz hf => pss_one (ps_set (i := 1) sc_law_heard.nd rfl (Or.inl rfl) (pv 2))))
        (pss_one (ps_ret (pv 1))))), ?_⟩
  refine ⟨EH K Q, fun cls d σ' H' hl e => ?_, rfl, hc, ?_⟩
  · obtain ⟨C, dd, fs, rfl, rfl, hx, hd, ht⟩ := e
    match σ', hl with
    | [x0, x1, x2], _ =>
      refine ⟨true, hx, fun _ a na => ?_, fun z => Bool.noConfusion z⟩
      have sa : Same H' (upd H' a (exv a C (some dd))) := same_new na
      exact ⟨_, rfl, _, rfl, ht _ a sa (.caught dd fs upd_same (sa _ _ hd))⟩
  · have h2 : tl (EH K Q) H fun _ H' => Q .non H' := h
    have e : (fun (_ : V) (H' : Hp) => Q .non H') = fun (_ : V) (H' : Hp) => ∃ v, (some (some V.non) : Option (Option V)) = some (some v) ∧ Q v H' := by
      funext _ H'
      exact propext ⟨fun q => ⟨_, rfl, q⟩, fun ⟨v, e, q⟩ => by
        cases e
        exact q⟩
    rw [e] at h2
    exact h2

end
end K00

namespace K00
open PySem PySem.Spec PyProof.Rows L2 Vf LamX
section
variable {hh : Heap} {P : Program} {w : World} {K : PySem.W.Frag} {mg : Str → Option Value} {base : Heap}
/-! ### rows -/
theorem bls_map (xs : List V) : (xs.filter fun _ => true).map (fun x => V.bl (isI x)) = (xs.map isI).map V.bl := by
  rw [List.filter_eq_self.mpr fun _ _ => rfl, List.map_map]
  rfl
def sp_is_row (K : PySem.W.Frag) : Sp := fun vs H Q _ => (∃ (v : V) (k : Kd), vs = [v] ∧ KdV K H v k ∧ k.seq = false ∧ ∀ H', Same H H' → Q (.bl false) H') ∨
  (∃ (a : Addr) (xs : List V), vs = [.ref a] ∧ H a = some (.lst xs) ∧ xs.length ≤ 100 ∧ (∀ x ∈ xs, ∃ k, ∀ H', KdV K H' x k) ∧ ∀ H', Same H H' → Q (.bl ((xs.map isI).all id)) H')
theorem sc_is_row : FnScope ["value", "item"] ["value"] (defScope s_is_row) := ⟨rfl, rfl, rfl, by decide +kernel, rfl, by decide +kernel, by decide +kernel⟩
theorem ok_is_row {f : Addr} {fd : FuncData} (F : FunD K "is_row" "is_row" (defArgs s_is_row) (defBody s_is_row) (defScope s_is_row) [] [] f fd) (Tx : Txt K mg) (h_is_listed : Has P w K mg base "is_listed" 1 ["value"] (sp_is_listed K)) (h_is_integer : Has P w K mg base "is_integer" 1 ["value"] (sp_is_integer K))  : FnOk P w K mg base CX0 2 f fd ["value"] (sp_is_row K) := by
  obtain ⟨f_is_listed, fd_is_listed, G_is_listed, g_is_listed, k_is_listed, b_is_listed⟩ := h_is_listed
  obtain ⟨f_is_integer, fd_is_integer, G_is_integer, g_is_integer, k_is_integer, b_is_integer⟩ := h_is_integer
  refine FunD.ok F sc_is_row (fun vs H Q E h => ?_) (fun cdv A outer s H vs Q E hr h => ?_)
  · rcases h with ⟨v, k, rfl, _⟩ | ⟨a, xs, rfl, _⟩ <;> rfl
  · rcases h with ⟨v, k, rfl, hk, hs, q⟩ | ⟨a, xs, rfl, ha, hl, hx, q⟩
    · refine ⟨_, PSs.nox (pss_one (ps_ret (pe_and (pe_call G_is_listed (hr.mono (by decide)) (by rfl) g_is_listed k_is_listed b_is_listed .nil pass0 (pa_cons (pv 0) pa_nil)) (pe_one (pe_callB (cr_all rfl) (by rfl) Tx.n_all (by decide +kernel) (pa_cons (pe_lc (own := [("item", 1)]) (g := gName 1) (tt := tYes) rfl sc_is_row.nd (pi_list (pv 0)) (blkOk_by (own := [("item", 1)]) (N := ["value", "item"]) (sc := defScope s_is_row) (by decide +kernel)) (fun _ _ _ _ _ => (pg_name (i := 1) sc_is_row.nd rfl (Or.inl rfl))) (fun _ _ _ _ _ => pts_nil) (fun _ _ _ _ _ => (pe_call G_is_integer (hr.mono (by decide)) (by rfl) g_is_integer k_is_integer b_is_integer .nil pass0 (pa_cons (pv 1) pa_nil)))) pa_nil)))))), ?_⟩
      refine ⟨_, rfl, _, k, rfl, hk, fun H1 s1 => ⟨_, rfl, ?_⟩⟩
      rw [hs]
      exact ite2 (fun e1 => absurd e1 (by decide)) (fun _ => q _ s1)
    · refine ⟨_, PSs.nox (pss_one (ps_ret (pe_and (pe_call G_is_listed (hr.mono (by decide)) (by rfl) g_is_listed k_is_listed b_is_listed .nil pass0 (pa_cons (pv 0) pa_nil)) (pe_one (pe_callB (cr_all rfl) (by rfl) Tx.n_all (by decide +kernel) (pa_cons (pe_lc (own := [("item", 1)]) (g := gName 1) (tt := tYes) rfl sc_is_row.nd (pi_list (pv 0)) (blkOk_by (own := [("item", 1)]) (N := ["value", "item"]) (sc := defScope s_is_row) (by decide +kernel)) (fun _ _ _ _ _ => (pg_name (i := 1) sc_is_row.nd rfl (Or.inl rfl))) (fun _ _ _ _ _ => pts_nil) (fun _ _ _ _ _ => (pe_call G_is_integer (hr.mono (by decide)) (by rfl) g_is_integer k_is_integer b_is_integer .nil pass0 (pa_cons (pv 1) pa_nil)))) pa_nil)))))), ?_⟩
      refine ⟨_, rfl, _, .list, rfl, ⟨_, ha⟩, fun H1 s1 => ⟨_, rfl, ?_⟩⟩
      refine ite2 (fun _ => ?_) (fun e => absurd rfl e)
      refine ⟨_, rfl, a, rfl, ⟨xs, SqL.of (s1 _ _ ha)⟩, fun D nD => ?_⟩
      refine lc_pure (walk_list (K := K) (a := a) (xs := xs)) xs rfl (by omega) (fun i H x H' y => ⟨same_of_eq y.1, y.2⟩) (fun x => .bl (isI x)) (fun _ => true) nD (fun H s => SqL.of (s _ _ (s1 _ _ ha))) (fun i x H2 Q1 Q0 hi s2 q1 q0 => ?_) (fun H2 s2 hD => ?_)
      · refine ⟨rfl, ?_⟩
        obtain ⟨kx, hkx⟩ := hx x (List.mem_of_getElem? hi)
        exact ⟨_, rfl, x, kx, rfl, hkx _, q1 rfl _ (Same.refl _)⟩
      · rw [bls_map] at hD
        exact ⟨D, _, rfl, SqL.of hD, q _ (s1.trans s2)⟩
theorem has_is_row (Tx : Txt K mg) (c : He.SaysX fa fn [] tf ex w hh K) (X : K.In hh) (GG : hh.Ns mainGlobals mg) (h_is_listed : Has P w K mg base "is_listed" 1 ["value"] (sp_is_listed K)) (h_is_integer : Has P w K mg base "is_integer" 1 ["value"] (sp_is_integer K))  : Has P w K mg base "is_row" 2 ["value"] (sp_is_row K) := by
  obtain ⟨fd, F⟩ := c.t.d.def_ 30 (d := d_is_row) rfl
  exact ⟨_, fd, ok_is_row F Tx h_is_listed h_is_integer, He.glo_ok X GG (c.t.d.fact 39 (f := .glo "is_row") rfl), F.kp, F.bindsN fun _ _ _ _ _ _ us hl => match us, hl with | [_], _ => rfl⟩
/-! ### what is no side -/
def sp_Skin_need_side (K : PySem.W.Frag) : Sp := fun vs H Q E => ∃ (x : Addr) (z : Str) (n i : Int) (ps : List (Int × Int)), vs = [.ref x, .int i] ∧ SkinAt K H x z n ps ∧ n * turnOf z ≤ i ∧ Rz E (He.ga K "NoSide") [("value", .int i)] H
theorem sc_Skin_need_side : FnScope ["self", "side"] ["self", "side"] (defScope s_Skin_need_side) := ⟨rfl, rfl, rfl, by decide +kernel, rfl, by decide +kernel, by decide +kernel⟩
theorem ok_Skin_need_side {f : Addr} {fd : FuncData} (F : FunD K "need_side" "Skin.need_side" (defArgs s_Skin_need_side) (defBody s_Skin_need_side) (defScope s_Skin_need_side) [] [] f fd) (Tx : Txt K mg) (h_is_within : Has P w K mg base "is_within" 2 ["value", "least", "most"] (sp_is_within K)) (h_Missing_init : HasE P w K mg base "Missing" 1 ["self", "value"] (sp_Missing_init K))  : FnOk P w K mg base (L2.CX P w) 3 f fd ["self", "side"] (sp_Skin_need_side K) := by
  obtain ⟨f_is_within, fd_is_within, G_is_within, g_is_within, k_is_within, b_is_within⟩ := h_is_within
  obtain ⟨fd_Missing_init, G_Missing_init, b_Missing_init, kb_Missing_init, ks_Missing_init⟩ := h_Missing_init
  refine FunD.ok F sc_Skin_need_side (fun vs H Q E h => ?_) (fun cdv A outer s H vs Q E hr h => ?_)
  · obtain ⟨x, z, n, i, ps, rfl, _⟩ := h
    rfl
  · obtain ⟨x, z, n, i, ps, rfl, ⟨dx, st, mt, ft, us, qs, hx⟩, i0, r⟩ := h
    refine ⟨_, (pss_one (ps_if (pt_not (pt_val (pe_call G_is_within (hr.mono (by decide)) (by rfl) g_is_within k_is_within b_is_within .nil pass0 (pa_cons (pv 1) (pa_cons pe_int (pa_cons (pe_op op_sub (pe_fld (pv 0) rfl) pe_int) pa_nil)))))) (pss_one (ps_raise rfl (takes_of rfl rfl rfl rfl) (pmk_oex Tx.er_NoSide.oex (ini_NoSide Tx) Tx.er_Missing.fn G_Missing_init (hr.mono (by decide)) b_Missing_init .nil pass0 (by rfl) Tx.g_NoSide (pa_cons (pv 1) pa_nil)))) pss_nil)), ?_⟩
    refine ⟨_, rfl, _, rfl, x, _, dx, _, _, rfl, hx.ins, Tx.cl_Skin, Tx.no_Skin_sides, rfl, _, _, rfl, rfl, _, .int 0, _, .int, rfl, True.intro, rfl, rfl, _, rfl, ?_⟩
    have e : bnd (.int i) (.int 0) (.int (n * turnOf z - 1)) = false := by
      show (decide (0 ≤ i) && decide (i ≤ n * turnOf z - 1)) = false
      rw [decide_eq_false (show ¬ i ≤ n * turnOf z - 1 by omega), Bool.and_false]
    rw [e]
    exact iteT ⟨_, rfl, mk1 Tx.er_NoSide.oex (Tx.er_NoSide.no "value" (by simp)) r⟩
theorem has_Skin_need_side (Tx : Txt K mg) (c : He.SaysX fa fn [] tf ex w hh K) (X : K.In hh) (GG : hh.Ns mainGlobals mg) (h_is_within : Has P w K mg base "is_within" 2 ["value", "least", "most"] (sp_is_within K)) (h_Missing_init : HasE P w K mg base "Missing" 1 ["self", "value"] (sp_Missing_init K))  : HasM P w K mg base (L2.CX P w) "Skin" "need_side" 3 ["self", "side"] (sp_Skin_need_side K) := by
  obtain ⟨fd, F⟩ := c.t.d.def_ 42 (d := d_Skin_need_side) rfl
  exact ⟨fd, ok_Skin_need_side F Tx h_is_within h_Missing_init, F.bindsN fun _ _ _ _ _ _ us hl => match us, hl with | [_, _], _ => rfl⟩
def sp_Skin_face (K : PySem.W.Frag) : Sp := sp_Skin_need_side K
theorem sc_Skin_face : FnScope ["self", "side"] ["self", "side"] (defScope s_Skin_face) := ⟨rfl, rfl, rfl, by decide +kernel, rfl, by decide +kernel, by decide +kernel⟩
theorem ok_Skin_face {f : Addr} {fd : FuncData} (F : FunD K "face" "Skin.face" (defArgs s_Skin_face) (defBody s_Skin_face) (defScope s_Skin_face) [] [] f fd) (Tx : Txt K mg) (h_Skin_need_side : HasM P w K mg base (L2.CX P w) "Skin" "need_side" 3 ["self", "side"] (sp_Skin_need_side K))  : FnOk P w K mg base (L2.CX P w) 4 f fd ["self", "side"] (sp_Skin_face K) := by
  obtain ⟨fd_Skin_need_side, G_Skin_need_side, b_Skin_need_side⟩ := h_Skin_need_side
  refine FunD.ok F sc_Skin_face (fun vs H Q E h => ?_) (fun cdv A outer s H vs Q E hr h => ?_)
  · obtain ⟨x, z, n, i, ps, rfl, _⟩ := h
    rfl
  · obtain ⟨x, z, n, i, ps, rfl, hs, i0, r⟩ := h
    obtain ⟨dx, st, mt, ft, us, qs, hx⟩ := id hs
    refine ⟨_, (pss_cons (ps_expr (pe_meth (pv 0) Tx.cl_Skin Tx.me_Skin_need_side G_Skin_need_side (hr.mono (by decide)) b_Skin_need_side .nil (passE rfl rfl rfl rfl) (pa_cons (pv 1) pa_nil)))
        (pss_one (ps_ret (pe_op op_fdiv (pv 1) (pe_fld (pv 0) rfl))))), ?_⟩
    exact ⟨_, rfl, x, dx, _, rfl, hx.ins, rfl, _, rfl, x, z, n, i, ps, rfl, hs, i0, r⟩
theorem has_Skin_face (Tx : Txt K mg) (c : He.SaysX fa fn [] tf ex w hh K) (X : K.In hh) (GG : hh.Ns mainGlobals mg) (h_Skin_need_side : HasM P w K mg base (L2.CX P w) "Skin" "need_side" 3 ["self", "side"] (sp_Skin_need_side K))  : HasM P w K mg base (L2.CX P w) "Skin" "face" 4 ["self", "side"] (sp_Skin_face K) := by
  obtain ⟨fd, F⟩ := c.t.d.def_ 46 (d := d_Skin_face) rfl
  exact ⟨fd, ok_Skin_face F Tx h_Skin_need_side, F.bindsN fun _ _ _ _ _ _ us hl => match us, hl with | [_, _], _ => rfl⟩

end
end K00

namespace K00
open PySem PySem.Spec PyProof.Rows L2 Vf LamX
section
variable {hh : Heap} {P : Program} {w : World} {K : PySem.W.Frag} {mg : Str → Option Value} {base : Heap}
/-! ### len in a comprehension -/
theorem call_len_seqK {X : Cx} (hK : X.K = K) : CallR X (.builtin "len") (fun xs H Q => ∃ p ys, xs = [.ref p] ∧ (SqL K H p ys ∨ SqT K H p ys) ∧ Q (.int ys.length) H) := by
  subst hK
  exact call_len_seq
/-! ### a rim with odd amounts -/
theorem bls_of (g : V → Bool) (xs : List V) : (xs.filter fun _ => true).map (fun x => V.bl (g x)) = (xs.map g).map V.bl := by
  rw [List.filter_eq_self.mpr fun _ _ => rfl, List.map_map]
  rfl
def OddRow (K : PySem.W.Frag) (H : Hp) (v : V) : Prop := (∃ k, KdV K H v k ∧ k.seq = false) ∨ ∃ (a : Addr) (xs : List V), v = .ref a ∧ H a = some (.lst xs) ∧ xs.length ≤ 100 ∧ (∀ x ∈ xs, ∃ k, ∀ H', KdV K H' x k) ∧ (xs.map isI).all id = false
def sp_Rim_init (K : PySem.W.Frag) : Sp := fun vs H Q E => ∃ (x : Addr) (v : V), vs = [.ref x, .str "square", v] ∧ OddRow K H v ∧ Rz E (He.ga K "BadRim") [("part", .str "amounts")] H
theorem sc_Rim_init : FnScope ["self", "kind", "amounts", "full"] ["self", "kind", "amounts"] (defScope s_Rim_init) := ⟨rfl, rfl, rfl, by decide +kernel, rfl, by decide +kernel, by decide +kernel⟩
theorem ok_Rim_init {f : Addr} {fd : FuncData} (F : FunD K "__init__" "Rim.__init__" (defArgs s_Rim_init) (defBody s_Rim_init) (defScope s_Rim_init) [] [] f fd) (Tx : Txt K mg) (h_need_kind : HasX P w K mg base "need_kind" 3 ["kind"] (sp_need_kind K)) (h_is_row : Has P w K mg base "is_row" 2 ["value"] (sp_is_row K)) (h_BadRim_init : HasE P w K mg base "BadRim" 1 ["self", "part"] (sp_BadRim_init K)) (h_full_of : HasX P w K mg base "full_of" 4 ["kind"] (sp_full_of K)) (h_TooMany_init : HasE P w K mg base "TooMany" 1 ["self", "what", "most"] (sp_TooMany_init K))  : FnOk P w K mg base (L2.CX P w) 5 f fd ["self", "kind", "amounts"] (sp_Rim_init K) := by
  obtain ⟨f_need_kind, fd_need_kind, G_need_kind, g_need_kind, k_need_kind, b_need_kind⟩ := h_need_kind
  obtain ⟨f_is_row, fd_is_row, G_is_row, g_is_row, k_is_row, b_is_row⟩ := h_is_row
  obtain ⟨fd_BadRim_init, G_BadRim_init, b_BadRim_init, kb_BadRim_init, ks_BadRim_init⟩ := h_BadRim_init
  obtain ⟨f_full_of, fd_full_of, G_full_of, g_full_of, k_full_of, b_full_of⟩ := h_full_of
  obtain ⟨fd_TooMany_init, G_TooMany_init, b_TooMany_init, kb_TooMany_init, ks_TooMany_init⟩ := h_TooMany_init
  refine FunD.ok F sc_Rim_init (fun vs H Q E h => ?_) (fun cdv A outer s H vs Q E hr h => ?_)
  · obtain ⟨x, v, rfl, _⟩ := h
    rfl
  · obtain ⟨x, v, rfl, ho, r⟩ := h
    refine ⟨_, (pss_cons (ps_expr (pe_call G_need_kind (hr.mono (by decide)) (by rfl) g_need_kind k_need_kind b_need_kind .nil (passE rfl rfl rfl rfl) (pa_cons (pv 1) pa_nil)))
        (pss_cons (ps_if (PW.pt (pw_or (pt_not (pt_val (pe_call G_is_row (hr.mono (by decide)) (by rfl) g_is_row k_is_row b_is_row .nil pass0 (pa_cons (pv 2) pa_nil)))) (pw_or (pt_cmpR op_lt (pe_callB call_len_seq (by rfl) Tx.n_len (by decide +kernel) (pa_cons (pv 2) pa_nil)) pe_int (nomark _)) (pw_or1 (pt_cmpR op_lt (pe_callB (cr_min rfl) (by rfl) Tx.n_min (by decide +kernel) (pa_cons (pv 2) pa_nil)) pe_int (nomark _)))))) (pss_one (ps_raise rfl (takes_of rfl rfl rfl rfl) (pmk_oex Tx.er_BadRim.oex Tx.er_BadRim.ini Tx.er_BadRim.fn G_BadRim_init (hr.mono (by decide)) b_BadRim_init .nil pass0 (by rfl) Tx.g_BadRim (pa_cons pe_str pa_nil)))) pss_nil) L2.pss_never)), ?_⟩
    refine ⟨_, rfl, .str "square", .str, rfl, True.intro, fun _ => ?_, fun e => absurd e (by decide +kernel)⟩
    rcases ho with ⟨k, hk, hs⟩ | ⟨a, xs, rfl, ha, hl, hx, hn⟩
    · exact ⟨_, rfl, .inl ⟨v, k, rfl, hk, hs, fun H1 s1 => ⟨_, rfl, iteT (mk1 Tx.er_BadRim.oex (Tx.er_BadRim.no "part" (by simp)) (r.same s1))⟩⟩⟩
    · refine ⟨_, rfl, .inr ⟨a, xs, rfl, ha, hl, hx, fun H1 s1 => ?_⟩⟩
      rw [hn]
      exact ⟨_, rfl, iteT (mk1 Tx.er_BadRim.oex (Tx.er_BadRim.no "part" (by simp)) (r.same s1))⟩
theorem has_Rim_init (Tx : Txt K mg) (c : He.SaysX fa fn [] tf ex w hh K) (X : K.In hh) (GG : hh.Ns mainGlobals mg) (h_need_kind : HasX P w K mg base "need_kind" 3 ["kind"] (sp_need_kind K)) (h_is_row : Has P w K mg base "is_row" 2 ["value"] (sp_is_row K)) (h_BadRim_init : HasE P w K mg base "BadRim" 1 ["self", "part"] (sp_BadRim_init K)) (h_full_of : HasX P w K mg base "full_of" 4 ["kind"] (sp_full_of K)) (h_TooMany_init : HasE P w K mg base "TooMany" 1 ["self", "what", "most"] (sp_TooMany_init K))  : HasM P w K mg base (L2.CX P w) "Rim" "__init__" 5 ["self", "kind", "amounts"] (sp_Rim_init K) := by
  obtain ⟨fd, F⟩ := c.t.d.def_ 72 (d := d_Rim_init) rfl
  exact ⟨fd, ok_Rim_init F Tx h_need_kind h_is_row h_BadRim_init h_full_of h_TooMany_init, F.bindsN fun _ _ _ _ _ _ us hl => match us, hl with | [_, _, _], _ => rfl⟩
/-! ### a nesting that crosses -/
def P4 : List V := [.int 2, .int 3, .int 0, .int 1]
theorem P4_kd {K : PySem.W.Frag} : ∀ x ∈ P4, ∃ k, ∀ H', KdV K H' x k := fun x hx => by
  simp only [P4, List.mem_cons, List.not_mem_nil, or_false] at hx
  rcases hx with rfl | rfl | rfl | rfl <;> exact ⟨.int, fun _ => True.intro⟩
def sp_is_pairing (K : PySem.W.Frag) : Sp := fun vs H Q _ => ∃ a : Addr, vs = [.ref a] ∧ H a = some (.lst P4) ∧ ∀ H', Same H H' → Q (.bl true) H'
theorem sc_is_pairing : FnScope ["value", "partner", "edge"] ["value"] (defScope s_is_pairing) := ⟨rfl, rfl, rfl, by decide +kernel, rfl, by decide +kernel, by decide +kernel⟩
theorem ok_is_pairing {f : Addr} {fd : FuncData} (F : FunD K "is_pairing" "is_pairing" (defArgs s_is_pairing) (defBody s_is_pairing) (defScope s_is_pairing) [] [] f fd) (Tx : Txt K mg) (h_is_row : Has P w K mg base "is_row" 2 ["value"] (sp_is_row K)) (h_is_within : Has P w K mg base "is_within" 2 ["value", "least", "most"] (sp_is_within K))  : FnOk P w K mg base CX0 3 f fd ["value"] (sp_is_pairing K) := by
  obtain ⟨f_is_row, fd_is_row, G_is_row, g_is_row, k_is_row, b_is_row⟩ := h_is_row
  obtain ⟨f_is_within, fd_is_within, G_is_within, g_is_within, k_is_within, b_is_within⟩ := h_is_within
  refine FunD.ok F sc_is_pairing (fun vs H Q E h => ?_) (fun cdv A outer s H vs Q E hr h => ?_)
  · obtain ⟨a, rfl, _⟩ := h
    rfl
  · obtain ⟨a, rfl, ha, q⟩ := h
    refine ⟨_, PSs.nox (pss_cons (ps_if (PW.pt (pw_or (pt_not (pt_val (pe_call G_is_row (hr.mono (by decide)) (by rfl) g_is_row k_is_row b_is_row .nil pass0 (pa_cons (pv 0) pa_nil)))) (pw_or (pt_cmpR op_ne (pe_op op_mod (pe_callB call_len_seq (by rfl) Tx.n_len (by decide +kernel) (pa_cons (pv 0) pa_nil)) pe_int) pe_int (nomark _)) (pw_or1 (pt_not (pt_val (pe_call G_is_within (hr.mono (by decide)) (by rfl) g_is_within k_is_within b_is_within .nil pass0 (pa_cons (pe_callB call_len_seq (by rfl) Tx.n_len (by decide +kernel) (pa_cons (pv 0) pa_nil)) (pa_cons pe_int (pa_cons (pe_glob (v := .int 50) (by rfl) (Tx.c_MOST_EDGES).choose_spec ⟨_, rfl⟩) pa_nil)))))))))) (pss_one (ps_ret pe_bl)) pss_nil)
        (pss_cons (ps_if (pt_not (pt_val (pe_callB (cr_all rfl) (by rfl) Tx.n_all (by decide +kernel) (pa_cons (pe_lc (own := [("partner", 1)]) (g := gName 1) (tt := tYes) rfl sc_is_pairing.nd (pi_list (pv 0)) (blkOk_by (own := [("partner", 1)]) (N := ["value", "partner", "edge"]) (sc := defScope s_is_pairing) (by decide +kernel)) (fun _ _ _ _ _ => (pg_name (i := 1) sc_is_pairing.nd rfl (Or.inl rfl))) (fun _ _ _ _ _ => pts_nil) (fun _ _ _ _ _ => (pe_call G_is_within (hr.mono (by decide)) (by rfl) g_is_within k_is_within b_is_within .nil pass0 (pa_cons (pv 1) (pa_cons pe_int (pa_cons (pe_op op_sub (pe_callB (call_len_seqK (K := K) rfl) (by rfl) Tx.n_len (by decide +kernel) (pa_cons (pv 0) pa_nil)) pe_int) pa_nil)))))) pa_nil)))) (pss_one (ps_ret pe_bl)) pss_nil)
        (pss_one (ps_ret (pe_callB (cr_all rfl) (by rfl) Tx.n_all (by decide +kernel) (pa_cons (pe_lc (own := [("edge", 2)]) (g := gName 2) (tt := tYes) rfl sc_is_pairing.nd (pi_range1 (by rfl) Tx.n_range (pa_cons (pe_callB call_len_seq (by rfl) Tx.n_len (by decide +kernel) (pa_cons (pv 0) pa_nil)) pa_nil)) (blkOk_by (own := [("edge", 2)]) (N := ["value", "partner", "edge"]) (sc := defScope s_is_pairing) (by decide +kernel)) (fun _ _ _ _ _ => (pg_name (i := 2) sc_is_pairing.nd rfl (Or.inl rfl))) (fun _ _ _ _ _ => pts_nil) (fun _ _ _ _ _ => (pe_and (pe_cmpR op_ne (pe_ix (ix_listK (K := K) rfl) (pv 0) (pv 2) (fun _ _ => rfl)) (pv 2) (nomark _)) (pe_one (pe_cmpR op_eq (pe_ix (ix_listK (K := K) rfl) (pv 0) (pe_ix (ix_listK (K := K) rfl) (pv 0) (pv 2) (fun _ _ => rfl)) (fun _ _ => rfl)) (pv 2) (nomark _)))))) pa_nil)))))), ?_⟩
    refine ⟨_, rfl, .inr ⟨a, P4, rfl, ha, by decide, P4_kd, fun H1 s1 => ⟨_, rfl, iteF ?_⟩⟩⟩
    refine ⟨_, rfl, a, _, rfl, .inl (SqL.of (s1 _ _ ha)), _, _, rfl, rfl, (by decide), rfl, _, rfl, iteF ?_⟩
    refine ⟨_, rfl, a, _, rfl, .inl (SqL.of (s1 _ _ ha)), _, _, _, .int, rfl, True.intro, rfl, rfl, _, rfl, iteF ?_⟩
    refine ⟨_, rfl, a, rfl, ⟨P4, SqL.of (s1 _ _ ha)⟩, fun D nD => ?_⟩
    refine lc_pure (walk_list (K := K) (a := a) (xs := P4)) P4 rfl (by decide) (fun i H x H' y => ⟨same_of_eq y.1, y.2⟩) (fun x => .bl (bnd x (.int 0) (.int 3))) (fun _ => true) nD (fun H s => SqL.of (s _ _ (s1 _ _ ha))) (fun i x H2 Q1 Q0 hi s2 q1 q0 => ?_) (fun H2 s2 hD => ?_)
    · refine ⟨rfl, ?_⟩
      obtain ⟨kx, hkx⟩ := P4_kd (K := K) x (List.mem_of_getElem? hi)
      exact ⟨_, rfl, _, rfl, a, _, rfl, .inl (SqL.of (s2 _ _ (s1 _ _ ha))), _, _, rfl, rfl, x, .int 0, _, kx, rfl, hkx _, rfl, rfl, q1 rfl _ (Same.refl _)⟩
    rw [bls_of fun x => bnd x (.int 0) (.int 3)] at hD
    refine ⟨D, _, rfl, SqL.of hD, _, rfl, iteF ?_⟩
    refine ⟨_, rfl, a, _, rfl, .inl (SqL.of (s2 _ _ (s1 _ _ ha))), _, rfl, by decide, by decide, fun D2 nD2 => ?_⟩
    refine lc_pure ((walk_range (lo := 0) (n := Int.toNat ((P4.length : Nat) : Int))).mono (Y' := fun i H x H' => H' = H ∧ (rgK 0 4)[i]? = some x) (fun _ h => h) (fun i H x H' hi _ y => ⟨y.1, by rw [y.2]; exact rgK_at hi⟩)) (rgK 0 4) rfl (by decide) (fun i H x H' y => ⟨same_of_eq y.1, y.2⟩) (fun _ => .bl true) (fun _ => true) nD2 (fun _ _ => True.intro) (fun i v H3 Q1 Q0 hi s3 q1 q0 => ⟨rfl, ?_⟩) (fun H3 s3 hD2 => ?_)
    · have hb := s3 _ _ (s2 _ _ (s1 _ _ ha))
      have hv : v ∈ rgK 0 4 := List.mem_of_getElem? hi
      have hv2 : v = .int 0 ∨ v = .int 1 ∨ v = .int 2 ∨ v = .int 3 := by simpa [rgK, List.range, List.range.loop] using hv
      rcases hv2 with rfl | rfl | rfl | rfl
      · refine ⟨_, rfl, _, rfl, a, _, _, .int 2, rfl, rfl, SqL.of hb, rfl, _, rfl, rfl, _, rfl, ite2 (fun _ => ?_) (fun e => absurd (by decide +kernel) e)⟩
        exact ⟨_, rfl, _, rfl, _, rfl, a, _, _, .int 2, rfl, rfl, SqL.of hb, rfl, a, _, _, .int 0, rfl, rfl, SqL.of hb, rfl, _, rfl, rfl, q1 rfl _ (Same.refl _)⟩
      · refine ⟨_, rfl, _, rfl, a, _, _, .int 3, rfl, rfl, SqL.of hb, rfl, _, rfl, rfl, _, rfl, ite2 (fun _ => ?_) (fun e => absurd (by decide +kernel) e)⟩
        exact ⟨_, rfl, _, rfl, _, rfl, a, _, _, .int 3, rfl, rfl, SqL.of hb, rfl, a, _, _, .int 1, rfl, rfl, SqL.of hb, rfl, _, rfl, rfl, q1 rfl _ (Same.refl _)⟩
      · refine ⟨_, rfl, _, rfl, a, _, _, .int 0, rfl, rfl, SqL.of hb, rfl, _, rfl, rfl, _, rfl, ite2 (fun _ => ?_) (fun e => absurd (by decide +kernel) e)⟩
        exact ⟨_, rfl, _, rfl, _, rfl, a, _, _, .int 0, rfl, rfl, SqL.of hb, rfl, a, _, _, .int 2, rfl, rfl, SqL.of hb, rfl, _, rfl, rfl, q1 rfl _ (Same.refl _)⟩
      · refine ⟨_, rfl, _, rfl, a, _, _, .int 1, rfl, rfl, SqL.of hb, rfl, _, rfl, rfl, _, rfl, ite2 (fun _ => ?_) (fun e => absurd (by decide +kernel) e)⟩
        exact ⟨_, rfl, _, rfl, _, rfl, a, _, _, .int 1, rfl, rfl, SqL.of hb, rfl, a, _, _, .int 3, rfl, rfl, SqL.of hb, rfl, _, rfl, rfl, q1 rfl _ (Same.refl _)⟩
    · rw [bls_of fun _ => true] at hD2
      exact ⟨D2, _, rfl, SqL.of hD2, q _ ((s1.trans s2).trans s3)⟩
theorem has_is_pairing (Tx : Txt K mg) (c : He.SaysX fa fn [] tf ex w hh K) (X : K.In hh) (GG : hh.Ns mainGlobals mg) (h_is_row : Has P w K mg base "is_row" 2 ["value"] (sp_is_row K)) (h_is_within : Has P w K mg base "is_within" 2 ["value", "least", "most"] (sp_is_within K))  : Has P w K mg base "is_pairing" 3 ["value"] (sp_is_pairing K) := by
  obtain ⟨fd, F⟩ := c.t.d.def_ 79 (d := d_is_pairing) rfl
  exact ⟨_, fd, ok_is_pairing F Tx h_is_row h_is_within, He.glo_ok X GG (c.t.d.fact 66 (f := .glo "is_pairing") rfl), F.kp, F.bindsN fun _ _ _ _ _ _ us hl => match us, hl with | [_], _ => rfl⟩
def sp_first_crossing (K : PySem.W.Frag) : Sp := fun vs H Q _ => ∃ a : Addr, vs = [.ref a] ∧ H a = some (.lst P4) ∧ ∀ H' t, Same H H' → H' t = some (.tup [.int 0, .int 1]) → Q (.ref t) H'
theorem sc_first_crossing : FnScope ["partners", "one", "other"] ["partners"] (defScope s_first_crossing) := ⟨rfl, rfl, rfl, by decide +kernel, rfl, by decide +kernel, by decide +kernel⟩
theorem ok_first_crossing {f : Addr} {fd : FuncData} (F : FunD K "first_crossing" "first_crossing" (defArgs s_first_crossing) (defBody s_first_crossing) (defScope s_first_crossing) [] [] f fd) (Tx : Txt K mg)   : FnOk P w K mg base CX0 1 f fd ["partners"] (sp_first_crossing K) := by
  refine FunD.ok F sc_first_crossing (fun vs H Q E h => ?_) (fun cdv A outer s H vs Q E hr h => ?_)
  · obtain ⟨a, rfl, _⟩ := h
    rfl
  · obtain ⟨a, rfl, ha, q⟩ := h
    refine ⟨_, PSs.nox (pss_cons (ps_for PassesOwn.never rfl (pi_range1 (by rfl) Tx.n_range (pa_cons (pe_callB call_len_seq (by rfl) Tx.n_len (by decide +kernel) (pa_cons (pv 0) pa_nil)) pa_nil)) (pg_name (i := 1) sc_first_crossing.nd rfl (Or.inl rfl)) (pss_one (ps_for PassesOwn.never rfl (pi_range2 (by rfl) Tx.n_range (pa_cons (pe_op op_add (pv 1) pe_int) (pa_cons (pe_ix ix_list (pv 0) (pv 1) (fun _ _ => rfl)) pa_nil))) (pg_name (i := 2) sc_first_crossing.nd rfl (Or.inl rfl)) (pss_one (ps_if (pt_cmpR op_gt (pe_ix ix_list (pv 0) (pv 2) (fun _ _ => rfl)) (pe_ix ix_list (pv 0) (pv 1) (fun _ _ => rfl)) (nomark _)) (pss_one (ps_ret (pe_tup (pa_cons (pv 1) (pa_cons (pv 2) pa_nil))))) pss_nil)))))
        (pss_one (ps_ret pe_non))), ?_⟩
    refine ⟨_, rfl, a, _, rfl, .inl (SqL.of ha), _, rfl, by decide, by decide, ?_⟩
    refine for_it (walk_range (lo := 0) (n := Int.toNat ((P4.length : Nat) : Int))) (fun i σ H2 => i = 0 ∧ σ = [some (.ref a), none, none] ∧ H2 = H) ⟨rfl, rfl, rfl⟩ (fun _ _ _ _ _ => True.intro) (fun i x σ H2 H3 hi pv y => ?_) (fun σ H2 pv => absurd pv.1 (by decide))
    obtain ⟨rfl, rfl, rfl⟩ := pv
    obtain ⟨rfl, rfl⟩ := y
    refine ⟨_, rfl, _, _, rfl, rfl, _, rfl, _, rfl, a, _, _, .int 2, rfl, rfl, SqL.of ha, rfl, _, _, rfl, ⟨by decide, by decide, by decide, by decide⟩, ?_⟩
    refine for_it (walk_range (lo := 0 + 1) (n := Int.toNat (2 - (0 + 1)))) (fun i σ H2 => i = 0 ∧ σ = [some (.ref a), some (.int 0), none] ∧ H2 = _) ⟨rfl, rfl, rfl⟩ (fun _ _ _ _ _ => True.intro) (fun i x σ H2 H3 hi pv y => ?_) (fun σ H2 pv => absurd pv.1 (by decide))
    obtain ⟨rfl, rfl, rfl⟩ := pv
    obtain ⟨rfl, rfl⟩ := y
    refine ⟨_, rfl, _, rfl, a, _, _, .int 3, rfl, rfl, SqL.of ha, rfl, _, rfl, _, rfl, a, _, _, .int 2, rfl, rfl, SqL.of ha, rfl, _, _, rfl, rfl, _, rfl, ite2 (fun _ => ?_) (fun e => absurd (by decide) e)⟩
    exact ⟨_, rfl, _, rfl, le_line (n := 2) (by decide), fun t nt => q _ t (same_new nt) upd_same⟩
theorem has_first_crossing (Tx : Txt K mg) (c : He.SaysX fa fn [] tf ex w hh K) (X : K.In hh) (GG : hh.Ns mainGlobals mg)   : Has P w K mg base "first_crossing" 1 ["partners"] (sp_first_crossing K) := by
  obtain ⟨fd, F⟩ := c.t.d.def_ 80 (d := d_first_crossing) rfl
  exact ⟨_, fd, ok_first_crossing F Tx , He.glo_ok X GG (c.t.d.fact 67 (f := .glo "first_crossing") rfl), F.kp, F.bindsN fun _ _ _ _ _ _ us hl => match us, hl with | [_], _ => rfl⟩
def sp_Nesting_init (K : PySem.W.Frag) : Sp := fun vs H Q E => ∃ (x a : Addr), vs = [.ref x, .ref a] ∧ H a = some (.lst P4) ∧ Rz E (He.ga K "Crossing") [("other", .int 1), ("one", .int 0)] H
theorem sc_Nesting_init : FnScope ["self", "partners", "crossing", "one", "other", "edge", "partner"] ["self", "partners"] (defScope s_Nesting_init) := ⟨rfl, rfl, rfl, by decide +kernel, rfl, by decide +kernel, by decide +kernel⟩
theorem ok_Nesting_init {f : Addr} {fd : FuncData} (F : FunD K "__init__" "Nesting.__init__" (defArgs s_Nesting_init) (defBody s_Nesting_init) (defScope s_Nesting_init) [] [] f fd) (Tx : Txt K mg) (h_is_pairing : Has P w K mg base "is_pairing" 3 ["value"] (sp_is_pairing K)) (h_BadNesting_init : HasE P w K mg base "BadNesting" 1 ["self", "part"] (sp_BadNesting_init K)) (h_first_crossing : Has P w K mg base "first_crossing" 1 ["partners"] (sp_first_crossing K)) (h_Crossing_init : HasE P w K mg base "Crossing" 1 ["self", "one", "other"] (sp_Crossing_init K))  : FnOk P w K mg base (L2.CX P w) 4 f fd ["self", "partners"] (sp_Nesting_init K) := by
  obtain ⟨f_is_pairing, fd_is_pairing, G_is_pairing, g_is_pairing, k_is_pairing, b_is_pairing⟩ := h_is_pairing
  obtain ⟨fd_BadNesting_init, G_BadNesting_init, b_BadNesting_init, kb_BadNesting_init, ks_BadNesting_init⟩ := h_BadNesting_init
  obtain ⟨f_first_crossing, fd_first_crossing, G_first_crossing, g_first_crossing, k_first_crossing, b_first_crossing⟩ := h_first_crossing
  obtain ⟨fd_Crossing_init, G_Crossing_init, b_Crossing_init, kb_Crossing_init, ks_Crossing_init⟩ := h_Crossing_init
  refine FunD.ok F sc_Nesting_init (fun vs H Q E h => ?_) (fun cdv A outer s H vs Q E hr h => ?_)
  · obtain ⟨x, a, rfl, _⟩ := h
    rfl
  · obtain ⟨x, a, rfl, ha, r⟩ := h
    refine ⟨_, (pss_cons (ps_if (pt_not (pt_val (pe_call G_is_pairing (hr.mono (by decide)) (by rfl) g_is_pairing k_is_pairing b_is_pairing .nil pass0 (pa_cons (pv 1) pa_nil)))) (pss_one (ps_raise rfl (takes_of rfl rfl rfl rfl) (pmk_oex Tx.er_BadNesting.oex Tx.er_BadNesting.ini Tx.er_BadNesting.fn G_BadNesting_init (hr.mono (by decide)) b_BadNesting_init .nil pass0 (by rfl) Tx.g_BadNesting (pa_cons pe_str pa_nil)))) pss_nil)
        (pss_cons (ps_set (i := 2) sc_Nesting_init.nd rfl (Or.inl rfl) (pe_call G_first_crossing (hr.mono (by decide)) (by rfl) g_first_crossing k_first_crossing b_first_crossing .nil pass0 (pa_cons (pv 1) pa_nil)))
        (pss_cons (ps_if (pt_cmpR op_notN (pv 2) pe_non (nomark _)) (pss_cons (ps_asg (pv 2) (pg_tup (by rfl) (pgs_cons (pg_name (i := 3) sc_Nesting_init.nd rfl (Or.inl rfl)) (pgs_cons (pg_name (i := 4) sc_Nesting_init.nd rfl (Or.inl rfl)) pgs_nil))))
        (pss_one (ps_raise rfl (takes_of rfl rfl rfl rfl) (pmk_oex Tx.er_Crossing.oex Tx.er_Crossing.ini Tx.er_Crossing.fn G_Crossing_init (hr.mono (by decide)) b_Crossing_init .nil pass0 (by rfl) Tx.g_Crossing (pa_cons (pv 3) (pa_cons (pv 4) pa_nil)))))) pss_nil) L2.pss_never))), ?_⟩
    refine ⟨_, rfl, a, rfl, ha, fun H1 s1 => ⟨_, rfl, iteF ?_⟩⟩
    refine ⟨_, rfl, a, rfl, s1 _ _ ha, fun H2 t s2 ht => ?_⟩
    refine ⟨_, rfl, rfl, _, rfl, iteT ?_⟩
    refine ⟨_, rfl, t, _, rfl, SqT.of ht, rfl, .int 0, [.int 1], rfl, .int 1, [], rfl, rfl, ?_⟩
    exact ⟨_, rfl, _, rfl, mk2 Tx.er_Crossing.oex (Tx.er_Crossing.no "one" (by simp)) (Tx.er_Crossing.no "other" (by simp)) (r.same (s1.trans s2))⟩
theorem has_Nesting_init (Tx : Txt K mg) (c : He.SaysX fa fn [] tf ex w hh K) (X : K.In hh) (GG : hh.Ns mainGlobals mg) (h_is_pairing : Has P w K mg base "is_pairing" 3 ["value"] (sp_is_pairing K)) (h_BadNesting_init : HasE P w K mg base "BadNesting" 1 ["self", "part"] (sp_BadNesting_init K)) (h_first_crossing : Has P w K mg base "first_crossing" 1 ["partners"] (sp_first_crossing K)) (h_Crossing_init : HasE P w K mg base "Crossing" 1 ["self", "one", "other"] (sp_Crossing_init K))  : HasM P w K mg base (L2.CX P w) "Nesting" "__init__" 4 ["self", "partners"] (sp_Nesting_init K) := by
  obtain ⟨fd, F⟩ := c.t.d.def_ 82 (d := d_Nesting_init) rfl
  exact ⟨fd, ok_Nesting_init F Tx h_is_pairing h_BadNesting_init h_first_crossing h_Crossing_init, F.bindsN fun _ _ _ _ _ _ us hl => match us, hl with | [_, _], _ => rfl⟩

end
end K00

namespace K00
open PySem PySem.Spec PyProof.Rows L2 Vf LamX
section
variable {hh : Heap} {P : Program} {w : World} {K : PySem.W.Frag} {mg : Str → Option Value} {base : Heap}
/-! ### a text of a rim that fails at its last word -/
def W5 : List V := [.str "square", .str "1", .str "1", .str "1", .str "x"]
def sp_words_of (K : PySem.W.Frag) : Sp := fun vs H Q _ => vs = [.str "square 1 1 1 x"] ∧ ∀ p, H p = none → Q (.ref p) (upd H p (.lst W5))
theorem sc_words_of : FnScope ["text"] ["text"] (defScope s_words_of) := ⟨rfl, rfl, rfl, by decide +kernel, rfl, by decide +kernel, by decide +kernel⟩
theorem ok_words_of {f : Addr} {fd : FuncData} (F : FunD K "words_of" "words_of" (defArgs s_words_of) (defBody s_words_of) (defScope s_words_of) [] [] f fd) (Tx : Txt K mg) (h_BadText_init : HasE P w K mg base "BadText" 1 ["self", "line", "word"] (sp_BadText_init K))  : FnOk P w K mg base (L2.CX P w) 3 f fd ["text"] (sp_words_of K) := by
  obtain ⟨fd_BadText_init, G_BadText_init, b_BadText_init, kb_BadText_init, ks_BadText_init⟩ := h_BadText_init
  refine FunD.ok F sc_words_of (fun vs H Q E h => ?_) (fun cdv A outer s H vs Q E hr h => ?_)
  · obtain ⟨rfl, _⟩ := h
    rfl
  · obtain ⟨rfl, q⟩ := h
    refine ⟨_, (pss_cons (ps_if (pt_not (pt_val (pe_callB call_isi (by rfl) Tx.n_isinstance (by decide +kernel) (pa_cons (pv 0) (pa_cons (pe_bltn (v := .ty "str") (by rfl) Tx.n_str (by decide +kernel) rfl) pa_nil))))) (pss_one (ps_raise rfl (takes_of rfl rfl rfl rfl) (pmk_oex Tx.er_BadText.oex Tx.er_BadText.ini Tx.er_BadText.fn G_BadText_init (hr.mono (by decide)) b_BadText_init .nil pass0 (by rfl) Tx.g_BadText (pa_cons pe_int (pa_cons pe_int pa_nil))))) pss_nil)
        (pss_one (ps_ret (pe_split (pv 0) pe_str)))), ?_⟩
    have hk : KdV K H (.str "square 1 1 1 x") .str := True.intro
    refine ⟨_, rfl, _, _, _, _, _, rfl, .ty "str", hk.ty, kd_is (by decide), _, rfl, ite2 (fun e => absurd e (by decide)) (fun _ => ?_)⟩
    have e1 : (Txt.split "square 1 1 1 x" " ").map V.str = W5 := by decide +kernel
    refine ⟨_, rfl, ⟨_, rfl⟩, _, _, rfl, rfl, by decide +kernel, Nat.le_trans (by decide +kernel : Str.length "square 1 1 1 x" + 2 ≤ 16) (le_line (n := 16) (by decide)), fun p np => ?_⟩
    rw [e1]
    exact q p np
theorem has_words_of (Tx : Txt K mg) (c : He.SaysX fa fn [] tf ex w hh K) (X : K.In hh) (GG : hh.Ns mainGlobals mg) (h_BadText_init : HasE P w K mg base "BadText" 1 ["self", "line", "word"] (sp_BadText_init K))  : HasX P w K mg base "words_of" 3 ["text"] (sp_words_of K) := by
  obtain ⟨fd, F⟩ := c.t.d.def_ 32 (d := d_words_of) rfl
  exact ⟨_, fd, ok_words_of F Tx h_BadText_init, He.glo_ok X GG (c.t.d.fact 41 (f := .glo "words_of") rfl), F.kp, F.bindsN fun _ _ _ _ _ _ us hl => match us, hl with | [_], _ => rfl⟩
def sp_natural_of (K : PySem.W.Frag) : Sp := fun vs H Q _ => ∃ z : Str, vs = [.str z] ∧ ((z = "1" ∧ Q (.int 1) H) ∨ (z = "x" ∧ Q .non H))
theorem sc_natural_of : FnScope ["word"] ["word"] (defScope s_natural_of) := ⟨rfl, rfl, rfl, by decide +kernel, rfl, by decide +kernel, by decide +kernel⟩
theorem ok_natural_of {f : Addr} {fd : FuncData} (F : FunD K "natural_of" "natural_of" (defArgs s_natural_of) (defBody s_natural_of) (defScope s_natural_of) [] [] f fd) (Tx : Txt K mg)   : FnOk P w K mg base CX0 1 f fd ["word"] (sp_natural_of K) := by
  refine FunD.ok F sc_natural_of (fun vs H Q E h => ?_) (fun cdv A outer s H vs Q E hr h => ?_)
  · obtain ⟨z, rfl, _⟩ := h
    rfl
  · obtain ⟨z, rfl, h⟩ := h
    refine ⟨_, PSs.nox (pss_cons (ps_if (PW.pt (pw_or (pt_not (PW.pt (pw_and (pt_val (pe_m0 PySem.F.slot_str_isascii PySem.F.type_str_isascii mt_isascii (pv 0))) (pw_and1 (pt_val (pe_m0 PySem.F.slot_str_isdigit PySem.F.type_str_isdigit mt_isdigit (pv 0))))))) (pw_or1 (pt_cmpR op_gt (pe_callB call_len_str (by rfl) Tx.n_len (by decide +kernel) (pa_cons (pv 0) pa_nil)) (pe_glob (v := .int 60) (by rfl) (Tx.c_LONGEST_NUMBER).choose_spec ⟨_, rfl⟩) (nomark _))))) (pss_one (ps_ret pe_non)) pss_nil)
        (pss_cons (ps_if (PW.pt (pw_and (pt_cmpR op_gt (pe_callB call_len_str (by rfl) Tx.n_len (by decide +kernel) (pa_cons (pv 0) pa_nil)) pe_int (nomark _)) (pw_and1 (pt_cmpR op_eq (pe_ix ix_str (pv 0) pe_int (fun _ _ => rfl)) pe_str (nomark _))))) (pss_one (ps_ret pe_non)) pss_nil)
        (pss_one (ps_ret (pe_callTy call_int_str (by rfl) Tx.n_int (by decide +kernel) (pa_cons (pv 0) pa_nil)))))), ?_⟩
    rcases h with ⟨rfl, q⟩ | ⟨rfl, q⟩
    · refine ⟨_, rfl, ⟨_, rfl⟩, _, rfl, rfl, True.intro, _, rfl, ite2 (fun _ => ?_) (fun e => absurd (by decide +kernel) e)⟩
      refine ⟨_, rfl, ⟨_, rfl⟩, _, rfl, rfl, True.intro, _, rfl, ?_⟩
      refine ite2 (fun e => absurd e (by decide +kernel)) (fun _ => ?_)
      refine ⟨_, rfl, _, rfl, Nat.le_trans (by decide +kernel : Str.length "1" ≤ 16) (le_line (n := 16) (by decide)), _, _, rfl, rfl, _, rfl, ite2 (fun e => absurd e (by decide +kernel)) (fun _ => ?_)⟩
      refine ⟨_, rfl, _, rfl, Nat.le_trans (by decide +kernel : Str.length "1" ≤ 16) (le_line (n := 16) (by decide)), _, _, rfl, rfl, _, rfl, ite2 (fun e => absurd e (by decide +kernel)) (fun _ => ?_)⟩
      exact ⟨_, rfl, _, 1, rfl, by decide +kernel, by decide +kernel, q⟩
    · refine ⟨_, rfl, ⟨_, rfl⟩, _, rfl, rfl, True.intro, _, rfl, ite2 (fun _ => ?_) (fun e => absurd (by decide +kernel) e)⟩
      refine ⟨_, rfl, ⟨_, rfl⟩, _, rfl, rfl, True.intro, _, rfl, ?_⟩
      exact ite2 (fun _ => q) (fun e => absurd (by decide +kernel) e)
theorem has_natural_of (Tx : Txt K mg) (c : He.SaysX fa fn [] tf ex w hh K) (X : K.In hh) (GG : hh.Ns mainGlobals mg)   : Has P w K mg base "natural_of" 1 ["word"] (sp_natural_of K) := by
  obtain ⟨fd, F⟩ := c.t.d.def_ 33 (d := d_natural_of) rfl
  exact ⟨_, fd, ok_natural_of F Tx , He.glo_ok X GG (c.t.d.fact 42 (f := .glo "natural_of") rfl), F.kp, F.bindsN fun _ _ _ _ _ _ us hl => match us, hl with | [_], _ => rfl⟩
def NumDo (K : PySem.W.Frag) (z : Str) (i : Nat) (H : Hp) (Q : VK) (E : XK) : Prop := (z = "1" ∧ Q (.int 1) H) ∨ (z = "x" ∧ Rz E (He.ga K "BadText") [("word", .int (i : Nat)), ("line", .int 0)] H)
def sp_number_at (K : PySem.W.Frag) : Sp := fun vs H Q E => ∃ (a : Addr) (i : Nat) (z : Str), vs = [.ref a, .int (i : Nat), .int 1, .non] ∧ H a = some (.lst W5) ∧ i < 5 ∧ W5[i]? = some (.str z) ∧ NumDo K z i H Q E
theorem sc_number_at : FnScope ["words", "at", "least", "most", "number"] ["words", "at", "least", "most"] (defScope s_number_at) := ⟨rfl, rfl, rfl, by decide +kernel, rfl, by decide +kernel, by decide +kernel⟩
theorem ok_number_at {f : Addr} {fd : FuncData} (F : FunD K "number_at" "number_at" (defArgs s_number_at) (defBody s_number_at) (defScope s_number_at) [] [] f fd) (Tx : Txt K mg) (h_BadText_init : HasE P w K mg base "BadText" 1 ["self", "line", "word"] (sp_BadText_init K)) (h_natural_of : Has P w K mg base "natural_of" 1 ["word"] (sp_natural_of K))  : FnOk P w K mg base (L2.CX P w) 3 f fd ["words", "at", "least", "most"] (sp_number_at K) := by
  obtain ⟨fd_BadText_init, G_BadText_init, b_BadText_init, kb_BadText_init, ks_BadText_init⟩ := h_BadText_init
  obtain ⟨f_natural_of, fd_natural_of, G_natural_of, g_natural_of, k_natural_of, b_natural_of⟩ := h_natural_of
  refine FunD.ok F sc_number_at (fun vs H Q E h => ?_) (fun cdv A outer s H vs Q E hr h => ?_)
  · obtain ⟨a, i, z, rfl, _⟩ := h
    rfl
  · obtain ⟨a, i, z, rfl, ha, hi, hz, h⟩ := h
    refine ⟨_, (pss_cons (ps_if (pt_cmpR op_ge (pv 1) (pe_callB call_len_seq (by rfl) Tx.n_len (by decide +kernel) (pa_cons (pv 0) pa_nil)) (nomark _)) (pss_one (ps_raise rfl (takes_of rfl rfl rfl rfl) (pmk_oex Tx.er_BadText.oex Tx.er_BadText.ini Tx.er_BadText.fn G_BadText_init (hr.mono (by decide)) b_BadText_init .nil pass0 (by rfl) Tx.g_BadText (pa_cons pe_int (pa_cons (pv 1) pa_nil))))) pss_nil)
        (pss_cons (ps_set (i := 4) sc_number_at.nd rfl (Or.inl rfl) (pe_call G_natural_of (hr.mono (by decide)) (by rfl) g_natural_of k_natural_of b_natural_of .nil pass0 (pa_cons (pe_ix ix_list (pv 0) (pv 1) (fun _ _ => rfl)) pa_nil)))
        (pss_cons (ps_if (PW.pt (pw_or (pt_cmpR op_isN (pv 4) pe_non (nomark _)) (pw_or (pt_cmpR op_lt (pv 4) (pv 2) (nomark _)) (pw_or1 (PW.pt (pw_and (pt_cmpR op_notN (pv 3) pe_non (nomark _)) (pw_and1 (pt_cmpR op_gt (pv 4) (pv 3) (nomark _))))))))) (pss_one (ps_raise rfl (takes_of rfl rfl rfl rfl) (pmk_oex Tx.er_BadText.oex Tx.er_BadText.ini Tx.er_BadText.fn G_BadText_init (hr.mono (by decide)) b_BadText_init .nil pass0 (by rfl) Tx.g_BadText (pa_cons pe_int (pa_cons (pv 1) pa_nil))))) pss_nil)
        (pss_one (ps_ret (pv 4)))))), ?_⟩
    have hW : ((W5.length : Nat) : Int) = 5 := rfl
    refine ⟨_, rfl, _, rfl, a, _, rfl, .inl (SqL.of ha), _, _, rfl, rfl, _, rfl, ite2 (fun e => absurd (of_decide_eq_true e) (by omega)) (fun _ => ?_)⟩
    rcases h with ⟨rfl, q⟩ | ⟨rfl, r⟩
    · refine ⟨_, rfl, _, rfl, a, _, _, .str "1", rfl, rfl, SqL.of ha, atI_nat hz, _, rfl, .inl ⟨rfl, ?_⟩⟩
      refine ⟨_, rfl, rfl, _, rfl, ite2 (fun e => absurd e (by decide)) (fun _ => ?_)⟩
      refine ⟨_, rfl, _, rfl, _, _, rfl, rfl, _, rfl, ite2 (fun e => absurd e (by decide)) (fun _ => ?_)⟩
      refine ⟨_, rfl, rfl, _, rfl, ite2 (fun e => absurd e (by decide)) (fun _ => ?_)⟩
      exact ⟨_, rfl, q⟩
    · refine ⟨_, rfl, _, rfl, a, _, _, .str "x", rfl, rfl, SqL.of ha, atI_nat hz, _, rfl, .inr ⟨rfl, ?_⟩⟩
      refine ⟨_, rfl, rfl, _, rfl, ite2 (fun _ => ?_) (fun e => absurd rfl e)⟩
      exact ⟨_, rfl, mk2 Tx.er_BadText.oex (Tx.er_BadText.no "line" (by simp)) (Tx.er_BadText.no "word" (by simp)) r⟩
theorem has_number_at (Tx : Txt K mg) (c : He.SaysX fa fn [] tf ex w hh K) (X : K.In hh) (GG : hh.Ns mainGlobals mg) (h_BadText_init : HasE P w K mg base "BadText" 1 ["self", "line", "word"] (sp_BadText_init K)) (h_natural_of : Has P w K mg base "natural_of" 1 ["word"] (sp_natural_of K))  : HasX P w K mg base "number_at" 3 ["words", "at", "least", "most"] (sp_number_at K) := by
  obtain ⟨fd, F⟩ := c.t.d.def_ 35 (d := d_number_at) rfl
  exact ⟨_, fd, ok_number_at F Tx h_BadText_init h_natural_of, He.glo_ok X GG (c.t.d.fact 44 (f := .glo "number_at") rfl), F.kp, F.bindsN fun _ _ _ _ _ _ us hl => match us, hl with | [_, _, _, _], _ => rfl⟩
def sp_amount_at (K : PySem.W.Frag) : Sp := fun vs H Q E => ∃ (a : Addr) (i : Nat) (z : Str), vs = [.ref a, .int (i : Nat)] ∧ H a = some (.lst W5) ∧ i < 5 ∧ W5[i]? = some (.str z) ∧ NumDo K z i H Q E
theorem sc_amount_at : FnScope ["words", "at"] ["words", "at"] (defScope s_amount_at) := ⟨rfl, rfl, rfl, by decide +kernel, rfl, by decide +kernel, by decide +kernel⟩
theorem ok_amount_at {f : Addr} {fd : FuncData} (F : FunD K "amount_at" "amount_at" (defArgs s_amount_at) (defBody s_amount_at) (defScope s_amount_at) [] [] f fd) (Tx : Txt K mg) (h_BadText_init : HasE P w K mg base "BadText" 1 ["self", "line", "word"] (sp_BadText_init K)) (h_number_at : HasX P w K mg base "number_at" 3 ["words", "at", "least", "most"] (sp_number_at K))  : FnOk P w K mg base (L2.CX P w) 4 f fd ["words", "at"] (sp_amount_at K) := by
  obtain ⟨fd_BadText_init, G_BadText_init, b_BadText_init, kb_BadText_init, ks_BadText_init⟩ := h_BadText_init
  obtain ⟨f_number_at, fd_number_at, G_number_at, g_number_at, k_number_at, b_number_at⟩ := h_number_at
  refine FunD.ok F sc_amount_at (fun vs H Q E h => ?_) (fun cdv A outer s H vs Q E hr h => ?_)
  · obtain ⟨a, i, z, rfl, _⟩ := h
    rfl
  · obtain ⟨a, i, z, rfl, ha, hi, hz, h⟩ := h
    refine ⟨_, (pss_cons (ps_if (pt_cmpR op_gt (pv 1) (pe_glob (v := .int 50) (by rfl) (Tx.c_MOST_EDGES).choose_spec ⟨_, rfl⟩) (nomark _)) (pss_one (ps_raise rfl (takes_of rfl rfl rfl rfl) (pmk_oex Tx.er_BadText.oex Tx.er_BadText.ini Tx.er_BadText.fn G_BadText_init (hr.mono (by decide)) b_BadText_init .nil pass0 (by rfl) Tx.g_BadText (pa_cons pe_int (pa_cons (pv 1) pa_nil))))) pss_nil)
        (pss_one (ps_ret (pe_call G_number_at (hr.mono (by decide)) (by rfl) g_number_at k_number_at b_number_at .nil (passE rfl rfl rfl rfl) (pa_cons (pv 0) (pa_cons (pv 1) (pa_cons pe_int (pa_cons pe_non pa_nil)))))))), ?_⟩
    refine ⟨_, rfl, _, _, rfl, rfl, _, rfl, ite2 (fun e => absurd (of_decide_eq_true e) (by omega)) (fun _ => ?_)⟩
    exact ⟨_, rfl, _, rfl, a, i, z, rfl, ha, hi, hz, h⟩
theorem has_amount_at (Tx : Txt K mg) (c : He.SaysX fa fn [] tf ex w hh K) (X : K.In hh) (GG : hh.Ns mainGlobals mg) (h_BadText_init : HasE P w K mg base "BadText" 1 ["self", "line", "word"] (sp_BadText_init K)) (h_number_at : HasX P w K mg base "number_at" 3 ["words", "at", "least", "most"] (sp_number_at K))  : HasX P w K mg base "amount_at" 4 ["words", "at"] (sp_amount_at K) := by
  obtain ⟨fd, F⟩ := c.t.d.def_ 78 (d := d_amount_at) rfl
  exact ⟨_, fd, ok_amount_at F Tx h_BadText_init h_number_at, He.glo_ok X GG (c.t.d.fact 65 (f := .glo "amount_at") rfl), F.kp, F.bindsN fun _ _ _ _ _ _ us hl => match us, hl with | [_, _], _ => rfl⟩
def sp_word_at (K : PySem.W.Frag) : Sp := fun vs H Q E => ∃ a : Addr, vs = [.ref a, .int 0, .ref (He.ga K "KINDS")] ∧ H a = some (.lst W5) ∧ Q (.str "square") H
theorem sc_word_at : FnScope ["words", "at", "choices"] ["words", "at", "choices"] (defScope s_word_at) := ⟨rfl, rfl, rfl, by decide +kernel, rfl, by decide +kernel, by decide +kernel⟩
theorem ok_word_at {f : Addr} {fd : FuncData} (F : FunD K "word_at" "word_at" (defArgs s_word_at) (defBody s_word_at) (defScope s_word_at) [] [] f fd) (Tx : Txt K mg) (h_BadText_init : HasE P w K mg base "BadText" 1 ["self", "line", "word"] (sp_BadText_init K))  : FnOk P w K mg base (L2.CX P w) 3 f fd ["words", "at", "choices"] (sp_word_at K) := by
  obtain ⟨fd_BadText_init, G_BadText_init, b_BadText_init, kb_BadText_init, ks_BadText_init⟩ := h_BadText_init
  refine FunD.ok F sc_word_at (fun vs H Q E h => ?_) (fun cdv A outer s H vs Q E hr h => ?_)
  · obtain ⟨a, rfl, _⟩ := h
    rfl
  · obtain ⟨a, rfl, ha, q⟩ := h
    refine ⟨_, (pss_cons (ps_if (PW.pt (pw_or (pt_cmpR op_ge (pv 1) (pe_callB call_len_seq (by rfl) Tx.n_len (by decide +kernel) (pa_cons (pv 0) pa_nil)) (nomark _)) (pw_or1 (pt_cmpR op_notIn_seq (pe_ix ix_list (pv 0) (pv 1) (fun _ _ => rfl)) (pv 2) rfl)))) (pss_one (ps_raise rfl (takes_of rfl rfl rfl rfl) (pmk_oex Tx.er_BadText.oex Tx.er_BadText.ini Tx.er_BadText.fn G_BadText_init (hr.mono (by decide)) b_BadText_init .nil pass0 (by rfl) Tx.g_BadText (pa_cons pe_int (pa_cons (pv 1) pa_nil))))) pss_nil)
        (pss_one (ps_ret (pe_ix ix_list (pv 0) (pv 1) (fun _ _ => rfl))))), ?_⟩
    refine ⟨_, rfl, _, rfl, a, _, rfl, .inl (SqL.of ha), _, _, rfl, rfl, _, rfl, ite2 (fun e => absurd e (by decide)) (fun _ => ?_)⟩
    refine ⟨_, rfl, _, rfl, a, _, _, .str "square", rfl, rfl, SqL.of ha, rfl, _, rfl, _, _, rfl, .inr (Tx.kinds _), rfl, rfl, _, rfl, ite2 (fun e => absurd e (by decide +kernel)) (fun _ => ?_)⟩
    exact ⟨_, rfl, _, rfl, a, _, _, _, rfl, rfl, SqL.of ha, rfl, q⟩
theorem has_word_at (Tx : Txt K mg) (c : He.SaysX fa fn [] tf ex w hh K) (X : K.In hh) (GG : hh.Ns mainGlobals mg) (h_BadText_init : HasE P w K mg base "BadText" 1 ["self", "line", "word"] (sp_BadText_init K))  : HasX P w K mg base "word_at" 3 ["words", "at", "choices"] (sp_word_at K) := by
  obtain ⟨fd, F⟩ := c.t.d.def_ 34 (d := d_word_at) rfl
  exact ⟨_, fd, ok_word_at F Tx h_BadText_init, He.glo_ok X GG (c.t.d.fact 43 (f := .glo "word_at") rfl), F.kp, F.bindsN fun _ _ _ _ _ _ us hl => match us, hl with | [_, _, _], _ => rfl⟩
/-- a staticmethod, with its promise -/
def HasSm (P : Program) (w : World) (K : PySem.W.Frag) (mg : Str → Option Value) (base : Heap) (C m : Str) (k : Nat) (ps : List Str) (sp : Sp) : Prop :=
  ∃ fd : FuncData, FnOk P w K mg base (L2.CX P w) k (He5.wf K (He.ga K C) "staticmethod" m) fd ps sp ∧ PySem.W.keepIn K (.ref (He5.wf K (He.ga K C) "staticmethod" m)) = true ∧ Binds K fd ps []
def sp_Rim_read (K : PySem.W.Frag) : Sp := fun vs H Q E => vs = [.str "square 1 1 1 x"] ∧ Rz E (He.ga K "BadText") [("word", .int 4), ("line", .int 0)] H
theorem sc_Rim_read : FnScope ["text", "words", "kind", "amounts", "at"] ["text"] (defScope s_Rim_read) := ⟨rfl, rfl, rfl, by decide +kernel, rfl, by decide +kernel, by decide +kernel⟩
theorem ok_Rim_read {f : Addr} {fd : FuncData} (F : FunD K "read" "Rim.read" (defArgs s_Rim_read) (defBody s_Rim_read) (defScope s_Rim_read) [] [] f fd) (Tx : Txt K mg) (h_words_of : HasX P w K mg base "words_of" 3 ["text"] (sp_words_of K)) (h_word_at : HasX P w K mg base "word_at" 3 ["words", "at", "choices"] (sp_word_at K)) (h_amount_at : HasX P w K mg base "amount_at" 4 ["words", "at"] (sp_amount_at K)) (h_Rim_init : HasM P w K mg base (L2.CX P w) "Rim" "__init__" 5 ["self", "kind", "amounts"] (sp_Rim_init K)) (h_BadText_init : HasE P w K mg base "BadText" 1 ["self", "line", "word"] (sp_BadText_init K))  : FnOk P w K mg base (L2.CX P w) 7 f fd ["text"] (sp_Rim_read K) := by
  obtain ⟨f_words_of, fd_words_of, G_words_of, g_words_of, k_words_of, b_words_of⟩ := h_words_of
  obtain ⟨f_word_at, fd_word_at, G_word_at, g_word_at, k_word_at, b_word_at⟩ := h_word_at
  obtain ⟨f_amount_at, fd_amount_at, G_amount_at, g_amount_at, k_amount_at, b_amount_at⟩ := h_amount_at
  obtain ⟨fd_Rim_init, G_Rim_init, b_Rim_init⟩ := h_Rim_init
  obtain ⟨fd_BadText_init, G_BadText_init, b_BadText_init, kb_BadText_init, ks_BadText_init⟩ := h_BadText_init
  refine FunD.ok F sc_Rim_read (fun vs H Q E h => ?_) (fun cdv A outer s H vs Q E hr h => ?_)
  · obtain ⟨rfl, _⟩ := h
    rfl
  · obtain ⟨rfl, r⟩ := h
    refine ⟨_, (pss_cons (ps_set (i := 1) sc_Rim_read.nd rfl (Or.inr rfl) (pe_call G_words_of (hr.mono (by decide)) (by rfl) g_words_of k_words_of b_words_of .nil (passE rfl rfl rfl rfl) (pa_cons (pv 0) pa_nil)))
        (pss_cons (ps_set (i := 2) sc_Rim_read.nd rfl (Or.inl rfl) (pe_call G_word_at (hr.mono (by decide)) (by rfl) g_word_at k_word_at b_word_at .nil (passE rfl rfl rfl rfl) (pa_cons (pv 1) (pa_cons pe_int (pa_cons (pe_glob (v := .ref (He.ga K "KINDS")) (by rfl) Tx.g_KINDS rfl) pa_nil)))))
        (pss_cons (ps_setLcR (i := 3) (own := [("at", 4)]) (g := gName 4) (tt := tYes) rfl rfl (sw_true rfl rfl rfl (by decide +kernel)) rfl rfl (takes_of rfl rfl rfl rfl) rfl sc_Rim_read.nd (pi_range2 (by rfl) Tx.n_range (pa_cons pe_int (pa_cons (pe_callB (call_max2 rfl) (by rfl) Tx.n_max (by decide +kernel) (pa_cons (pe_callB call_len_seq (by rfl) Tx.n_len (by decide +kernel) (pa_cons (pv 1) pa_nil)) (pa_cons pe_int pa_nil))) pa_nil))) (blkOk_by (own := [("at", 4)]) (N := ["text", "words", "kind", "amounts", "at"]) (sc := defScope s_Rim_read) (by decide +kernel)) (fun _ _ _ _ _ _ => (pg_name (i := 4) sc_Rim_read.nd rfl (Or.inl rfl))) (fun _ _ _ _ _ _ => pts_nil) (fun _ _ _ _ _ _ ps => (pe_call G_amount_at (hr.mono (by decide)) (by rfl) g_amount_at k_amount_at b_amount_at .nil ps (pa_cons (pv 1) (pa_cons (pv 4) pa_nil))))) L2.pss_never))), ?_⟩
    refine ⟨_, rfl, rfl, fun p np => ⟨_, rfl, p, rfl, upd_same, ?_⟩⟩
    refine ⟨_, rfl, p, _, rfl, .inl (SqL.of upd_same), _, _, rfl, _, _, rfl, ⟨by decide, by decide, by decide, by decide⟩, fun D nD => ?_⟩
    refine lc_it (walk_range (lo := 1) (n := Int.toNat ((if (3 : Int) > ((W5.length : Nat) : Int) then 3 else ((W5.length : Nat) : Int)) - 1))) (fun i H2 => i ≤ 3 ∧ H2 D = some (.lst (List.replicate i (.int 1))) ∧ Same (upd H p (.lst W5)) H2) ⟨by decide, upd_same, same_new nD⟩ (fun _ _ _ _ => True.intro) (fun i x H2 H3 hi pv y => ?_) (fun H2 pv => absurd pv.1 (by decide))
    obtain ⟨i3, hD, sG⟩ := pv
    obtain ⟨rfl, rfl⟩ := y
    have hp : H3 p = some (.lst W5) := sG _ _ upd_same
    refine ⟨rfl, ?_⟩
    have i4 : i = 0 ∨ i = 1 ∨ i = 2 ∨ i = 3 := by omega
    rcases i4 with rfl | rfl | rfl | rfl
    · unfold tYes
      refine ite2 (c := true = true) (fun _ => ?_) (fun e => absurd rfl e)
      exact ⟨_, rfl, _, rfl, p, 1, "1", rfl, hp, by decide, rfl, .inl ⟨rfl, _, hD, Nat.lt_of_lt_of_le (by decide : (List.replicate 0 (V.int 1)).length < 10) (le_line (n := 10) (by decide)), by decide, upd_same, Same.mut sG nD⟩⟩
    · unfold tYes
      refine ite2 (c := true = true) (fun _ => ?_) (fun e => absurd rfl e)
      exact ⟨_, rfl, _, rfl, p, 2, "1", rfl, hp, by decide, rfl, .inl ⟨rfl, _, hD, Nat.lt_of_lt_of_le (by decide : (List.replicate 1 (V.int 1)).length < 10) (le_line (n := 10) (by decide)), by decide, upd_same, Same.mut sG nD⟩⟩
    · unfold tYes
      refine ite2 (c := true = true) (fun _ => ?_) (fun e => absurd rfl e)
      exact ⟨_, rfl, _, rfl, p, 3, "1", rfl, hp, by decide, rfl, .inl ⟨rfl, _, hD, Nat.lt_of_lt_of_le (by decide : (List.replicate 2 (V.int 1)).length < 10) (le_line (n := 10) (by decide)), by decide, upd_same, Same.mut sG nD⟩⟩
    · unfold tYes
      refine ite2 (c := true = true) (fun _ => ?_) (fun e => absurd rfl e)
      exact ⟨_, rfl, _, rfl, p, 4, "x", rfl, hp, by decide, rfl, .inr ⟨rfl, r.same ((same_new np).trans sG)⟩⟩
theorem has_Rim_read (Tx : Txt K mg) (c : SaysY fa fn [] tf ex sm w hh K) (X : K.In hh) (GG : hh.Ns mainGlobals mg) (h_words_of : HasX P w K mg base "words_of" 3 ["text"] (sp_words_of K)) (h_word_at : HasX P w K mg base "word_at" 3 ["words", "at", "choices"] (sp_word_at K)) (h_amount_at : HasX P w K mg base "amount_at" 4 ["words", "at"] (sp_amount_at K)) (h_Rim_init : HasM P w K mg base (L2.CX P w) "Rim" "__init__" 5 ["self", "kind", "amounts"] (sp_Rim_init K)) (h_BadText_init : HasE P w K mg base "BadText" 1 ["self", "line", "word"] (sp_BadText_init K))  : HasSm P w K mg base "Rim" "read" 7 ["text"] (sp_Rim_read K) := by
  obtain ⟨fd, F⟩ := c.def_ 0 (d := d_Rim_read) rfl
  exact ⟨fd, ok_Rim_read F Tx h_words_of h_word_at h_amount_at h_Rim_init h_BadText_init, F.kp, F.bindsN fun _ _ _ _ _ _ us hl => match us, hl with | [_], _ => rfl⟩

end
end K00

namespace K00
open PySem PySem.Spec PyProof.Rows L2 Vf LamX
section
variable {hh : Heap} {P : Program} {w : World} {K : PySem.W.Frag} {mg : Str → Option Value} {base : Heap}
/-! ### code objects and their tables -/
/-- the def that hears -/
def HasH (K : PySem.W.Frag) (mg : Str → Option Value) : Prop := ∃ (g : Addr) (oc : Value) (od : Option Addr) (dV kV doc pm : Value) (an : Option Addr) (cdv ct : Value) (osl : Array (Option Value)), mg "_law_heard" = some (.ref g) ∧ PySem.W.keepIn K (.ref g) = true ∧
  K.lookup g = some ⟨oc, od, .func (PySem.W.fnOf "_law_heard" "_law_heard" (defArgs s_law_heard) (defBody s_law_heard) (defScope s_law_heard) dV kV doc pm an cdv ct), osl⟩ ∧ PySem.W.codeIn K cdv "_law_heard" = true ∧
  L2.Binds K (PySem.W.fnOf "_law_heard" "_law_heard" (defArgs s_law_heard) (defBody s_law_heard) (defScope s_law_heard) dV kV doc pm an cdv ct) ["_law_ask"] []
theorem has_heard (c : He.SaysX fa fn [] tf ex w hh K) (X : K.In hh) (GG : hh.Ns mainGlobals mg) : HasH K mg := by
  obtain ⟨fd, F⟩ := c.t.d.def_ 106 (d := d_law_heard) rfl
  have hb : Binds K fd ["_law_ask"] [] := F.bindsN fun _ _ _ _ _ _ us hl => match us, hl with | [_], _ => rfl
  obtain ⟨oc, od, dV, kV, doc, pm, an, cdv, ct, osl, rfl, lk, hcd, hD, hK⟩ := F.ex
  exact ⟨_, oc, od, dV, kV, doc, pm, an, cdv, ct, osl, He.glo_ok X GG (c.t.d.fact 87 (f := .glo "_law_heard") rfl), F.kp, lk, hcd, hb⟩
theorem okC {CX : CXT} {x : Str} {params : Arguments} {body : List Stmt} {scope : Scope} {fd : FuncData} {N ps : List Str} {k : Nat} {sp : Sp} (F : FunD K x x params body scope [] [] (He.fAd K (x, none)) fd) (S : FnScope N ps scope) (len : ∀ vs H Q E, sp vs H Q E → vs.length = ps.length)
    (walk : ∀ (A : Around) (outer : List Env) (s : Shared) (H : Hp) (vs : List V) (Q : VK) (E : XK), Room k (A.deeper (envOfC x scope s.heap.objs.size (He.fAd K (x, none)) (.ref (He.codeOf K (x, none))))) → sp vs H Q E →
      ∃ t, PSs (cxOf CX P w K mg base N x scope (He.fAd K (x, none)) (.ref (He.codeOf K (x, none))) A outer s H E) body t ∧ t { nx := fun _ H' => Q .non H', rt := Q } (L2.start N vs) H) : FnOk P w K mg base CX (k + 1) (He.fAd K (x, none)) fd ps sp := by
  obtain ⟨oc, od, dV, kV, doc, pm, an, cdv, ct, osl, rfl, lk, hcd, hD, hK⟩ := F.ex
  obtain ⟨cc, rfl⟩ := He.codeIn_ref hcd
  have e := He.codeOf_eq lk rfl
  rw [e] at walk
  exact fn_of lk hcd S len walk
def lq (x : Str) (sc : Scope) : Str := (envOfC x sc 0 0 .none).qual ++ "<lambda>"
abbrev TT0 (K : PySem.W.Frag) : List (Addr × Str) := [(tabT K "_law_raised_right", lq "_law_raised_right" (defScope s_law_raised_right))]
theorem mem_law_raised_right (K : PySem.W.Frag) : (tabT K "_law_raised_right", lq "_law_raised_right" (defScope s_law_raised_right)) ∈ TT0 K := List.mem_cons_self ..
theorem hu_law_raised_right (_ : Txt K mg) : ∀ p ∈ TT0 K, p.1 = tabT K "_law_raised_right" → p.2 = lq "_law_raised_right" (defScope s_law_raised_right) := fun p hp e => by
  simp only [TT0, List.mem_cons, List.not_mem_nil, or_false] at hp
  rw [hp]
/-! ### what stands behind a lambda -/
theorem tabs_same {T : List (Addr × Str)} {H H1 : Hp} (t : LamX.Tabs T H) (s : Same H H1) : LamX.Tabs T H1 := t.ext s
theorem codeO_lst {H : Hp} {c : Addr} {q : Str} {xs : List V} (h : H c = some (CodeO c q)) : H c ≠ some (.lst xs) := fun e => by
  rw [h] at e
  unfold CodeO at e
  cases e
theorem tabs_kp {T : List (Addr × Str)} {H H1 : Hp} {p : Addr} {xs : List V} (t : LamX.Tabs T H) (hp : H p = some (.lst xs)) (k : Kp p H H1) : LamX.Tabs T H1 := fun z hz => by
  obtain ⟨ps, h1, h2, h3⟩ := t z hz
  refine ⟨ps, k _ _ (fun e => ?_) h1, h2, fun pos cv hc => ?_⟩
  · rw [e, hp] at h1
    cases h1
  · obtain ⟨c, e1, e2⟩ := h3 pos cv hc
    exact ⟨c, e1, k _ _ (fun e => codeO_lst e2 (by rw [e]; exact hp)) e2⟩
theorem ExcAt.ext {H H' : Hp} {a C : Addr} {fs : Option (List (Str × V))} (x : ExcAt H a C fs) (s : ExtN H H') : ExcAt H' a C fs := by
  cases x with
  | made d fs e f => exact .made d fs (s _ _ e fun _ z => nomatch z) (s _ _ f fun _ z => nomatch z)
  | caught d fs e f => exact .caught d fs (s _ _ e fun _ z => nomatch z) (s _ _ f fun _ z => nomatch z)
  | bare e => exact .bare (s _ _ e fun _ z => nomatch z)
/-- an odd kind, an odd list of amounts -/
def OddV (H : Hp) (l : Option Addr) (v : V) : Prop := ((∃ k, ∀ K H', KdV K H' v k ∧ k.seq = false) ∧ isGrid v = false) ∨ ∃ a : Addr, v = .ref a ∧ H a = some (.lst [.str "square"]) ∧ l ≠ some a
theorem OddV.ext {H H' : Hp} {l : Option Addr} {v : V} (h : OddV H l v) (s : ExtN H H') : OddV H' l v := by
  rcases h with h | ⟨a, rfl, ha, n⟩
  · exact .inl h
  · exact .inr ⟨a, rfl, s _ _ ha (fun _ z => nomatch z), n⟩
theorem OddV.same {H H' : Hp} {l : Option Addr} {v : V} (h : OddV H l v) (s : Same H H') : OddV H' l v := h.ext (ExtN.of s)
theorem OddV.kp {H H' : Hp} {l : Addr} {v : V} (h : OddV H (some l) v) (s : Kp l H H') : OddV H' (some l) v := by
  rcases h with h | ⟨a, rfl, ha, n⟩
  · exact .inl h
  · exact .inr ⟨a, rfl, s _ _ (fun e => n (by rw [e])) ha, n⟩
theorem OddV.grid {H : Hp} {l : Option Addr} {v : V} (h : OddV H l v) : isGrid v = false := by
  rcases h with h | ⟨a, rfl, _⟩
  · exact h.2
  · rfl
theorem OddV.kd {H : Hp} {l : Option Addr} {v : V} (h : OddV H l v) : ∃ k, KdV K H v k := by
  rcases h with ⟨⟨k, h⟩, _⟩ | ⟨a, rfl, ha, _⟩
  · exact ⟨k, (h K H).1⟩
  · exact ⟨.list, _, ha⟩
theorem OddV.row {H : Hp} {l : Option Addr} {v : V} (h : OddV H l v) : OddRow K H v := by
  rcases h with ⟨⟨k, h⟩, _⟩ | ⟨a, rfl, ha, _⟩
  · exact .inl ⟨k, h K H⟩
  · refine .inr ⟨a, [.str "square"], rfl, ha, by decide, fun x hx => ?_, rfl⟩
    rw [List.mem_singleton.mp hx]
    exact ⟨.str, fun _ => True.intro⟩
theorem same_made {H H1 : Hp} {y dy C : Addr} (ny : H y = none) (nd : H dy = none) (ne : dy ≠ y) (k : Kp y (upd (upd H dy (.own y)) y (.ins C dy [])) H1) : Same H H1 := fun b o e => by
  have h1 := ne_of_none e ny
  refine k b o h1 ?_
  rw [upd_ne h1, upd_ne (ne_of_none e nd)]
  exact e
theorem same_ins {A : Hp} {x dx C : Addr} (nx : A x = none) (nd : A dx = none) (ne : dx ≠ x) : Same A (upd (upd A dx (.own x)) x (.ins C dx [])) :=
  (same_new (o := .own x) nd).trans (same_new (o := .ins C dx []) (by rw [upd_ne ne.symm]; exact nx))
theorem OddV.at {H : Hp} {l : Addr} {v : V} (h : OddV H none v) (nl : H l = none) : OddV H (some l) v := by
  rcases h with h | ⟨a, rfl, ha, _⟩
  · exact .inl h
  · exact .inr ⟨a, rfl, ha, fun e => by
      cases e
      rw [nl] at ha
      cases ha⟩
/-- Skin(kv, fv, sv) in a lambda: what is raised -/
theorem lamE_skin {A : Hp} {R : Addr → Hp → Prop} {E : XK} {kv fv sv : V} (hk1 : ∃ k, KdV K A kv k) (hk2 : ∃ k, KdV K A fv k) (h : ∀ H', Same A H' → SkDo K E H' kv fv sv fun z n ps => ∀ x H'', Same A H'' → SkinAt K H'' x z n ps → R x H'') :
    ∀ x dx, A x = none → A dx = none → dx ≠ x → sp_Skin_init K [.ref x, kv, fv, sv] (upd (upd A dx (.own x)) x (.ins (He.ga K "Skin") dx [])) (fun v H2 => v = .non ∧ R x H2) E := by
  intro x dx nx nd ne
  obtain ⟨k1, h1⟩ := hk1
  obtain ⟨k2, h2⟩ := hk2
  have s1 : Same A (upd (upd A dx (.own x)) x (.ins (He.ga K "Skin") dx [])) := (same_new (o := .own x) nd).trans (same_new (o := .ins (He.ga K "Skin") dx []) (by rw [upd_ne ne.symm]; exact nx))
  refine ⟨x, dx, kv, fv, sv, k1, k2, rfl, upd_same, h1.same s1, h2.same s1, ?_⟩
  cases h _ s1 with
  | kind g e => exact .kind g e
  | faces g b e => exact .faces g b e
  | seams z n k ez g en b hk e hh => exact .seams z n k ez g en b hk e hh
  | made z n a ts ps ez g en b es hb hs hl hok e1 e2 q => exact .made z n a ts ps ez g en b es hb hs hl hok e1 e2 fun ht h24 H' k hs' => ⟨rfl, q ht h24 x H' (same_made nx nd ne k) hs'⟩
theorem seams_nil {H : Hp} : Seams H [] [] := ⟨rfl, fun i t p h => by simp at h⟩
theorem seams_two {H : Hp} {T U : Addr} {p r : Int × Int} (h : H T = some (.tup [.int p.1, .int p.2])) (g : H U = some (.tup [.int r.1, .int r.2])) : Seams H [T, U] [p, r] := ⟨rfl, fun i t q h1 h2 => by
  match i, h1, h2 with
  | 0, h1, h2 =>
    cases h1
    cases h2
    exact h
  | 1, h1, h2 =>
    cases h1
    cases h2
    exact g
  | i + 2, h1, h2 => simp at h1⟩
theorem made_twice {E : XK} {H : Hp} {z : Str} {n t0 : Int} {a : Addr} {ts : List Addr} {ps : List (Int × Int)} {ok : Str → Int → List (Int × Int) → Prop} (g : isGrid (.str z) = true) (b : 1 ≤ n) (hb : SBox K H a (ts.map V.ref)) (hs : Seams H ts ps) (hl : ps.length ≤ 400)
    (hok : ∀ p ∈ ps, Pok (n * turnOf z) p) (hw : tw (flat2 ps) = some t0) (r : twErr K E H t0) : SkDo K E H (.str z) (.int n) (.ref a) ok :=
  .made z n a ts ps rfl g rfl b rfl hb hs hl hok (fun t et => by
    rw [hw] at et
    cases et
    exact r) (fun en => by
    rw [hw] at en
    cases en) (fun en => by
    rw [hw] at en
    cases en)
theorem made_many {E : XK} {H : Hp} {z : Str} {n : Int} {ok : Str → Int → List (Int × Int) → Prop} (g : isGrid (.str z) = true) (b : 24 < n) (r : mnErr K E H) : SkDo K E H (.str z) (.int n) (.ref (dflA K)) ok :=
  .made z n (dflA K) [] [] rfl g rfl (by omega) rfl (.inr (.inr ⟨rfl, rfl⟩)) seams_nil (Nat.zero_le _) (fun p hp => by cases hp) (fun t c => by cases c) (fun _ _ => r) (fun _ c => absurd c (by omega))
theorem made_0 {E : XK} {H : Hp} {z : Str} {n : Int} {ok : Str → Int → List (Int × Int) → Prop} (g : isGrid (.str z) = true) (b : 1 ≤ n) (n24 : n ≤ 24) (q : ok z n []) : SkDo K E H (.str z) (.int n) (.ref (dflA K)) ok :=
  .made z n (dflA K) [] [] rfl g rfl b rfl (.inr (.inr ⟨rfl, rfl⟩)) seams_nil (Nat.zero_le _) (fun p hp => by cases hp) (fun t c => by cases c) (fun _ c => absurd c (by omega)) (fun _ _ => q)
theorem tw_pair {s : Int} : tw (flat2 [(s, 4 + s), (4 + s, s)]) = some (4 + s) := by
  have h : ¬ (4 + s = s) := by omega
  show twF [] [s, 4 + s, 4 + s, s] = _
  unfold twF
  rw [if_neg (by simp)]
  unfold twF
  rw [if_neg (by simpa using h)]
  unfold twF
  rw [if_pos (by simp)]
theorem grid_sq : isGrid (.str "square") = true := by decide +kernel
theorem turn_sq : turnOf "square" = 4 := by decide +kernel
theorem pair_ok {s : Int} (h0 : 0 ≤ s) (h1 : s < 4) : ∀ p ∈ [(s, 4 + s), (4 + s, s)], Pok (2 * turnOf "square") p := fun p hp => by
  rw [turn_sq]
  simp only [List.mem_cons, List.not_mem_nil, or_false] at hp
  rcases hp with rfl | rfl <;> (unfold Pok; simp only; omega)
theorem odd_in {H : Hp} {a : Addr} {v : V} (h : v ∈ [V.non, .str "cube", .int 4, .ref a, .str ""]) (ha : H a = some (.lst [.str "square"])) : OddV H none v := by
  simp only [List.mem_cons, List.not_mem_nil, or_false] at h
  rcases h with rfl | rfl | rfl | rfl | rfl
  · exact .inl ⟨⟨.none, fun _ _ => ⟨True.intro, by decide⟩⟩, rfl⟩
  · exact .inl ⟨⟨.str, fun _ _ => ⟨True.intro, by decide⟩⟩, by decide +kernel⟩
  · exact .inl ⟨⟨.int, fun _ _ => ⟨True.intro, by decide⟩⟩, rfl⟩
  · exact .inr ⟨a, rfl, ha, fun z => nomatch z⟩
  · exact .inl ⟨⟨.str, fun _ _ => ⟨True.intro, by decide⟩⟩, by decide +kernel⟩
def sp_law_raised_right (K : PySem.W.Frag) : Sp := fun vs H Q _ => ∃ (p c : Addr) (b : Nat), vs = [.ref p] ∧ PenAt H p c (b + 3) ∧ LamX.Tabs (TT0 K) H ∧ ∀ H', Q (.bl true) H'
theorem sc_law_raised_right : FnScope ["_law_pen_here", "_law_odd", "_law_side", "_law_late", "_law_heard_here", "_law_error", "_law_at"] ["_law_pen_here"] (defScope s_law_raised_right) := ⟨rfl, rfl, rfl, by decide +kernel, rfl, by decide +kernel, by decide +kernel⟩
theorem ok_law_raised_right {fd : FuncData} (F : FunD K "_law_raised_right" "_law_raised_right" (defArgs s_law_raised_right) (defBody s_law_raised_right) (defScope s_law_raised_right) [] [] (He.fAd K ("_law_raised_right", none)) fd) (Tx : Txt K mg) (tb : LamX.TabB base mg (He.codeOf K ("_law_raised_right", none)) (tabT K "_law_raised_right")) (h_heard : HasH K mg) (h_law_draw : Has P w K mg base "_law_draw" 1 ["_law_pen_here", "_law_many"] sp_law_draw) (h_Skin_init : HasI P w K mg base 5 (sp_Skin_init K)) (h_Rim_init : HasM P w K mg base (L2.CX P w) "Rim" "__init__" 5 ["self", "kind", "amounts"] (sp_Rim_init K)) (h_Nesting_init : HasM P w K mg base (L2.CX P w) "Nesting" "__init__" 4 ["self", "partners"] (sp_Nesting_init K)) (h_Skin_face : HasM P w K mg base (L2.CX P w) "Skin" "face" 4 ["self", "side"] (sp_Skin_face K)) (h_Rim_read : HasSm P w K mg base "Rim" "read" 7 ["text"] (sp_Rim_read K)) (h_law_is_only : Has P w K mg base "_law_is_only" 2 ["_law_error", "_law_at"] (sp_law_is_only K))  : FnOk P w K mg base CX0 10 (He.fAd K ("_law_raised_right", none)) fd ["_law_pen_here"] (sp_law_raised_right K) := by
  obtain ⟨gH, ocH, odH, dVH, kVH, docH, pmH, anH, cdvH, ctH, oslH, g_heard, k_heard, lk_heard, hc_heard, b_heard⟩ := h_heard
  obtain ⟨f_law_draw, fd_law_draw, G_law_draw, g_law_draw, k_law_draw, b_law_draw⟩ := h_law_draw
  obtain ⟨fd_Skin_init, G_Skin_init, b_Skin_init, ⟨ds2_Skin_init, v2_Skin_init, b2_Skin_init⟩, ⟨ds1_Skin_init, kg_Skin_init, kb_Skin_init_faces_kind⟩⟩ := h_Skin_init
  obtain ⟨fd_Rim_init, G_Rim_init, b_Rim_init⟩ := h_Rim_init
  obtain ⟨fd_Nesting_init, G_Nesting_init, b_Nesting_init⟩ := h_Nesting_init
  obtain ⟨fd_Skin_face, G_Skin_face, b_Skin_face⟩ := h_Skin_face
  obtain ⟨fd_Rim_read, G_Rim_read, k_Rim_read, b_Rim_read⟩ := h_Rim_read
  obtain ⟨f_law_is_only, fd_law_is_only, G_law_is_only, g_law_is_only, k_law_is_only, b_law_is_only⟩ := h_law_is_only
  refine okC F sc_law_raised_right (fun vs H Q E h => ?_) (fun A outer s H vs Q E hr h => ?_)
  · obtain ⟨p, c, b, rfl, _⟩ := h
    rfl
  · obtain ⟨p, c, b, rfl, hp, ht, q⟩ := h
    refine ⟨_, PSs.nox (pss_cons (ps_set (i := 1) sc_law_raised_right.nd rfl (Or.inr rfl) (pe_ix ix_list (pe_lst (pa_cons pe_non (pa_cons pe_str (pa_cons pe_int (pa_cons (pe_lst (pa_cons pe_str pa_nil)) (pa_cons pe_str pa_nil)))))) (pe_call G_law_draw (hr.mono (by decide)) (by rfl) g_law_draw k_law_draw b_law_draw .nil pass0 (pa_cons (pv 0) (pa_cons pe_int pa_nil))) (fun _ _ => rfl)))
        (pss_cons (ps_asg (pe_tup (pa_cons (pe_call G_law_draw (hr.mono (by decide)) (by rfl) g_law_draw k_law_draw b_law_draw .nil pass0 (pa_cons (pv 0) (pa_cons pe_int pa_nil))) (pa_cons (pe_op op_add pe_int (pe_call G_law_draw (hr.mono (by decide)) (by rfl) g_law_draw k_law_draw b_law_draw .nil pass0 (pa_cons (pv 0) (pa_cons (pe_op op_pow pe_int pe_int) pa_nil)))) pa_nil))) (pg_tup (by rfl) (pgs_cons (pg_name (i := 2) sc_law_raised_right.nd rfl (Or.inr rfl)) (pgs_cons (pg_name (i := 3) sc_law_raised_right.nd rfl (Or.inr rfl)) pgs_nil))))
        (pss_cons (ps_set (i := 4) sc_law_raised_right.nd rfl (Or.inl rfl) (pe_lst (pa_cons (pe_lamcall (T := TT0 K) (TT := TTh K) (k := 6) (by rfl) g_heard k_heard lk_heard hc_heard b_heard sc_law_heard rfl (.inl rfl) (heard_gives rfl rfl Tx) tb rfl (mem_law_raised_right K) (hu_law_raised_right Tx) (hr.mono (by decide)) (LamX.lamS_by (sc := defScope s_law_raised_right) (by decide +kernel)) rfl (fun _ _ _ _ _ => rfl) (fun A outer s H E f c hr => (pe_make Tx.mk_Skin G_Skin_init (hr.mono (by decide)) (by rfl) Tx.g_Skin b2_Skin_init v2_Skin_init (passE rfl rfl rfl rfl) (pa_cons (pv 1) (pa_cons pe_int pa_nil))))) pa_nil)))
        (pss_cons (ps_expr (pe_bm PySem.F.plainAttrs_list PySem.F.slot_list_append PySem.F.type_list_append mt_append (pv 4) (pa_cons (pe_lamcall (T := TT0 K) (TT := TTh K) (k := 6) (by rfl) g_heard k_heard lk_heard hc_heard b_heard sc_law_heard rfl (.inl rfl) (heard_gives rfl rfl Tx) tb rfl (mem_law_raised_right K) (hu_law_raised_right Tx) (hr.mono (by decide)) (LamX.lamS_by (sc := defScope s_law_raised_right) (by decide +kernel)) rfl (fun _ _ _ _ _ => rfl) (fun A outer s H E f c hr => (pe_make Tx.mk_Rim G_Rim_init (hr.mono (by decide)) (by rfl) Tx.g_Rim b_Rim_init .nil (passE rfl rfl rfl rfl) (pa_cons pe_str (pa_cons (pv 1) pa_nil))))) pa_nil)))
        (pss_cons (ps_expr (pe_bm PySem.F.plainAttrs_list PySem.F.slot_list_append PySem.F.type_list_append mt_append (pv 4) (pa_cons (pe_lamcall (T := TT0 K) (TT := TTh K) (k := 5) (by rfl) g_heard k_heard lk_heard hc_heard b_heard sc_law_heard rfl (.inl rfl) (heard_gives rfl rfl Tx) tb rfl (mem_law_raised_right K) (hu_law_raised_right Tx) (hr.mono (by decide)) (LamX.lamS_by (sc := defScope s_law_raised_right) (by decide +kernel)) rfl (fun _ _ _ _ _ => rfl) (fun A outer s H E f c hr => (pe_make Tx.mk_Nesting G_Nesting_init (hr.mono (by decide)) (by rfl) Tx.g_Nesting b_Nesting_init .nil (passE rfl rfl rfl rfl) (pa_cons (pe_lst (pa_cons pe_int (pa_cons pe_int (pa_cons pe_int (pa_cons pe_int pa_nil))))) pa_nil)))) pa_nil)))
        (pss_cons (ps_expr (pe_bm PySem.F.plainAttrs_list PySem.F.slot_list_append PySem.F.type_list_append mt_append (pv 4) (pa_cons (pe_lamcall (T := TT0 K) (TT := TTh K) (k := 6) (by rfl) g_heard k_heard lk_heard hc_heard b_heard sc_law_heard rfl (.inl rfl) (heard_gives rfl rfl Tx) tb rfl (mem_law_raised_right K) (hu_law_raised_right Tx) (hr.mono (by decide)) (LamX.lamS_by (sc := defScope s_law_raised_right) (by decide +kernel)) rfl (fun _ _ _ _ _ => rfl) (fun A outer s H E f c hr => (pe_make Tx.mk_Skin G_Skin_init (hr.mono (by decide)) (by rfl) Tx.g_Skin b_Skin_init .nil (passE rfl rfl rfl rfl) (pa_cons pe_str (pa_cons pe_int (pa_cons (pe_lst (pa_cons (pe_tup (pa_cons (pv 2) (pa_cons (pe_op op_add pe_int (pv 2)) pa_nil))) (pa_cons (pe_tup (pa_cons (pe_op op_add pe_int (pv 2)) (pa_cons (pv 2) pa_nil))) pa_nil))) pa_nil)))))) pa_nil)))
        (pss_cons (ps_expr (pe_bm PySem.F.plainAttrs_list PySem.F.slot_list_append PySem.F.type_list_append mt_append (pv 4) (pa_cons (pe_lamcall (T := TT0 K) (TT := TTh K) (k := 6) (by rfl) g_heard k_heard lk_heard hc_heard b_heard sc_law_heard rfl (.inl rfl) (heard_gives rfl rfl Tx) tb rfl (mem_law_raised_right K) (hu_law_raised_right Tx) (hr.mono (by decide)) (LamX.lamS_by (sc := defScope s_law_raised_right) (by decide +kernel)) rfl (fun _ _ _ _ _ => rfl) (fun A outer s H E f c hr => (pe_make Tx.mk_Skin G_Skin_init (hr.mono (by decide)) (by rfl) Tx.g_Skin b2_Skin_init v2_Skin_init (passE rfl rfl rfl rfl) (pa_cons pe_str (pa_cons pe_int pa_nil))))) pa_nil)))
        (pss_cons (ps_expr (pe_bm PySem.F.plainAttrs_list PySem.F.slot_list_append PySem.F.type_list_append mt_append (pv 4) (pa_cons (pe_lamcall (T := TT0 K) (TT := TTh K) (k := 6) (by rfl) g_heard k_heard lk_heard hc_heard b_heard sc_law_heard rfl (.inl rfl) (heard_gives rfl rfl Tx) tb rfl (mem_law_raised_right K) (hu_law_raised_right Tx) (hr.mono (by decide)) (LamX.lamS_by (sc := defScope s_law_raised_right) (by decide +kernel)) rfl (fun _ _ _ _ _ => rfl) (fun A outer s H E f c hr => (pe_meth (pe_make Tx.mk_Skin G_Skin_init (hr.mono (by decide)) (by rfl) Tx.g_Skin b2_Skin_init v2_Skin_init (passE rfl rfl rfl rfl) (pa_cons pe_str (pa_cons pe_int pa_nil))) Tx.cl_Skin Tx.me_Skin_face G_Skin_face (hr.mono (by decide)) b_Skin_face .nil (passE rfl rfl rfl rfl) (pa_cons (pv 3) pa_nil)))) pa_nil)))
        (pss_cons (ps_expr (pe_bm PySem.F.plainAttrs_list PySem.F.slot_list_append PySem.F.type_list_append mt_append (pv 4) (pa_cons (pe_lamcall (T := TT0 K) (TT := TTh K) (k := 7) (by rfl) g_heard k_heard lk_heard hc_heard b_heard sc_law_heard rfl (.inl rfl) (heard_gives rfl rfl Tx) tb rfl (mem_law_raised_right K) (hu_law_raised_right Tx) (hr.mono (by decide)) (LamX.lamS_by (sc := defScope s_law_raised_right) (by decide +kernel)) rfl (fun _ _ _ _ _ => rfl) (fun A outer s H E f c hr => (pe_smeth (pe_glob (v := .ref (He.ga K "Rim")) (by rfl) Tx.g_Rim rfl) Tx.sm_Rim_read G_Rim_read k_Rim_read (hr.mono (by decide)) b_Rim_read .nil (passE rfl rfl rfl rfl) (pa_cons pe_str pa_nil)))) pa_nil)))
        (pss_cons (ps_for PassesOwn.never rfl (pi_zip (by rfl) Tx.n_zip (pa_cons (pv 4) (pa_cons (pe_lst (pa_cons pe_int (pa_cons pe_int (pa_cons pe_int (pa_cons pe_int (pa_cons pe_int (pa_cons pe_int (pa_cons pe_int pa_nil)))))))) pa_nil))) (pg_tup (by rfl) (pgs_cons (pg_name (i := 5) sc_law_raised_right.nd rfl (Or.inl rfl)) (pgs_cons (pg_name (i := 6) sc_law_raised_right.nd rfl (Or.inl rfl)) pgs_nil))) (pss_one (ps_if (PW.pt (pw_or (pt_cmpR op_isN (pv 5) pe_non (nomark _)) (pw_or1 (pt_not (pt_val (pe_call G_law_is_only (hr.mono (by decide)) (by rfl) g_law_is_only k_law_is_only b_law_is_only .nil pass0 (pa_cons (pv 5) (pa_cons (pv 6) pa_nil)))))))) (pss_one (ps_ret pe_bl)) pss_nil)))
        (pss_cons (ps_if (pt_cmpR (op_neD hr.units) (pe_lst (pa_cons (pe_ef (pe_ix ix_list (pv 4) pe_int (fun _ _ => rfl)) rfl) (pa_cons (pe_ef (pe_ix ix_list (pv 4) pe_int (fun _ _ => rfl)) rfl) (pa_cons (pe_ef (pe_ix ix_list (pv 4) pe_int (fun _ _ => rfl)) rfl) (pa_cons (pe_ef (pe_ix ix_list (pv 4) pe_int (fun _ _ => rfl)) rfl) pa_nil))))) (pe_lst (pa_cons pe_str (pa_cons pe_str (pa_cons pe_int (pa_cons pe_int pa_nil))))) (nomark _)) (pss_one (ps_ret pe_bl)) pss_nil)
        (pss_cons (ps_if (pt_cmpR (op_neD hr.units) (pe_lst (pa_cons (pe_ef (pe_ix ix_list (pv 4) pe_int (fun _ _ => rfl)) rfl) (pa_cons (pe_ef (pe_ix ix_list (pv 4) pe_int (fun _ _ => rfl)) rfl) (pa_cons (pe_ef (pe_ix ix_list (pv 4) pe_int (fun _ _ => rfl)) rfl) (pa_cons (pe_ef (pe_ix ix_list (pv 4) pe_int (fun _ _ => rfl)) rfl) pa_nil))))) (pe_lst (pa_cons (pe_op op_add pe_int (pv 2)) (pa_cons pe_str (pa_cons pe_int (pa_cons (pv 3) pa_nil))))) (nomark _)) (pss_one (ps_ret pe_bl)) pss_nil)
        (pss_one (ps_ret (pe_and (pe_cmpR (op_eqD hr.units) (pe_lst (pa_cons (pe_ef (pe_ix ix_list (pv 4) pe_int (fun _ _ => rfl)) rfl) (pa_cons (pe_ef (pe_ix ix_list (pv 4) pe_int (fun _ _ => rfl)) rfl) pa_nil))) (pe_lst (pa_cons pe_int (pa_cons pe_int pa_nil))) (nomark _)) (pe_one (pe_cmpR op_isN (pe_lamcall (T := TT0 K) (TT := TTh K) (k := 6) (by rfl) g_heard k_heard lk_heard hc_heard b_heard sc_law_heard rfl (.inl rfl) (heard_gives rfl rfl Tx) tb rfl (mem_law_raised_right K) (hu_law_raised_right Tx) (hr.mono (by decide)) (LamX.lamS_by (sc := defScope s_law_raised_right) (by decide +kernel)) rfl (fun _ _ _ _ _ => rfl) (fun A outer s H E f c hr => (pe_make Tx.mk_Skin G_Skin_init (hr.mono (by decide)) (by rfl) Tx.g_Skin b2_Skin_init v2_Skin_init (passE rfl rfl rfl rfl) (pa_cons pe_str (pa_cons pe_int pa_nil))))) pe_non (nomark _)))))))))))))))))), ?_⟩
    obtain ⟨ps0, hps0⟩ := hp.at
    refine ⟨le_line (n := 1) (by decide), fun a1 n1 => ⟨le_line (n := 5) (by decide), fun a0 n0 => ?_⟩⟩
    have sa : Same H (upd (upd H a1 (.lst [.str "square"])) a0 (.lst [V.non, .str "cube", .int 4, .ref a1, .str ""])) := (same_new n1).trans (same_new n0)
    have f1 : upd (upd H a1 (.lst [.str "square"])) a0 (.lst [V.non, .str "cube", .int 4, .ref a1, .str ""]) a1 = some (.lst [.str "square"]) := same_new n0 _ _ upd_same
    have f0 : upd (upd H a1 (.lst [.str "square"])) a0 (.lst [V.non, .str "cube", .int 4, .ref a1, .str ""]) a0 = some (.lst [V.non, .str "cube", .int 4, .ref a1, .str ""]) := upd_same
    have p1 : a1 ≠ p := (hp.new n1).1
    have p0 : a0 ≠ p := ((hp.same (same_new (o := .lst [.str "square"]) n1)).new n0).1
    replace ht := tabs_same ht sa
    replace hps0 := sa _ _ hps0
    refine ⟨_, rfl, p, c, 5, b + 2, rfl, hp.same sa, by decide, by decide, fun H1 d hp1 k1 d0 d1 => ?_⟩
    obtain ⟨v, hv, hat⟩ := at_in (xs := [V.non, .str "cube", .int 4, .ref a1, .str ""]) d0 d1
    refine ⟨a0, _, _, v, rfl, rfl, SqL.of (k1 _ _ p0 f0), hat, ?_⟩
    have ho : OddV H1 none v := odd_in hv (k1 _ _ p1 f1)
    replace ht := tabs_kp ht hps0 k1
    obtain ⟨ps1, hps1⟩ := hp1.at
    refine ⟨_, rfl, p, c, 4, b + 1, rfl, hp1, by decide, by decide, fun H2 d2 hp2 k2 d20 d21 => ?_⟩
    replace ht := tabs_kp ht hps1 k2
    obtain ⟨ps2, hps2⟩ := hp2.at
    have g1 := k1 _ _ p1 f1
    replace ho : OddV H2 none v := odd_in hv (k2 _ _ p1 g1)
    refine ⟨_, rfl, _, _, rfl, rfl, ⟨by decide, by decide, by decide⟩, p, c, _, b, rfl, hp2, by decide, by decide, fun H3 d3 hp3 k3 d30 d31 => ?_⟩
    replace ht := tabs_kp ht hps2 k3
    replace ho : OddV H3 none v := odd_in hv (k3 _ _ p1 (k2 _ _ p1 g1))
    refine ⟨_, _, rfl, rfl, le_line (n := 2) (by decide), fun T nT => ?_⟩
    have sT : Same H3 (upd H3 T (.tup [.int d2, .int (8 + d3)])) := same_new nT
    have fT : upd H3 T (.tup [.int d2, .int (8 + d3)]) T = some (.tup [.int d2, .int (8 + d3)]) := upd_same
    replace ht := tabs_same ht sT
    replace ho := ho.same sT
    revert fT ht ho
    generalize upd H3 T (.tup [.int d2, .int (8 + d3)]) = G0
    intro fT ht ho
    refine ⟨T, [.int d2, .int (8 + d3)], rfl, SqT.of fT, rfl, .int d2, [.int (8 + d3)], rfl, .int (8 + d3), [], rfl, rfl, ?_⟩
    clear fT hat hv
    refine ⟨ht, fun A1 e1 u1 => ⟨_, rfl, lamE_skin (ho.ext e1).kd ⟨.int, True.intro⟩ fun Z1 s1 => .kind ho.grid (eh_of Tx.ex_BadKind fun B1 r1 t1 x1 => ?_)⟩⟩
    have S1 := s1.trans t1
    replace ht := tabs_same u1 S1
    replace ho := (ho.ext e1).same S1
    refine ⟨le_line (n := 1) (by decide), fun l nl => ?_⟩
    have sl : Same B1 (upd B1 l (.lst [.ref r1])) := same_new nl
    have hl : upd B1 l (.lst [.ref r1]) l = some (.lst [.ref r1]) := upd_same
    replace ht := tabs_same ht sl
    replace ho := (ho.at nl).same sl
    replace x1 := x1.same sl
    clear S1 sl
    revert hl ht ho x1
    generalize upd B1 l (.lst [.ref r1]) = G1
    intro hl ht ho x1
    refine ⟨_, rfl, .inl ⟨rfl, _, SqL.of hl⟩, ht, fun A2 e2 u2 => ⟨_, rfl, fun y dy ny nd ne => ⟨y, v, rfl, ((ho.ext e2).same (same_ins ny nd ne)).row, Rz.same (eh_of Tx.ex_BadRim fun B2 r2 t2 x2 => ?_) (same_ins ny nd ne)⟩⟩⟩
    have S2 := t2
    have E2 := e2.trans (ExtN.of S2)
    replace ht := tabs_same u2 S2
    replace ho := (ho.ext e2).same S2
    replace hl := E2 _ _ hl (fun _ z => nomatch z)
    replace x1 := ExcAt.ext x1 E2
    refine ⟨l, _, _, rfl, rfl, hl, Nat.lt_of_lt_of_le (show 1 < 10 by decide) (le_line (n := 10) (by decide)), ?_⟩
    have k12 : Kp l B2 (upd B2 l (.lst ([.ref r1] ++ [.ref r2]))) := (Kp.refl _ _).set
    replace ht := tabs_kp ht hl k12
    replace ho := ho.kp k12
    replace x1 : ExcAt (upd B2 l (.lst ([.ref r1] ++ [.ref r2]))) r1 _ _ := ExcAt.mutL x1 hl
    replace x2 : ExcAt (upd B2 l (.lst ([.ref r1] ++ [.ref r2]))) r2 _ _ := ExcAt.mutL x2 hl
    replace hl : upd B2 l (.lst ([.ref r1] ++ [.ref r2])) l = some (.lst [.ref r1, .ref r2]) := upd_same
    clear S2 E2 k12
    revert ht ho x1 x2 hl
    generalize upd B2 l (.lst ([.ref r1] ++ [.ref r2])) = G2
    intro ht ho x1 x2 hl
    refine ⟨_, rfl, .inl ⟨rfl, _, SqL.of hl⟩, ht, fun A3 e3 u3 => ⟨le_line (n := 4) (by decide), fun q3 nq3 => fun y dy ny nd ne => ⟨y, q3, rfl, (same_ins ny nd ne) _ _ upd_same, Rz.same (eh_of Tx.ex_Crossing fun B3 r3 t3 x3 => ?_) (same_ins ny nd ne)⟩⟩⟩
    have S3 := ((same_new nq3).trans t3)
    have E3 := e3.trans (ExtN.of S3)
    replace ht := tabs_same u3 S3
    replace ho := (ho.ext e3).same S3
    replace hl := E3 _ _ hl (fun _ z => nomatch z)
    replace x1 := ExcAt.ext x1 E3
    replace x2 := ExcAt.ext x2 E3
    refine ⟨l, _, _, rfl, rfl, hl, Nat.lt_of_lt_of_le (show 2 < 10 by decide) (le_line (n := 10) (by decide)), ?_⟩
    have k13 : Kp l B3 (upd B3 l (.lst ([.ref r1, .ref r2] ++ [.ref r3]))) := (Kp.refl _ _).set
    replace ht := tabs_kp ht hl k13
    replace ho := ho.kp k13
    replace x1 : ExcAt (upd B3 l (.lst ([.ref r1, .ref r2] ++ [.ref r3]))) r1 _ _ := ExcAt.mutL x1 hl
    replace x2 : ExcAt (upd B3 l (.lst ([.ref r1, .ref r2] ++ [.ref r3]))) r2 _ _ := ExcAt.mutL x2 hl
    replace x3 : ExcAt (upd B3 l (.lst ([.ref r1, .ref r2] ++ [.ref r3]))) r3 _ _ := ExcAt.mutL x3 hl
    replace hl : upd B3 l (.lst ([.ref r1, .ref r2] ++ [.ref r3])) l = some (.lst [.ref r1, .ref r2, .ref r3]) := upd_same
    clear S3 E3 k13
    revert ht ho x1 x2 x3 hl
    generalize upd B3 l (.lst ([.ref r1, .ref r2] ++ [.ref r3])) = G3
    intro ht ho x1 x2 x3 hl
    refine ⟨_, rfl, .inl ⟨rfl, _, SqL.of hl⟩, ht, fun A4 e4 u4 => ⟨_, rfl, _, rfl, _, _, rfl, rfl, le_line (n := 2) (by decide), fun T1 n1 => ⟨_, rfl, _, _, rfl, rfl, _, rfl, le_line (n := 2) (by decide), fun T2 n2 => ⟨le_line (n := 2) (by decide), fun L nL => ?_⟩⟩⟩⟩
    refine lamE_skin ⟨.str, True.intro⟩ ⟨.int, True.intro⟩ fun Z4 s4 => made_twice (ts := [T1, T2]) (ps := [(d2, 4 + d2), (4 + d2, d2)]) grid_sq (by decide) (.inl (s4 _ _ upd_same)) (seams_two (s4 _ _ ((same_new nL) _ _ ((same_new n2) _ _ upd_same))) (s4 _ _ ((same_new nL) _ _ upd_same))) (show 2 ≤ 400 by decide) (pair_ok d20 d21) tw_pair (eh_of Tx.ex_Twice fun B4 r4 t4 x4 => ?_)
    have S4 := (((((same_new n1).trans (same_new n2)).trans (same_new nL)).trans s4).trans t4)
    have E4 := e4.trans (ExtN.of S4)
    replace ht := tabs_same u4 S4
    replace ho := (ho.ext e4).same S4
    replace hl := E4 _ _ hl (fun _ z => nomatch z)
    replace x1 := ExcAt.ext x1 E4
    replace x2 := ExcAt.ext x2 E4
    replace x3 := ExcAt.ext x3 E4
    refine ⟨l, _, _, rfl, rfl, hl, Nat.lt_of_lt_of_le (show 3 < 10 by decide) (le_line (n := 10) (by decide)), ?_⟩
    have k14 : Kp l B4 (upd B4 l (.lst ([.ref r1, .ref r2, .ref r3] ++ [.ref r4]))) := (Kp.refl _ _).set
    replace ht := tabs_kp ht hl k14
    replace ho := ho.kp k14
    replace x1 : ExcAt (upd B4 l (.lst ([.ref r1, .ref r2, .ref r3] ++ [.ref r4]))) r1 _ _ := ExcAt.mutL x1 hl
    replace x2 : ExcAt (upd B4 l (.lst ([.ref r1, .ref r2, .ref r3] ++ [.ref r4]))) r2 _ _ := ExcAt.mutL x2 hl
    replace x3 : ExcAt (upd B4 l (.lst ([.ref r1, .ref r2, .ref r3] ++ [.ref r4]))) r3 _ _ := ExcAt.mutL x3 hl
    replace x4 : ExcAt (upd B4 l (.lst ([.ref r1, .ref r2, .ref r3] ++ [.ref r4]))) r4 _ _ := ExcAt.mutL x4 hl
    replace hl : upd B4 l (.lst ([.ref r1, .ref r2, .ref r3] ++ [.ref r4])) l = some (.lst [.ref r1, .ref r2, .ref r3, .ref r4]) := upd_same
    clear S4 E4 k14
    revert ht ho x1 x2 x3 x4 hl
    generalize upd B4 l (.lst ([.ref r1, .ref r2, .ref r3] ++ [.ref r4])) = G4
    intro ht ho x1 x2 x3 x4 hl
    refine ⟨_, rfl, .inl ⟨rfl, _, SqL.of hl⟩, ht, fun A5 e5 u5 => lamE_skin ⟨.str, True.intro⟩ ⟨.int, True.intro⟩ fun Z5 s5 => made_many grid_sq (by decide) (eh_of Tx.ex_TooMany fun B5 r5 t5 x5 => ?_)⟩
    have S5 := (s5.trans t5)
    have E5 := e5.trans (ExtN.of S5)
    replace ht := tabs_same u5 S5
    replace ho := (ho.ext e5).same S5
    replace hl := E5 _ _ hl (fun _ z => nomatch z)
    replace x1 := ExcAt.ext x1 E5
    replace x2 := ExcAt.ext x2 E5
    replace x3 := ExcAt.ext x3 E5
    replace x4 := ExcAt.ext x4 E5
    refine ⟨l, _, _, rfl, rfl, hl, Nat.lt_of_lt_of_le (show 4 < 10 by decide) (le_line (n := 10) (by decide)), ?_⟩
    have k15 : Kp l B5 (upd B5 l (.lst ([.ref r1, .ref r2, .ref r3, .ref r4] ++ [.ref r5]))) := (Kp.refl _ _).set
    replace ht := tabs_kp ht hl k15
    replace ho := ho.kp k15
    replace x1 : ExcAt (upd B5 l (.lst ([.ref r1, .ref r2, .ref r3, .ref r4] ++ [.ref r5]))) r1 _ _ := ExcAt.mutL x1 hl
    replace x2 : ExcAt (upd B5 l (.lst ([.ref r1, .ref r2, .ref r3, .ref r4] ++ [.ref r5]))) r2 _ _ := ExcAt.mutL x2 hl
    replace x3 : ExcAt (upd B5 l (.lst ([.ref r1, .ref r2, .ref r3, .ref r4] ++ [.ref r5]))) r3 _ _ := ExcAt.mutL x3 hl
    replace x4 : ExcAt (upd B5 l (.lst ([.ref r1, .ref r2, .ref r3, .ref r4] ++ [.ref r5]))) r4 _ _ := ExcAt.mutL x4 hl
    replace x5 : ExcAt (upd B5 l (.lst ([.ref r1, .ref r2, .ref r3, .ref r4] ++ [.ref r5]))) r5 _ _ := ExcAt.mutL x5 hl
    replace hl : upd B5 l (.lst ([.ref r1, .ref r2, .ref r3, .ref r4] ++ [.ref r5])) l = some (.lst [.ref r1, .ref r2, .ref r3, .ref r4, .ref r5]) := upd_same
    clear S5 E5 k15
    revert ht ho x1 x2 x3 x4 x5 hl
    generalize upd B5 l (.lst ([.ref r1, .ref r2, .ref r3, .ref r4] ++ [.ref r5])) = G5
    intro ht ho x1 x2 x3 x4 x5 hl
    refine ⟨_, rfl, .inl ⟨rfl, _, SqL.of hl⟩, ht, fun A6 e6 u6 => lamE_skin ⟨.str, True.intro⟩ ⟨.int, True.intro⟩ fun Z6 s6 => made_0 grid_sq (by decide) (by decide) fun y Y6 w6 hs => ?_⟩
    obtain ⟨dx6, st6, mt6, ft6, us6, qs6, hx6⟩ := id hs
    refine ⟨y, dx6, _, rfl, hx6.ins, rfl, _, rfl, y, "square", 2, 8 + d3, [], rfl, hs, (by rw [turn_sq]; omega), eh_of Tx.ex_NoSide fun B6 r6 t6 x6 => ?_⟩
    have S6 := (w6.trans t6)
    have E6 := e6.trans (ExtN.of S6)
    replace ht := tabs_same u6 S6
    replace ho := (ho.ext e6).same S6
    replace hl := E6 _ _ hl (fun _ z => nomatch z)
    replace x1 := ExcAt.ext x1 E6
    replace x2 := ExcAt.ext x2 E6
    replace x3 := ExcAt.ext x3 E6
    replace x4 := ExcAt.ext x4 E6
    replace x5 := ExcAt.ext x5 E6
    refine ⟨l, _, _, rfl, rfl, hl, Nat.lt_of_lt_of_le (show 5 < 10 by decide) (le_line (n := 10) (by decide)), ?_⟩
    have k16 : Kp l B6 (upd B6 l (.lst ([.ref r1, .ref r2, .ref r3, .ref r4, .ref r5] ++ [.ref r6]))) := (Kp.refl _ _).set
    replace ht := tabs_kp ht hl k16
    replace ho := ho.kp k16
    replace x1 : ExcAt (upd B6 l (.lst ([.ref r1, .ref r2, .ref r3, .ref r4, .ref r5] ++ [.ref r6]))) r1 _ _ := ExcAt.mutL x1 hl
    replace x2 : ExcAt (upd B6 l (.lst ([.ref r1, .ref r2, .ref r3, .ref r4, .ref r5] ++ [.ref r6]))) r2 _ _ := ExcAt.mutL x2 hl
    replace x3 : ExcAt (upd B6 l (.lst ([.ref r1, .ref r2, .ref r3, .ref r4, .ref r5] ++ [.ref r6]))) r3 _ _ := ExcAt.mutL x3 hl
    replace x4 : ExcAt (upd B6 l (.lst ([.ref r1, .ref r2, .ref r3, .ref r4, .ref r5] ++ [.ref r6]))) r4 _ _ := ExcAt.mutL x4 hl
    replace x5 : ExcAt (upd B6 l (.lst ([.ref r1, .ref r2, .ref r3, .ref r4, .ref r5] ++ [.ref r6]))) r5 _ _ := ExcAt.mutL x5 hl
    replace x6 : ExcAt (upd B6 l (.lst ([.ref r1, .ref r2, .ref r3, .ref r4, .ref r5] ++ [.ref r6]))) r6 _ _ := ExcAt.mutL x6 hl
    replace hl : upd B6 l (.lst ([.ref r1, .ref r2, .ref r3, .ref r4, .ref r5] ++ [.ref r6])) l = some (.lst [.ref r1, .ref r2, .ref r3, .ref r4, .ref r5, .ref r6]) := upd_same
    clear S6 E6 k16
    revert ht ho x1 x2 x3 x4 x5 x6 hl
    generalize upd B6 l (.lst ([.ref r1, .ref r2, .ref r3, .ref r4, .ref r5] ++ [.ref r6])) = G6
    intro ht ho x1 x2 x3 x4 x5 x6 hl
    refine ⟨_, rfl, .inl ⟨rfl, _, SqL.of hl⟩, ht, fun A7 e7 u7 => ⟨rfl, rfl, eh_of Tx.ex_BadText fun B7 r7 t7 x7 => ?_⟩⟩
    have S7 := t7
    have E7 := e7.trans (ExtN.of S7)
    replace ht := tabs_same u7 S7
    replace ho := (ho.ext e7).same S7
    replace hl := E7 _ _ hl (fun _ z => nomatch z)
    replace x1 := ExcAt.ext x1 E7
    replace x2 := ExcAt.ext x2 E7
    replace x3 := ExcAt.ext x3 E7
    replace x4 := ExcAt.ext x4 E7
    replace x5 := ExcAt.ext x5 E7
    replace x6 := ExcAt.ext x6 E7
    refine ⟨l, _, _, rfl, rfl, hl, Nat.lt_of_lt_of_le (show 6 < 10 by decide) (le_line (n := 10) (by decide)), ?_⟩
    have k17 : Kp l B7 (upd B7 l (.lst ([.ref r1, .ref r2, .ref r3, .ref r4, .ref r5, .ref r6] ++ [.ref r7]))) := (Kp.refl _ _).set
    replace ht := tabs_kp ht hl k17
    replace ho := ho.kp k17
    replace x1 : ExcAt (upd B7 l (.lst ([.ref r1, .ref r2, .ref r3, .ref r4, .ref r5, .ref r6] ++ [.ref r7]))) r1 _ _ := ExcAt.mutL x1 hl
    replace x2 : ExcAt (upd B7 l (.lst ([.ref r1, .ref r2, .ref r3, .ref r4, .ref r5, .ref r6] ++ [.ref r7]))) r2 _ _ := ExcAt.mutL x2 hl
    replace x3 : ExcAt (upd B7 l (.lst ([.ref r1, .ref r2, .ref r3, .ref r4, .ref r5, .ref r6] ++ [.ref r7]))) r3 _ _ := ExcAt.mutL x3 hl
    replace x4 : ExcAt (upd B7 l (.lst ([.ref r1, .ref r2, .ref r3, .ref r4, .ref r5, .ref r6] ++ [.ref r7]))) r4 _ _ := ExcAt.mutL x4 hl
    replace x5 : ExcAt (upd B7 l (.lst ([.ref r1, .ref r2, .ref r3, .ref r4, .ref r5, .ref r6] ++ [.ref r7]))) r5 _ _ := ExcAt.mutL x5 hl
    replace x6 : ExcAt (upd B7 l (.lst ([.ref r1, .ref r2, .ref r3, .ref r4, .ref r5, .ref r6] ++ [.ref r7]))) r6 _ _ := ExcAt.mutL x6 hl
    replace x7 : ExcAt (upd B7 l (.lst ([.ref r1, .ref r2, .ref r3, .ref r4, .ref r5, .ref r6] ++ [.ref r7]))) r7 _ _ := ExcAt.mutL x7 hl
    replace hl : upd B7 l (.lst ([.ref r1, .ref r2, .ref r3, .ref r4, .ref r5, .ref r6] ++ [.ref r7])) l = some (.lst [.ref r1, .ref r2, .ref r3, .ref r4, .ref r5, .ref r6, .ref r7]) := upd_same
    clear S7 E7 k17
    revert ht ho x1 x2 x3 x4 x5 x6 x7 hl
    generalize upd B7 l (.lst ([.ref r1, .ref r2, .ref r3, .ref r4, .ref r5, .ref r6] ++ [.ref r7])) = G7
    intro ht ho x1 x2 x3 x4 x5 x6 x7 hl
    refine ⟨_, rfl, le_line (n := 7) (by decide), fun m nm => ?_⟩
    have sm : Same G7 (upd G7 m (.lst [V.int 0, .int 4, .int 23, .int 22, .int 26, .int 14, .int 28])) := same_new nm
    have hm : upd G7 m (.lst [V.int 0, .int 4, .int 23, .int 22, .int 26, .int 14, .int 28]) m = some (.lst [V.int 0, .int 4, .int 23, .int 22, .int 26, .int 14, .int 28]) := upd_same
    replace ht := tabs_same ht sm
    replace hl := sm _ _ hl
    replace x1 := x1.same sm
    replace x2 := x2.same sm
    replace x3 := x3.same sm
    replace x4 := x4.same sm
    replace x5 := x5.same sm
    replace x6 := x6.same sm
    replace x7 := x7.same sm
    clear sm ho
    revert hm ht hl x1 x2 x3 x4 x5 x6 x7
    generalize upd G7 m (.lst [V.int 0, .int 4, .int 23, .int 22, .int 26, .int 14, .int 28]) = G8
    intro hm ht hl x1 x2 x3 x4 x5 x6 x7
    have all : ∀ i < 7, ∃ (r : Addr) (j : Nat) (cx : Str) (fs : List (Str × V)), ([V.ref r1, .ref r2, .ref r3, .ref r4, .ref r5, .ref r6, .ref r7] : List V)[i]? = some (.ref r) ∧ ([V.int 0, .int 4, .int 23, .int 22, .int 26, .int 14, .int 28] : List V)[i]? = some (.int (j : Nat)) ∧ j < 30 ∧ clsL[j]? = some cx ∧ cx ∈ clsL ∧ ExcAt G8 r (He.ga K cx) (some fs) := fun i hi => by
      have i7 : i = 0 ∨ i = 1 ∨ i = 2 ∨ i = 3 ∨ i = 4 ∨ i = 5 ∨ i = 6 := by omega
      rcases i7 with rfl | rfl | rfl | rfl | rfl | rfl | rfl
      · exact ⟨r1, 0, "BadKind", _, rfl, rfl, by decide, by decide +kernel, by decide +kernel, x1⟩
      · exact ⟨r2, 4, "BadRim", _, rfl, rfl, by decide, by decide +kernel, by decide +kernel, x2⟩
      · exact ⟨r3, 23, "Crossing", _, rfl, rfl, by decide, by decide +kernel, by decide +kernel, x3⟩
      · exact ⟨r4, 22, "Twice", _, rfl, rfl, by decide, by decide +kernel, by decide +kernel, x4⟩
      · exact ⟨r5, 26, "TooMany", _, rfl, rfl, by decide, by decide +kernel, by decide +kernel, x5⟩
      · exact ⟨r6, 14, "NoSide", _, rfl, rfl, by decide, by decide +kernel, by decide +kernel, x6⟩
      · exact ⟨r7, 28, "BadText", _, rfl, rfl, by decide, by decide +kernel, by decide +kernel, x7⟩
    refine ⟨l, m, _, _, rfl, SqL.of hl, SqL.of hm, ?_⟩
    refine for_it (walk_zip (K := K) (a := l) (b := m) (xs := [V.ref r1, .ref r2, .ref r3, .ref r4, .ref r5, .ref r6, .ref r7]) (ys := [V.int 0, .int 4, .int 23, .int 22, .int 26, .int 14, .int 28]) (n := 7) rfl) (fun i σ H2 => ∃ b5 b6 : Option V, σ = [some (.ref p), some v, some (.int d2), some (.int (8 + d3)), some (.ref l), b5, b6] ∧ Same G8 H2) ⟨_, _, rfl, Same.refl _⟩ (fun i σ H2 _ pv => ?_) (fun i x σ H2 H3 hi pv y => ?_) (fun σ H2 pv => ?_)
    · obtain ⟨_, _, _, z⟩ := pv
      exact ⟨SqL.of (z _ _ hl), SqL.of (z _ _ hm)⟩
    · obtain ⟨b5, b6, rfl, z⟩ := pv
      obtain ⟨U, w1, w2, rfl, nU, rfl, f1, f2⟩ := y
      obtain ⟨r, j, cx, fs, q1, q2, hj, hc, mc, hx⟩ := all i hi
      have e1 : w1 = .ref r := Option.some.inj (f1.symm.trans q1)
      have e2 : w2 = .int (j : Nat) := Option.some.inj (f2.symm.trans q2)
      subst e1 e2
      have z5 := z.trans (same_new (o := HO.tup [.ref r, .int (j : Nat)]) nU)
      have hU : upd H2 U (.tup [.ref r, .int (j : Nat)]) U = some (.tup [.ref r, .int (j : Nat)]) := upd_same
      revert z5 hU
      generalize upd H2 U (.tup [.ref r, .int (j : Nat)]) = H6
      intro z5 hU
      refine ⟨U, [.ref r, .int (j : Nat)], rfl, SqT.of hU, rfl, .ref r, [.int (j : Nat)], rfl, .int (j : Nat), [], rfl, rfl, ?_⟩
      refine ⟨_, rfl, rfl, _, rfl, ite2 (fun e => nomatch (of_decide_eq_true e)) (fun _ => ?_)⟩
      refine ⟨_, rfl, _, rfl, r, j, cx, rfl, hj, hc, ⟨mc, _, hx.same z5⟩, fun H7 s7 => ?_⟩
      refine ⟨_, rfl, ite2 (fun z => absurd z (by decide)) (fun _ => ?_)⟩
      exact ⟨_, _, rfl, z5.trans s7⟩
    obtain ⟨b5, b6, rfl, z⟩ := pv
    replace ht := tabs_same ht z
    replace hl := z _ _ hl
    replace x1 := x1.same z
    replace x2 := x2.same z
    replace x3 := x3.same z
    replace x4 := x4.same z
    replace x5 := x5.same z
    replace x6 := x6.same z
    replace x7 := x7.same z
    clear all hm z
    have fl1 : ∀ v ∈ ([.str "kind", .str "amounts", .int 0, .int 1] : List V), flatS v = true := fun v hv => by
      simp only [List.mem_cons, List.not_mem_nil, or_false] at hv
      rcases hv with rfl | rfl | rfl | rfl <;> first | rfl | decide +kernel
    refine ⟨_, rfl, l, _, _, .ref r1, rfl, rfl, SqL.of hl, rfl, r1, _, _, _, rfl, x1, Tx.er_BadKind.xf, Tx.er_BadKind.no "part" (by simp), rfl, _, rfl, l, _, _, .ref r2, rfl, rfl, SqL.of hl, rfl, r2, _, _, _, rfl, x2, Tx.er_BadRim.xf, Tx.er_BadRim.no "part" (by simp), rfl, _, rfl, l, _, _, .ref r3, rfl, rfl, SqL.of hl, rfl, r3, _, _, _, rfl, x3, Tx.er_Crossing.xf, Tx.er_Crossing.no "one" (by simp), rfl, _, rfl, l, _, _, .ref r3, rfl, rfl, SqL.of hl, rfl, r3, _, _, _, rfl, x3, Tx.er_Crossing.xf, Tx.er_Crossing.no "other" (by simp), rfl, le_line (n := 4) (by decide), fun m1 nm1 => ?_⟩
    refine ⟨le_line (n := 4) (by decide), fun m2 nm2 => ?_⟩
    have sc : Same H2 (upd (upd H2 m1 (.lst [.str "kind", .str "amounts", .int 0, .int 1])) m2 (.lst [.str "kind", .str "amounts", .int 0, .int 1])) := (same_new nm1).trans (same_new nm2)
    have c1 : upd (upd H2 m1 (.lst [.str "kind", .str "amounts", .int 0, .int 1])) m2 (.lst [.str "kind", .str "amounts", .int 0, .int 1]) m1 = some (.lst [.str "kind", .str "amounts", .int 0, .int 1]) := same_new nm2 _ _ upd_same
    have c2 : upd (upd H2 m1 (.lst [.str "kind", .str "amounts", .int 0, .int 1])) m2 (.lst [.str "kind", .str "amounts", .int 0, .int 1]) m2 = some (.lst [.str "kind", .str "amounts", .int 0, .int 1]) := upd_same
    refine ⟨_, _, .lst (SqL.of c1) (dpAll_flat fl1), .lst (SqL.of c2) (dpAll_flat fl1), shaped_list fl1, shaped_list fl1, ?_⟩
    rw [SeqAt.eqv_refl _ (SeqAt.canLay_of_shaped (shaped_list fl1))]
    replace ht := tabs_same ht sc
    replace hl := sc _ _ hl
    replace x1 := x1.same sc
    replace x2 := x2.same sc
    replace x3 := x3.same sc
    replace x4 := x4.same sc
    replace x5 := x5.same sc
    replace x6 := x6.same sc
    replace x7 := x7.same sc
    clear c1 c2 sc nm1 nm2
    revert ht hl x1 x2 x3 x4 x5 x6 x7
    generalize upd (upd H2 m1 (.lst [.str "kind", .str "amounts", .int 0, .int 1])) m2 (.lst [.str "kind", .str "amounts", .int 0, .int 1]) = C1
    intro ht hl x1 x2 x3 x4 x5 x6 x7
    refine ⟨_, rfl, ite2 (fun z => absurd z (by decide)) (fun _ => ?_)⟩
    have fl2 : ∀ v ∈ ([.int (4 + d2), .str "faces", .int 24, .int (8 + d3)] : List V), flatS v = true := fun v hv => by
      simp only [List.mem_cons, List.not_mem_nil, or_false] at hv
      rcases hv with rfl | rfl | rfl | rfl <;> first | rfl | decide +kernel
    refine ⟨_, rfl, l, _, _, .ref r4, rfl, rfl, SqL.of hl, rfl, r4, _, _, _, rfl, x4, Tx.er_Twice.xf, Tx.er_Twice.no "value" (by simp), rfl, _, rfl, l, _, _, .ref r5, rfl, rfl, SqL.of hl, rfl, r5, _, _, _, rfl, x5, Tx.er_TooMany.xf, Tx.er_TooMany.no "what" (by simp), rfl, _, rfl, l, _, _, .ref r5, rfl, rfl, SqL.of hl, rfl, r5, _, _, _, rfl, x5, Tx.er_TooMany.xf, Tx.er_TooMany.no "most" (by simp), rfl, _, rfl, l, _, _, .ref r6, rfl, rfl, SqL.of hl, rfl, r6, _, _, _, rfl, x6, Tx.er_NoSide.xf, Tx.er_NoSide.no "value" (by simp), rfl, le_line (n := 4) (by decide), fun m1 nm1 => ?_⟩
    refine ⟨_, rfl, _, _, rfl, rfl, _, rfl, le_line (n := 4) (by decide), fun m2 nm2 => ?_⟩
    have sc : Same C1 (upd (upd C1 m1 (.lst [.int (4 + d2), .str "faces", .int 24, .int (8 + d3)])) m2 (.lst [.int (4 + d2), .str "faces", .int 24, .int (8 + d3)])) := (same_new nm1).trans (same_new nm2)
    have c1 : upd (upd C1 m1 (.lst [.int (4 + d2), .str "faces", .int 24, .int (8 + d3)])) m2 (.lst [.int (4 + d2), .str "faces", .int 24, .int (8 + d3)]) m1 = some (.lst [.int (4 + d2), .str "faces", .int 24, .int (8 + d3)]) := same_new nm2 _ _ upd_same
    have c2 : upd (upd C1 m1 (.lst [.int (4 + d2), .str "faces", .int 24, .int (8 + d3)])) m2 (.lst [.int (4 + d2), .str "faces", .int 24, .int (8 + d3)]) m2 = some (.lst [.int (4 + d2), .str "faces", .int 24, .int (8 + d3)]) := upd_same
    refine ⟨_, _, .lst (SqL.of c1) (dpAll_flat fl2), .lst (SqL.of c2) (dpAll_flat fl2), shaped_list fl2, shaped_list fl2, ?_⟩
    rw [SeqAt.eqv_refl _ (SeqAt.canLay_of_shaped (shaped_list fl2))]
    replace ht := tabs_same ht sc
    replace hl := sc _ _ hl
    replace x1 := x1.same sc
    replace x2 := x2.same sc
    replace x3 := x3.same sc
    replace x4 := x4.same sc
    replace x5 := x5.same sc
    replace x6 := x6.same sc
    replace x7 := x7.same sc
    clear c1 c2 sc nm1 nm2
    revert ht hl x1 x2 x3 x4 x5 x6 x7
    generalize upd (upd C1 m1 (.lst [.int (4 + d2), .str "faces", .int 24, .int (8 + d3)])) m2 (.lst [.int (4 + d2), .str "faces", .int 24, .int (8 + d3)]) = C2
    intro ht hl x1 x2 x3 x4 x5 x6 x7
    refine ⟨_, rfl, ite2 (fun z => absurd z (by decide)) (fun _ => ?_)⟩
    have fl3 : ∀ v ∈ ([.int 0, .int 4] : List V), flatS v = true := fun v hv => by
      simp only [List.mem_cons, List.not_mem_nil, or_false] at hv
      rcases hv with rfl | rfl <;> first | rfl | decide +kernel
    refine ⟨_, rfl, l, _, _, .ref r7, rfl, rfl, SqL.of hl, rfl, r7, _, _, _, rfl, x7, Tx.er_BadText.xf, Tx.er_BadText.no "line" (by simp), rfl, _, rfl, l, _, _, .ref r7, rfl, rfl, SqL.of hl, rfl, r7, _, _, _, rfl, x7, Tx.er_BadText.xf, Tx.er_BadText.no "word" (by simp), rfl, le_line (n := 2) (by decide), fun m1 nm1 => ?_⟩
    refine ⟨le_line (n := 2) (by decide), fun m2 nm2 => ?_⟩
    have sc : Same C2 (upd (upd C2 m1 (.lst [.int 0, .int 4])) m2 (.lst [.int 0, .int 4])) := (same_new nm1).trans (same_new nm2)
    have c1 : upd (upd C2 m1 (.lst [.int 0, .int 4])) m2 (.lst [.int 0, .int 4]) m1 = some (.lst [.int 0, .int 4]) := same_new nm2 _ _ upd_same
    have c2 : upd (upd C2 m1 (.lst [.int 0, .int 4])) m2 (.lst [.int 0, .int 4]) m2 = some (.lst [.int 0, .int 4]) := upd_same
    refine ⟨_, _, .lst (SqL.of c1) (dpAll_flat fl3), .lst (SqL.of c2) (dpAll_flat fl3), shaped_list fl3, shaped_list fl3, ?_⟩
    rw [SeqAt.eqv_refl _ (SeqAt.canLay_of_shaped (shaped_list fl3))]
    replace ht := tabs_same ht sc
    replace hl := sc _ _ hl
    replace x1 := x1.same sc
    replace x2 := x2.same sc
    replace x3 := x3.same sc
    replace x4 := x4.same sc
    replace x5 := x5.same sc
    replace x6 := x6.same sc
    replace x7 := x7.same sc
    clear c1 c2 sc nm1 nm2
    revert ht hl x1 x2 x3 x4 x5 x6 x7
    generalize upd (upd C2 m1 (.lst [.int 0, .int 4])) m2 (.lst [.int 0, .int 4]) = C3
    intro ht hl x1 x2 x3 x4 x5 x6 x7
    refine ⟨_, rfl, ite2 (fun _ => ?_) (fun e => absurd rfl e)⟩
    exact ⟨ht, fun A8 e8 u8 => lamE_skin ⟨.str, True.intro⟩ ⟨.int, True.intro⟩ fun Z8 s8 => made_0 grid_sq (by decide) (by decide) fun y Y8 w8 hs => ⟨rfl, q _⟩⟩
theorem has_law_raised_right (Tx : Txt K mg) (c : He.SaysX fa fn [] tf ex w hh K) (X : K.In hh) (GG : hh.Ns mainGlobals mg) (tb : LamX.TabB base mg (He.codeOf K ("_law_raised_right", none)) (tabT K "_law_raised_right")) (h_heard : HasH K mg) (h_law_draw : Has P w K mg base "_law_draw" 1 ["_law_pen_here", "_law_many"] sp_law_draw) (h_Skin_init : HasI P w K mg base 5 (sp_Skin_init K)) (h_Rim_init : HasM P w K mg base (L2.CX P w) "Rim" "__init__" 5 ["self", "kind", "amounts"] (sp_Rim_init K)) (h_Nesting_init : HasM P w K mg base (L2.CX P w) "Nesting" "__init__" 4 ["self", "partners"] (sp_Nesting_init K)) (h_Skin_face : HasM P w K mg base (L2.CX P w) "Skin" "face" 4 ["self", "side"] (sp_Skin_face K)) (h_Rim_read : HasSm P w K mg base "Rim" "read" 7 ["text"] (sp_Rim_read K)) (h_law_is_only : Has P w K mg base "_law_is_only" 2 ["_law_error", "_law_at"] (sp_law_is_only K))  : Has P w K mg base "_law_raised_right" 10 ["_law_pen_here"] (sp_law_raised_right K) := by
  obtain ⟨fd, F⟩ := c.t.d.def_ 107 (d := d_law_raised_right) rfl
  exact ⟨_, fd, ok_law_raised_right F Tx tb h_heard h_law_draw h_Skin_init h_Rim_init h_Nesting_init h_Skin_face h_Rim_read h_law_is_only, He.glo_ok X GG (c.t.d.fact 88 (f := .glo "_law_raised_right") rfl), F.kp, F.bindsN fun _ _ _ _ _ _ us hl => match us, hl with | [_], _ => rfl⟩

end
end K00

namespace K00
open PySem PySem.Spec PyProof.Rows L2 Vf LamX
section
variable {hh : Heap} {P : Program} {w : World} {K : PySem.W.Frag} {mg : Str → Option Value} {base : Heap}
/-! ### the law -/
theorem Dat.three {H : Hp} {x y : V} {a b : Addr} (h : Dat K H x) (g : Dat K H y) (ha : H a = some (.lst [y, x, x])) (hb : H b = some (.lst [y, x, x])) : ∃ d, Dp K H (.ref a) d ∧ Dp K H (.ref b) d ∧ SeqAt.shaped d = true ∧ PyData.eqv d d = true := by
  obtain ⟨d, h1, h2, h3⟩ := h
  obtain ⟨e, g1, g2, g3⟩ := g
  have c1 : d.canLay0 = true := SeqAt.canLay_of_shaped h2
  have c2 : e.canLay0 = true := SeqAt.canLay_of_shaped g2
  have sh : SeqAt.shaped (.list [e, d, d]) = true := by
    unfold SeqAt.shaped
    simp only [PyData.canLay0, PyData.canLayAll0, c1, c2, Bool.and_self, Bool.true_and, PyData.depth, PyData.depthAll]
    exact decide_eq_true (by omega)
  exact ⟨.list [e, d, d], .lst (SqL.of ha) (.cons g1 (.cons h1 (.cons h1 .nil))), .lst (SqL.of hb) (.cons g1 (.cons h1 (.cons h1 .nil))), sh, SeqAt.eqv_refl _ (SeqAt.canLay_of_shaped sh)⟩
def sp_law (K : PySem.W.Frag) : Sp := fun vs H Q _ => ∃ (a : Addr) (ns : List Int), vs = [.ref a] ∧ SqL K H a (ns.map V.int) ∧ ns.length ≤ 63 ∧ LamX.Tabs (TT0 K) H ∧ ∀ H', Q (.bl true) H'
theorem sc_law : FnScope ["_law_script", "_law_pen_here", "_law_one", "_law_other_here", "_law_nested"] ["_law_script"] (defScope s_law) := ⟨rfl, rfl, rfl, by decide +kernel, rfl, by decide +kernel, by decide +kernel⟩
theorem ok_law {f : Addr} {fd : FuncData} (F : FunD K "law" "law" (defArgs s_law) (defBody s_law) (defScope s_law) [] [] f fd) (Tx : Txt K mg) (h_law_pen : Has P w K mg base "_law_pen" 1 ["_law_script"] (sp_law_pen K)) (h_law_value : Has P w K mg base "_law_value" 2 ["_law_pen_here"] (sp_law_value K)) (h_law_one_right : Has P w K mg base "_law_one_right" 4 ["_law_one", "_law_other_here"] (sp_law_one_right K)) (h_law_two_right : Has P w K mg base "_law_two_right" 3 ["_law_one", "_law_other_here"] (sp_law_two_right K)) (h_BadLine_init : HasE P w K mg base "BadLine" 1 ["self", "line", "error"] (sp_BadLine_init K)) (h_BadText_init : HasE P w K mg base "BadText" 1 ["self", "line", "word"] (sp_BadText_init K)) (h_law_is_only : Has P w K mg base "_law_is_only" 2 ["_law_error", "_law_at"] (sp_law_is_only K)) (h_law_raised_right : Has P w K mg base "_law_raised_right" 10 ["_law_pen_here"] (sp_law_raised_right K))  : FnOk P w K mg base CX0 11 f fd ["_law_script"] (sp_law K) := by
  obtain ⟨f_law_pen, fd_law_pen, G_law_pen, g_law_pen, k_law_pen, b_law_pen⟩ := h_law_pen
  obtain ⟨f_law_value, fd_law_value, G_law_value, g_law_value, k_law_value, b_law_value⟩ := h_law_value
  obtain ⟨f_law_one_right, fd_law_one_right, G_law_one_right, g_law_one_right, k_law_one_right, b_law_one_right⟩ := h_law_one_right
  obtain ⟨f_law_two_right, fd_law_two_right, G_law_two_right, g_law_two_right, k_law_two_right, b_law_two_right⟩ := h_law_two_right
  obtain ⟨fd_BadLine_init, G_BadLine_init, b_BadLine_init, kb_BadLine_init, ks_BadLine_init⟩ := h_BadLine_init
  obtain ⟨fd_BadText_init, G_BadText_init, b_BadText_init, kb_BadText_init, ks_BadText_init⟩ := h_BadText_init
  obtain ⟨f_law_is_only, fd_law_is_only, G_law_is_only, g_law_is_only, k_law_is_only, b_law_is_only⟩ := h_law_is_only
  obtain ⟨f_law_raised_right, fd_law_raised_right, G_law_raised_right, g_law_raised_right, k_law_raised_right, b_law_raised_right⟩ := h_law_raised_right
  refine FunD.ok F sc_law (fun vs H Q E h => ?_) (fun cdv A outer s H vs Q E hr h => ?_)
  · obtain ⟨a, ns, rfl, _⟩ := h
    rfl
  · obtain ⟨a, ns, rfl, hS, hl, hT, q⟩ := h
    refine ⟨_, PSs.nox (pss_cons (ps_set (i := 1) sc_law.nd rfl (Or.inl rfl) (pe_call G_law_pen (hr.mono (by decide)) (by rfl) g_law_pen k_law_pen b_law_pen .nil pass0 (pa_cons (pv 0) pa_nil)))
        (pss_cons (ps_par (i := 2) (j := 3) (by rfl) sc_law.nd rfl rfl (by decide) rfl rfl (pa_cons (pe_call G_law_value (hr.mono (by decide)) (by rfl) g_law_value k_law_value b_law_value .nil pass0 (pa_cons (pv 1) pa_nil)) (pa_cons (pe_call G_law_value (hr.mono (by decide)) (by rfl) g_law_value k_law_value b_law_value .nil pass0 (pa_cons (pv 1) pa_nil)) pa_nil)) (by rfl))
        (pss_cons (ps_if (PW.pt (pw_or (pt_not (pt_val (pe_call G_law_one_right (hr.mono (by decide)) (by rfl) g_law_one_right k_law_one_right b_law_one_right .nil pass0 (pa_cons (pv 2) (pa_cons (pv 3) pa_nil))))) (pw_or1 (pt_not (pt_val (pe_call G_law_two_right (hr.mono (by decide)) (by rfl) g_law_two_right k_law_two_right b_law_two_right .nil pass0 (pa_cons (pv 2) (pa_cons (pv 3) pa_nil)))))))) (pss_one (ps_ret pe_bl)) pss_nil)
        (pss_cons (ps_set (i := 4) sc_law.nd rfl (Or.inl rfl) (pe_exV Tx.er_BadLine.oex Tx.er_BadLine.ini Tx.er_BadLine.fn G_BadLine_init (hr.mono (by decide)) b_BadLine_init pass0 (by rfl) Tx.g_BadLine (pa_cons (pv 2) (pa_cons (pe_exV Tx.er_BadText.oex Tx.er_BadText.ini Tx.er_BadText.fn G_BadText_init (hr.mono (by decide)) b_BadText_init pass0 (by rfl) Tx.g_BadText (pa_cons (pv 3) (pa_cons (pv 2) pa_nil))) pa_nil))))
        (pss_cons (ps_if (PW.pt (pw_or (pt_not (pt_val (pe_call G_law_is_only (hr.mono (by decide)) (by rfl) g_law_is_only k_law_is_only b_law_is_only .nil pass0 (pa_cons (pe_ef (pv 4) rfl) (pa_cons pe_int pa_nil))))) (pw_or1 (pt_cmpR (op_neD hr.units) (pe_lst (pa_cons (pe_ef (pe_ef (pv 4) rfl) rfl) (pa_cons (pe_ef (pe_ef (pv 4) rfl) rfl) (pa_cons (pe_ef (pv 4) rfl) pa_nil)))) (pe_lst (pa_cons (pv 3) (pa_cons (pv 2) (pa_cons (pv 2) pa_nil)))) (nomark _))))) (pss_one (ps_ret pe_bl)) pss_nil)
        (pss_one (ps_ret (pe_call G_law_raised_right (hr.mono (by decide)) (by rfl) g_law_raised_right k_law_raised_right b_law_raised_right .nil pass0 (pa_cons (pv 1) pa_nil))))))))), ?_⟩
    refine ⟨_, rfl, a, ns, rfl, hS, hl, fun H1 p c s1 n1 n2 hp => ?_⟩
    replace hT := tabs_same hT s1
    obtain ⟨xs1, hx1⟩ := hp.at
    refine ⟨_, rfl, p, c, 899997, rfl, hp, fun H2 v hp2 k2 vd => ⟨_, rfl, p, c, 899994, rfl, hp2, fun H3 u hp3 k3 ud => ⟨_, _, rfl, ?_⟩⟩⟩
    replace hT := tabs_kp hT hx1 k2
    obtain ⟨xs2, hx2⟩ := hp2.at
    replace hT := tabs_kp hT hx2 k3
    have dv : Dat K H3 v := (vd.kp k3).dat
    have du : Dat K H3 u := ud.dat
    refine ⟨_, rfl, _, rfl, v, u, rfl, dv, du, fun H4 s4 => ?_⟩
    refine ⟨_, rfl, ite2 (fun z => absurd z (by decide)) (fun _ => ?_)⟩
    refine ⟨_, rfl, _, rfl, v, u, rfl, dv.same s4, du.same s4, fun H5 s5 => ?_⟩
    refine ⟨_, rfl, ite2 (fun z => absurd z (by decide)) (fun _ => ?_)⟩
    have s45 := s4.trans s5
    replace hT := tabs_same hT s45
    replace dv := dv.same s45
    replace du := du.same s45
    have hp5 := hp3.same s45
    clear s4 s5 s45 k2 k3 vd ud hx1 hx2 hp hp2 hp3
    -- the nested error
    refine ⟨_, rfl, _, rfl, _, rfl, (show 2 ≤ 1000 by decide), fun aT na => ⟨aT, _, _, _, rfl, Tx.er_BadText.oex, Tx.er_BadText.no "line" (by simp), Tx.er_BadText.no "word" (by simp), upd_same, fun dT nd ne => ⟨rfl, ?_⟩⟩⟩
    obtain ⟨sx, xT⟩ := fresh2 (C := (He.ga K "BadText")) (f := "line") (g := "word") (v := u) (u := v) na nd ne
    replace hT := tabs_same hT sx
    replace dv := dv.same sx
    replace du := du.same sx
    replace hp5 := hp5.same sx
    clear na nd ne sx
    revert xT hT dv du hp5
    generalize upd (upd (upd (upd H5 aT (exo aT (He.ga K "BadText") none)) dT (exd dT [("line", u)])) aT (exo aT (He.ga K "BadText") (some dT))) dT (exd dT [("word", v), ("line", u)]) = H6
    intro xT hT dv du hp5
    refine ⟨(show 2 ≤ 1000 by decide), fun aL na => ⟨aL, _, _, _, rfl, Tx.er_BadLine.oex, Tx.er_BadLine.no "line" (by simp), Tx.er_BadLine.no "error" (by simp), upd_same, fun dL nd ne => ⟨rfl, ?_⟩⟩⟩
    obtain ⟨sx, xL⟩ := fresh2 (C := (He.ga K "BadLine")) (f := "line") (g := "error") (v := v) (u := .ref aT) na nd ne
    replace xT := xT.same sx
    replace hT := tabs_same hT sx
    replace dv := dv.same sx
    replace du := du.same sx
    replace hp5 := hp5.same sx
    clear na nd ne sx
    revert xL xT hT dv du hp5
    generalize upd (upd (upd (upd H6 aL (exo aL (He.ga K "BadLine") none)) dL (exd dL [("line", v)])) aL (exo aL (He.ga K "BadLine") (some dL))) dL (exd dL [("error", .ref aT), ("line", v)]) = H7
    intro xL xT hT dv du hp5
    refine ⟨_, rfl, aL, _, _, _, rfl, xL, Tx.er_BadLine.xf, Tx.er_BadLine.no "error" (by simp), rfl, aT, 28, "BadText", rfl, by decide, by decide +kernel, ⟨by decide +kernel, _, xT⟩, fun H8 s8 => ?_⟩
    refine ⟨_, rfl, ite2 (fun z => absurd z (by decide)) (fun _ => ?_)⟩
    replace xL := xL.same s8
    replace xT := xT.same s8
    refine ⟨_, rfl, aL, _, _, _, rfl, xL, Tx.er_BadLine.xf, Tx.er_BadLine.no "error" (by simp), rfl, aT, _, _, _, rfl, xT, Tx.er_BadText.xf, Tx.er_BadText.no "line" (by simp), rfl,
      _, rfl, aL, _, _, _, rfl, xL, Tx.er_BadLine.xf, Tx.er_BadLine.no "error" (by simp), rfl, aT, _, _, _, rfl, xT, Tx.er_BadText.xf, Tx.er_BadText.no "word" (by simp), rfl,
      _, rfl, aL, _, _, _, rfl, xL, Tx.er_BadLine.xf, Tx.er_BadLine.no "line" (by simp), rfl, le_line (n := 3) (by decide), fun m1 nm1 => ?_⟩
    refine ⟨_, rfl, _, rfl, _, rfl, le_line (n := 3) (by decide), fun m2 nm2 => ?_⟩
    have c1 : Same H8 (upd H8 m1 (.lst [u, v, v])) := same_new nm1
    have c2 : Same (upd H8 m1 (.lst [u, v, v])) (upd (upd H8 m1 (.lst [u, v, v])) m2 (.lst [u, v, v])) := same_new nm2
    have sc := (s8.trans c1).trans c2
    obtain ⟨d, D1, D2, S, E0⟩ := Dat.three (dv.same sc) (du.same sc) (c2 _ _ (upd_same (H := H8) (a := m1) (o := .lst [u, v, v]))) (upd_same (H := upd H8 m1 (.lst [u, v, v])) (a := m2) (o := .lst [u, v, v]))
    refine ⟨d, d, D1, D2, S, S, ?_⟩
    rw [E0]
    refine ⟨_, rfl, ite2 (fun z => absurd z (by decide)) (fun _ => ?_)⟩
    exact ⟨_, rfl, p, c, 899991, rfl, hp5.same sc, tabs_same hT sc, q⟩

end
end K00

namespace K00
open PySem PySem.Spec PyProof.Rows L2 Vf LamX
abbrev lawLevel : Nat := 11
abbrev spLaw (K : PySem.W.Frag) : Sp := fun vs H Q E => sp_law K vs H Q E
def csT (K : PySem.W.Frag) : List (Addr × Addr) := tf.map (He.cT K)
theorem facts {P : Program} {w : World} {K : PySem.W.Frag} {h : Heap} {mg : Str → Option Value} {f : Addr} (X : K.In h) (G : h.Ns mainGlobals mg) (hfa : mg ("law" : Str) = some (.ref f)) (c : SaysY fa fn [] tf ex sm w h K) :
    ∃ fd : FuncData, (∀ (s : Shared) (v : Value), BindsTo s fd ⟨[v], []⟩ [("_law_script", v)]) ∧ ∀ base : Heap, K.In base → base.Ns mainGlobals mg → (∀ p ∈ csT K, LamX.TabB base mg p.1 p.2) → FnOk P w K mg base CX0 lawLevel f fd ["_law_script"] (spLaw K) := by
  have Tx := txt_of X G c.x
  obtain ⟨fd, F⟩ := c.x.t.d.def_ 108 (d := d_law) rfl
  have e := hfa.symm.trans (He.glo_ok X G (c.x.t.d.fact 89 (f := .glo "law") rfl))
  cases e
  refine ⟨fd, fun s v => FunD.bindsA (ps := ["_law_script"]) F (fun _ _ _ _ _ _ us hl => match us, hl with | [_], _ => rfl) s [v] rfl, fun base _ _ tbs => ?_⟩
  have h_heard := has_heard c.x X G
  have tb_law_raised_right : LamX.TabB base mg (He.codeOf K ("_law_raised_right", none)) (tabT K "_law_raised_right") := tbs _ (List.mem_map_of_mem (f := He.cT K) (show (("_law_raised_right", none) : He.Defn) ∈ tf by simp [tf]))
  have h_law_pen := has_law_pen (P := P) (w := w) (base := base) Tx c.x X G 
  have h_law_draw := has_law_draw (P := P) (w := w) (base := base) Tx c.x X G 
  have h_law_value := has_law_value (P := P) (w := w) (base := base) Tx c.x X G h_law_draw
  have h_BadKind_init := has_BadKind_init (P := P) (w := w) (base := base) Tx c.x X G 
  have h_BadSkin_init := has_BadSkin_init (P := P) (w := w) (base := base) Tx c.x X G 
  have h_BadSheet_init := has_BadSheet_init (P := P) (w := w) (base := base) Tx c.x X G 
  have h_BadCells_init := has_BadCells_init (P := P) (w := w) (base := base) Tx c.x X G 
  have h_BadRim_init := has_BadRim_init (P := P) (w := w) (base := base) Tx c.x X G 
  have h_BadNesting_init := has_BadNesting_init (P := P) (w := w) (base := base) Tx c.x X G 
  have h_BadSaying_init := has_BadSaying_init (P := P) (w := w) (base := base) Tx c.x X G 
  have h_BadBook_init := has_BadBook_init (P := P) (w := w) (base := base) Tx c.x X G 
  have h_BadBody_init := has_BadBody_init (P := P) (w := w) (base := base) Tx c.x X G 
  have h_BadCut_init := has_BadCut_init (P := P) (w := w) (base := base) Tx c.x X G 
  have h_BadNumber_init := has_BadNumber_init (P := P) (w := w) (base := base) Tx c.x X G 
  have h_BadPaper_init := has_BadPaper_init (P := P) (w := w) (base := base) Tx c.x X G 
  have h_BadDesk_init := has_BadDesk_init (P := P) (w := w) (base := base) Tx c.x X G 
  have h_Misfit_init := has_Misfit_init (P := P) (w := w) (base := base) Tx c.x X G 
  have h_law_parts := has_law_parts (P := P) (w := w) (base := base) Tx c.x X G h_BadKind_init h_BadSkin_init h_BadSheet_init h_BadCells_init h_BadRim_init h_BadNesting_init h_BadSaying_init h_BadBook_init h_BadBody_init h_BadCut_init h_BadNumber_init h_BadPaper_init h_BadDesk_init h_Misfit_init
  have h_law_parts_named := has_law_parts_named (P := P) (w := w) (base := base) Tx c.x X G h_BadKind_init h_BadSkin_init h_BadSheet_init h_BadCells_init h_BadRim_init h_BadNesting_init h_BadSaying_init h_BadBook_init h_BadBody_init h_BadCut_init h_BadNumber_init h_BadPaper_init h_BadDesk_init h_Misfit_init
  have h_law_bad := has_law_bad (P := P) (w := w) (base := base) Tx c.x X G 
  have h_law_missing := has_law_missing (P := P) (w := w) (base := base) Tx c.x X G 
  have h_law_other := has_law_other (P := P) (w := w) (base := base) Tx c.x X G 
  have h_law_is_only := has_law_is_only (P := P) (w := w) (base := base) Tx c.x X G h_law_bad h_law_missing h_law_other
  have h_Missing_init := has_Missing_init (P := P) (w := w) (base := base) Tx c.x X G 
  have h_Twice_init := has_Twice_init (P := P) (w := w) (base := base) Tx c.x X G 
  have h_law_values := has_law_values (P := P) (w := w) (base := base) Tx c.x X G h_Missing_init h_Twice_init
  have h_law_values_named := has_law_values_named (P := P) (w := w) (base := base) Tx c.x X G h_Missing_init h_Twice_init
  have h_law_one_right := has_law_one_right (P := P) (w := w) (base := base) Tx c.x X G h_law_parts h_law_parts_named h_law_is_only h_law_values h_law_values_named
  have h_Crossing_init := has_Crossing_init (P := P) (w := w) (base := base) Tx c.x X G 
  have h_TooMany_init := has_TooMany_init (P := P) (w := w) (base := base) Tx c.x X G 
  have h_BadText_init := has_BadText_init (P := P) (w := w) (base := base) Tx c.x X G 
  have h_BadLine_init := has_BadLine_init (P := P) (w := w) (base := base) Tx c.x X G 
  have h_TooMuch_init := has_TooMuch_init (P := P) (w := w) (base := base) Tx c.x X G 
  have h_Impossible_init := has_Impossible_init (P := P) (w := w) (base := base) Tx c.x X G 
  have h_law_two_right := has_law_two_right (P := P) (w := w) (base := base) Tx c.x X G h_Crossing_init h_law_is_only h_TooMany_init h_BadText_init h_BadLine_init h_TooMuch_init h_Impossible_init
  have h_is_grid := has_is_grid (P := P) (w := w) (base := base) Tx c.x X G 
  have h_need_kind := has_need_kind (P := P) (w := w) (base := base) Tx c.x X G h_is_grid h_BadKind_init
  have h_is_integer := has_is_integer (P := P) (w := w) (base := base) Tx c.x X G 
  have h_is_within := has_is_within (P := P) (w := w) (base := base) Tx c.x X G h_is_integer
  have h_sides_of := has_sides_of (P := P) (w := w) (base := base) Tx c.x X G h_need_kind
  have h_is_listed := has_is_listed (P := P) (w := w) (base := base) Tx c.x X G 
  have h_is_seam := has_is_seam (P := P) (w := w) (base := base) Tx c.x X G h_is_listed h_is_within
  have h_need_seams := has_need_seams (P := P) (w := w) (base := base) Tx c.x X G h_is_listed h_is_seam h_BadSkin_init
  have h_first_twice := has_first_twice (P := P) (w := w) (base := base) Tx c.x X G 
  have h_sides_in := has_sides_in (P := P) (w := w) (base := base) Tx c.x X G 
  have h_full_of := has_full_of (P := P) (w := w) (base := base) Tx c.x X G h_need_kind
  have h_mates_of := has_mates_of (P := P) (w := w) (base := base) Tx c.x X G 
  have h_turned_sides := has_turned_sides (P := P) (w := w) (base := base) Tx c.x X G 
  have h_Skin_init := has_Skin_init (P := P) (w := w) (base := base) Tx c.x X G h_need_kind h_is_within h_BadSkin_init h_sides_of h_need_seams h_first_twice h_sides_in h_Twice_init h_TooMany_init h_full_of h_mates_of h_turned_sides
  have h_is_row := has_is_row (P := P) (w := w) (base := base) Tx c.x X G h_is_listed h_is_integer
  have h_Rim_init := has_Rim_init (P := P) (w := w) (base := base) Tx c.x X G h_need_kind h_is_row h_BadRim_init h_full_of h_TooMany_init
  have h_is_pairing := has_is_pairing (P := P) (w := w) (base := base) Tx c.x X G h_is_row h_is_within
  have h_first_crossing := has_first_crossing (P := P) (w := w) (base := base) Tx c.x X G 
  have h_Nesting_init := has_Nesting_init (P := P) (w := w) (base := base) Tx c.x X G h_is_pairing h_BadNesting_init h_first_crossing h_Crossing_init
  have h_Skin_need_side := has_Skin_need_side (P := P) (w := w) (base := base) Tx c.x X G h_is_within h_Missing_init
  have h_Skin_face := has_Skin_face (P := P) (w := w) (base := base) Tx c.x X G h_Skin_need_side
  have h_words_of := has_words_of (P := P) (w := w) (base := base) Tx c.x X G h_BadText_init
  have h_word_at := has_word_at (P := P) (w := w) (base := base) Tx c.x X G h_BadText_init
  have h_natural_of := has_natural_of (P := P) (w := w) (base := base) Tx c.x X G 
  have h_number_at := has_number_at (P := P) (w := w) (base := base) Tx c.x X G h_BadText_init h_natural_of
  have h_amount_at := has_amount_at (P := P) (w := w) (base := base) Tx c.x X G h_BadText_init h_number_at
  have h_Rim_read := has_Rim_read (P := P) (w := w) (base := base) Tx c X G h_words_of h_word_at h_amount_at h_Rim_init h_BadText_init
  have h_law_raised_right := has_law_raised_right (P := P) (w := w) (base := base) Tx c.x X G tb_law_raised_right h_heard h_law_draw h_Skin_init h_Rim_init h_Nesting_init h_Skin_face h_Rim_read h_law_is_only
  exact ok_law F Tx h_law_pen h_law_value h_law_one_right h_law_two_right h_BadLine_init h_BadText_init h_law_is_only h_law_raised_right
end K00
open PySem PySem.W PySem.Calls PyProof.Rows
theorem PySem.Challenge.cw_rimsewn_k00_errors_keep_their_fields_holds : PySem.Challenge.rw_rimsewn_k00_errors_keep_their_fields.Holds := by
  w_on; o_law
  refine Vf.head_left (r := K00.R) (q := view K00.R.prog [103]) (H := K00.hl) (loose := K00.loose) (d := HandSHeadRun.topDef K00.R.prog 103) (kwd := []) K00.leftL
    (by kernel_rfl) (by kernel_rfl) (by kernel_rfl) (by rfl) (by first | assumption | decide +kernel) (by decide +kernel) ⟨rfl, rfl, rfl, rfl, rfl, by decide +kernel⟩ ?hw ?hc
  case hw => w_witness2
  case hc =>
    refine LamX.walk_ofTsE (l := PySem.Challenge.rw_rimsewn_k00_errors_keep_their_fields) (n := 63) (k := K00.lawLevel) (x := "_law_script") (CX := fun _ => L2.CX0) rfl (by decide) (by kernel_rfl) ⟨rfl, by decide, by decide⟩ ?F (fun _ _ _ _ _ z => z)
    intro w mg fa h Y G hmg0
    obtain ⟨K, KX, c⟩ := Y
    have hmg : mg ("law" : PySem.Str) = some (.ref fa) := by
      have e : (HandSHeadRun.topDef (OpenLaw.row PySem.Challenge.rw_rimsewn_k00_errors_keep_their_fields).prog 103).name = ("law" : PySem.Str) := by kernel_rfl
      rw [← e]
      exact hmg0
    obtain ⟨fd, hb, hF⟩ := K00.facts (P := (PySem.Challenge.rw_rimsewn_k00_errors_keep_their_fields).prog) (w := w) KX G hmg c
    refine ⟨K, KX, fd, K00.csT K, K00.spLaw K, fun p hp => ?_, fun p hp => ?_, fun p hp => ?_, hb, fun H a ns hl _ hT hS => ⟨a, ns, rfl, hS, hl, ?_, fun _ => rfl⟩, hF⟩
    · obtain ⟨d, hd, rfl⟩ := List.mem_map.mp hp
      exact c.x.empty d hd
    · obtain ⟨d, hd, rfl⟩ := List.mem_map.mp hp
      exact c.x.out d hd
    · obtain ⟨d, hd, rfl⟩ := List.mem_map.mp hp
      exact PySem.W.codeHd_of_K KX (c.x.hd d hd)
    · intro q hq
      simp only [K00.TT0, List.mem_cons, List.not_mem_nil, or_false] at hq
      rcases hq with rfl
      · exact LamX.TabS.nil (hT (He.cT K (("_law_raised_right", none) : He.Defn)) (List.mem_map_of_mem (f := He.cT K) (show (("_law_raised_right", none) : He.Defn) ∈ K00.tf by simp [K00.tf])))
